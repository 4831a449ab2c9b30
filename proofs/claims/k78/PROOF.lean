import PyProof.Rows.All
import Wide.All
import OpenK.AllK
import Wide.FinOn
import Lean
import PyProof.EqAt
import PyProof.EqKinds
import PyProof.TupleCall
import PyProof.PassesOwn
import PyProof.StationsW
import OpenK.KCls
import PyProof.ExcAttrAll.ValueError
import PyProof.ExcClass3
import PyProof.WalksEnum
import PyProof.EnumMake
import PyProof.EnumFor
import PyProof.EnumStmt
import PyProof.MeetsStr
import PyProof.StrLawsTight
import PyProof.NeKinds
import PyProof.Rows.SumAny
import PyProof.SeqI3
import PyProof.ZipIter
import PyProof.WalksMore
import PyProof.ListNew
import KE.KRevIter
import PyProof.AutoSeq1
import PyProof.FactsAll.list
import PyProof.IsRules
import KE.KItemsList
import KE.KDictList
import KE.KLam
import KE.KNestM
import PyProof.IsiTupleOf
import KE.KDictSum
import PyProof.Rows.SortWalk
import KE.KIntText
import PyProof.StrBlockL
import PyProof.StrBlockI
import PyProof.StrBlock2
import KE.KSortTup
import KE.KFind
import PyProof.WalkInts
import PyProof.Draws
import PyProof.DictWalks
import PyProof.MinMaxWalk
import KE.KEqDict
import PySem.Challenge.RW_reusewise_k78_whole_counts_are_holders
set_option Elab.async false
set_option linter.all false
set_option maxRecDepth 100000
set_option maxHeartbeats 4000000
namespace L2
open PySem PySem.Spec PyProof.Rows
abbrev Key:=Sum Int Str
def keyIs:Key->Value->Bool
  | .inl k,v=>Value.isInt k v
  | .inr x,v=>Value.isStrOf x v
def keyH (w:World):Key->Int
  | .inl k=>hashInt k
  | .inr x=>hashStr w x
theorem keyIs_shape:∀ {k:Key} {v:Value},keyIs k v=true->(∃ i t,k=Sum.inl i/\v=Value.int i t)\/(∃ x t,k=Sum.inr x/\v=Value.str x t)
  | .inl i,v,h=>by
    obtain ⟨t,e⟩:=Value.isInt_shape (k:=i) (v:=v) h
    exact .inl ⟨i,t,rfl,e⟩
  | .inr x,v,h=>by
    obtain ⟨t,e⟩:=Value.isStrOf_shape (x:=x) (v:=v) h
    exact .inr ⟨x,t,rfl,e⟩
theorem keyIs_int (i:Int) (t:Tok):keyIs (.inl i) (.int i t)=true:=by simp [keyIs,Value.isInt]
theorem keyIs_str (x:Str) (t:Tok):keyIs (.inr x) (.str x t)=true:=by simp [keyIs,Value.isStrOf]
theorem key_ll (a b:Int):decide ((Sum.inl a:Key)=Sum.inl b)=(a == b):=by
  by_cases e:a=b
  · subst e; simp
  · have h:¬ (Sum.inl a:Key)=Sum.inl b:=fun q=>e (Sum.inl.inj q)
    rw [decide_eq_false h]
    exact (beq_eq_false_iff_ne.mpr e).symm
theorem key_rr (a b:Str):decide ((Sum.inr a:Key)=Sum.inr b)=decide (a=b):=by
  by_cases e:a=b
  · subst e; simp
  · have h:¬ (Sum.inr a:Key)=Sum.inr b:=fun q=>e (Sum.inr.inj q)
    rw [decide_eq_false h,decide_eq_false e]
theorem key_lr (a:Int) (b:Str):decide ((Sum.inl a:Key)=Sum.inr b)=false:=decide_eq_false (fun q=>nomatch q)
theorem key_rl (a:Str) (b:Int):decide ((Sum.inr a:Key)=Sum.inl b)=false:=decide_eq_false (fun q=>nomatch q)
def mixKind (prog:Program) (w:World):PySem.KeyKind prog w Key where
  is:=keyIs
  hash:=keyH w
  inj:=fun v a b ha hb=>by
    rcases keyIs_shape ha with ⟨i,t,rfl,rfl⟩ | ⟨x,t,rfl,rfl⟩
    · rcases keyIs_shape hb with ⟨j,u,rfl,e⟩ | ⟨y,u,rfl,e⟩
      · injection e with e1 _; rw [e1]
      · exact nomatch e
    · rcases keyIs_shape hb with ⟨j,u,rfl,e⟩ | ⟨y,u,rfl,e⟩
      · exact nomatch e
      · injection e with e1 _; rw [e1]
  byValue:=fun k v h=>by
    rcases keyIs_shape h with ⟨i,t,rfl,rfl⟩ | ⟨x,t,rfl,rfl⟩ <;> rfl
  pyHash:=fun hv h=>by
    rcases keyIs_shape hv with ⟨i,t,rfl,rfl⟩ | ⟨x,t,rfl,rfl⟩
    · exact wpAny_pyHash_int h
    · exact wpAny_pyHash_str h
  eqBool:=fun hu hv h=>by
    rcases keyIs_shape hu with ⟨i,t,rfl,rfl⟩ | ⟨x,t,rfl,rfl⟩
    · rcases keyIs_shape hv with ⟨j,u,rfl,rfl⟩ | ⟨y,u,rfl,rfl⟩
      · rw [key_ll] at h; exact wpAny_eqBool_int h
      · rw [key_lr] at h; exact SeqAt.EqAt.int_str i t y u _ _ _ _ h
    · rcases keyIs_shape hv with ⟨j,u,rfl,rfl⟩ | ⟨y,u,rfl,rfl⟩
      · rw [key_rl] at h; exact SeqAt.EqAt.str_int x t j u _ _ _ _ h
      · rw [key_rr] at h; exact wpAny_eqBool_str h
  «strs»:=fun k x t v h=>by
    rcases keyIs_shape h with ⟨i,u,rfl,e⟩ | ⟨y,u,rfl,e⟩
    · exact nomatch e
    · injection e with e1 _
      subst e1
      cases v <;> rfl
theorem mixKind_is (prog:Program) (w:World) (k:Key) (v:Value):(mixKind prog w).is k v=keyIs k v:=rfl
theorem mixKind_int (prog:Program) (w:World) (i:Int) (t:Tok):(mixKind prog w).is (.inl i) (.int i t)=true:=keyIs_int i t
theorem mixKind_str (prog:Program) (w:World) (x:Str) (t:Tok):(mixKind prog w).is (.inr x) (.str x t)=true:=keyIs_str x t
end L2
namespace L2
open PySem PySem.Spec PyProof.Rows
inductive V where
  | non | bl (b:Bool) | int (i:Int) | str (x:Str) | byt (b:Array UInt8) | flt (b:UInt64) | ref (a:Addr) | ty (n:String)
  deriving DecidableEq
def RelV:V->Value->Prop
  | .non,u=>u=Value.none
  | .bl b,u=>u=Value.bool b
  | .int i,u=>∃ t,u=Value.int i t
  | .str x,u=>∃ t,u=Value.str x t
  | .byt b,u=>∃ t,u=Value.bytes b t
  | .flt b,u=>∃ t,u=Value.float b t
  | .ref a,u=>u=Value.ref a
  | .ty n,u=>u=Value.type n
abbrev Vals:List V->List Value->Prop:=Paired RelV
theorem Vals.length {xs:List V} {us:List Value} (r:Vals xs us):xs.length=us.length:=Paired.length r
theorem Vals.get:∀ {xs:List V} {us:List Value} {i:Nat} {x:V},Vals xs us->xs[i]?=some x->∃ u,us[i]?=some u/\RelV x u
  | _,_,_,_,.nil,e=>by simp at e
  | _,_,0,_,.cons r _,e=>by simp at e; subst e; exact ⟨_,rfl,r⟩
  | _,_,i + 1,x,.cons _ t,e=>by
    obtain ⟨u,h1,h2⟩:=Vals.get (i:=i) (x:=x) t (by simpa using e)
    exact ⟨u,by simpa using h1,h2⟩
theorem Vals.set {x:V} {u:Value} (r:RelV x u):∀ {xs:List V} {us:List Value} (i:Nat),Vals xs us->Vals (xs.set i x) (us.set i u)
  | _,_,_,.nil=>.nil
  | _,_,0,.cons _ t=>.cons r t
  | _,_,i + 1,.cons q t=>.cons q (Vals.set r i t)
theorem Vals.append:∀ {xs ys:List V} {us ws:List Value},Vals xs us->Vals ys ws->Vals (xs ++ ys) (us ++ ws)
  | _,_,_,_,.nil,s=>s
  | _,_,_,_,.cons r t,s=>.cons r (Vals.append t s)
theorem Vals.take:∀ {xs:List V} {us:List Value} (n:Nat),Vals xs us->Vals (xs.take n) (us.take n)
  | _,_,0,_=>.nil
  | _,_,_ + 1,.nil=>.nil
  | _,_,n + 1,.cons r t=>.cons r (Vals.take n t)
theorem Vals.drop:∀ {xs:List V} {us:List Value} (n:Nat),Vals xs us->Vals (xs.drop n) (us.drop n)
  | _,_,0,r=>r
  | _,_,_ + 1,.nil=>.nil
  | _,_,n + 1,.cons _ t=>Vals.drop n t
theorem Vals.none_of:∀ {xs:List V} {us:List Value} {i:Nat},Vals xs us->xs[i]?=none->us[i]?=none:=fun {xs us i} r e=>by
  have h1:=r.length
  have h2:xs.length<=i:=List.getElem?_eq_none_iff.mp e
  exact List.getElem?_eq_none_iff.mpr (by lia)
def RelO:Option V->Option Value->Prop
  | some v,some u=>RelV v u
  | none,none=>True
  | _,_=>False
def KV {κ:Type}:List (κ × V)->List (κ × Value)->Prop:=Paired fun (p:κ × V) (q:κ × Value)=>p.1=q.1/\RelV p.2 q.2
def kV:Key->V
  | .inl i=>.int i
  | .inr x=>.str x
inductive HO where
  | lst (xs:List V)
  | tup (xs:List V)
  | dK (kvs:List (Key × V)) | dT (kvs:List (List Key × V))
  | set (S:Int->Bool) (n:Nat)
  | ins (C dx:Addr) (fs:List (Str × V))
  | own (x:Addr)
  | xd (fs:List (Str × V))
  | met (f x:Addr)
  | rng (lo hi:Int)
  | frz (o:Obj) (u:HO)
  | tbl (ps:Array Value)
  | ext (φ:Heap->Prop)
abbrev Hp:=Addr->Option HO
def upd (H:Hp) (a:Addr) (o:HO):Hp:=fun b=>if b=a then some o else H b
theorem upd_same {H:Hp} {a:Addr} {o:HO}:upd H a o a=some o:=by unfold upd; rw [if_pos rfl]
theorem upd_ne {H:Hp} {a b:Addr} {o:HO} (h:b≠a):upd H a o b=H b:=by unfold upd; rw [if_neg h]
theorem ne_of {H:Hp} {a b:Addr} {o u:HO} (h:H a=some o) (h':H b=some u) (d:o≠u):a≠b:=by
  intro e; subst e; rw [h] at h'; exact d (Option.some.inj h')
theorem ne_of_none {H:Hp} {a b:Addr} {o:HO} (h:H a=some o) (h':H b=none):a≠b:=by
  intro e; subst e; rw [h] at h'; cases h'
def IsTupN (h:Heap) (a:Addr) (items:Array Value):Prop:=∃ o,h.get? a=some o/\o.cls=.type "tuple"/\o.dict=none/\∃ n,o.data=.seq items n
theorem IsTupN.is {h:Heap} {a:Addr} {items:Array Value} (x:IsTupN h a items):IsTup h a items:=let ⟨o,a,b,_,c⟩:=x; ⟨o,a,b,c⟩
theorem IsTupN.new (h:Heap) (items:Array Value):IsTupN (h.push { cls:=.type "tuple",data:=.seq items }) h.objs.size items:=⟨_,Heap.get?_push_size _ rfl,rfl,rfl,_,rfl⟩
section
variable (P:Program) (w:World)
def ObjOk (H:Hp) (h:Heap) (a:Addr):HO->Prop
  | .lst xs=>xs.length<=sizeLine/\∃ (its:List Value) (n:Nat),Vals xs its/\h.get? a=some { cls:=.type "list",data:=.seq its.toArray n }
  | .tup xs=>xs.length<=sizeLine/\∃ its:List Value,Vals xs its/\IsTupN h a its.toArray
  | .dK kvs=>kvs.length<=sizeLine/\(a == sysModules)=false/\∃ vs,KV kvs vs/\h.DictOf (mixKind P w) a vs
  | .dT kvs=>kvs.length<=sizeLine/\(a == sysModules)=false/\∃ xs:List (List Key × Addr × Value),
      Paired (fun (p:List Key × V) (q:List Key × Addr × Value)=>p.1=q.1/\H q.2.1=some (.tup (p.1.map kV))/\RelV p.2 q.2.2) kvs xs /\
      ∃ o es ep,h.get? a=some o/\o.ExactDict/\o.data=.dict es ep/\es.toList=xs.map (entryOfKey (tupleKind (mixKind P w)))/\(xs.map (·.1)).Nodup
  | .set S n=>h.SetOf (intKind P w) a S n
  | .ins C dx fs=>H dx=some (.own a)/\fs.length<=1000/\dx≠a/\h.get? a=some (PySem.W.instObj C dx) /\
      ∃ mA,h.Ns1 dx mA/\(∀ f,RelO (fs.lookup f) (mA f))/\PySem.Within mA (fs.map (·.1))
  | .own _=>∃ o,h.get? a=some o
  | .xd fs=>∃ mA,h.Ns1 a mA/\∀ f,RelO (fs.lookup f) (mA f)
  | .rng lo hi=>∃ t u v,h.get? a=some { cls:=.type "range",data:=.fields #[.int lo t,.int hi u,.int 1 v] }
  | .frz o u=>h.get? a=some o/\ObjOk H h a u
  | .tbl ps=>h.get? a=some { cls:=.none,data:=.fields ps }
  | .met f x=>h.get? a=some (PySem.W.methodObj (.ref f) (.ref x))
  | .ext φ=>φ h/\(∃ o,h.get? a=some o)/\∀ h1 h2:Heap,φ h1->(∀ o,h1.get? a=some o->h2.get? a=some o)->φ h2
def HOk (H:Hp) (h:Heap):Prop:=∀ a o,H a=some o->ObjOk P w H h a o
end
section
variable {P:Program} {w:World} {H H':Hp} {h h':Heap} {a:Addr} {o:HO}
theorem ObjOk.lt (x:ObjOk P w H h a o):a < h.objs.size:=by
  cases o with
  | lst xs=>obtain ⟨_,_,_,_,e⟩:=x; exact Heap.lt_size e
  | tup xs=>obtain ⟨_,_,_,p⟩:=x; exact p.is.lt
  | dK kvs=>obtain ⟨_,_,_,_,o,_,_,e,_⟩:=x; exact Heap.lt_size e
  | dT kvs=>obtain ⟨_,_,_,_,o,_,_,e,_⟩:=x; exact Heap.lt_size e
  | set S n=>obtain ⟨o,_,_,_,e,_⟩:=x; exact Heap.lt_size e
  | ins C dx fs=>obtain ⟨_,_,_,e,_⟩:=x; exact Heap.lt_size e
  | own y=>obtain ⟨_,e⟩:=x; exact Heap.lt_size e
  | xd fs=>obtain ⟨_,⟨_,_,_,e,_⟩,_⟩:=x; exact Heap.lt_size e
  | rng lo hi=>obtain ⟨_,_,_,e⟩:=x; exact Heap.lt_size e
  | frz ob u=>obtain ⟨e,_⟩:=x; exact Heap.lt_size e
  | tbl ps=>exact Heap.lt_size (show h.get? a=some _ from x)
  | met f y=>exact Heap.lt_size (show h.get? a=some _ from x)
  | ext φ=>obtain ⟨_,⟨_,e⟩,_⟩:=x; exact Heap.lt_size e
theorem Paired.mapP {α β:Type} {F G:α->β->Prop}:∀ {l₁:List α} {l₂:List β},Paired F l₁ l₂->(∀ a b,F a b->G a b)->Paired G l₁ l₂
  | _,_,.nil,_=>.nil
  | _,_,.cons r t,f=>.cons (f _ _ r) (Paired.mapP t f)
theorem ObjOk.stay (x:ObjOk P w H h a o) (k:∀ b u,(b=a\/H b=some (.own a))->h.get? b=some u->h'.get? b=some u)
    (ho:∀ b,H b=some (.own a)->H' b=some (.own a)) (ht:∀ b xs,H b=some (.tup xs)->H' b=some (.tup xs)):ObjOk P w H' h' a o:=by
  induction o with
  | lst xs=>obtain ⟨z,its,n,r,e⟩:=x; exact ⟨z,its,n,r,k _ _ (.inl rfl) e⟩
  | tup xs=>obtain ⟨z,its,r,ob,e,c⟩:=x; exact ⟨z,its,r,ob,k _ _ (.inl rfl) e,c⟩
  | dK kvs=>obtain ⟨z,y,vs,r,ob,es,ep,e,c⟩:=x; exact ⟨z,y,vs,r,ob,es,ep,k _ _ (.inl rfl) e,c⟩
  | dT kvs =>
    obtain ⟨z,y,xs,r,ob,es,ep,e,c⟩:=x
    exact ⟨z,y,xs,Paired.mapP r fun p q z=>⟨z.1,ht _ _ z.2.1,z.2.2⟩,ob,es,ep,k _ _ (.inl rfl) e,c⟩
  | set S n=>obtain ⟨ob,es,ep,t,e,c⟩:=x; exact ⟨ob,es,ep,t,k _ _ (.inl rfl) e,c⟩
  | ins C dx fs =>
    obtain ⟨d,z,ne,e,mA,⟨od,es,ep,e2,c⟩,r⟩:=x
    exact ⟨ho _ d,z,ne,k _ _ (.inl rfl) e,mA,⟨od,es,ep,k _ _ (.inr d) e2,c⟩,r⟩
  | own y=>obtain ⟨ob,e⟩:=x; exact ⟨ob,k _ _ (.inl rfl) e⟩
  | xd fs=>obtain ⟨mA,⟨od,es,ep,e,c⟩,r⟩:=x; exact ⟨mA,⟨od,es,ep,k _ _ (.inl rfl) e,c⟩,r⟩
  | rng lo hi=>obtain ⟨t,u,v,e⟩:=x; exact ⟨t,u,v,k _ _ (.inl rfl) e⟩
  | frz ob u ih=>obtain ⟨e,q⟩:=x; exact ⟨k _ _ (.inl rfl) e,ih q⟩
  | tbl ps =>
    have e:h.get? a=some { cls:=.none,data:=.fields ps }:=x
    show h'.get? a=some { cls:=.none,data:=.fields ps }
    exact k a _ (.inl rfl) e
  | met f y =>
    have e:h.get? a=some (PySem.W.methodObj (.ref f) (.ref y)):=x
    show h'.get? a=some (PySem.W.methodObj (.ref f) (.ref y))
    exact k a _ (.inl rfl) e
  | ext φ=>obtain ⟨p,⟨o,e⟩,st⟩:=x; exact ⟨st _ _ p fun o q=>k _ _ (.inl rfl) q,⟨o,k _ _ (.inl rfl) e⟩,st⟩
theorem HOk.lt (x:HOk P w H h) (e:H a=some o):a < h.objs.size:=(x a o e).lt
theorem HOk.fresh (x:HOk P w H h) (e:h.objs.size<=a):H a=none:=by
  cases q:H a with
  | none=>rfl
  | some u=>exact absurd (Nat.lt_of_lt_of_le (x.lt q) e) (Nat.lt_irrefl _)
theorem HOk.kept (x:HOk P w H h) (k:∀ b u,h.get? b=some u->h'.get? b=some u):HOk P w H h':=fun a o e =>
  (x a o e).stay (fun b u _ q=>k b u q) (fun _ q=>q) fun _ _ q=>q
theorem HOk.laid (x:HOk P w H h) (k:∀ b u,h.get? b=some u->h'.get? b=some u) (hp:h.objs.size<=a) (new:ObjOk P w (upd H a o) h' a o):HOk P w (upd H a o) h':=fun b u e=>by
  have hn:=x.fresh hp
  by_cases hb:b=a
  · subst hb; rw [upd_same] at e; cases e; exact new
  · rw [upd_ne hb] at e
    exact (x b u e).stay (fun c v _ q=>k c v q) (fun c q=>by rw [upd_ne (ne_of_none q hn)]; exact q) fun c xs q=>by rw [upd_ne (ne_of_none q hn)]; exact q
end
def Rd (H:Hp) (a:Addr) (u:HO):Prop:=H a=some u\/∃ o,H a=some (.frz o u)
theorem Rd.of {H:Hp} {a:Addr} {u:HO} (h:H a=some u):Rd H a u:=.inl h
theorem Rd.ok {P:Program} {w:World} {H:Hp} {h:Heap} {a:Addr} {u:HO} (r:Rd H a u) (x:HOk P w H h):ObjOk P w H h a u:=by
  rcases r with r | ⟨o,r⟩
  · exact x a u r
  · obtain ⟨_,q⟩:=x a _ r
    exact q
def Mut:Option HO->Prop
  | some (.lst _)=>True
  | some (.dK _)=>True
  | some (.dT _)=>True
  | some (.set _ _)=>True
  | some (.ins _ _ _)=>True
  | some (.ext _)=>True
  | _=>False
section
variable {P:Program} {w:World} {H:Hp} {h h':Heap} {x e:Addr} {o':HO}
theorem HOk.write (ok:HOk P w H h) (mu:Mut (H x)) (he:e=x\/H e=some (.own x)) (k:∀ b u,b≠e->h.get? b=some u->h'.get? b=some u) (heo:∃ u,h'.get? e=some u)
    (new:ObjOk P w (upd H x o') h' x o'):HOk P w (upd H x o') h':=fun b u q=>by
  have nown:∀ c y,H c=some (.own y)->c≠x:=fun c y r z=>by subst z; rw [r] at mu; exact mu
  have ntup:∀ c xs,H c=some (.tup xs)->c≠x:=fun c xs r z=>by subst z; rw [r] at mu; exact mu
  by_cases hb:b=x
  · subst hb; rw [upd_same] at q; cases q; exact new
  · rw [upd_ne hb] at q
    by_cases hbe:b=e
    · have q':H b=some (.own x):=by
        rcases he with z | z
        · exact absurd (hbe.trans z) hb
        · rw [hbe]; exact z
      rw [q] at q'; cases q'
      obtain ⟨v,hv⟩:=heo
      exact ⟨v,by rw [hbe]; exact hv⟩
    · refine (ok b u q).stay (fun c v hc r=>k c v ?_ r) (fun c r=>by rw [upd_ne (nown c b r)]; exact r) fun c xs r=>by rw [upd_ne (ntup c xs r)]; exact r
      rcases hc with rfl | hc
      · exact hbe
      · rintro rfl
        rcases he with z | z
        · exact nown c b hc z
        · rw [hc] at z; cases z; exact hb rfl
end
structure Un (fs ex:List Addr) (H H':Hp) (h h':Heap):Prop where
  keep:∀ b o,h.get? b=some o->H b=none->b ∉ fs->b ∉ ex->h'.get? b=some o
  slot:∀ b o,h.get? b=some o->H b=none->b∈fs->b ∉ ex->∃ sl,h'.get? b=some { o with slots:=sl }
  free:∀ b o,h.get? b=some o->H b=none->b ∉ ex->H' b=none
  there:∀ b o,h.get? b=some o->b ∉ ex->∃ o',h'.get? b=some o'
  tups:∀ b xs,H b=some (.tup xs)->H' b=some (.tup xs)
  frzs:∀ b o u,H b=some (.frz o u)->H' b=some (.frz o u)
  tbls:∀ b ps,H b=some (.tbl ps)->∃ more,H' b=some (.tbl (ps ++ more))
section
variable {fs fs' ex ex':List Addr} {H H1 H2:Hp} {h h1 h2 h':Heap} {a x e:Addr} {o:HO}
theorem Un.any (u:Un fs ex H H1 h h1) {b:Addr} {ob:Obj} (q:h.get? b=some ob) (n:H b=none) (hx:b ∉ ex):∃ sl,h1.get? b=some { ob with slots:=sl }:=by
  by_cases hb:b∈fs
  · exact u.slot b ob q n hb hx
  · exact ⟨ob.slots,u.keep b ob q n hb hx⟩
theorem Un.trans (a:Un fs ex H H1 h h1) (b:Un fs ex H1 H2 h1 h2):Un fs ex H H2 h h2 where
  keep:=fun c ob q n hc hx=>b.keep c ob (a.keep c ob q n hc hx) (a.free c ob q n hx) hc hx
  slot:=fun c ob q n hc hx=>by
    obtain ⟨sl,e1⟩:=a.slot c ob q n hc hx
    obtain ⟨sl',e2⟩:=b.slot c _ e1 (a.free c ob q n hx) hc hx
    exact ⟨sl',e2⟩
  free:=fun c ob q n hx=>by
    obtain ⟨o',e1⟩:=a.there c ob q hx
    exact b.free c o' e1 (a.free c ob q n hx) hx
  there:=fun c ob q hx=>by
    obtain ⟨o',e1⟩:=a.there c ob q hx
    exact b.there c o' e1 hx
  tups:=fun c xs q=>b.tups c xs (a.tups c xs q)
  frzs:=fun c ob xs q=>b.frzs c ob xs (a.frzs c ob xs q)
  tbls:=fun c ps q=>by
    obtain ⟨m1,e1⟩:=a.tbls c ps q
    obtain ⟨m2,e2⟩:=b.tbls c _ e1
    exact ⟨m1 ++ m2,by rw [e2,Array.append_assoc]⟩
theorem Un.kept (k:∀ b u,h.get? b=some u->h'.get? b=some u):Un fs ex H H h h' :=
  ⟨fun b ob q _ _ _=>k b ob q,fun b ob q _ _ _=>⟨ob.slots,k b ob q⟩,fun _ _ _ n _=>n,fun b ob q _=>⟨ob,k b ob q⟩,fun _ _ q=>q,fun _ _ _ q=>q,fun _ ps q=>⟨#[],by rw [q]; simp⟩⟩
theorem Un.refl:Un fs ex H H h h:=Un.kept fun _ _ q=>q
theorem Un.laid (k:∀ b u,h.get? b=some u->h'.get? b=some u) (hp:h.objs.size<=a) (hn:H a=none):Un fs ex H (upd H a o) h h' where
  keep:=fun b u q _ _ _=>k b u q
  slot:=fun b u q _ _ _=>⟨u.slots,k b u q⟩
  free:=fun b u q n _=>by rw [upd_ne (Nat.ne_of_lt (Nat.lt_of_lt_of_le (Heap.lt_size q) hp))]; exact n
  there:=fun b u q _=>⟨u,k b u q⟩
  tups:=fun b xs q=>by rw [upd_ne (ne_of_none q hn)]; exact q
  frzs:=fun b u xs q=>by rw [upd_ne (ne_of_none q hn)]; exact q
  tbls:=fun b ps q=>⟨#[],by rw [upd_ne (ne_of_none q hn),q]; simp⟩
theorem Un.write (mu:Mut (H x)) (he:e=x\/H e=some (.own x)) (k:∀ b u,b≠e->h.get? b=some u->h'.get? b=some u) (heo:∃ u,h'.get? e=some u):Un fs ex H (upd H x o) h h':=by
  have hx:∀ b,H b=none->b≠x:=fun b n z=>by subst z; rw [n] at mu; exact mu
  have hb:∀ b,H b=none->b≠e:=fun b n z=>by
    subst z
    rcases he with r | r
    · exact hx b n r
    · rw [n] at r; cases r
  have hm:∀ b u,H b=some u->¬ Mut (some u)->b≠x:=fun b u q nm z=>by subst z; rw [q] at mu; exact nm mu
  refine ⟨fun b u q n _ _=>k b u (hb b n) q,fun b u q n _ _=>⟨u.slots,k b u (hb b n) q⟩,fun b u q n _=>by rw [upd_ne (hx b n)]; exact n,fun b u q _=>?_,
    fun b xs q=>by rw [upd_ne (hm b _ q fun z=>z)]; exact q,fun b u xs q=>by rw [upd_ne (hm b _ q fun z=>z)]; exact q,fun b ps q=>⟨#[],by rw [upd_ne (hm b _ q fun z=>z),q]; simp⟩⟩
  by_cases hbe:b=e
  · subst hbe; exact heo
  · exact ⟨u,k b u hbe q⟩
theorem Un.mono (u:Un fs ex H H1 h h1) (hs:∀ b∈fs,b∈fs') (hx:∀ b∈ex,b∈ex'):Un fs' ex' H H1 h h1 :=
  ⟨fun b ob q n hb he=>u.keep b ob q n (fun z=>hb (hs b z)) fun z=>he (hx b z),fun _ _ q n _ he=>u.any q n fun z=>he (hx _ z),fun b ob q n he=>u.free b ob q n fun z=>he (hx b z),fun b ob q he=>u.there b ob q fun z=>he (hx b z),u.tups,u.frzs,u.tbls⟩
end
def trk (h:Heap) (H:Hp):List Addr:=(List.range h.objs.size).filter fun a=>(H a).isSome
def hidT (h:Heap) (H:Hp):Heap:=PySem.W.hideAll h (trk h H)
theorem hidT_size (h:Heap) (H:Hp):(hidT h H).objs.size=h.objs.size:=PySem.W.hideAll_size _ _
theorem hidT_get {h:Heap} {H:Hp} {b:Addr} {o:Obj} (e:h.get? b=some o) (n:H b=none):(hidT h H).get? b=some o :=
  PySem.W.hideAll_get _ e fun hm=>by
    have q:(H b).isSome=true:=(List.mem_filter.mp hm).2
    rw [n] at q; simp at q
theorem of_hidT {h:Heap} {H:Hp} {b:Addr} {o:Obj} (e:(hidT h H).get? b=some o):h.get? b=some o/\H b=none:=by
  have e':h.get? b=some o:=PySem.W.of_hideAll (trk h H) e
  refine ⟨e',?_⟩
  cases q:H b with
  | none=>rfl
  | some x =>
    have hm:b∈trk h H:=List.mem_filter.mpr ⟨List.mem_range.mpr (Heap.lt_size e'),by simp [q]⟩
    have z:(hidT h H).get? b=none:=PySem.W.hideAll_none (trk h H) hm
    rw [z] at e; cases e
def allNews (g h:Heap) (L:Addr):List (Addr × Obj):=(List.range h.objs.size).filterMap fun a=>if a=L\/(g.get? a).isSome=true then none else (h.get? a).map fun o=>(a,o)
def rest (g h:Heap) (L d:Addr):List (Addr × Obj):=(allNews g h L).filter fun p=>decide (p.1≠d)
end L2
namespace L2
open PySem PySem.Spec PyProof.Rows
structure Mod (K:PySem.W.Frag) (mg:Str->Option Value) (base:Heap):Prop where
  kin:K.In base
  glob:base.Ns mainGlobals mg
  blt:∃ mb,base.Ns builtinsNs mb/\∀ x:Str,x≠"__name__"->mb x=bootBuiltins x
  nolimit:base.NoLimit
/-- the context: a def's body (or a comprehension's block) running. base: fixed through the whole law; s₀, H₀: the entry; outer: the frames whose slots others may change (a def's callers); stack: all frames that run;
   ex: iterators that were made ahead of the entry and are walked here (a comprehension's); fn: the names whose cells were made at the entry (a def: all; a comprehension's block: its own); calm: not within an except suite; pn: pins that every state bears; xe: what is wanted of an exception that leaves the code -/
structure Cx where
  prog:Program
  w:World
  K:PySem.W.Frag
  mg:Str->Option Value
  base:Heap
  A:Around
  N:List Str
  s₀:Shared
  H₀:Hp
  env:Env
  outer:List Env
  stack:List Env
  ex:List Addr
  fn:Str->Bool
  calm:Bool
  pn:List (Addr × Obj)
  xe:Value->Shared->Prop
def frs (l:List Env):List Addr:=l.filterMap (·.frame)
abbrev Cx.fs (X:Cx):List Addr:=frs X.outer
def Vis (sc:Scope) (x:Str):Prop:=sc.names.lookup x=some .local\/sc.names.lookup x=some .cell\/sc.names.lookup x=some .free
def Loc (sc:Scope) (x:Str):Prop:=sc.names.lookup x=some .local\/sc.names.lookup x=some .cell
def Look (env:Env) (h:Heap) (m:Str->Option Value) (x:Str) (u:Value):Prop :=
  (env.kindOf x=some .local/\m x=some u)\/((env.kindOf x=some .cell\/env.kindOf x=some .free)/\∃ c,env.cells.lookup x=some c/\h.IsCell c (some u))
structure Cx.Ok (X:Cx):Prop where
  mod:Mod X.K X.mg X.base
  kind:X.env.scope.kind=.function
  glob:X.env.globals=mainGlobals
  blt:X.env.builtins=builtinsNs
  above:X.s₀.heap.objs.size<=X.env.locals
  inj:∀ x y c,X.env.cells.lookup x=some c->X.env.cells.lookup y=some c->x=y
  has:∀ x,(X.env.kindOf x=some .cell\/X.env.kindOf x=some .free)->∃ c,X.env.cells.lookup x=some c
  cab:∀ x c,X.fn x=true->X.env.cells.lookup x=some c->X.s₀.heap.objs.size<=c
  hd:X.calm=true->X.A.handled=none
  frames:X.A.frames=some X.stack
  stk:X.stack=X.outer\/(X.stack=X.env :: X.outer/\X.env.frame=some X.env.locals)
  exf:∀ b∈X.ex,b≠X.env.locals/\∀ x c,X.env.cells.lookup x=some c->c≠b
  bs:∀ b o,X.base.get? b=some o->X.s₀.heap.get? b=some o/\X.H₀ b=none
  bsz:X.base.objs.size<=X.s₀.heap.objs.size
  noex:∀ b o,X.base.get? b=some o->b ∉ X.ex
  exfs:∀ b∈X.ex,b ∉ X.fs
  funs:X.s₀.heap.FunFrames X.base X.outer
  frf:∀ b∈X.fs,X.H₀ b=none
structure Inv (X:Cx) (pins:List (Addr × Obj)) (σ:List (Option V)) (H:Hp) (s:Shared):Prop where
  ok:X.Ok
  os:s.os=X.s₀.os
  bare:AllBare s.gens
  base:Un X.fs X.ex X.H₀ H X.s₀.heap s.heap
  loc:∃ m,s.heap.Ns X.env.locals m/\∀ (i:Nat) (x:Str) (v:V),X.N[i]?=some x->σ[i]?=some (some v)->Vis X.env.scope x->∃ u,RelV v u/\Look X.env s.heap m x u
  cell:∀ x c,X.env.cells.lookup x=some c->∃ v,s.heap.IsCell c v
  free:H X.env.locals=none
  freeC:∀ x c,X.env.cells.lookup x=some c->H c=none
  pin:∀ p∈X.pn ++ pins,s.heap.get? p.1=some p.2/\H p.1=none/\p.1≠X.env.locals/\p.1 ∉ X.fs/\∀ v,p.2.data≠.cell v
  hok:HOk X.prog X.w H s.heap
  len:σ.length=X.N.length
section
variable {X:Cx} {pins:List (Addr × Obj)} {σ:List (Option V)} {H H':Hp} {s:Shared} {h':Heap}
theorem Cx.Ok.nofr (ok:X.Ok) {b:Addr} {o:Obj} (e:X.base.get? b=some o):b ∉ X.fs:=fun hb=>by
  have:=(ok.funs.mem hb).1
  rw [e] at this; cases this
theorem Inv.bs (I:Inv X pins σ H s):∀ b o,X.base.get? b=some o->s.heap.get? b=some o/\H b=none:=fun b o e =>
  ⟨I.base.keep b o (I.ok.bs b o e).1 (I.ok.bs b o e).2 (I.ok.nofr e) (I.ok.noex b o e),I.base.free b o (I.ok.bs b o e).1 (I.ok.bs b o e).2 (I.ok.noex b o e)⟩
theorem Inv.bk (I:Inv X pins σ H s):∀ b o,X.base.get? b=some o->s.heap.get? b=some o:=fun b o e=>(I.bs b o e).1
theorem Inv.mod (I:Inv X pins σ H s):Mod X.K X.mg X.base:=I.ok.mod
theorem Inv.kIn (I:Inv X pins σ H s):X.K.In s.heap:=I.ok.mod.kin.keeps I.bk
theorem Inv.nolimit (I:Inv X pins σ H s):s.heap.NoLimit:=I.ok.mod.nolimit.keeps I.bk
theorem Inv.fr (I:Inv X pins σ H s):∃ m,Fr X.base X.env.locals s.heap m :=
  let ⟨m,hn,_⟩:=I.loc
  ⟨m,hn,I.bk,Nat.le_trans I.ok.bsz I.ok.above⟩
theorem Inv.lt (I:Inv X pins σ H s):X.env.locals < s.heap.objs.size:=let ⟨_,hn,_⟩:=I.loc; hn.lt
theorem Inv.sz (I:Inv X pins σ H s):X.s₀.heap.objs.size<=s.heap.objs.size:=Nat.le_trans I.ok.above (Nat.le_of_lt I.lt)
theorem Inv.nofs (I:Inv X pins σ H s) {a:Addr} (h:s.heap.objs.size<=a):a ∉ X.fs:=fun hb=>by
  obtain ⟨_,o,ho,_⟩:=I.ok.funs.mem hb
  exact absurd (Nat.lt_of_lt_of_le (Heap.lt_size ho) (Nat.le_trans I.sz h)) (Nat.lt_irrefl _)
theorem Inv.cne (I:Inv X pins σ H s):∀ x c,X.env.cells.lookup x=some c->c≠X.env.locals:=fun x c e z=>by
  obtain ⟨v,o,ho,hd⟩:=I.cell x c e
  obtain ⟨m,⟨o',es,ep,ho',hd',_⟩,_⟩:=I.loc
  rw [z,ho'] at ho; cases ho; rw [hd'] at hd; cases hd
theorem Inv.funs (I:Inv X pins σ H s):s.heap.FunFrames X.base X.outer:=by
  have all:∀ (l:List Env),(∀ b∈frs l,b∈X.fs)->X.s₀.heap.FunFrames X.base l->s.heap.FunFrames X.base l:=by
    intro l
    induction l with
    | nil=>intro _ _; trivial
    | cons env r ih =>
      intro hs hl
      obtain ⟨hk,⟨L,o,hf,hn,ho,hd⟩,hr⟩:=hl
      have hL:L∈X.fs:=hs L (by unfold frs; rw [List.filterMap_cons,hf]; exact List.mem_cons_self)
      obtain ⟨sl,e⟩:=I.base.slot L o ho (I.ok.frf L hL) hL fun z=>I.ok.exfs L z hL
      exact ⟨hk,⟨L,_,hf,hn,e,hd⟩,ih (fun b hb=>hs b (by unfold frs; rw [List.filterMap_cons,hf]; exact List.mem_cons_of_mem _ hb)) hr⟩
  exact all X.outer (fun _ hb=>hb) I.ok.funs
theorem Inv.stack (I:Inv X pins σ H s):s.heap.FunFrames X.base X.stack:=by
  rcases I.ok.stk with e | ⟨e,hf⟩
  · rw [e]; exact I.funs
  · rw [e]
    obtain ⟨m,hn,_⟩:=I.loc
    refine .cons (by rw [I.ok.kind]; decide) hf hn ?_ I.funs
    exact Heap.get?_none_of_le (Nat.le_trans I.ok.bsz I.ok.above)
theorem Inv.stkSub (I:Inv X pins σ H s):∀ b∈frs X.stack,b∈X.env.locals :: X.fs:=fun b hb=>by
  rcases I.ok.stk with e | ⟨e,hf⟩
  · rw [e] at hb; exact List.mem_cons_of_mem _ hb
  · rw [e] at hb
    unfold frs at hb
    rw [List.filterMap_cons,hf] at hb
    exact hb
theorem Inv.stkFree (I:Inv X pins σ H s):∀ b∈frs X.stack,H b=none:=fun b hb=>by
  rcases List.mem_cons.mp (I.stkSub b hb) with e | hb
  · rw [e]; exact I.free
  · obtain ⟨_,o,ho,_⟩:=I.ok.funs.mem hb
    exact I.base.free b o ho (I.ok.frf b hb) fun z=>I.ok.exfs b z hb
theorem Inv.step {g':Array GenState} {t':Nat} {d':Drawn} {ch:List Addr} (I:Inv X pins σ H s)
    (hch:∀ b∈ch,(b∈X.ex\/X.s₀.heap.objs.size<=b)/\b≠X.env.locals/\(∀ x c,X.env.cells.lookup x=some c->c≠b)/\∀ p∈X.pn ++ pins,p.1≠b)
    (keep:∀ b o,b≠X.env.locals->b ∉ X.fs->b ∉ ch->s.heap.get? b=some o->H b=none->h'.get? b=some o)
    (slot:∀ b o,b≠X.env.locals->b∈X.fs->b ∉ ch->s.heap.get? b=some o->H b=none->∃ sl,h'.get? b=some { o with slots:=sl }) (free:∀ b o,b ∉ ch->s.heap.get? b=some o->H b=none->H' b=none)
    (there:∀ b o,b ∉ ch->s.heap.get? b=some o->∃ o',h'.get? b=some o')
    (tups:∀ b xs,H b=some (.tup xs)->H' b=some (.tup xs)) (frzs:∀ b o u,H b=some (.frz o u)->H' b=some (.frz o u)) (tbls:∀ b ps,H b=some (.tbl ps)->∃ more,H' b=some (.tbl (ps ++ more)))
    (ns:∀ m,s.heap.Ns X.env.locals m->h'.Ns X.env.locals m) (hok:HOk X.prog X.w H' h') (hg:AllBare g') :
    Inv X pins σ H' { s with heap:=h',gens:=g',drawn:=d',toks:=t' }:=by
  have neL:∀ b o,X.s₀.heap.get? b=some o->b≠X.env.locals:=fun b o e=>Nat.ne_of_lt (Nat.lt_of_lt_of_le (Heap.lt_size e) I.ok.above)
  have neC:∀ b o,X.s₀.heap.get? b=some o->b ∉ X.ex->b ∉ ch:=fun b o e hx hb=>by
    rcases (hch b hb).1 with z | z
    · exact hx z
    · exact absurd (Nat.lt_of_lt_of_le (Heap.lt_size e) z) (Nat.lt_irrefl _)
  have cellK:∀ x c,X.env.cells.lookup x=some c->∀ v,s.heap.IsCell c v->h'.IsCell c v:=fun x c e v ⟨o,ho,hd⟩=>by
    have nch:c ∉ ch:=fun z=>(hch c z).2.2.1 x c e rfl
    by_cases hc:c∈X.fs
    · obtain ⟨sl,q⟩:=slot c o (I.cne x c e) hc nch ho (I.freeC x c e)
      exact ⟨_,q,hd⟩
    · exact ⟨o,keep c o (I.cne x c e) hc nch ho (I.freeC x c e),hd⟩
  refine ⟨I.ok,I.os,hg,⟨fun b o e n hb hx=>?_,fun b o e n hb hx=>?_,fun b o e n hx=>?_,fun b o e hx=>?_,fun b xs e=>tups b xs (I.base.tups b xs e),fun b o xs e=>frzs b o xs (I.base.frzs b o xs e),fun b ps e=>?_⟩,?_,fun x c e=>?_,?_,fun x c e=>?_,fun p hp=>?_,hok,I.len⟩
  · exact keep b o (neL b o e) hb (neC b o e hx) (I.base.keep b o e n hb hx) (I.base.free b o e n hx)
  · obtain ⟨sl,e1⟩:=I.base.slot b o e n hb hx
    obtain ⟨sl',e2⟩:=slot b _ (neL b o e) hb (neC b o e hx) e1 (I.base.free b o e n hx)
    exact ⟨sl',e2⟩
  · obtain ⟨o',e1⟩:=I.base.there b o e hx
    exact free b o' (neC b o e hx) e1 (I.base.free b o e n hx)
  · obtain ⟨o',e1⟩:=I.base.there b o e hx
    exact there b o' (neC b o e hx) e1
  · obtain ⟨m1,e1⟩:=I.base.tbls b ps e
    obtain ⟨m2,e2⟩:=tbls b _ e1
    exact ⟨m1 ++ m2,by rw [e2,Array.append_assoc]⟩
  · obtain ⟨m,hn,hl⟩:=I.loc
    refine ⟨m,ns m hn,fun i x v e1 e2 e3=>?_⟩
    obtain ⟨u,r,l⟩:=hl i x v e1 e2 e3
    refine ⟨u,r,?_⟩
    rcases l with l | ⟨k,c,e,z⟩
    · exact .inl l
    · exact .inr ⟨k,c,e,cellK x c e _ z⟩
  · obtain ⟨v,z⟩:=I.cell x c e
    exact ⟨v,cellK x c e v z⟩
  · obtain ⟨m,⟨o,_,_,ho,_⟩,_⟩:=I.loc
    exact free _ o (fun z=>(hch _ z).2.1 rfl) ho I.free
  · obtain ⟨v,o,ho,hd⟩:=I.cell x c e
    exact free c o (fun z=>(hch c z).2.2.1 x c e rfl) ho (I.freeC x c e)
  · obtain ⟨e,n,ne,nf,d⟩:=I.pin p hp
    have nch:p.1 ∉ ch:=fun z=>(hch p.1 z).2.2.2 p hp rfl
    exact ⟨keep p.1 p.2 ne nf nch e n,free p.1 p.2 nch e n,ne,nf,d⟩
theorem Inv.un {t':Nat} (I:Inv X pins σ H s) (u:Un X.fs [] H H' s.heap h') (hok:HOk X.prog X.w H' h'):Inv X pins σ H' { s with heap:=h',toks:=t' }:=by
  obtain ⟨m,⟨o,es,ep,ho,r⟩,_⟩:=id I.loc
  obtain ⟨sl,hL⟩:=u.any ho I.free (by simp)
  exact I.step (g':=s.gens) (d':=s.drawn) (ch:=[]) (fun _ z=>nomatch z) (fun b o _ hb _ e n=>u.keep b o e n hb (by simp)) (fun b o _ hb _ e n=>u.slot b o e n hb (by simp)) (fun b o _ e n=>u.free b o e n (by simp)) (fun b o _ e=>u.there b o e (by simp)) u.tups u.frzs u.tbls (fun m' hm=>by
    obtain ⟨o',es',ep',ho',r'⟩:=hm
    rw [ho] at ho'; cases ho'
    exact ⟨_,es',ep',hL,r'⟩) hok I.bare
theorem Inv.call {g':Array GenState} {t':Nat} {d':Drawn} {ch:List Addr} (I:Inv X pins σ H s) (u:Un (frs X.stack) ch H H' s.heap h') (hok:HOk X.prog X.w H' h') (hg:AllBare g')
    (hch:∀ b∈ch,(b∈X.ex\/X.s₀.heap.objs.size<=b)/\b≠X.env.locals/\(∀ x c,X.env.cells.lookup x=some c->c≠b)/\∀ p∈X.pn ++ pins,p.1≠b) :
    Inv X pins σ H' { s with heap:=h',gens:=g',drawn:=d',toks:=t' }:=by
  obtain ⟨m,⟨o,es,ep,ho,r⟩,_⟩:=id I.loc
  obtain ⟨sl,hL⟩:=u.any ho I.free fun z=>(hch _ z).2.1 rfl
  exact I.step (ch:=ch) hch (fun b o hL hb hc e n=>u.keep b o e n (fun z=>(List.mem_cons.mp (I.stkSub b z)).elim hL hb) hc) (fun b o _ _ hc e n=>u.any e n hc) (fun b o hc e n=>u.free b o e n hc) (fun b o hc e=>u.there b o e hc) u.tups u.frzs u.tbls (fun m' hm=>by
    obtain ⟨o',es',ep',ho',r'⟩:=hm
    rw [ho] at ho'; cases ho'
    exact ⟨_,es',ep',hL,r'⟩) hok hg
theorem Inv.turned {t':Nat} {it:Addr} (I:Inv X pins σ H s) (k:∀ b o,b≠it->s.heap.get? b=some o->h'.get? b=some o) (hn:H it=none) (hL:it≠X.env.locals)
    (h1:it∈X.ex\/X.s₀.heap.objs.size<=it) (h2:∀ x c,X.env.cells.lookup x=some c->c≠it) (h3:∀ p∈X.pn ++ pins,p.1≠it):Inv X pins σ H { s with heap:=h',toks:=t' }:=by
  have nit:∀ b u,H b=some u->b≠it:=fun b u e z=>by rw [z,hn] at e; cases e
  refine I.step (g':=s.gens) (d':=s.drawn) (ch:=[it]) (fun b hb=>?_) (fun b o _ _ hc e _=>k b o (fun z=>hc (by simp [z])) e) (fun b o _ _ hc e _=>⟨o.slots,k b o (fun z=>hc (by simp [z])) e⟩) (fun _ _ _ _ n=>n)
    (fun b o hc e=>⟨o,k b o (fun z=>hc (by simp [z])) e⟩) (fun _ _ e=>e) (fun _ _ _ e=>e) (fun b ps e=>⟨#[],by rw [e]; simp⟩) (fun m hm=>?_) (fun b u e=>?_) I.bare
  · have e:b=it:=by simpa using hb
    subst e
    exact ⟨h1,hL,h2,h3⟩
  · obtain ⟨o,es,ep,ho,r⟩:=hm
    exact ⟨o,es,ep,k _ o (Ne.symm hL) ho,r⟩
  · refine (I.hok b u e).stay (fun c v hc q=>k c v ?_ q) (fun _ q=>q) fun _ _ q=>q
    rcases hc with z | z
    · rw [z]; exact nit b u e
    · exact nit c _ z
theorem Inv.tok (I:Inv X pins σ H s) (t:Nat):Inv X pins σ H { s with toks:=t }:=I.un (h':=s.heap) (t':=t) Un.refl I.hok
theorem Inv.kept {t':Nat} (I:Inv X pins σ H s) (k:∀ b u,s.heap.get? b=some u->h'.get? b=some u):Inv X pins σ H { s with heap:=h',toks:=t' }:=I.un (Un.kept k) (I.hok.kept k)
theorem Inv.laid {a:Addr} {o:HO} {t':Nat} (I:Inv X pins σ H s) (k:∀ b u,s.heap.get? b=some u->h'.get? b=some u) (hp:s.heap.objs.size<=a) (new:ObjOk X.prog X.w (upd H a o) h' a o) :
    Inv X pins σ (upd H a o) { s with heap:=h',toks:=t' }:=I.un (Un.laid k hp (I.hok.fresh hp)) (I.hok.laid k hp new)
theorem Inv.write {x e:Addr} {o:HO} {t':Nat} (I:Inv X pins σ H s) (mu:Mut (H x)) (he:e=x\/H e=some (.own x)) (k:∀ b u,b≠e->s.heap.get? b=some u->h'.get? b=some u) (heo:∃ u,h'.get? e=some u)
    (new:ObjOk X.prog X.w (upd H x o) h' x o):Inv X pins σ (upd H x o) { s with heap:=h',toks:=t' }:=I.un (Un.write mu he k heo) (I.hok.write mu he k heo new)
theorem Inv.pins_of {pins':List (Addr × Obj)} (I:Inv X pins σ H s) (h:∀ p∈pins',s.heap.get? p.1=some p.2/\H p.1=none/\p.1≠X.env.locals/\p.1 ∉ X.fs/\∀ v,p.2.data≠.cell v):Inv X pins' σ H s :=
  ⟨I.ok,I.os,I.bare,I.base,I.loc,I.cell,I.free,I.freeC,fun p hp=>(List.mem_append.mp hp).elim (fun z=>I.pin p (List.mem_append_left _ z)) (h p),I.hok,I.len⟩
theorem nodup_ix {N:List Str} (hN:N.Nodup) {i j:Nat} {x:Str} (a:N[i]?=some x) (b:N[j]?=some x):i=j:=by
  obtain ⟨h1,e1⟩:=List.getElem?_eq_some_iff.mp a
  obtain ⟨h2,e2⟩:=List.getElem?_eq_some_iff.mp b
  exact (List.getElem_inj hN).mp (e1.trans e2.symm)
theorem store_ok2 {M:Model} {A:Around} {E:Value->Shared->Prop} {i:Nat} {x:Str} {v:V} {u:Value} {Q:Unit->Shared->Prop} (I:Inv X pins σ H s) (hN:X.N.Nodup) (hi:X.N[i]?=some x) (hx:Loc X.env.scope x) (r:RelV v u)
    (h:∀ s',Inv X pins (σ.set i (some v)) H s'->(∃ a,Heap.SameBut a s.heap s'.heap/\(a=X.env.locals\/X.env.cells.lookup x=some a))->Q () s') (hf:X.fn x=true\/X.env.scope.names.lookup x=some .local:=by first | exact .inl rfl | exact .inr rfl | assumption):wpAny M A (storeName X.env x u) Q E s:=by
  obtain ⟨m,hn,hl⟩:=id I.loc
  have hcls:(X.env.scope.kind == .class || (X.env.scope.kind == .module && X.env.locals != X.env.globals))=false:=by rw [I.ok.kind]; rfl
  have hiσ:i < σ.length:=by rw [I.len]; exact (List.getElem?_eq_some_iff.mp hi).1
  have cne:=I.cne
  have tracked:∀ {a:Addr} {h':Heap},(∃ o,s.heap.get? a=some o/\H a=none)->Heap.SameBut a s.heap h'->HOk X.prog X.w H h':=fun {a h'} ha hs b ob e=>by
    obtain ⟨_,_,hfree⟩:=ha
    refine (I.hok b ob e).stay (fun c w' hc q=>(hs.2 c ?_).trans q) (fun _ q=>q) fun _ _ q=>q
    rintro rfl
    rcases hc with rfl | hc
    · rw [hfree] at e; cases e
    · rw [hfree] at hc; cases hc
  rcases hx with hk | hk
  · refine wpAny_storeName_local hk hn (fun h' hn' hs=>?_) hcls
    obtain ⟨oL,_,_,hoL,_⟩:=id hn
    refine h _ ⟨I.ok,I.os,I.bare,⟨fun b o e n hb hx=>?_,fun b o e n hb hx=>?_,I.base.free,fun b o e hx=>?_,I.base.tups,I.base.frzs,I.base.tbls⟩,⟨_,hn',fun j y v' e1 e2 e3=>?_⟩,fun y c e=>?_,I.free,I.freeC,fun p hp=>?_,tracked ⟨oL,hoL,I.free⟩ hs,by simpa using I.len⟩ ⟨_,hs,.inl rfl⟩
    · exact (hs.2 b (Nat.ne_of_lt (Nat.lt_of_lt_of_le (Heap.lt_size e) I.ok.above))).trans (I.base.keep b o e n hb hx)
    · obtain ⟨sl,e1⟩:=I.base.slot b o e n hb hx
      exact ⟨sl,(hs.2 b (Nat.ne_of_lt (Nat.lt_of_lt_of_le (Heap.lt_size e) I.ok.above))).trans e1⟩
    · obtain ⟨o',e1⟩:=I.base.there b o e hx
      exact ⟨o',(hs.2 b (Nat.ne_of_lt (Nat.lt_of_lt_of_le (Heap.lt_size e) I.ok.above))).trans e1⟩
    · by_cases hj:j=i
      · subst hj
        rw [hi] at e1; cases e1
        rw [List.getElem?_set_self hiσ] at e2
        cases e2
        exact ⟨u,r,.inl ⟨hk,by simp⟩⟩
      · rw [List.getElem?_set_ne (Ne.symm hj)] at e2
        obtain ⟨u',r',q⟩:=hl j y v' e1 e2 e3
        refine ⟨u',r',?_⟩
        rcases q with ⟨k,e⟩ | ⟨k,c,e,z⟩
        · refine .inl ⟨k,?_⟩
          have:y≠x:=fun e=>hj (nodup_ix hN e1 (e ▸ hi))
          simp [this,e]
        · exact .inr ⟨k,c,e,z.sameBut hs (cne y c e)⟩
    · obtain ⟨w',z⟩:=I.cell y c e
      exact ⟨w',z.sameBut hs (cne y c e)⟩
    · obtain ⟨e,n,ne,nf,d⟩:=I.pin p hp
      exact ⟨(hs.2 p.1 ne).trans e,n,ne,nf,d⟩
  · have hfn:X.fn x=true:=by
      rcases hf with z | z
      · exact z
      · rw [z] at hk; cases hk
    obtain ⟨c,hc⟩:=I.ok.has x (.inl hk)
    obtain ⟨w',z⟩:=I.cell x c hc
    refine wpAny_storeName_cell I.ok.kind hk hc z (fun h' hc' hs=>?_)
    obtain ⟨oc,hoc,hocd⟩:=id z
    refine h { s with heap:=h' } ⟨I.ok,I.os,I.bare,⟨fun b o e n hb hx=>?_,fun b o e n hb hx=>?_,I.base.free,fun b o e hx=>?_,I.base.tups,I.base.frzs,I.base.tbls⟩,⟨m,hn.sameBut hs (Ne.symm (cne x c hc)),fun j y v' e1 e2 e3=>?_⟩,fun y c' e=>?_,I.free,I.freeC,fun p hp=>?_,tracked ⟨oc,hoc,I.freeC x c hc⟩ hs,by simpa using I.len⟩ ⟨c,hs,.inr hc⟩
    · exact (hs.2 b (Nat.ne_of_lt (Nat.lt_of_lt_of_le (Heap.lt_size e) (I.ok.cab x c hfn hc)))).trans (I.base.keep b o e n hb hx)
    · obtain ⟨sl,e1⟩:=I.base.slot b o e n hb hx
      exact ⟨sl,(hs.2 b (Nat.ne_of_lt (Nat.lt_of_lt_of_le (Heap.lt_size e) (I.ok.cab x c hfn hc)))).trans e1⟩
    · obtain ⟨o',e1⟩:=I.base.there b o e hx
      exact ⟨o',(hs.2 b (Nat.ne_of_lt (Nat.lt_of_lt_of_le (Heap.lt_size e) (I.ok.cab x c hfn hc)))).trans e1⟩
    · by_cases hj:j=i
      · subst hj
        rw [hi] at e1; cases e1
        rw [List.getElem?_set_self hiσ] at e2
        cases e2
        exact ⟨u,r,.inr ⟨.inl hk,c,hc,hc'⟩⟩
      · rw [List.getElem?_set_ne (Ne.symm hj)] at e2
        obtain ⟨u',r',q⟩:=hl j y v' e1 e2 e3
        refine ⟨u',r',?_⟩
        rcases q with q | ⟨k,c',e,z'⟩
        · exact .inl q
        · refine .inr ⟨k,c',e,z'.sameBut hs ?_⟩
          rintro rfl
          exact hj (nodup_ix hN e1 (I.ok.inj _ _ _ e hc ▸ hi))
    · by_cases hcc:c'=c
      · subst hcc; exact ⟨_,hc'⟩
      · obtain ⟨w2,z2⟩:=I.cell y c' e
        exact ⟨w2,z2.sameBut hs hcc⟩
    · obtain ⟨e,n,ne,nf,d⟩:=I.pin p hp
      refine ⟨(hs.2 p.1 ?_).trans e,n,ne,nf,d⟩
      intro q
      rw [q,hoc] at e
      have q':oc=p.2:=Option.some.inj e
      exact d w' (by rw [<- q']; exact hocd)
theorem store_ok {M:Model} {A:Around} {E:Value->Shared->Prop} {i:Nat} {x:Str} {v:V} {u:Value} {Q:Unit->Shared->Prop} (I:Inv X pins σ H s) (hN:X.N.Nodup) (hi:X.N[i]?=some x) (hx:Loc X.env.scope x) (r:RelV v u)
    (h:∀ s',Inv X pins (σ.set i (some v)) H s'->Q () s') (hf:X.fn x=true\/X.env.scope.names.lookup x=some .local:=by first | exact .inl rfl | exact .inr rfl | assumption):wpAny M A (storeName X.env x u) Q E s :=
  store_ok2 I hN hi hx r (fun s' I' _=>h s' I') hf
theorem Inv.call' {s':Shared} {ch:List Addr} (I:Inv X pins σ H s) (ho:s'.os=s.os) (u:Un (frs X.stack) ch H H' s.heap s'.heap) (hok:HOk X.prog X.w H' s'.heap) (hg:AllBare s'.gens)
    (hch:∀ b∈ch,(b∈X.ex\/X.s₀.heap.objs.size<=b)/\b≠X.env.locals/\(∀ x c,X.env.cells.lookup x=some c->c≠b)/\∀ p∈X.pn ++ pins,p.1≠b):Inv X pins σ H' s':=by
  obtain ⟨h',g',d',t',o'⟩:=s'
  have e:o'=s.os:=ho
  subst e
  exact I.call (g':=g') (t':=t') (d':=d') u hok hg hch
end
abbrev XK:=Value->Option Addr->Hp->Prop
abbrev St:=List (Option V)
abbrev VK:=V->Hp->Prop
abbrev TE:=St->Hp->VK->Prop
abbrev TT:=St->Hp->(Bool->Hp->Prop)->Prop
abbrev TA:=St->Hp->(List V->Hp->Prop)->Prop
structure Ends where
  nx:St->Hp->Prop
  rt:VK
  bk:St->Hp->Prop:=fun _ _=>False
  ct:St->Hp->Prop:=fun _ _=>False
abbrev TS:=Ends->St->Hp->Prop
def EP (X:Cx) (pins:List (Addr × Obj)) (σ:St) (Q:VK) (u:Value) (s':Shared):Prop:=∃ v H',Inv X pins σ H' s'/\RelV v u/\Q v H'
def TP (X:Cx) (pins:List (Addr × Obj)) (σ:St) (Q:Bool->Hp->Prop) (b:Bool) (s':Shared):Prop:=∃ H',Inv X pins σ H' s'/\Q b H'
def AP (X:Cx) (pins:List (Addr × Obj)) (σ:St) (Q:List V->Hp->Prop) (us:List Value) (s':Shared):Prop:=∃ vs H',Inv X pins σ H' s'/\Vals vs us/\Q vs H'
def SP (X:Cx) (pins:List (Addr × Obj)) (D:Ends) (f:Flow) (s':Shared):Prop :=
  match f with
  | .next=>∃ σ' H',Inv X pins σ' H' s'/\D.nx σ' H'
  | .brk=>∃ σ' H',Inv X pins σ' H' s'/\D.bk σ' H'
  | .cont=>∃ σ' H',Inv X pins σ' H' s'/\D.ct σ' H'
  | .ret u=>∃ v σ' H',Inv X pins σ' H' s'/\RelV v u/\D.rt v H'
def PE (X:Cx) (e:Expr) (t:TE):Prop :=
  ∀ (pins:List (Addr × Obj)) (s:Shared) (σ:St) (H:Hp) (Q:VK),Inv X pins σ H s->t σ H Q->wpAny (model X.prog X.w) X.A (eval e X.env) (EP X pins σ Q) X.xe s
def PT (X:Cx) (e:Expr) (t:TT):Prop :=
  ∀ (pins:List (Addr × Obj)) (s:Shared) (σ:St) (H:Hp) (Q:Bool->Hp->Prop),Inv X pins σ H s->t σ H Q->wpAny (model X.prog X.w) X.A (isTrue e X.env (eval e X.env)) (TP X pins σ Q) X.xe s
def PW (X:Cx) (e:Expr) (t:TT):Prop :=
  ∀ (whole:Sem Value) (pins:List (Addr × Obj)) (s:Shared) (σ:St) (H:Hp) (Q:Bool->Hp->Prop),Inv X pins σ H s->t σ H Q->wpAny (model X.prog X.w) X.A (isTrue e X.env whole) (TP X pins σ Q) X.xe s
theorem PW.pt {X:Cx} {e:Expr} {t:TT} (h:PW X e t):PT X e t:=h _
def PA (X:Cx) (es:List Expr) (t:TA):Prop :=
  ∀ (pos:Pos) (pins:List (Addr × Obj)) (s:Shared) (σ:St) (H:Hp) (Q:List V->Hp->Prop),Inv X pins σ H s->t σ H Q->wpAny (model X.prog X.w) X.A (spliced (backTo pos (starEach es X.env))) (AP X pins σ Q) X.xe s
def PS (X:Cx) (st:Stmt) (t:TS):Prop :=
  ∀ (pins:List (Addr × Obj)) (s:Shared) (σ:St) (H:Hp) (D:Ends),Inv X pins σ H s->t D σ H->wpAny (model X.prog X.w) X.A (exec st X.env) (SP X pins D) X.xe s
def PSs (X:Cx) (st:List Stmt) (t:TS):Prop :=
  ∀ (pins:List (Addr × Obj)) (s:Shared) (σ:St) (H:Hp) (D:Ends),Inv X pins σ H s->t D σ H->wpAny (model X.prog X.w) X.A (execs st X.env) (SP X pins D) X.xe s
theorem thn {α:Type} {t:Sem α} {Q Q':α->Shared->Prop} {M:Model} {A:Around} {E:Value->Shared->Prop} {s:Shared} (h:wpAny M A t Q E s) (hQ:∀ a s,Q a s->Q' a s):wpAny M A t Q' E s:=wpAny_mono h hQ fun _ _ x=>x
end L2
namespace L2
open PySem PySem.Spec PyProof.Rows
section
variable {X:Cx}
def tVar (i:Nat):TE:=fun σ H Q=>∃ v,σ[i]?=some (some v)/\Q v H
def tC (v:V):TE:=fun _ H Q=>Q v H
theorem pe_var {i:Nat} {x:Str} {pos:Pos} (hN:X.N[i]?=some x) (hv:Vis X.env.scope x) (hd:(x == ("__debug__":Str))=false:=by decide) (hcd:(x == ("__classdict__":Str))=false:=by decide):PE X (.Name x pos) (tVar i):=by
  intro pins s σ H Q I h
  obtain ⟨v,e,h⟩:=h
  obtain ⟨m,hn,hl⟩:=I.loc
  obtain ⟨u,r,l⟩:=hl i x v hN e hv
  have fin:EP X pins σ Q u s:=⟨v,H,I,r,h⟩
  rcases l with ⟨hk,hm⟩ | ⟨hk,c,hc,hcell⟩
  · exact wpAny_Name (wpAny_loadName_local I.ok.kind hk hn hm fin) hd
  · rcases hk with hk | hk
    · exact wpAny_Name (wpAny_loadName_cell I.ok.kind hk hc hcell fin) hd
    · exact wpAny_Name (wpAny_loadName_free I.ok.kind hk hc hcell fin hcd) hd
theorem pe_int {i j pos}:PE X (.Constant (.int i) j pos) (tC (.int i)):=fun _ _ _ H _ I h=>wpAny_Constant_int ⟨.int i,H,I.tok _,⟨_,rfl⟩,h⟩
theorem pe_bl {b j pos}:PE X (.Constant (.bool b) j pos) (tC (.bl b)):=fun _ _ _ H _ I h=>Constant_bool ⟨.bl b,H,I,rfl,h⟩
theorem pe_non {j pos}:PE X (.Constant .none j pos) (tC .non):=fun _ _ _ H _ I h=>Constant_none ⟨.non,H,I,rfl,h⟩
theorem pe_str {x j pos}:PE X (.Constant (.str x) j pos) (tC (.str x)):=fun _ _ _ H _ I h=>Calls.Constant_str ⟨.str x,H,I.tok _,⟨_,rfl⟩,h⟩
def Gl (X:Cx) (x:Str):Prop:=X.env.kindOf x=some .globalImplicit
theorem ld_glob {E:Value->Shared->Prop} {pins:List (Addr × Obj)} {s:Shared} {σ:St} {H:Hp} {x:Str} {u:Value} {pos:Pos} {Q:Value->Shared->Prop} (I:Inv X pins σ H s) (hg:Gl X x) (hm:X.mg x=some u) (h:Q u s)
    (hd:(x == ("__debug__":Str))=false:=by decide):wpAny (model X.prog X.w) X.A (eval (.Name x pos) X.env) Q E s :=
  Calls.Name_function_global I.ok.kind hg (Calls.loadGlobal_global (by rw [I.ok.glob]; exact I.mod.glob.keeps I.bk) hm h) hd
theorem ld_blt {E:Value->Shared->Prop} {pins:List (Addr × Obj)} {s:Shared} {σ:St} {H:Hp} {x:Str} {u:Value} {pos:Pos} {Q:Value->Shared->Prop} (I:Inv X pins σ H s) (hg:Gl X x) (hm:X.mg x=none) (hv:bootBuiltins x=some u) (h:Q u s)
    (hn:x≠"__name__":=by decide) (hd:(x == ("__debug__":Str))=false:=by decide):wpAny (model X.prog X.w) X.A (eval (.Name x pos) X.env) Q E s:=by
  obtain ⟨mb,h1,h2⟩:=I.mod.blt
  exact Calls.Name_function_global I.ok.kind hg (Calls.loadGlobal_builtin (by rw [I.ok.glob]; exact I.mod.glob.keeps I.bk) hm (by rw [I.ok.blt]; exact h1.keeps I.bk) ((h2 x hn).trans hv) h) hd
theorem pe_glob {x:Str} {v:V} {u:Value} {pos:Pos} (hg:Gl X x) (hm:X.mg x=some u) (r:RelV v u) (hd:(x == ("__debug__":Str))=false:=by decide):PE X (.Name x pos) (tC v) :=
  fun _ _ _ H _ I h=>ld_glob I hg hm ⟨v,H,I,r,h⟩ hd
theorem pe_bltn {x:Str} {v:V} {u:Value} {pos:Pos} (hg:Gl X x) (hm:X.mg x=none) (hv:bootBuiltins x=some u) (r:RelV v u) (hn:x≠"__name__":=by decide) (hd:(x == ("__debug__":Str))=false:=by decide):PE X (.Name x pos) (tC v) :=
  fun _ _ _ H _ I h=>ld_blt I hg hm hv ⟨v,H,I,r,h⟩ hn hd
variable {a b:Expr} {ta tb:TE} {pos:Pos}
def PC (X:Cx) (op:CmpOp) (a b:Expr) (t:TE):Prop :=
  ∀ (pins:List (Addr × Obj)) (s:Shared) (σ:St) (H:Hp) (Q:VK),Inv X pins σ H s->t σ H Q ->
    wpAny (model X.prog X.w) X.A (eval a X.env) (fun v s₁=>wpAny (model X.prog X.w) X.A (eval b X.env) (fun u s₂=>wpAny (model X.prog X.w) X.A (compareOp op v u) (EP X pins σ Q) X.xe s₂) X.xe s₁) X.xe s
theorem nobehind (b:Expr) {op:CmpOp} (h:op≠.In) (h2:op≠.NotIn):behindInMarks op b=false:=by
  have e1:(op == CmpOp.In)=false:=by cases op <;> first | rfl | exact absurd rfl h
  have e2:(op == CmpOp.NotIn)=false:=by cases op <;> first | rfl | exact absurd rfl h2
  cases b <;> simp [behindInMarks,e1,e2]
def tIsN (ta:TE):TE:=fun σ H Q=>ta σ H fun x H1=>Q (.bl (decide (x=.non))) H1
def tNotN (ta:TE):TE:=fun σ H Q=>ta σ H fun x H1=>Q (.bl (!decide (x=.non))) H1
theorem RelV.none_iff {x:V} {v:Value} (r:RelV x v):(v == Value.none)=decide (x=.non):=by
  cases x with
  | non=>cases r; rfl
  | bl _=>cases r; rfl
  | int _=>obtain ⟨t,rfl⟩:=r; rfl
  | str _=>obtain ⟨t,rfl⟩:=r; rfl
  | byt _=>obtain ⟨t,rfl⟩:=r; rfl
  | flt _=>obtain ⟨t,rfl⟩:=r; rfl
  | ref _=>cases r; rfl
  | ty _=>cases r; rfl
theorem pc_isN {j pos'} (ha:PE X a ta):PC X .Is a (.Constant .none j pos') (tIsN ta):=by
  intro pins s σ H Q I h
  refine thn (ha pins s σ H _ I h) fun v s1 ⟨x,H1,I1,r1,q1⟩=>?_
  exact Constant_none (is_none_gen ⟨.bl _,H1,I1,by rw [r1.none_iff]; rfl,q1⟩)
theorem pc_notN {j pos'} (ha:PE X a ta):PC X .IsNot a (.Constant .none j pos') (tNotN ta):=by
  intro pins s σ H Q I h
  refine thn (ha pins s σ H _ I h) fun v s1 ⟨x,H1,I1,r1,q1⟩=>?_
  exact Constant_none (isnot_none_gen ⟨.bl _,H1,I1,by rw [r1.none_iff]; rfl,q1⟩)
def tB (t:TE):TT:=fun σ H Q=>t σ H fun x H1=>∃ c,x=.bl c/\Q c H1
theorem pe_cmp {op:CmpOp} {t:TE} (h:PC X op a b t) (h1:behindInMarks op b=false:=by first | exact nobehind _ (by decide) (by decide) | rfl):PE X (.Compare a [op] [b] pos) t:=fun pins s σ H Q I hw=>wpAny_Compare1 (h pins s σ H Q I hw) h1
theorem pt_cmp {op:CmpOp} {t:TE} (h:PC X op a b t) (h1:behindInMarks op b=false:=by first | exact nobehind _ (by decide) (by decide) | rfl):PT X (.Compare a [op] [b] pos) (tB t):=by
  intro pins s σ H Q I hw
  refine wpAny_isTrue_Compare1 (thn (h pins s σ H _ I hw) fun v s1 h1=>thn h1 fun u s2 h2=>thn h2 fun c s3 ⟨x,H1,I1,r1,q1⟩=>?_) h1
  obtain ⟨d,rfl,q⟩:=q1
  cases r1
  exact wpAny_truthy_bool ⟨H1,I1,q⟩
theorem pt_val {e:Expr} {t:TE} (h:PE X e t) (he:∀ whole,isTrue e X.env whole=(do let v <- whole; standAt e.pos; holding [v] (truthy v)):=by intro _; rfl):PT X e (tB t):=by
  intro pins s σ H Q I hw
  refine isTrue_plain (thn (h pins s σ H _ I hw) fun v s1 ⟨x,H1,I1,r1,q1⟩=>?_) (he _)
  obtain ⟨d,rfl,q⟩:=q1
  cases r1
  exact wpAny_truthy_bool ⟨H1,I1,q⟩
variable {tA tB':TT} {rest:List Expr}
def tAnd (t u:TT):TT:=fun σ H Q=>t σ H fun c H1=>if c=true then u σ H1 Q else Q false H1
def tOr (t u:TT):TT:=fun σ H Q=>t σ H fun c H1=>if c=true then Q true H1 else u σ H1 Q
def tNot (t:TT):TT:=fun σ H Q=>t σ H fun c H1=>Q (!c) H1
theorem pw_and1 (ha:PT X a tA):PW X (.BoolOp .And [a] pos) tA:=by
  intro wh pins s σ H Q I h
  refine isTrue_and (thn (ha pins s σ H Q I h) fun c s1 e=>?_)
  cases c with
  | true=>exact isTrue_and_nil e
  | false=>exact e
theorem pw_or1 (ha:PT X a tA):PW X (.BoolOp .Or [a] pos) tA:=by
  intro wh pins s σ H Q I h
  refine isTrue_or (thn (ha pins s σ H Q I h) fun c s1 e=>?_)
  cases c with
  | false=>exact isTrue_or_nil e
  | true=>exact e
theorem pw_and (ha:PT X a tA) (hb:PW X (.BoolOp .And (b :: rest) pos) tB'):PW X (.BoolOp .And (a :: b :: rest) pos) (tAnd tA tB'):=by
  intro wh pins s σ H Q I h
  refine isTrue_and (thn (ha pins s σ H _ I h) fun c s1 ⟨H1,I1,q1⟩=>?_)
  cases c with
  | true=>exact hb wh pins s1 σ H1 Q I1 q1
  | false=>exact ⟨H1,I1,q1⟩
theorem pw_or (ha:PT X a tA) (hb:PW X (.BoolOp .Or (b :: rest) pos) tB'):PW X (.BoolOp .Or (a :: b :: rest) pos) (tOr tA tB'):=by
  intro wh pins s σ H Q I h
  refine isTrue_or (thn (ha pins s σ H _ I h) fun c s1 ⟨H1,I1,q1⟩=>?_)
  cases c with
  | true=>exact ⟨H1,I1,q1⟩
  | false=>exact hb wh pins s1 σ H1 Q I1 q1
theorem pt_not (ha:PT X a tA):PT X (.UnaryOp .Not a pos) (tNot tA):=by
  intro pins s σ H Q I h
  exact isTrue_not (ha pins s σ H (fun c H1=>Q (!c) H1) I h)
def tAndV (ta tb:TE):TE:=fun σ H Q=>ta σ H fun x H1=>∃ c,x=.bl c/\if c=true then tb σ H1 Q else Q (.bl false) H1
def tOrV (ta tb:TE):TE:=fun σ H Q=>ta σ H fun x H1=>∃ c,x=.bl c/\if c=true then Q (.bl true) H1 else tb σ H1 Q
theorem pe_one {op} {t:TE} (h:PE X a t):PE X (.BoolOp op [a] pos) t:=fun pins s σ H Q I hw=>BoolOp_one (h pins s σ H Q I hw)
theorem pe_and (ha:PE X a ta) (hb:PE X (.BoolOp .And (b :: rest) pos) tb):PE X (.BoolOp .And (a :: b :: rest) pos) (tAndV ta tb):=by
  intro pins s σ H Q I h
  refine BoolOp_and (thn (ha pins s σ H _ I h) fun v s1 ⟨x,H1,I1,r1,q1⟩=>?_)
  obtain ⟨c,rfl,q1⟩:=q1
  cases r1
  refine wpAny_truthy_bool ?_
  cases c with
  | true=>exact hb pins s1 σ H1 Q I1 q1
  | false=>exact ⟨.bl false,H1,I1,rfl,q1⟩
theorem pe_or (ha:PE X a ta) (hb:PE X (.BoolOp .Or (b :: rest) pos) tb):PE X (.BoolOp .Or (a :: b :: rest) pos) (tOrV ta tb):=by
  intro pins s σ H Q I h
  refine BoolOp_or (thn (ha pins s σ H _ I h) fun v s1 ⟨x,H1,I1,r1,q1⟩=>?_)
  obtain ⟨c,rfl,q1⟩:=q1
  cases r1
  refine wpAny_truthy_bool ?_
  cases c with
  | false=>exact hb pins s1 σ H1 Q I1 q1
  | true=>exact ⟨.bl true,H1,I1,rfl,q1⟩
def tIf (t:TT) (ta tb:TE):TE:=fun σ H Q=>t σ H fun c H1=>if c=true then ta σ H1 Q else tb σ H1 Q
theorem pe_ifExp {c:Expr} (hc:PT X c tA) (ha:PE X a ta) (hb:PE X b tb):PE X (.IfExp c a b pos) (tIf tA ta tb):=by
  intro pins s σ H Q I h
  refine wpAny_IfExp (thn (hc pins s σ H _ I h) fun d s1 ⟨H1,I1,q1⟩=>?_)
  cases d with
  | true=>exact ha pins s1 σ H1 Q I1 q1
  | false=>exact hb pins s1 σ H1 Q I1 q1
end
end L2
namespace L2
open PySem PySem.Spec PyProof.Rows
def SqL (K:PySem.W.Frag) (H:Hp) (a:Addr) (xs:List V):Prop :=
  Rd H a (.lst xs) \/
    ∃ (o:Obj) (its:Array Value) (n:Nat),K.lookup a=some o/\o.cls=.type "list"/\o.dict=none/\o.data=.seq its n/\its.size<=sizeLine/\Vals xs its.toList
def SqT (K:PySem.W.Frag) (H:Hp) (a:Addr) (xs:List V):Prop :=
  Rd H a (.tup xs) \/
    ∃ (o:Obj) (its:Array Value) (n:Nat),K.lookup a=some o/\o.cls=.type "tuple"/\o.data=.seq its n/\its.size<=sizeLine/\Vals xs its.toList
def absV:Value->Option V
  | .none=>some .non
  | .bool b=>some (.bl b)
  | .int i _=>some (.int i)
  | .str x _=>some (.str x)
  | .bytes b _=>some (.byt b)
  | .float b _=>some (.flt b)
  | .ref a=>some (.ref a)
  | .type n=>some (.ty n)
  | _=>none
theorem RelV.abs {x:V} {u:Value} (r:RelV x u):absV u=some x:=by
  cases x with
  | non=>cases r; rfl
  | bl _=>cases r; rfl
  | int _=>obtain ⟨t,rfl⟩:=r; rfl
  | str _=>obtain ⟨t,rfl⟩:=r; rfl
  | byt _=>obtain ⟨t,rfl⟩:=r; rfl
  | flt _=>obtain ⟨t,rfl⟩:=r; rfl
  | ref _=>cases r; rfl
  | ty _=>cases r; rfl
theorem RelV.inj {x y:V} {u:Value} (r:RelV x u) (q:RelV y u):x=y:=Option.some.inj (r.abs.symm.trans q.abs)
theorem Vals.inj:∀ {xs ys:List V} {us:List Value},Vals xs us->Vals ys us->xs=ys
  | _,_,_,.nil,.nil=>rfl
  | _,_,_,.cons r t,.cons r' t'=>by rw [r.inj r',Vals.inj t t']
section
variable {X:Cx} {pins:List (Addr × Obj)} {σ:St} {H:Hp} {s:Shared} {a:Addr} {xs ys:List V}
theorem SqL.of {K:PySem.W.Frag} (h:H a=some (.lst xs)):SqL K H a xs:=.inl (.inl h)
theorem SqT.of {K:PySem.W.Frag} (h:H a=some (.tup xs)):SqT K H a xs:=.inl (.inl h)
theorem Inv.list (I:Inv X pins σ H s) (h:SqL X.K H a xs):∃ its:List Value,Vals xs its/\PlainL s.heap a its.toArray/\xs.length<=sizeLine:=by
  rcases h with h | ⟨o,its,n,hk,hc,hd,hs,hz,r⟩
  · obtain ⟨z,its,n,r,e⟩:=h.ok I.hok
    exact ⟨its,r,⟨_,n,e,rfl,rfl,rfl⟩,z⟩
  · refine ⟨its.toList,r,⟨o,n,I.kIn a o hk,hc,hd,by simpa using hs⟩,?_⟩
    have e:=r.length
    simp only [Array.length_toList] at e
    lia
theorem Inv.tuple (I:Inv X pins σ H s) (h:SqT X.K H a xs):∃ its:List Value,Vals xs its/\IsTup s.heap a its.toArray/\xs.length<=sizeLine:=by
  rcases h with h | ⟨o,its,n,hk,hc,hs,hz,r⟩
  · obtain ⟨z,its,r,p⟩:=h.ok I.hok
    exact ⟨its,r,p.is,z⟩
  · refine ⟨its.toList,r,⟨o,I.kIn a o hk,hc,n,by simpa using hs⟩,?_⟩
    have e:=r.length
    simp only [Array.length_toList] at e
    lia
theorem Inv.list_inj (I:Inv X pins σ H s) (h:SqL X.K H a xs) (h':SqL X.K H a ys):xs=ys:=by
  obtain ⟨its,r,⟨o,n,e,_,_,d⟩,_⟩:=I.list h
  obtain ⟨its',r',⟨o',n',e',_,_,d'⟩,_⟩:=I.list h'
  rw [e] at e'; cases e'
  rw [d] at d'
  injection d' with d1 _
  have:its=its':=by simpa using congrArg Array.toList d1
  subst this
  exact r.inj r'
theorem Inv.tuple_inj (I:Inv X pins σ H s) (h:SqT X.K H a xs) (h':SqT X.K H a ys):xs=ys:=by
  obtain ⟨its,r,⟨o,e,_,n,d⟩,_⟩:=I.tuple h
  obtain ⟨its',r',⟨o',e',_,n',d'⟩,_⟩:=I.tuple h'
  rw [e] at e'; cases e'
  rw [d] at d'
  injection d' with d1 _
  have:its=its':=by simpa using congrArg Array.toList d1
  subst this
  exact r.inj r'
end
abbrev Cx.wish (X:Cx) (E:Value->Shared->Prop):Cx:={ X with xe:=E }
abbrev Cx.nox (X:Cx):Cx:=X.wish fun _ _=>False
theorem Cx.Ok.wish {X:Cx} (ok:X.Ok) (E:Value->Shared->Prop):(X.wish E).Ok :=
  ⟨ok.mod,ok.kind,ok.glob,ok.blt,ok.above,ok.inj,ok.has,ok.cab,ok.hd,ok.frames,ok.stk,ok.exf,ok.bs,ok.bsz,ok.noex,ok.exfs,ok.funs,ok.frf⟩
theorem Cx.Ok.unwish {X:Cx} {E:Value->Shared->Prop} (ok:(X.wish E).Ok):X.Ok :=
  ⟨ok.mod,ok.kind,ok.glob,ok.blt,ok.above,ok.inj,ok.has,ok.cab,ok.hd,ok.frames,ok.stk,ok.exf,ok.bs,ok.bsz,ok.noex,ok.exfs,ok.funs,ok.frf⟩
section
variable {X:Cx} {pins:List (Addr × Obj)} {σ:St} {H:Hp} {s:Shared} {E:Value->Shared->Prop}
theorem Inv.wish (I:Inv X pins σ H s) (E:Value->Shared->Prop):Inv (X.wish E) pins σ H s:=⟨I.ok.wish E,I.os,I.bare,I.base,I.loc,I.cell,I.free,I.freeC,I.pin,I.hok,I.len⟩
theorem Inv.unwish (I:Inv (X.wish E) pins σ H s):Inv X pins σ H s:=⟨I.ok.unwish,I.os,I.bare,I.base,I.loc,I.cell,I.free,I.freeC,I.pin,I.hok,I.len⟩
theorem SP.unwish {D:Ends} {f:Flow} {s':Shared} (h:SP (X.wish E) pins D f s'):SP X pins D f s':=by
  cases f with
  | next=>obtain ⟨σ',H',I,q⟩:=h; exact ⟨σ',H',I.unwish,q⟩
  | brk=>obtain ⟨σ',H',I,q⟩:=h; exact ⟨σ',H',I.unwish,q⟩
  | cont=>obtain ⟨σ',H',I,q⟩:=h; exact ⟨σ',H',I.unwish,q⟩
  | ret u=>obtain ⟨v,σ',H',I,r,q⟩:=h; exact ⟨v,σ',H',I.unwish,r,q⟩
theorem PE.nox {e:Expr} {t:TE} (h:PE X.nox e t):PE X e t:=fun pins s σ H Q I hw =>
  wpAny_mono (h pins s σ H Q (I.wish _) hw) (fun _ _ ⟨v,H',I',r,q⟩=>⟨v,H',I'.unwish,r,q⟩) fun _ _ z=>False.elim z
theorem PT.nox {e:Expr} {t:TT} (h:PT X.nox e t):PT X e t:=fun pins s σ H Q I hw =>
  wpAny_mono (h pins s σ H Q (I.wish _) hw) (fun _ _ ⟨H',I',q⟩=>⟨H',I'.unwish,q⟩) fun _ _ z=>False.elim z
theorem PSs.nox {st:List Stmt} {t:TS} (h:PSs X.nox st t):PSs X st t:=fun pins s σ H D I hw =>
  wpAny_mono (h pins s σ H D (I.wish _) hw) (fun _ _ q=>q.unwish) fun _ _ z=>False.elim z
end
section
variable {X:Cx} {st:Stmt} {rest:List Stmt} {t u:TS} {e:Expr} {te:TE} {pos:Pos}
def tNext:TS:=fun D σ H=>D.nx σ H
def tSeq (t u:TS):TS:=fun D σ H=>t { D with nx:=u D } σ H
theorem pss_nil:PSs X [] tNext:=fun _ _ σ H _ I h=>wpAny_execs_nil ⟨σ,H,I,h⟩
theorem pss_cons (h1:PS X st t) (h2:PSs X rest u):PSs X (st :: rest) (tSeq t u):=by
  intro pins s σ H D I h
  refine wpAny_execs_cons (thn (h1 pins s σ H { D with nx:=u D } I h) fun f s1 q=>?_)
  cases f with
  | next =>
    obtain ⟨σ',H',I',q⟩:=q
    exact h2 pins s1 σ' H' D I' q
  | ret v=>exact q
  | brk=>exact q
  | cont=>exact q
theorem pss_one (h1:PS X st t):PSs X [st] t:=by
  intro pins s σ H D I h
  refine wpAny_execs_cons (thn (h1 pins s σ H D I h) fun f s1 q=>?_)
  cases f with
  | next=>exact wpAny_execs_nil q
  | ret v=>exact q
  | brk=>exact q
  | cont=>exact q
theorem Inv.quiet {pins:List (Addr × Obj)} {σ:St} {H:Hp} {s:Shared} (I:Inv X pins σ H s):interactive X.env=false:=by simp [interactive,I.ok.kind]
def tDrop (te:TE):TS:=fun D σ H=>te σ H fun _ H1=>D.nx σ H1
theorem ps_expr (he:PE X e te) (hs:swapsWith e none pos.line X.env=pure false:=by rfl):PS X (.Expr e pos) (tDrop te):=by
  intro pins s σ H D I h
  exact wpAny_Expr_any (thn (he pins s σ H _ I h) fun v s1 ⟨x,H1,I1,r1,q1⟩=>⟨σ,H1,I1,q1⟩) I.quiet hs
def tRet (te:TE):TS:=fun D σ H=>te σ H D.rt
theorem ps_ret (he:PE X e te):PS X (.Return (some e) pos) (tRet te):=by
  intro pins s σ H D I h
  exact wpAny_Return_some (thn (he pins s σ H _ I h) fun v s1 ⟨x,H1,I1,r1,q1⟩=>⟨x,σ,H1,I1,r1,q1⟩)
def tRetN:TS:=fun D _ H=>D.rt .non H
theorem ps_retN:PS X (.Return none pos) tRetN:=fun _ _ σ H _ I h=>wpAny_Return_none ⟨.non,σ,H,I,rfl,h⟩
def tIfS (c:TT) (t u:TS):TS:=fun D σ H=>c σ H fun b H1=>if b=true then t D σ H1 else u D σ H1
theorem ps_if {c:Expr} {a b:List Stmt} {tc:TT} (hc:PT X c tc) (ha:PSs X a t) (hb:PSs X b u):PS X (.If c a b pos) (tIfS tc t u):=by
  intro pins s σ H D I h
  refine wpAny_If (thn (hc pins s σ H _ I h) fun d s1 ⟨H1,I1,q1⟩=>?_)
  cases d with
  | true=>exact ha pins s1 σ H1 D I1 q1
  | false=>exact hb pins s1 σ H1 D I1 q1
end
abbrev TG:=V->St->Hp->(St->Hp->Prop)->Prop
abbrev TGs:=List V->St->Hp->(St->Hp->Prop)->Prop
def PG (X:Cx) (target:Expr) (t:TG):Prop :=
  ∀ (pins:List (Addr × Obj)) (s:Shared) (σ:St) (H:Hp) (v:V) (u:Value) (Q:St->Hp->Prop),Inv X pins σ H s->RelV v u->t v σ H Q ->
    wpAny (model X.prog X.w) X.A (assign target X.env u) (fun _ s'=>∃ σ' H',Inv X pins σ' H' s'/\Q σ' H') X.xe s
def PGs (X:Cx) (ts:List Expr) (t:TGs):Prop :=
  ∀ (pins:List (Addr × Obj)) (s:Shared) (σ:St) (H:Hp) (vs:List V) (us:List Value) (Q:St->Hp->Prop),Inv X pins σ H s->Vals vs us->t vs σ H Q ->
    wpAny (model X.prog X.w) X.A (assignInOrder ((assignEach ts X.env).map (·.2)) us) (fun _ s'=>∃ σ' H',Inv X pins σ' H' s'/\Q σ' H') X.xe s
abbrev TSet:=V->V->V->Hp->(Hp->Prop)->Prop
def PSet (X:Cx) (t:TSet):Prop :=
  ∀ (pins:List (Addr × Obj)) (s:Shared) (σ:St) (H:Hp) (o i v:V) (ov iv u:Value) (Q:Hp->Prop),Inv X pins σ H s->RelV o ov->RelV i iv->RelV v u->t o i v H Q ->
    wpAny (model X.prog X.w) X.A (setItem ov iv u) (fun _ s'=>∃ H',Inv X pins σ H' s'/\Q H') X.xe s
section
variable {X:Cx} {pos:Pos}
def gName (i:Nat):TG:=fun v σ H Q=>Q (σ.set i (some v)) H
theorem pg_name {i:Nat} {x:Str} (hN:X.N.Nodup) (hi:X.N[i]?=some x) (hx:Loc X.env.scope x) (hf:X.fn x=true\/X.env.scope.names.lookup x=some .local:=by first | exact .inl rfl | exact .inr rfl | assumption):PG X (.Name x pos) (gName i):=by
  intro pins s σ H v u Q I r h
  exact wpAny_assign_Name (store_ok I hN hi hx r (fun s' I'=>⟨_,H,I',h⟩) hf)
def gNil:TGs:=fun vs σ H Q=>vs=[]/\Q σ H
def gCons (t:TG) (u:TGs):TGs:=fun vs σ H Q=>∃ v r,vs=v :: r/\t v σ H fun σ' H'=>u r σ' H' Q
theorem pgs_nil:PGs X [] gNil:=by
  intro pins s σ H vs us Q I r h
  obtain ⟨e,h⟩:=h
  subst e
  cases r
  exact assignInOrder_nil ⟨σ,H,I,h⟩
theorem pgs_cons {e:Expr} {es:List Expr} {t:TG} {u:TGs} (h1:PG X e t) (h2:PGs X es u)
    (hs:(assignEach (e :: es) X.env).map (·.2)=assign e X.env :: (assignEach es X.env).map (·.2):=by rfl):PGs X (e :: es) (gCons t u):=by
  intro pins s σ H vs us Q I r h
  obtain ⟨v,vr,e1,h⟩:=h
  subst e1
  cases r with
  | cons r rr =>
    rw [hs]
    refine assignInOrder_cons (thn (h1 pins s σ H _ _ _ I r h) fun _ s1 ⟨σ1,H1,I1,q1⟩=>?_)
    exact h2 pins s1 σ1 H1 _ _ Q I1 rr q1
def gTup (K:PySem.W.Frag) (n:Nat) (t:TGs):TG:=fun v σ H Q=>∃ a xs,v=.ref a/\SqT K H a xs/\xs.length=n/\t xs σ H Q
theorem pg_tup {es:List Expr} {k:Nat} {t:TGs} {n:Nat} (hc:X.calm=true) (h:PGs X es t)
    (hn:(assignEach es X.env).length=n:=by rfl) (hst:(assignEach es X.env).findIdx? (·.1)=none:=by rfl):PG X (.Tuple es k pos) (gTup X.K n t):=by
  intro pins s σ H v u Q I r hw
  obtain ⟨a,xs,e1,hq,hl,hw⟩:=hw
  subst e1
  cases r
  obtain ⟨its,rv,ht,hz⟩:=I.tuple hq
  refine assign_Tuple_tuple (I.ok.hd hc) ht (by simp [hn,<- hl,rv.length]) hst fun h' hx=>?_
  have I1:Inv X pins σ H { s with heap:=h' }:=I.kept (t':=s.toks) fun b o e=>hx b o (Nat.ne_of_lt (Heap.lt_size e)) e
  exact h pins _ σ H xs _ Q I1 (by simpa using rv) hw
def gSub (to ti:TE) (t:TSet):TG:=fun v σ H Q=>to σ H fun o H1=>ti σ H1 fun i H2=>t o i v H2 fun H3=>Q σ H3
theorem pg_sub {o i:Expr} {to ti:TE} {t:TSet} (ho:PE X o to) (hi:PE X i ti) (hs:PSet X t)
    (ha:∀ v,assign (.Subscript o i pos) X.env v=(do
      let ov <- holding [v] (eval o X.env)
      let iv <- holding [v,ov] (eval i X.env)
      standAt pos
      holding [v,ov,iv] (setItem ov iv v)
      release [v,ov,iv] []):=by intro _; rfl):PG X (.Subscript o i pos) (gSub to ti t):=by
  intro pins s σ H v u Q I r h
  rw [ha]
  refine wpAny_bind (wpAny_holding (thn (ho pins s σ H _ I h) fun ov s1 ⟨x,H1,I1,r1,q1⟩=>?_))
  refine wpAny_bind (wpAny_holding (thn (hi pins s1 σ H1 _ I1 q1) fun iv s2 ⟨y,H2,I2,r2,q2⟩=>?_))
  refine wpAny_bind (wpAny_standAt (wpAny_bind (wpAny_holding (thn (hs pins s2 σ H2 x y v ov iv u _ I2 r1 r2 r q2) fun _ s3 ⟨H3,I3,q3⟩=>?_))))
  exact wpAny_release ⟨σ,H3,I3,q3⟩
def tAsg (te:TE) (g:TG):TS:=fun D σ H=>te σ H fun x H1=>g x σ H1 D.nx
theorem ps_asg {tg e:Expr} {te:TE} {g:TG} (he:PE X e te) (hg:PG X tg g) (hs:swapsWithSole [tg] e pos.line X.env=pure false:=by rfl) (hw:swappedStores [tg] e X.env=pure none:=by rfl)
    (h1:(assignEach [tg] X.env).map (·.2)=[assign tg X.env]:=by rfl):PS X (.Assign [tg] e pos) (tAsg te g):=by
  intro pins s σ H D I h
  refine wpAny_Assign_stores (thn (he pins s σ H _ I h) fun v s1 ⟨x,H1,I1,r1,q1⟩=>?_) hs hw
  rw [h1]
  exact thn (hg pins s1 σ H1 x v _ I1 r1 q1) fun _ s2 q=>q
theorem ps_set {i:Nat} {x:Str} {e:Expr} {te:TE} {pos':Pos} (hN:X.N.Nodup) (hi:X.N[i]?=some x) (hx:Loc X.env.scope x) (he:PE X e te) (hs:swapsWith e (some (.Name x pos')) pos.line X.env=pure false:=by rfl) (hf:X.fn x=true\/X.env.scope.names.lookup x=some .local:=by first | exact .inl rfl | exact .inr rfl | assumption) :
    PS X (.Assign [.Name x pos'] e pos) (tAsg te (gName i)):=by
  intro pins s σ H D I h
  refine wpAny_Assign_Name (thn (he pins s σ H _ I h) fun v s1 ⟨y,H1,I1,r1,q1⟩=>?_) hs
  exact store_ok I1 hN hi hx r1 (fun s2 I2=>⟨_,H1,I2,q1⟩) hf
end
section
variable {X:Cx} {pos:Pos}
def tWhile (c:TT) (tb:TS):TS:=fun D σ H=>∃ W:Nat->St->Hp->Prop,(∃ m,W m σ H)/\∀ m σ H,W m σ H ->
  c σ H fun b H1=>if b=true then ∃ N:St->Hp->Prop,(∀ σ' H',N σ' H'->∃ m',m' < m/\W m' σ' H')/\tb { D with nx:=N,ct:=N,bk:=D.nx } σ H1 else D.nx σ H1
theorem ps_while {c:Expr} {body:List Stmt} {tc:TT} {tb:TS} (hp:PassesOwn (model X.prog X.w) X.A X.env X.xe) (hc:PT X c tc) (hb:PSs X body tb):PS X (.While c body [] pos) (tWhile tc tb):=by
  intro pins s σ H D I h
  obtain ⟨W,⟨m0,w0⟩,turn⟩:=h
  refine wpAny_While (codeAny_whileLoop (fun n s'=>∃ σ' H',Inv X pins σ' H' s'/\W n σ' H') ?_ m0 ⟨σ,H,I,w0⟩)
  rintro n s1 ⟨σ1,H1,I1,w1⟩
  refine wpAny_passesOwn hp (thn (hc pins s1 σ1 H1 _ I1 (turn n σ1 H1 w1)) fun b s2 ⟨H2,I2,q2⟩=>?_)
  cases b with
  | true =>
    obtain ⟨N,hN,q2⟩:=q2
    rw [if_pos rfl]
    refine wpAny_passesOwn hp (thn (hb pins s2 σ1 H2 _ I2 q2) fun f s3 q3=>?_)
    cases f with
    | next =>
      obtain ⟨σ3,H3,I3,n3⟩:=q3
      obtain ⟨m',hm,w3⟩:=hN σ3 H3 n3
      exact ⟨m',hm,σ3,H3,I3,w3⟩
    | cont =>
      obtain ⟨σ3,H3,I3,n3⟩:=q3
      obtain ⟨m',hm,w3⟩:=hN σ3 H3 n3
      exact ⟨m',hm,σ3,H3,I3,w3⟩
    | brk=>exact q3
    | ret v=>exact q3
  | false =>
    rw [if_neg Bool.false_ne_true]
    exact wpAny_execs_nil ⟨σ1,H2,I2,q2⟩
end
structure It where
  go:Nat->Hp->Prop
  yld:Nat->Hp->V->Hp->Prop
  stop:Nat->Hp->Prop
def FpOk (X:Cx) (pins:List (Addr × Obj)) (H:Hp) (b:Addr):Prop :=
  H b=none/\b≠X.env.locals/\b ∉ X.fs/\(b∈X.ex\/X.s₀.heap.objs.size<=b)/\(∀ x c,X.env.cells.lookup x=some c->c≠b)/\∀ p∈X.pn ++ pins,p.1≠b
theorem Inv.fpOk {X:Cx} {pins:List (Addr × Obj)} {σ:St} {H H':Hp} {s:Shared} {b:Addr} (I:Inv X pins σ H s) (hb:s.heap.objs.size<=b) (hn:H' b=none):FpOk X pins H' b:=by
  refine ⟨hn,Nat.ne_of_gt (Nat.lt_of_lt_of_le I.lt hb),I.nofs hb,.inr (Nat.le_trans I.sz hb),fun x c e z=>?_,fun p hp z=>?_⟩
  · obtain ⟨v,q⟩:=I.cell x c e
    exact absurd (Nat.lt_of_lt_of_le q.lt (by rw [z]; exact hb)) (Nat.lt_irrefl _)
  · exact absurd (Nat.lt_of_lt_of_le (Heap.lt_size (I.pin p hp).1) (by rw [z]; exact hb)) (Nat.lt_irrefl _)
structure Turn (P:Program) (w:World) (K:PySem.W.Frag) (tg:Expr) (J:It) (fp:List Addr) (it:Addr) (tn:Nat->Heap->Prop):Prop where
  mem:it∈fp
  obj:∀ i h,tn i h->∀ b∈fp,∃ o,h.get? b=some o/\∀ v,o.data≠.cell v
  keep:∀ i h h',tn i h->(∀ b∈fp,∀ o,h.get? b=some o->h'.get? b=some o)->tn i h'
  item:∀ (X:Cx),X.prog=P->X.w=w->X.K=K->X.calm=true->∀ (i:Nat) (pins:List (Addr × Obj)) (s:Shared) (σ:St) (H:Hp) (E:Value->Shared->Prop),Inv X pins σ H s->(∀ b∈fp,FpOk X pins H b)->tn i s.heap->J.go i H ->
    wpAny (model P w) X.A (pyNext (.ref it)) (fun r s1=>∃ u,r=some u /\
      wpAny (model P w) X.A (letOwnedTupleGo tg (.ref it) u) (fun _ s2=>∃ x H',Inv X pins σ H' s2/\RelV x u/\J.yld i H x H'/\tn (i + 1) s2.heap/\∀ b∈fp,H' b=none) E s1) E s
  done:∀ (X:Cx),X.prog=P->X.w=w->X.K=K->X.calm=true->∀ (i:Nat) (pins:List (Addr × Obj)) (s:Shared) (σ:St) (H:Hp) (E:Value->Shared->Prop),Inv X pins σ H s->(∀ b∈fp,FpOk X pins H b)->tn i s.heap->J.stop i H ->
    wpAny (model P w) X.A (pyNext (.ref it)) (fun r s1=>r=none/\Inv X pins σ H s1) E s
  self:∀ (A:Around) (i:Nat) (s:Shared) (Q:Value->Shared->Prop) (E:Value->Shared->Prop),tn i s.heap->Q (.ref it) s->wpAny (model P w) A (pyIter (.ref it)) Q E s
abbrev TI:=St->Hp->(It->Hp->Prop)->Prop
def PIE (X:Cx) (pins:List (Addr × Obj)) (σ:St) (tg:Expr) (R:It->Hp->Prop) (itv:Value) (s2:Shared):Prop :=
  ∃ (it:Addr) (fp:List Addr) (tn:Nat->Heap->Prop) (J:It) (H':Hp),itv=.ref it/\Inv X pins σ H' s2/\Turn X.prog X.w X.K tg J fp it tn/\tn 0 s2.heap/\(∀ b∈fp,FpOk X pins H' b)/\R J H'
def PI (X:Cx) (tg iter:Expr) (wi:TI):Prop :=
  ∀ (pins:List (Addr × Obj)) (s:Shared) (σ:St) (H:Hp) (R:It->Hp->Prop),Inv X pins σ H s->wi σ H R ->
    wpAny (model X.prog X.w) X.A (eval iter X.env) (fun v s1=>wpAny (model X.prog X.w) X.A (pyIter v) (PIE X pins σ tg R) X.xe s1) X.xe s
theorem go_of {M:Model} {A:Around} {E:Value->Shared->Prop} {s:Shared} {tg:Expr} {it:Addr} {u:Value} {o:Obj} {n:String} {vs:Array Value} {Q:Unit->Shared->Prop} (ho:s.heap.get? it=some o) (hc:o.cls=.type n) (hd:o.data=.fields vs)
    (hn:["enumerate","zip","dict_itemiterator","dict_reverseitemiterator","odict_iterator","itertools.zip_longest","itertools.pairwise"].contains n=false) (hQ:Q () s):wpAny M A (letOwnedTupleGo tg (.ref it) u) Q E s:=by
  unfold letOwnedTupleGo
  cases tg <;> first
    | exact wpAny_pure hQ
    | (cases u <;> first
        | exact wpAny_pure hQ
        | (refine wpAny_bind (wpAny_load ho ?_)
           rw [hc,hd]
           show wpAny M A (if (["enumerate","zip","dict_itemiterator","dict_reverseitemiterator","odict_iterator","itertools.zip_longest","itertools.pairwise"].contains n && vs[0]? == some (rawInt _))=true then _ else _) Q E s
           rw [if_neg (by intro h; rw [hn,Bool.false_and] at h; cases h)]
           exact wpAny_pure hQ))
def Itl (K:PySem.W.Frag) (a:Addr):It :=
  ⟨fun i H=>∃ xs x,SqL K H a xs/\xs[i]?=some x,fun i H x H'=>H'=H/\∀ xs,SqL K H a xs->xs[i]?=some x,fun i H=>∃ xs,SqL K H a xs/\xs.length<=i⟩
def Itr (lo:Int) (n:Nat):It:=⟨fun i _=>i < n,fun i H x H'=>H'=H/\x=.int (lo + i),fun i _=>n<=i⟩
theorem turn_list {P:Program} {w:World} {K:PySem.W.Frag} {tg:Expr} (a it:Addr):Turn P w K tg (Itl K a) [it] it (fun i h=>h.IsListIter it a i) where
  mem:=by simp
  obj:=fun i h st b hb=>by
    have e:b=it:=by simpa using hb
    subst e
    obtain ⟨o,e,c,d⟩:=st
    exact ⟨o,e,fun v z=>by rw [d] at z; cases z⟩
  keep:=fun i h h' st k=>st.at fun o e=>k it (by simp) o e
  item:=by
    intro X hP hw hK hc i pins s σ H E I hf st hg
    subst hP hw hK
    obtain ⟨xs,x,hq,hx⟩:=hg
    obtain ⟨its,rv,p,hz⟩:=I.list hq
    obtain ⟨u,hu,ru⟩:=rv.get hx
    obtain ⟨f0,f1,f2,f3,f4,f5⟩:=hf it (by simp)
    refine wpAny_pyNext_list_item st p.isList (x:=u) (by simpa using hu) fun h' st' sb=>?_
    have I1:Inv X pins σ H { s with heap:=h' }:=I.turned (t':=s.toks) (fun b o hb e=>(sb.2 b hb).trans e) f0 f1 f3 f4 f5
    obtain ⟨o,e,c,d⟩:=id st'
    exact ⟨u,rfl,go_of (s:={ s with heap:=h' }) e c d (by decide) ⟨x,H,I1,ru,⟨rfl,fun ys hy=>by rw [I.list_inj hy hq]; exact hx⟩,st',fun b hb=>(hf b hb).1⟩⟩
  done:=by
    intro X hP hw hK hc i pins s σ H E I hf st hg
    subst hP hw hK
    obtain ⟨xs,hq,hx⟩:=hg
    obtain ⟨its,rv,p,hz⟩:=I.list hq
    obtain ⟨f0,f1,f2,f3,f4,f5⟩:=hf it (by simp)
    have hl:=rv.length
    exact wpAny_pyNext_list_end (I.ok.hd hc) st p.isList (by simp; lia) fun h' eb=>⟨rfl,I.turned (t':=s.toks) (fun b o hb e=>eb b o hb e) f0 f1 f3 f4 f5⟩
  self:=fun _ _ _ _ _ st h=>wpAny_pyIter_listiter st h
theorem turn_range {P:Program} {w:World} {K:PySem.W.Frag} {tg:Expr} (it:Addr) (lo:Int) (n:Nat):Turn P w K tg (Itr lo n) [it] it (fun i h=>IsRangeIter h it (lo + (i:Nat) * 1) ((n:Int) - (i:Nat)) 1) where
  mem:=by simp
  obj:=fun i h st b hb=>by
    have e:b=it:=by simpa using hb
    subst e
    exact ⟨_,st,fun v z=>by
      have z':Data.fields _=Data.cell v:=z
      cases z'⟩
  keep:=fun i h h' st k=>k it (by simp) _ st
  item:=by
    intro X hP hw hK hc i pins s σ H E I hf st hg
    subst hP hw hK
    obtain ⟨f0,f1,f2,f3,f4,f5⟩:=hf it (by simp)
    have W:=Walks.range (prog:=X.prog) (w:=X.w) (I.ok.hd hc) it lo 1 n
    refine W.item i s _ _ hg st fun v h' tk hv st' kk=>?_
    obtain ⟨t,rfl⟩:=hv
    have I1:Inv X pins σ H { s with heap:=h',toks:=tk }:=I.turned (fun b o hb e=>kk b o (by simpa using hb) e) f0 f1 f3 f4 f5
    refine ⟨_,rfl,go_of (s:={ s with heap:=h',toks:=tk }) (n:="range_iterator") st' rfl rfl (by decide) ⟨.int (lo + i),H,I1,⟨t,?_⟩,⟨rfl,rfl⟩,st',fun b hb=>(hf b hb).1⟩⟩
    rw [Int.mul_one]
  done:=by
    intro X hP hw hK hc i pins s σ H E I hf st hg
    subst hP hw hK
    obtain ⟨f0,f1,f2,f3,f4,f5⟩:=hf it (by simp)
    exact wpAny_pyNext_range_end (I.ok.hd hc) st (by have:n<=i:=hg; lia) fun h' eb=>⟨rfl,I.turned (t':=s.toks) (fun b o hb e=>eb b o hb e) f0 f1 f3 f4 f5⟩
  self:=fun _ _ _ _ _ st h=>wpAny_pyIter_rangeiter st h
end L2
namespace L2
open PySem PySem.Spec PyProof.Rows
section
variable {X:Cx} {tg:Expr}
def iList (K:PySem.W.Frag) (tl:TE):TI:=fun σ H R=>tl σ H fun x H1=>∃ a,x=.ref a/\(∃ xs,SqL K H1 a xs)/\R (Itl K a) H1
theorem pi_list {l:Expr} {tl:TE} (hl:PE X l tl):PI X tg l (iList X.K tl):=by
  intro pins s σ H R I h
  refine thn (hl pins s σ H _ I h) fun v s1 ⟨x,H1,I1,r1,q1⟩=>?_
  obtain ⟨a,e,⟨xs,hq⟩,q⟩:=q1
  subst e
  cases r1
  obtain ⟨its,rv,p,hz⟩:=I1.list hq
  refine wpAny_pyIter_list p.isList ?_
  refine ⟨s1.heap.objs.size,[s1.heap.objs.size],_,_,H1,rfl,I1.kept (t':=s1.toks) fun b o e=>Heap.get?_push_of_some _ e,turn_list a _,⟨_,Heap.get?_push_size _ rfl,rfl,rfl⟩,fun b hb=>?_,q⟩
  have e:b=s1.heap.objs.size:=by simpa using hb
  subst e
  exact I1.fpOk (Nat.le_refl _) (I1.hok.fresh (Nat.le_refl _))
theorem range_it {pins:List (Addr × Obj)} {σ:St} {H:Hp} {s:Shared} {R:It->Hp->Prop} {E:Value->Shared->Prop} {lo hi:Int} {t u v:Tok} {tk:Nat} (I:Inv X pins σ H s) (h1:-(2 ^ 62)<=lo) (h2:lo < 2 ^ 62) (h3:-(2 ^ 62)<=hi) (h4:hi < 2 ^ 62)
    (q:R (Itr lo (hi - lo).toNat) H):wpAny (model X.prog X.w) X.A (pyIter (.ref s.heap.objs.size)) (PIE X pins σ tg R) E { s with heap:=s.heap.push { cls:=.type "range",data:=.fields #[.int lo t,.int hi u,.int 1 v] },toks:=tk }:=by
  refine wpAny_pyIter_range (IsRange.new ..) (small_one h1 h2 h3 h4) ?_
  have I1:Inv X pins σ H { s with heap:=s.heap.push { cls:=.type "range",data:=.fields #[.int lo t,.int hi u,.int 1 v] },toks:=tk }:=I.kept fun b o e=>Heap.get?_push_of_some _ e
  refine ⟨(s.heap.push { cls:=.type "range",data:=.fields #[.int lo t,.int hi u,.int 1 v] }).objs.size,[(s.heap.push { cls:=.type "range",data:=.fields #[.int lo t,.int hi u,.int 1 v] }).objs.size],_,_,H,rfl,
    I1.kept (t':=tk) fun b o e=>Heap.get?_push_of_some _ e,turn_range _ lo (hi - lo).toNat,?_,fun b hb=>?_,q⟩
  · have e1:lo + ((0:Nat):Int) * 1=lo:=by simp
    have e2:(((hi - lo).toNat:Nat):Int) - ((0:Nat):Int)=Builtin.Range.rangeSize lo hi 1:=by rw [rangeSize_one]; split <;> lia
    show IsRangeIter _ _ (lo + ((0:Nat):Int) * 1) ((((hi - lo).toNat:Nat):Int) - ((0:Nat):Int)) 1
    rw [e1,e2]
    exact Heap.get?_push_size _ rfl
  · have e:b=(s.heap.push { cls:=.type "range",data:=.fields #[.int lo t,.int hi u,.int 1 v] }).objs.size:=by simpa using hb
    subst e
    exact I1.fpOk (Nat.le_refl _) (I1.hok.fresh (Nat.le_refl _))
def iRng1 (ta:TA):TI:=fun σ H R=>ta σ H fun vs H1=>∃ j:Int,vs=[.int j]/\-(2 ^ 62)<=j/\j < 2 ^ 62/\R (Itr 0 j.toNat) H1
theorem pi_range1 {a:Expr} {ta:TA} {p pos:Pos} (hg:Gl X "range") (hm:X.mg "range"=none) (ha:PA X [a] ta) (hs:starEach [a] X.env=[(false,eval a X.env)]:=by rfl):PI X tg (.Call (.Name "range" p) [a] [] pos) (iRng1 ta):=by
  intro pins s σ H R I h
  refine Call_ (ld_blt I hg hm boot_range (PyProof.Rows.callWith_type1 (thn (ha pos pins s σ H _ I h) fun us s1 ⟨vs,H1,I1,r1,q1⟩=>?_) hs rfl))
  obtain ⟨j,e,q1,q2,q⟩:=q1
  subst e
  cases r1 with
  | cons r rr =>
    cases rr
    obtain ⟨t,rfl⟩:=r
    exact call_range_1 (range_it I1 (by lia) (by lia) q1 q2 (by simpa using q))
def tFor (wi:TI) (g:TG) (tb:TS):TS:=fun D σ H=>wi σ H fun J H1=>∃ W:Nat->Nat->St->Hp->Prop,(∃ m,W 0 m σ H1)/\∀ i m σ H,W i m σ H ->
  (J.stop i H/\D.nx σ H)\/(J.go i H/\∃ N:St->Hp->Prop,(∀ σ' H',N σ' H'->∃ m',m' < m/\W (i + 1) m' σ' H')/\∀ x H',J.yld i H x H'->g x σ H' fun σ2 H2=>tb { D with nx:=N,ct:=N,bk:=D.nx } σ2 H2)
def pinsAt (fp:List Addr) (h:Heap):List (Addr × Obj):=fp.filterMap fun b=>(h.get? b).map fun o=>(b,o)
theorem mem_pinsAt {fp:List Addr} {h:Heap} {b:Addr} {o:Obj} (hb:b∈fp) (e:h.get? b=some o):(b,o)∈pinsAt fp h:=List.mem_filterMap.mpr ⟨b,hb,by rw [e]; rfl⟩
theorem of_pinsAt {fp:List Addr} {h:Heap} {p:Addr × Obj} (hp:p∈pinsAt fp h):p.1∈fp/\h.get? p.1=some p.2:=by
  obtain ⟨b,hb,e⟩:=List.mem_filterMap.mp hp
  cases q:h.get? b with
  | none=>rw [q] at e; cases e
  | some o =>
    rw [q] at e
    have e':(b,o)=p:=Option.some.inj e
    subst e'
    exact ⟨hb,q⟩
theorem Inv.pinned {pins:List (Addr × Obj)} {σ:St} {H:Hp} {s:Shared} {fp:List Addr} (I:Inv X pins σ H s) (hf:∀ b∈fp,FpOk X pins H b) (ho:∀ b∈fp,∃ o,s.heap.get? b=some o/\∀ v,o.data≠.cell v):Inv X (pins ++ pinsAt fp s.heap) σ H s :=
  I.pins_of fun p hp=>(List.mem_append.mp hp).elim (fun z=>I.pin p (List.mem_append_right _ z)) fun z=>by
    obtain ⟨hb,e⟩:=of_pinsAt z
    obtain ⟨f0,f1,f2,_⟩:=hf p.1 hb
    obtain ⟨o,e',d⟩:=ho p.1 hb
    rw [e] at e'; cases e'
    exact ⟨e,f0,f1,f2,d⟩
theorem Inv.unpinned {pins pl:List (Addr × Obj)} {σ:St} {H:Hp} {s:Shared} (I:Inv X (pins ++ pl) σ H s):Inv X pins σ H s:=I.pins_of fun p hp=>I.pin p (List.mem_append_right _ (List.mem_append_left _ hp))
theorem ps_for {iter:Expr} {body:List Stmt} {wi:TI} {g:TG} {tb:TS} {pos:Pos} (hp:PassesOwn (model X.prog X.w) X.A X.env X.xe) (hc:X.calm=true) (hi:PI X tg iter wi) (hg:PG X tg g) (hb:PSs X body tb)
    (hs:∀ x,foldedSetIterable iter X.env x=pure x:=by intro _; rfl):PS X (.For tg iter body [] pos) (tFor wi g tb):=by
  intro pins s σ H D I h
  refine wpAny_For (thn (hi pins s σ H _ I h) fun v s1 h1=>thn h1 fun itv s2 h2=>?_) hs
  obtain ⟨it,fp,tn,J,H2,e,I2,T,st2,f2,W,⟨m0,w0⟩,turn⟩:=h2
  subst e
  -- what stays true of the iterator's objects through the loop
  have stat:∀ {H':Hp},(∀ b∈fp,H' b=none)->∀ b∈fp,FpOk X pins H' b:=fun hn b hb=>⟨hn b hb,(f2 b hb).2⟩
  refine codeAny_forLoop_any (fun n s'=>∃ i σ' H',Inv X pins σ' H' s'/\tn i s'.heap/\(∀ b∈fp,H' b=none)/\W i n σ' H') ?_ m0 ⟨0,σ,H2,I2,st2,fun b hb=>(f2 b hb).1,w0⟩
  rintro n s3 ⟨i,σ3,H3,I3,st3,fr3,w3⟩
  rcases turn i n σ3 H3 w3 with ⟨stop,qn⟩ | ⟨go,N,hN,step⟩
  · refine wpAny_passesOwn hp (thn (T.done X rfl rfl rfl hc i pins s3 σ3 H3 X.xe I3 (stat fr3) st3 stop) fun r s4 ⟨hr,I4⟩=>?_)
    subst hr
    exact wpAny_execs_nil ⟨σ3,H3,I4,qn⟩
  · refine wpAny_passesOwn hp (thn (T.item X rfl rfl rfl hc i pins s3 σ3 H3 X.xe I3 (stat fr3) st3 go) fun r s4 ⟨u,hr,h4⟩=>?_)
    subst hr
    refine wpAny_passesOwn hp (thn h4 fun _ s5 ⟨x,H5,I5,r5,y5,st5,fr5⟩=>?_)
    have I5':=I5.pinned (stat fr5) (T.obj _ _ st5)
    refine wpAny_passesOwn hp (thn (hg _ s5 σ3 H5 x u _ I5' r5 (step x H5 y5)) fun _ s6 ⟨σ6,H6,I6,q6⟩=>?_)
    refine wpAny_passesOwn hp (thn (hb _ s6 σ6 H6 _ I6 q6) fun f s7 q7=>?_)
    have again:∀ {σ7:St} {H7:Hp},Inv X (pins ++ pinsAt fp s5.heap) σ7 H7 s7->N σ7 H7->∃ m,m < n/\∃ i σ' H',Inv X pins σ' H' s7/\tn i s7.heap/\(∀ b∈fp,H' b=none)/\W i m σ' H':=fun {σ7 H7} I7 n7=>by
      obtain ⟨m',hm,w7⟩:=hN σ7 H7 n7
      refine ⟨m',hm,i + 1,σ7,H7,I7.unpinned,T.keep _ _ _ st5 fun b hb o e=>(I7.pin (b,o) (List.mem_append_right _ (List.mem_append_right _ (mem_pinsAt hb e)))).1,fun b hb=>?_,w7⟩
      obtain ⟨o,e,d⟩:=T.obj _ _ st5 b hb
      exact (I7.pin (b,o) (List.mem_append_right _ (List.mem_append_right _ (mem_pinsAt hb e)))).2.1
    cases f with
    | next=>obtain ⟨σ7,H7,I7,n7⟩:=q7; exact again I7 n7
    | cont=>obtain ⟨σ7,H7,I7,n7⟩:=q7; exact again I7 n7
    | brk=>obtain ⟨σ7,H7,I7,q7⟩:=q7; exact ⟨σ7,H7,I7.unpinned,q7⟩
    | ret v=>obtain ⟨x7,σ7,H7,I7,r7,q7⟩:=q7; exact ⟨x7,σ7,H7,I7.unpinned,r7,q7⟩
end
theorem for_list {K:PySem.W.Frag} {a:Addr} {xs:List V} {g:TG} {tb:TS} {D:Ends} {σ:St} {H:Hp} (Pv:Nat->St->Hp->Prop) (h0:Pv 0 σ H) (hl:∀ i σ H,i<=xs.length->Pv i σ H->SqL K H a xs)
    (hs:∀ i x σ H,xs[i]?=some x->Pv i σ H->g x σ H fun σ2 H2=>tb { D with nx:=Pv (i + 1),ct:=Pv (i + 1),bk:=D.nx } σ2 H2) (hd:∀ σ H,Pv xs.length σ H->D.nx σ H) :
    ∃ W:Nat->Nat->St->Hp->Prop,(∃ m,W 0 m σ H)/\∀ i m σ H,W i m σ H ->
      ((Itl K a).stop i H/\D.nx σ H)\/((Itl K a).go i H/\∃ N:St->Hp->Prop,(∀ σ' H',N σ' H'->∃ m',m' < m/\W (i + 1) m' σ' H')/\∀ x H',(Itl K a).yld i H x H'->g x σ H' fun σ2 H2=>tb { D with nx:=N,ct:=N,bk:=D.nx } σ2 H2):=by
  refine ⟨fun i m σ H=>m=xs.length - i/\i<=xs.length/\Pv i σ H,⟨xs.length,by simp,Nat.zero_le _,h0⟩,?_⟩
  rintro i m σ H ⟨rfl,hi,p⟩
  have q:=hl i σ H hi p
  by_cases hlt:i < xs.length
  · refine .inr ⟨⟨xs,xs[i],q,by simp [hlt]⟩,Pv (i + 1),fun σ' H' p'=>⟨xs.length - (i + 1),by lia,rfl,hlt,p'⟩,fun x H' y=>?_⟩
    obtain ⟨e,y⟩:=y
    subst e
    exact hs i x σ _ (y xs q) p
  · have e:i=xs.length:=by lia
    subst e
    exact .inl ⟨⟨xs,q,Nat.le_refl _⟩,hd σ H p⟩
theorem for_range {lo:Int} {n:Nat} {g:TG} {tb:TS} {D:Ends} {σ:St} {H:Hp} (Pv:Nat->St->Hp->Prop) (h0:Pv 0 σ H)
    (hs:∀ i σ H,i < n->Pv i σ H->g (.int (lo + i)) σ H fun σ2 H2=>tb { D with nx:=Pv (i + 1),ct:=Pv (i + 1),bk:=D.nx } σ2 H2) (hd:∀ σ H,Pv n σ H->D.nx σ H) :
    ∃ W:Nat->Nat->St->Hp->Prop,(∃ m,W 0 m σ H)/\∀ i m σ H,W i m σ H ->
      ((Itr lo n).stop i H/\D.nx σ H)\/((Itr lo n).go i H/\∃ N:St->Hp->Prop,(∀ σ' H',N σ' H'->∃ m',m' < m/\W (i + 1) m' σ' H')/\∀ x H',(Itr lo n).yld i H x H'->g x σ H' fun σ2 H2=>tb { D with nx:=N,ct:=N,bk:=D.nx } σ2 H2):=by
  refine ⟨fun i m σ H=>m=n - i/\i<=n/\Pv i σ H,⟨n,by simp,Nat.zero_le _,h0⟩,?_⟩
  rintro i m σ H ⟨rfl,hi,p⟩
  by_cases hlt:i < n
  · refine .inr ⟨hlt,Pv (i + 1),fun σ' H' p'=>⟨n - (i + 1),by lia,rfl,hlt,p'⟩,fun x H' y=>?_⟩
    obtain ⟨e,y⟩:=y
    subst e y
    exact hs i σ _ hlt p
  · have e:i=n:=by lia
    subst e
    exact .inl ⟨Nat.le_refl _,hd σ H p⟩
end L2
namespace L2
open PySem PySem.Spec PyProof.Rows
abbrev R2:=V->V->Hp->VK->Prop
def OpR (X:Cx) (f:Value->Value->Sem Value) (r:R2):Prop :=
  ∀ (pins:List (Addr × Obj)) (s:Shared) (σ:St) (H:Hp) (x y:V) (v u:Value) (Q:VK),Inv X pins σ H s->RelV x v->RelV y u->r x y H Q ->
    wpAny (model X.prog X.w) X.A (f v u) (EP X pins σ Q) X.xe s
def CallR (X:Cx) (f:Value) (r:List V->Hp->VK->Prop):Prop :=
  ∀ (pins:List (Addr × Obj)) (s:Shared) (σ:St) (H:Hp) (xs:List V) (us:List Value) (Q:VK),Inv X pins σ H s->Vals xs us->r xs H Q ->
    wpAny (model X.prog X.w) X.A (call f us) (EP X pins σ Q) X.xe s
def tOp (r:R2) (ta tb:TE):TE:=fun σ H Q=>ta σ H fun x H1=>tb σ H1 fun y H2=>r x y H2 Q
def rI (C:Int->Int->Prop) (g:Int->Int->V):R2:=fun x y H Q=>∃ i j,x=.int i/\y=.int j/\C i j/\Q (g i j) H
def rI0 (g:Int->Int->V):R2:=fun x y H Q=>∃ i j,x=.int i/\y=.int j/\Q (g i j) H
section
variable {X:Cx} {a b c:Expr} {ta tb tc:TE} {pos:Pos}
theorem binT (ha:PE X a ta) (hb:PE X b tb) {pins:List (Addr × Obj)} {s:Shared} {σ:St} {H:Hp} {R:V->V->Hp->Prop} (I:Inv X pins σ H s)
    (h:ta σ H fun x H1=>tb σ H1 fun y H2=>R x y H2) {Q:Value->Shared->Prop} {f:Value->Value->Sem Value}
    (hf:∀ v u s2 x y H2,Inv X pins σ H2 s2->RelV x v->RelV y u->R x y H2->wpAny (model X.prog X.w) X.A (f v u) Q X.xe s2) :
    wpAny (model X.prog X.w) X.A (eval a X.env) (fun v s₁=>wpAny (model X.prog X.w) X.A (eval b X.env) (fun u s₂=>wpAny (model X.prog X.w) X.A (f v u) Q X.xe s₂) X.xe s₁) X.xe s:=by
  refine thn (ha pins s σ H _ I h) fun v s1 ⟨x,H1,I1,r1,q1⟩=>?_
  refine thn (hb pins s1 σ H1 _ I1 q1) fun u s2 ⟨y,H2,I2,r2,q2⟩=>?_
  exact hf v u s2 x y H2 I2 r1 r2 q2
theorem pe_op {op:Operator} {r:R2} (ho:OpR X (binaryOp op) r) (ha:PE X a ta) (hb:PE X b tb):PE X (.BinOp a op b pos) (tOp r ta tb):=by
  intro pins s σ H Q I h
  exact wpAny_BinOp (binT ha hb I h fun v u s2 x y H2 I2 rx ry q=>ho pins s2 σ H2 x y v u Q I2 rx ry q)
theorem opI {f:Value->Value->Sem Value} {C:Int->Int->Prop} {g:Int->Int->Int}
    (rule:∀ (i j:Int) (t u:Tok) (s:Shared) (Q:Value->Shared->Prop) (E:Value->Shared->Prop),C i j->Q (.int (g i j) s.toks) { s with toks:=s.toks + 1 }->wpAny (model X.prog X.w) X.A (f (.int i t) (.int j u)) Q E s) :
    OpR X f (rI C fun i j=>.int (g i j)):=by
  intro pins s σ H x y v u Q I rx ry h
  obtain ⟨i,j,rfl,rfl,hc,q⟩:=h
  obtain ⟨t,rfl⟩:=rx
  obtain ⟨t',rfl⟩:=ry
  exact rule i j t t' s _ _ hc ⟨.int (g i j),H,I.tok _,⟨_,rfl⟩,q⟩
theorem opI0 {f:Value->Value->Sem Value} {g:Int->Int->Int}
    (rule:∀ (i j:Int) (t u:Tok) (s:Shared) (Q:Value->Shared->Prop) (E:Value->Shared->Prop),Q (.int (g i j) s.toks) { s with toks:=s.toks + 1 }->wpAny (model X.prog X.w) X.A (f (.int i t) (.int j u)) Q E s) :
    OpR X f (rI0 fun i j=>.int (g i j)):=by
  intro pins s σ H x y v u Q I rx ry h
  obtain ⟨i,j,rfl,rfl,q⟩:=h
  obtain ⟨t,rfl⟩:=rx
  obtain ⟨t',rfl⟩:=ry
  exact rule i j t t' s _ _ ⟨.int (g i j),H,I.tok _,⟨_,rfl⟩,q⟩
theorem opB0 {f:Value->Value->Sem Value} {g:Int->Int->Bool}
    (rule:∀ (i j:Int) (t u:Tok) (s:Shared) (Q:Value->Shared->Prop) (E:Value->Shared->Prop),Q (.bool (g i j)) s->wpAny (model X.prog X.w) X.A (f (.int i t) (.int j u)) Q E s) :
    OpR X f (rI0 fun i j=>.bl (g i j)):=by
  intro pins s σ H x y v u Q I rx ry h
  obtain ⟨i,j,rfl,rfl,q⟩:=h
  obtain ⟨t,rfl⟩:=rx
  obtain ⟨t',rfl⟩:=ry
  exact rule i j t t' s _ _ ⟨.bl (g i j),H,I,rfl,q⟩
def CDiv (i j:Int):Prop:=0 < j/\j < 1073741824
def CPow (i j:Int):Prop:=0<=j/\j<=1000000/\i.natAbs < 2 ^ 64
def CMul (i j:Int):Prop:=(-(2 ^ 64) < i/\i < 2 ^ 64)\/(-(2 ^ 64) < j/\j < 2 ^ 64)
theorem CMul.ok {i j:Int} (h:CMul i j):IntMulOk i j:=by
  rcases h with ⟨h1,h2⟩ | ⟨h1,h2⟩
  · exact .of_left (intBits_le_64 h1 h2)
  · exact .of_right (intBits_le_64 h1 h2)
theorem op_add:OpR X (binaryOp .Add) (rI0 fun i j=>.int (i + j)):=opI0 fun _ _ _ _ _ _ _ q=>add_int q
theorem op_sub:OpR X (binaryOp .Sub) (rI0 fun i j=>.int (i - j)):=opI0 fun _ _ _ _ _ _ _ q=>sub_int q
theorem op_mul:OpR X (binaryOp .Mult) (rI CMul fun i j=>.int (i * j)):=opI fun _ _ _ _ _ _ _ hc q=>mul_int q hc.ok
theorem op_fdiv:OpR X (binaryOp .FloorDiv) (rI CDiv fun i j=>.int (i / j)):=opI fun i j _ _ _ _ _ hc q=>by
  have h1:(0:Int) < j:=hc.1
  have h2:j < 1073741824:=hc.2
  exact floordiv_int (by lia) (by rw [Int.fdiv_eq_ediv_of_nonneg i (by lia)]; exact q) (.inl (PyProof.noPylong_small (by lia)))
theorem op_mod:OpR X (binaryOp .Mod) (rI (fun _ j=>0 < j) fun i j=>.int (i % j)):=opI fun i j _ _ _ _ _ hc q=>by
  have h1:(0:Int) < j:=hc
  exact mod_int' (by lia) (by rw [Int.fmod_eq_emod_of_nonneg i (by lia)]; exact q)
theorem op_pow:OpR X (binaryOp .Pow) (rI CPow fun i j=>.int (i ^ j.toNat)):=opI fun _ _ _ _ _ _ _ hc q=>pow_int_small hc.1 hc.2.1 hc.2.2 q
end
def scal:V->V->Bool
  | .non,.non=>true | .non,.int _=>true | .int _,.non=>true | .non,.bl _=>true | .bl _,.non=>true | .non,.str _=>true | .str _,.non=>true
  | .int _,.int _=>true | .bl _,.bl _=>true | .str _,.str _=>true | .byt _,.byt _=>true
  | .int _,.str _=>true | .str _,.int _=>true | .bl _,.str _=>true | .str _,.bl _=>true
  | _,_=>false
def rEq:R2:=fun x y H Q=>scal x y=true/\Q (.bl (decide (x=y))) H
def rNe:R2:=fun x y H Q=>scal x y=true/\Q (.bl (!decide (x=y))) H
theorem dec_int {i j:Int}:decide (V.int i=V.int j)=(i == j):=by
  rw [Bool.eq_iff_iff]
  simp
theorem dec_bl {i j:Bool}:decide (V.bl i=V.bl j)=(i == j):=by
  rw [Bool.eq_iff_iff]
  simp
theorem dec_str {i j:Str}:decide (V.str i=V.str j)=(i == j):=by
  rw [Bool.eq_iff_iff]
  simp
theorem dec_byt {i j:Array UInt8}:decide (V.byt i=V.byt j)=(i.toList == j.toList):=by
  rw [Bool.eq_iff_iff]
  cases i
  cases j
  simp
section
variable {X:Cx} {a b c:Expr} {ta tb tc:TE} {pos:Pos}
theorem fin_bl {pins:List (Addr × Obj)} {σ:St} {H:Hp} {s:Shared} {Q:VK} {k k':Bool} (I:Inv X pins σ H s) (q:Q (.bl k) H) (e:k=k'):EP X pins σ Q (.bool k') s:=by
  subst e
  exact ⟨.bl k,H,I,rfl,q⟩
theorem op_eq:OpR X (compareOp .Eq) rEq:=by
  intro pins s σ H x y v u Q I rx ry h
  obtain ⟨hs,q⟩:=h
  cases x with
  | non =>
    cases rx
    cases y with
    | non=>cases ry; exact PySem.EqNone.eq_none_none (fin_bl I q (by simp))
    | bl j=>cases ry; exact PySem.EqNone.eq_none_bool (fin_bl I q (by simp))
    | int j=>obtain ⟨t',rfl⟩:=ry; exact PySem.EqNone.eq_none_int (fin_bl I q (by simp))
    | str j=>obtain ⟨t',rfl⟩:=ry; exact PySem.EqNone.eq_none_str (fin_bl I q (by simp))
    | _=>exact absurd (show false=true from hs) Bool.false_ne_true
  | bl i =>
    cases rx
    cases y with
    | non=>cases ry; exact PySem.EqNone.eq_bool_none (fin_bl I q (by simp))
    | bl j=>cases ry; exact eq_bool (fin_bl I q dec_bl)
    | str j=>obtain ⟨t',rfl⟩:=ry; exact PySem.EqMixed.eq_bool_str (fin_bl I q (by simp))
    | _=>exact absurd (show false=true from hs) Bool.false_ne_true
  | int i =>
    obtain ⟨t,rfl⟩:=rx
    cases y with
    | non=>cases ry; exact PySem.EqNone.eq_int_none (fin_bl I q (by simp))
    | int j=>obtain ⟨t',rfl⟩:=ry; exact eq_int (fin_bl I q dec_int)
    | str j=>obtain ⟨t',rfl⟩:=ry; exact PySem.EqMixed.eq_int_str (fin_bl I q (by simp))
    | _=>exact absurd (show false=true from hs) Bool.false_ne_true
  | str i =>
    obtain ⟨t,rfl⟩:=rx
    cases y with
    | non=>cases ry; exact PySem.EqNone.eq_str_none (fin_bl I q (by simp))
    | bl j=>cases ry; exact PySem.EqMixed.eq_str_bool (fin_bl I q (by simp))
    | int j=>obtain ⟨t',rfl⟩:=ry; exact PySem.EqMixed.eq_str_int (fin_bl I q (by simp))
    | str j=>obtain ⟨t',rfl⟩:=ry; exact eq_str (fin_bl I q dec_str)
    | _=>exact absurd (show false=true from hs) Bool.false_ne_true
  | byt i =>
    obtain ⟨t,rfl⟩:=rx
    cases y with
    | byt j=>obtain ⟨t',rfl⟩:=ry; exact PySem.W.eq_bytes (fin_bl I q dec_byt)
    | _=>exact absurd (show false=true from hs) Bool.false_ne_true
  | _=>cases y <;> exact absurd (show false=true from hs) Bool.false_ne_true
theorem op_ne:OpR X (compareOp .NotEq) rNe:=by
  intro pins s σ H x y v u Q I rx ry h
  obtain ⟨hs,q⟩:=h
  cases x with
  | non =>
    cases rx
    cases y with
    | non=>cases ry; exact PySem.EqNone.ne_none_none (fin_bl I q (by simp))
    | bl j=>cases ry; exact PySem.EqNone.ne_none_bool (fin_bl I q (by simp))
    | int j=>obtain ⟨t',rfl⟩:=ry; exact PySem.EqNone.ne_none_int (fin_bl I q (by simp))
    | str j=>obtain ⟨t',rfl⟩:=ry; exact PySem.EqNone.ne_none_str (fin_bl I q (by simp))
    | _=>exact absurd (show false=true from hs) Bool.false_ne_true
  | bl i =>
    cases rx
    cases y with
    | non=>cases ry; exact PySem.EqNone.ne_bool_none (fin_bl I q (by simp))
    | bl j=>cases ry; exact ne_bool (fin_bl I q (congrArg not dec_bl))
    | str j=>obtain ⟨t',rfl⟩:=ry; exact PySem.EqMixed.ne_bool_str (fin_bl I q (by simp))
    | _=>exact absurd (show false=true from hs) Bool.false_ne_true
  | int i =>
    obtain ⟨t,rfl⟩:=rx
    cases y with
    | non=>cases ry; exact PySem.EqNone.ne_int_none (fin_bl I q (by simp))
    | int j=>obtain ⟨t',rfl⟩:=ry; exact ne_int (fin_bl I q (congrArg not dec_int))
    | str j=>obtain ⟨t',rfl⟩:=ry; exact PySem.EqMixed.ne_int_str (fin_bl I q (by simp))
    | _=>exact absurd (show false=true from hs) Bool.false_ne_true
  | str i =>
    obtain ⟨t,rfl⟩:=rx
    cases y with
    | non=>cases ry; exact PySem.EqNone.ne_str_none (fin_bl I q (by simp))
    | bl j=>cases ry; exact PySem.EqMixed.ne_str_bool (fin_bl I q (by simp))
    | int j=>obtain ⟨t',rfl⟩:=ry; exact PySem.EqMixed.ne_str_int (fin_bl I q (by simp))
    | str j=>obtain ⟨t',rfl⟩:=ry; exact ne_str (fin_bl I q (congrArg not dec_str))
    | _=>exact absurd (show false=true from hs) Bool.false_ne_true
  | byt i =>
    obtain ⟨t,rfl⟩:=rx
    cases y with
    | byt j=>obtain ⟨t',rfl⟩:=ry; exact PySem.W.ne_bytes (fin_bl I q (congrArg not dec_byt))
    | _=>exact absurd (show false=true from hs) Bool.false_ne_true
  | _=>cases y <;> exact absurd (show false=true from hs) Bool.false_ne_true
theorem op_lt:OpR X (compareOp .Lt) (rI0 fun i j=>.bl (decide (i < j))):=opB0 fun _ _ _ _ _ _ _ q=>lt_int q
theorem op_le:OpR X (compareOp .LtE) (rI0 fun i j=>.bl (decide (i<=j))):=opB0 fun _ _ _ _ _ _ _ q=>le_int q
theorem op_gt:OpR X (compareOp .Gt) (rI0 fun i j=>.bl (decide (j < i))):=opB0 fun _ _ _ _ _ _ _ q=>gt_int q
theorem op_ge:OpR X (compareOp .GtE) (rI0 fun i j=>.bl (decide (j<=i))):=opB0 fun _ _ _ _ _ _ _ q=>ge_int q
theorem OpR.or {f:Value->Value->Sem Value} {r r':R2} (h:OpR X f r) (h':OpR X f r'):OpR X f (fun x y H Q=>r x y H Q\/r' x y H Q):=by
  intro pins s σ H x y v u Q I rx ry q
  rcases q with q | q
  · exact h pins s σ H x y v u Q I rx ry q
  · exact h' pins s σ H x y v u Q I rx ry q
theorem nomark (b:Expr) {op:CmpOp} (h:op≠.In:=by decide) (h2:op≠.NotIn:=by decide):behindInMarks op b=false:=by
  have e1:(op == CmpOp.In)=false:=by cases op <;> first | rfl | exact absurd rfl h
  have e2:(op == CmpOp.NotIn)=false:=by cases op <;> first | rfl | exact absurd rfl h2
  cases b <;> simp [behindInMarks,e1,e2]
theorem pe_cmpR {op:CmpOp} {r:R2} (ho:OpR X (compareOp op) r) (ha:PE X a ta) (hb:PE X b tb) (hm:behindInMarks op b=false):PE X (.Compare a [op] [b] pos) (tOp r ta tb):=by
  intro pins s σ H Q I h
  exact wpAny_Compare1 (binT ha hb I h fun v u s2 x y H2 I2 rx ry q=>ho pins s2 σ H2 x y v u Q I2 rx ry q) hm
def tTest (t:TE):TT:=fun σ H Q=>t σ H fun x H'=>∃ k,x=.bl k/\Q k H'
theorem pt_cmpR {op:CmpOp} {r:R2} (ho:OpR X (compareOp op) r) (ha:PE X a ta) (hb:PE X b tb) (hm:behindInMarks op b=false):PT X (.Compare a [op] [b] pos) (tTest (tOp r ta tb)):=by
  intro pins s σ H Q I h
  refine wpAny_isTrue_Compare1 (thn (ha pins s σ H _ I h) fun v s1 ⟨x,H1,I1,r1,q1⟩=>thn (hb pins s1 σ H1 _ I1 q1) fun u s2 ⟨y,H2,I2,r2,q2⟩ =>
    thn (ho pins s2 σ H2 x y v u _ I2 r1 r2 q2) fun c s3 ⟨z,H3,I3,r3,k,e,q3⟩=>?_) hm
  subst e
  cases r3
  exact wpAny_truthy_bool ⟨H3,I3,q3⟩
theorem line63:(sizeLine:Nat) < 2 ^ 63:=by rw [sizeLine_eq]; decide
theorem vals1 {x:V} {us:List Value} (r:Vals [x] us):∃ u,us=[u]/\RelV x u:=by
  cases r with
  | cons r1 r2=>cases r2; exact ⟨_,rfl,r1⟩
theorem vals2 {x y:V} {us:List Value} (r:Vals [x,y] us):∃ u w',us=[u,w']/\RelV x u/\RelV y w':=by
  cases r with
  | cons r1 r2 =>
    cases r2 with
    | cons r3 r4=>cases r4; exact ⟨_,_,rfl,r1,r3⟩
theorem call_max2 (hc:X.calm=true):CallR X (.builtin "max") (fun xs H Q=>∃ i j,xs=[.int i,.int j]/\Q (.int (if j > i then j else i)) H):=by
  intro pins s σ H xs us Q I r h
  obtain ⟨i,j,rfl,q⟩:=h
  obtain ⟨u,w',rfl,⟨t,rfl⟩,⟨t',rfl⟩⟩:=vals2 r
  refine max_two_ints (I.ok.hd hc) fun h' tk k=>⟨_,H,I.kept k,?_,q⟩
  by_cases hj:j > i
  · rw [if_pos hj,if_pos hj]; exact ⟨_,rfl⟩
  · rw [if_neg hj,if_neg hj]; exact ⟨_,rfl⟩
theorem call_int1:CallR X (.type "int") (fun xs H Q=>(∃ i,xs=[.int i]/\Q (.int i) H)\/∃ k,xs=[.bl k]/\Q (.int (if k then 1 else 0)) H):=by
  intro pins s σ H xs us Q I r h
  rcases h with ⟨i,rfl,q⟩ | ⟨k,rfl,q⟩
  · obtain ⟨u,rfl,t,rfl⟩:=vals1 r
    exact call_int_int ⟨.int i,H,I,⟨_,rfl⟩,q⟩
  · obtain ⟨u,rfl,r1⟩:=vals1 r
    cases r1
    exact call_int_bool ⟨.int (if k then 1 else 0),H,I.tok _,⟨_,rfl⟩,q⟩
end
end L2
namespace L2
open PySem PySem.Spec PyProof.Rows
structure ObjM (h:Heap) (x dx C:Addr) (mA:Str->Option Value):Prop where
  obj:h.get? x=some (PySem.W.instObj C dx)
  ns:h.Ns1 dx mA
  ne:dx≠x
theorem lookIn_ns {h:Heap} {dx:Addr} {mA:Str->Option Value} (n:h.Ns1 dx mA):∃ od,h.get? dx=some od/\∀ name,PySem.W.lookIn name od=some (mA name):=by
  obtain ⟨o,es,ep,ho,hd,hk,_,hm⟩:=n
  refine ⟨o,ho,fun name=>?_⟩
  have e:=hm name
  unfold nsFind findBy at e
  rw [<- Array.find?_toList] at e
  unfold PySem.W.lookIn
  rw [hd]
  dsimp only
  split
  · rename_i y q
    rw [q] at e
    exact congrArg some e
  · rename_i q
    rw [q] at e
    have a:es.toList.any (·.refKey)=false:=by
      rw [List.any_eq_false]
      intro y hy
      obtain ⟨z,t,hkey⟩:=hk y (Array.mem_toList_iff.mp hy)
      simp [DictEntry.refKey,hkey]
    have a':¬ es.toList.any (·.refKey)=true:=by rw [a]; exact Bool.false_ne_true
    rw [if_neg a']
    exact congrArg some e
theorem ObjM.look {h:Heap} {x dx C:Addr} {mA:Str->Option Value} (I:ObjM h x dx C mA):∃ od,PySem.W.InstAt h x (PySem.W.instObj C dx) C (some od)/\∀ name,PySem.W.lookIn name od=some (mA name) :=
  let ⟨od,ho,hl⟩:=lookIn_ns I.ns
  ⟨od,⟨I.obj,rfl,rfl,ho⟩,hl⟩
section
variable {prog:Program} {w:World} {A:Around} {E:Value->Shared->Prop} {s:Shared} {K:PySem.W.Frag} {x dx C f:Addr} {mA:Str->Option Value} {name:Str} {v:Value}
theorem get_map {expr:Bool} {Q:Value->Shared->Prop} (X:K.In s.heap) (I:ObjM s.heap x dx C mA) (hg:PySem.W.plainGet K C name=true) (hh:PySem.W.hasDictIn K C=true)
    (ha:PySem.W.findIn K (.ref C) name=some none) (hv:mA name=some v) (hv':PySem.W.handedIn v=true) (h:Q v { s with toks:=s.toks + 1 }) :
    wpAny (model prog w) A (getAttr (.ref x) name expr) Q E s:=by
  obtain ⟨od,J,hl⟩:=I.look
  exact PySem.W.get_value X J (PySem.W.plainGet_of hg).1 (PySem.W.findObj_own hh ha rfl (by rw [hl,hv])) hv' h
theorem get_meth {pl:Sem Bool} {Q:Value × List Value->Shared->Prop} (X:K.In s.heap) (I:ObjM s.heap x dx C mA) (hg:PySem.W.plainGet K C name=true)
    (hf:PySem.W.findIn K (.ref C) name=some (some (.ref f))) (ht:PySem.W.isFn K (.ref f)=true) (hv:mA name=none) (h:Q (.ref f,[.ref x]) s) :
    wpAny (model prog w) A (getMethod (.ref x) name pl) Q E s:=by
  obtain ⟨od,J,hl⟩:=I.look
  exact PySem.W.method_fn X J (PySem.W.plainGet_of hg).1 (PySem.W.plainGet_of hg).2 hf (beq_iff_eq.mp ht) (by show (PySem.W.lookIn name od).map (·.isSome)=some false; rw [hl,hv]; rfl) h
theorem set_map {ns:List Str} {Q:Unit->Shared->Prop} (X:K.In s.heap) (I:ObjM s.heap x dx C mA)
    (hs:PySem.W.findIn K (.ref C) "__setattr__"=some (some (.builtin "object.__setattr__"))) (hp:PySem.W.plainOver K C=true) (ht:PySem.W.takerIn K C name=some none) (hh:PySem.W.hasDictIn K C=true)
    (hw:PySem.Within mA ns) (hsz:ns.length<=sizeLine)
    (h:∀ h',ObjM h' x dx C (fun y=>if y=name then some v else mA y)->Heap.SameBut dx s.heap h'->Q () { s with heap:=h',toks:=s.toks + 2 }) :
    wpAny (model prog w) A (setAttr (.ref x) name v) Q E s:=by
  obtain ⟨od,J,hl⟩:=I.look
  refine PySem.W.set_plain X J hs (PySem.W.osa_open (s:={ s with toks:=s.toks + 1 }) (r:=none) X J hp ht fun b=>?_)
  obtain ⟨cd,hc,hd'⟩:=PySem.W.any_some hh
  have hx:s.heap.get? x=some ⟨.ref C,some dx,.plain,#[]⟩:=I.obj
  refine wpAny_bind (wpAny_pure (wpAny_bind (wpAny_bind (wpAny_loadPart hx (wpAny_bind (PySem.W.Looks.here (s:={ s with toks:=s.toks + 1 }) (PySem.W.looks_clsIn X hc) ?_))))))
  rw [hd']
  refine wpAny_pure (a:=some dx) (wpAny_bind (wpAny_pure (wpAny_bind ?_)))
  refine wpAny_nsSet1 (s:={ s with toks:=s.toks + 1 }) I.ns fun h' hn2 hs2=>?_
  obtain ⟨oD,esD,epD,hoD,hdD,hcD⟩:=hn2.count (PySem.Within.cons name v hw)
  refine wpAny_bind (wpAny_lookBehind hoD (by rw [hdD]; exact pastItsLine_dict (Nat.le_trans hcD (by rw [List.length_cons]; lia))) ?_)
  exact wpAny_pure (h _ ⟨(hs2.2 _ (Ne.symm I.ne)).trans I.obj,hn2,I.ne⟩ hs2)
theorem make_map {R:Result->Shared->Prop} {vs:List Value} {kw:List (Str × Value)} (X:K.In s.heap) (hm:PySem.W.makesIn K C=true)
    (hi:PySem.W.findIn K (.ref C) "__init__"=some (some (.ref f))) (hf:PySem.W.typeIn K (.ref f)=some (.type "function"))
    (h:codeAny (model prog w) (A.under (.builtin "type.__call__" ⟨.ref C :: vs,kw⟩)) (.call (.ref f) ⟨.ref (s.heap.objs.size + 1) :: vs,kw⟩) (PySem.W.InitBack (s.heap.objs.size + 1) R)
      { s with heap:=(s.heap.push PySem.W.emptyDict).push (PySem.W.instObj C s.heap.objs.size) }) :
    codeAny (model prog w) A (.call (.ref C) ⟨vs,kw⟩) R s:=by
  obtain ⟨hh,g,d,t,os⟩:=s
  exact PySem.W.make_core (PySem.W.makes_of X hm) (PySem.W.looks_findIn X hi) (fun self=>PySem.W.bind_fn X self hf) (.inl rfl) h
end
def putF (f:Str) (v:V):List (Str × V)->List (Str × V)
  | []=>[(f,v)]
  | (g,x) :: r=>if g=f then (g,v) :: r else (g,x) :: putF f v r
theorem lookup_putF (f g:Str) (v:V):∀ fs:List (Str × V),(putF f v fs).lookup g=if g=f then some v else fs.lookup g
  | []=>by
    show List.lookup g [(f,v)]=_
    by_cases h:g=f
    · have hb:(g == f)=true:=beq_iff_eq.mpr h
      simp only [List.lookup,hb,if_pos h]
    · have hb:(g == f)=false:=beq_eq_false_iff_ne.mpr h
      simp only [List.lookup,hb,if_neg h]
  | (k,x) :: r=>by
    have ih:=lookup_putF f g v r
    rw [show putF f v ((k,x) :: r)=(if k=f then (k,v) :: r else (k,x) :: putF f v r) from rfl]
    by_cases hk:k=f
    · rw [if_pos hk]
      by_cases h:g=k
      · have hb:(g == k)=true:=beq_iff_eq.mpr h
        simp only [List.lookup,hb,if_pos (h.trans hk)]
      · have hb:(g == k)=false:=beq_eq_false_iff_ne.mpr h
        simp only [List.lookup,hb,if_neg (fun e:g=f=>h (e.trans hk.symm))]
    · rw [if_neg hk]
      by_cases h:g=k
      · have hb:(g == k)=true:=beq_iff_eq.mpr h
        simp only [List.lookup,hb,if_neg (fun e:g=f=>hk (h.symm.trans e))]
      · have hb:(g == k)=false:=beq_eq_false_iff_ne.mpr h
        simp only [List.lookup,hb]
        exact ih
theorem keys_putF (f:Str) (v:V):∀ fs:List (Str × V),f∈(putF f v fs).map (·.1)/\∀ g,g∈fs.map (·.1)->g∈(putF f v fs).map (·.1)
  | []=>⟨by simp [putF],fun g h=>by simp at h⟩
  | (k,x) :: r=>by
    obtain ⟨i1,i2⟩:=keys_putF f v r
    rw [show putF f v ((k,x) :: r)=(if k=f then (k,v) :: r else (k,x) :: putF f v r) from rfl]
    by_cases hk:k=f
    · rw [if_pos hk]
      subst hk
      exact ⟨by simp,fun g h=>by simpa using h⟩
    · rw [if_neg hk]
      refine ⟨?_,fun g h=>?_⟩
      · rw [List.map_cons]
        exact List.mem_cons_of_mem _ i1
      · rw [List.map_cons] at h ⊢
        rcases List.mem_cons.mp h with e | e
        · exact List.mem_cons.mpr (.inl e)
        · exact List.mem_cons_of_mem _ (i2 g e)
theorem length_putF (f:Str) (v:V):∀ fs:List (Str × V),(putF f v fs).length<=fs.length + 1
  | []=>by simp [putF]
  | (k,x) :: r=>by
    have ih:=length_putF f v r
    rw [show putF f v ((k,x) :: r)=(if k=f then (k,v) :: r else (k,x) :: putF f v r) from rfl]
    by_cases hk:k=f
    · rw [if_pos hk,List.length_cons,List.length_cons]; lia
    · rw [if_neg hk,List.length_cons,List.length_cons]; lia
theorem RelO.some_of {v:V} {o:Option Value} (r:RelO (some v) o):∃ u,o=some u/\RelV v u:=by
  cases o with
  | none=>exact (show False from r).elim
  | some u=>exact ⟨u,rfl,r⟩
theorem RelO.none_of {o:Option Value} (r:RelO none o):o=none:=by
  cases o with
  | none=>rfl
  | some u=>exact (show False from r).elim
theorem handed_of {v:V} {u:Value} (r:RelV v u):PySem.W.handedIn u=true:=by
  cases v with
  | non=>cases (show u=Value.none from r); rfl
  | bl b=>cases (show u=Value.bool b from r); rfl
  | int i=>obtain ⟨t,e⟩:=(show ∃ t,u=Value.int i t from r); cases e; rfl
  | str x=>obtain ⟨t,e⟩:=(show ∃ t,u=Value.str x t from r); cases e; rfl
  | byt b=>obtain ⟨t,e⟩:=(show ∃ t,u=Value.bytes b t from r); cases e; rfl
  | flt b=>obtain ⟨t,e⟩:=(show ∃ t,u=Value.float b t from r); cases e; rfl
  | ref a=>cases (show u=Value.ref a from r); rfl
  | ty n=>cases (show u=Value.type n from r); rfl
section
variable {P:Program} {w:World} {H H':Hp} {h h':Heap} {a C dx:Addr} {fs fs':List (Str × V)}
theorem ins_get (hok:HOk P w H h) (e:H a=some (.ins C dx fs)):∃ mA,ObjM h a dx C mA/\(∀ f,RelO (fs.lookup f) (mA f))/\PySem.Within mA (fs.map (·.1))/\fs.length<=1000/\H dx=some (.own a):=by
  obtain ⟨d,z,ne,ob,mA,n,r,q⟩:=(show ObjOk P w H h a (.ins C dx fs) from hok a _ e)
  exact ⟨mA,⟨ob,n,ne⟩,r,q,z,d⟩
end
structure Cls (K:PySem.W.Frag) (C:Addr):Prop where
  pg:PySem.W.plainGet K C Str.empty=true
  hd:PySem.W.hasDictIn K C=true
  po:PySem.W.plainOver K C=true
  sa:PySem.W.findIn K (.ref C) "__setattr__"=some (some (.builtin "object.__setattr__"))
theorem Cls.get {K:PySem.W.Frag} {C:Addr} (c:Cls K C) (f:Str):PySem.W.plainGet K C f=true:=c.pg
def NoAttr (K:PySem.W.Frag) (C:Addr) (f:Str):Prop:=PySem.W.findIn K (.ref C) f=some none
theorem NoAttr.taker {K:PySem.W.Frag} {C:Addr} {f:Str} (n:NoAttr K C f):PySem.W.takerIn K C f=some none:=by
  unfold PySem.W.takerIn
  rw [show PySem.W.findIn K (.ref C) f=some none from n]
  rfl
structure Con (K:PySem.W.Frag) (C:Addr) (f:Str) (v:V) (u:Value):Prop where
  at_:PySem.W.findIn K (.ref C) f=some (some u)
  rel:RelV v u
  get:PySem.W.specialIn K u "__get__"=some none
  cp:PySem.W.copiedNames.contains f=false
structure Meth (K:PySem.W.Frag) (C:Addr) (m:Str) (f:Addr):Prop where
  at_:PySem.W.findIn K (.ref C) m=some (some (.ref f))
  fn:PySem.W.isFn K (.ref f)=true
  kp:PySem.W.keepIn K (.ref f)=true
section
variable {X:Cx} {pins:List (Addr × Obj)} {σ:St} {H:Hp} {s:Shared} {a C dx:Addr} {fs:List (Str × V)} {f:Str} {v:V} {A:Around} {E:Value->Shared->Prop}
theorem getattr_ok {b:Bool} {Q:Value->Shared->Prop} (I:Inv X pins σ H s) (e:H a=some (.ins C dx fs)) (c:Cls X.K C) (n:NoAttr X.K C f) (l:fs.lookup f=some v)
    (h:∀ u s',Inv X pins σ H s'->RelV v u->Q u s'):wpAny (model X.prog X.w) A (getAttr (.ref a) f b) Q E s:=by
  obtain ⟨mA,O,r,_,_,_⟩:=ins_get I.hok e
  obtain ⟨u,hu,ru⟩:=RelO.some_of (v:=v) (o:=mA f) (by rw [<- l]; exact r f)
  exact get_map I.kIn O (c.get f) c.hd n hu (handed_of ru) (h u _ (I.tok _) ru)
theorem getmeth_ok {m:Str} {g:Addr} {pl:Sem Bool} {Q:Value × List Value->Shared->Prop} (I:Inv X pins σ H s) (e:H a=some (.ins C dx fs)) (c:Cls X.K C) (k:Meth X.K C m g) (l:fs.lookup m=none)
    (h:Q (.ref g,[.ref a]) s):wpAny (model X.prog X.w) A (getMethod (.ref a) m pl) Q E s:=by
  obtain ⟨mA,O,r,_,_,_⟩:=ins_get I.hok e
  have hn:mA m=none:=RelO.none_of (by rw [<- l]; exact r m)
  exact get_meth I.kIn O (c.get m) k.at_ k.fn hn h
theorem setattr_ok {y:V} {u:Value} {Q:Unit->Shared->Prop} (I:Inv X pins σ H s) (e:H a=some (.ins C dx fs)) (c:Cls X.K C) (n:NoAttr X.K C f) (hl:fs.length < 1000) (ry:RelV y u)
    (h:∀ s',Inv X pins σ (upd H a (.ins C dx (putF f y fs))) s'->Q () s'):wpAny (model X.prog X.w) A (setAttr (.ref a) f u) Q E s:=by
  obtain ⟨mA,O,r,wi,_,ho⟩:=ins_get I.hok e
  have hz:(fs.map (·.1)).length<=sizeLine:=by rw [List.length_map,sizeLine_eq]; lia
  refine set_map I.kIn O c.sa c.po n.taker c.hd wi hz fun h' O' sb=>h _ ?_
  have hd:∃ o,h'.get? dx=some o:=let ⟨o,_,_,e',_⟩:=O'.ns; ⟨o,e'⟩
  refine I.write (x:=a) (e:=dx) (by rw [e]; exact True.intro) (.inr ho) (fun b q hb z=>(sb.2 b hb).trans z) hd ?_
  refine ⟨by rw [upd_ne O.ne]; exact ho,?_,O.ne,O'.obj,_,O'.ns,fun g=>?_,fun g hg=>?_⟩
  · have:=length_putF f y fs; lia
  · show RelO ((putF f y fs).lookup g) (if g=f then some u else mA g)
    rw [lookup_putF]
    by_cases q:g=f
    · rw [if_pos q,if_pos q]; exact ry
    · rw [if_neg q,if_neg q]; exact r g
  · by_cases q:g=f
    · rw [q]; exact (keys_putF f y fs).1
    · refine (keys_putF f y fs).2 g (wi g fun z=>hg ?_)
      show (if g=f then some u else mA g)=none
      rw [if_neg q]; exact z
theorem Inv.made (I:Inv X pins σ H s):Inv X pins σ (upd (upd H s.heap.objs.size (.own (s.heap.objs.size + 1))) (s.heap.objs.size + 1) (.ins C s.heap.objs.size []))
    { s with heap:=(s.heap.push PySem.W.emptyDict).push (PySem.W.instObj C s.heap.objs.size) }:=by
  have e1:(s.heap.push PySem.W.emptyDict).get? s.heap.objs.size=some PySem.W.emptyDict:=Heap.get?_push_size s.heap rfl
  have e2:((s.heap.push PySem.W.emptyDict).push (PySem.W.instObj C s.heap.objs.size)).get? (s.heap.objs.size + 1)=some (PySem.W.instObj C s.heap.objs.size):=by
    have:=Heap.get?_push_size (s.heap.push PySem.W.emptyDict) (o:=PySem.W.instObj C s.heap.objs.size) rfl
    rwa [Heap.size_push] at this
  have e3:(s.heap.push PySem.W.emptyDict).Ns s.heap.objs.size (fun _=>none):=⟨PySem.W.emptyDict,#[],_,e1,rfl,(fun e he=>absurd he (by simp)),fun _=>rfl⟩
  have I1:=I.laid (a:=s.heap.objs.size) (o:=.own (s.heap.objs.size + 1)) (h':=s.heap.push PySem.W.emptyDict) (t':=s.toks) (fun b u q=>Heap.get?_push_of_some _ q) (Nat.le_refl _) ⟨_,e1⟩
  refine I1.laid (a:=s.heap.objs.size + 1) (o:=.ins C s.heap.objs.size []) (t':=s.toks) (fun b u q=>Heap.get?_push_of_some _ q) (Nat.le_of_eq (Heap.size_push _ _)) ?_
  have ne:s.heap.objs.size≠s.heap.objs.size + 1:=Nat.ne_of_lt (Nat.lt_succ_self _)
  refine ⟨by rw [upd_ne ne,upd_same],Nat.zero_le _,ne,e2,fun _=>none,(Heap.Ns1.of_empty e3).at fun o q=>Heap.get?_push_of_some _ q,fun _=>True.intro,fun y hy=>absurd rfl hy⟩
theorem attr_of {prog:Program} {w:World} {env:Env} {e:Expr} {f:Str} {pos:Pos} {s:Shared} {Q:Value->Shared->Prop} (hb:attributeBase e f env (eval e env)=eval e env)
    (h:wpAny (model prog w) A (eval e env) (fun o s₁=>wpAny (model prog w) A (getAttr o f true) Q E s₁) E s):wpAny (model prog w) A (eval (.Attribute e f pos) env) Q E s :=
  Attribute_any_ h (by rw [arm_eval_Attribute,hb])
end
def tFld (K:PySem.W.Frag) (ta:TE) (f:Str):TE:=fun σ H Q=>ta σ H fun x H1=>∃ a C dx fs v,x=.ref a/\H1 a=some (.ins C dx fs)/\Cls K C/\NoAttr K C f/\fs.lookup f=some v/\Q v H1
def sFld (K:PySem.W.Frag) (ta tv:TE) (f:Str):TS:=fun D σ H=>tv σ H fun y H1=>ta σ H1 fun x H2=>∃ a C dx fs,x=.ref a/\H2 a=some (.ins C dx fs)/\Cls K C/\NoAttr K C f/\fs.length < 1000 /\
  D.nx σ (upd H2 a (.ins C dx (putF f y fs)))
section
variable {X:Cx} {o e value:Expr} {f:Str} {pos pos' tpos:Pos} {ta tv:TE}
theorem pe_fld (he:PE X e ta) (hb:attributeBase e f X.env (eval e X.env)=eval e X.env):PE X (.Attribute e f pos) (tFld X.K ta f):=by
  intro pins s σ H Q I h
  refine attr_of hb (thn (he pins s σ H _ I h) fun u s1 ⟨x,H1,I1,rx,a,C,dx,fs,v,ex,ea,c,n,l,q⟩=>?_)
  subst ex
  obtain rfl:u=Value.ref a:=rx
  exact getattr_ok I1 ea c n l fun u' s2 I2 ru=>⟨v,H1,I2,ru,q⟩
theorem ps_fld (ha:PE X o ta) (hv:PE X value tv) (hs:swapsWith value (some (.Attribute o f pos')) pos.line X.env=pure false):PS X (.Assign [.Attribute o f pos'] value pos) (sFld X.K ta tv f):=by
  intro pins s σ H D I h
  refine plainObj_wpAny_Assign_Attribute (thn (hv pins s σ H _ I h) fun u s1 ⟨y,H1,I1,ry,q⟩=>thn (ha pins s1 σ H1 _ I1 q) fun ov s2 ⟨x,H2,I2,rx,a,C,dx,fs,ex,ea,c,n,l,q2⟩=>?_) hs
  subst ex
  obtain rfl:ov=Value.ref a:=rx
  exact setattr_ok I2 ea c n l ry fun s3 I3=>⟨σ,_,I3,q2⟩
end
section
variable {X:Cx} {pins:List (Addr × Obj)} {σ:St} {H:Hp} {s:Shared} {A:Around} {E:Value->Shared->Prop} {Q:Value->Shared->Prop} {c:Value} {b:Bool}
inductive TyOf (K:PySem.W.Frag) (H:Hp):V->Value->Prop where
  | non:TyOf K H .non (.type "NoneType")
  | bl (x:Bool):TyOf K H (.bl x) (.type "bool")
  | int (i:Int):TyOf K H (.int i) (.type "int")
  | str (x:Str):TyOf K H (.str x) (.type "str")
  | flt (x:UInt64):TyOf K H (.flt x) (.type "float")
  | lst {a:Addr} {xs:List V} (e:H a=some (.lst xs)):TyOf K H (.ref a) (.type "list")
  | frz {a:Addr} {o:Obj} {xs:List V} (e:H a=some (.frz o (.lst xs))):TyOf K H (.ref a) (.type "list")
  | tup {a:Addr} {xs:List V} (e:H a=some (.tup xs)):TyOf K H (.ref a) (.type "tuple")
  | dK {a:Addr} {kvs:List (Key × V)} (e:H a=some (.dK kvs)):TyOf K H (.ref a) (.type "dict")
  | dT {a:Addr} {kvs:List (List Key × V)} (e:H a=some (.dT kvs)):TyOf K H (.ref a) (.type "dict")
  | ins {a C dx:Addr} {fs:List (Str × V)} (e:H a=some (.ins C dx fs)) (cl:Cls K C) (ha:PySem.W.findIn K (.ref C) "__class__"=some (some (.builtin "object.__class__")))
      (hn:PySem.W.specialIn K (.builtin "object.__class__") "__get__"=some (some (.builtin "getset_descriptor.__get__"))) (htk:PySem.W.takesIn K (.builtin "object.__class__")=some true)
      (hm:PySem.W.mroIn K C (.type "object")=some true):TyOf K H (.ref a) (.ref C)
theorem isinst_ok {x:V} {u t:Value} (I:Inv X pins σ H s) (rx:RelV x u) (ty:TyOf X.K H x t) (e:PySem.W.kitOne X.K t c=some b) (h:∀ tk,Q (.bool b) { s with toks:=tk }) :
    wpAny (model X.prog X.w) A (call (.builtin "isinstance") [u,c]) Q E s:=by
  cases ty with
  | non=>cases (show u=Value.none from rx); exact PySem.W.kia_one PySem.W.kitx_none I.kIn True.intro e (fun z=>nomatch z) h
  | bl y=>cases (show u=Value.bool y from rx); exact PySem.W.kia_one PySem.W.kitx_bool I.kIn True.intro e (fun z=>nomatch z) h
  | int i=>obtain ⟨t,q⟩:=(show ∃ t,u=Value.int i t from rx); cases q; exact PySem.W.kia_one PySem.W.kitx_int I.kIn True.intro e (fun z=>nomatch z) h
  | str y=>obtain ⟨t,q⟩:=(show ∃ t,u=Value.str y t from rx); cases q; exact PySem.W.kia_one PySem.W.kitx_str I.kIn True.intro e (fun z=>nomatch z) h
  | flt y=>obtain ⟨t,q⟩:=(show ∃ t,u=Value.float y t from rx); cases q; exact PySem.W.kia_one PySem.W.kitx_float I.kIn True.intro e (fun z=>nomatch z) h
  | @lst a xs ea =>
    cases (show u=Value.ref a from rx)
    obtain ⟨_,_,n,_,h1⟩:=(show ObjOk X.prog X.w H s.heap a (.lst xs) from I.hok a _ ea)
    exact PySem.W.kia_one PySem.W.kitx_list I.kIn ⟨_,h1,rfl⟩ e (fun z=>nomatch z) h
  | @frz a ob xs ea =>
    cases (show u=Value.ref a from rx)
    obtain ⟨_,_,_,n,_,h1⟩:=(show ObjOk X.prog X.w H s.heap a (.frz ob (.lst xs)) from I.hok a _ ea)
    exact PySem.W.kia_one PySem.W.kitx_list I.kIn ⟨_,h1,rfl⟩ e (fun z=>nomatch z) h
  | @tup a xs ea =>
    cases (show u=Value.ref a from rx)
    obtain ⟨_,_,_,p⟩:=(show ObjOk X.prog X.w H s.heap a (.tup xs) from I.hok a _ ea)
    obtain ⟨o,h1,h2,_⟩:=p
    exact PySem.W.kia_one PySem.W.kitx_tuple I.kIn ⟨o,h1,h2⟩ e (fun z=>nomatch z) h
  | @dK a kvs ea =>
    cases (show u=Value.ref a from rx)
    obtain ⟨_,_,vs,_,p⟩:=(show ObjOk X.prog X.w H s.heap a (.dK kvs) from I.hok a _ ea)
    obtain ⟨o,es,ep,h1,h2,_⟩:=p
    exact PySem.W.kia_one PySem.W.kitx_dict I.kIn ⟨o,h1,h2.1⟩ e (fun z=>nomatch z) h
  | @dT a kvs ea =>
    cases (show u=Value.ref a from rx)
    obtain ⟨_,_,xs,_,o,es,ep,h1,h2,_⟩:=(show ObjOk X.prog X.w H s.heap a (.dT kvs) from I.hok a _ ea)
    exact PySem.W.kia_one PySem.W.kitx_dict I.kIn ⟨o,h1,h2.1⟩ e (fun z=>nomatch z) h
  | @ins a C dx fs ea cl ha hn htk hm =>
    cases (show u=Value.ref a from rx)
    obtain ⟨mA,O,_⟩:=ins_get I.hok ea
    obtain ⟨od,J,_⟩:=O.look
    exact PySem.W.kia_one (PySem.W.kitx_own (cl.get _) cl.hd ha hn htk hm) I.kIn J e (fun z=>nomatch z) h
end
end L2
namespace L2
open PySem PySem.Spec PyProof.Rows
structure Room (k:Nat) (A:Around):Prop where
  hd:A.handled=none
  dp:A.depth + 3 * k + 5 < recursionLimit
  un:A.units + 16 * k + 200 < cLine
theorem Room.mono {j k:Nat} {A:Around} (r:Room k A) (h:j<=k):Room j A:=⟨r.hd,by have:=r.dp; lia,by have:=r.un; lia⟩
theorem Room.deeper {k:Nat} {A:Around} (r:Room (k + 1) A) (env:Env):Room k (A.deeper env) :=
  ⟨r.hd,by have:=r.dp; show A.depth + 1 + 3 * k + 5 < _; lia,by have:=r.un; show A.units + 3 + 16 * k + 200 < _; lia⟩
theorem Room.in1 {k:Nat} {A:Around} (r:Room (k + 1) A):Room k A.in1 :=
  ⟨r.hd,by have:=r.dp; show A.depth + 3 * k + 5 < _; lia,by have:=r.un; show A.units + 1 + 16 * k + 200 < _; lia⟩
theorem make_depth {A:Around} {C:Addr} {us:List Value} {kw:List (Str × Value)}:(A.under (.builtin "type.__call__" ⟨.ref C :: us,kw⟩)).depth=A.depth + 1:=by
  first | rfl | simp [Around.under,Code.weight,Code.isCreation,Code.isGuard,Code.isCaller,Code.frames,Code.isFrame,guardIds]
theorem make_units {A:Around} {C:Addr} {us:List Value} {kw:List (Str × Value)}:(A.under (.builtin "type.__call__" ⟨.ref C :: us,kw⟩)).units=A.units + 1:=by
  first | rfl | simp [Around.under,Code.cUnits,Code.frames,Code.isFrame]
theorem Room.make {k:Nat} {A:Around} (r:Room (k + 1) A) (C:Addr) (us:List Value) (kw:List (Str × Value)):Room k (A.under (.builtin "type.__call__" ⟨.ref C :: us,kw⟩)) :=
  ⟨r.hd,by have:=r.dp; rw [make_depth]; lia,by have:=r.un; rw [make_units]; lia⟩
theorem Room.depth {k:Nat} {A:Around} (r:Room k A):A.depth < recursionLimit:=by have:=r.dp; lia
theorem Room.units {k:Nat} {A:Around} (r:Room k A):A.units + 64 < cLine:=by have:=r.un; lia
theorem Room.units0 {k:Nat} {A:Around} (r:Room k A):A.units < cLine:=by have:=r.un; lia
def tNil:TA:=fun _ H Q=>Q [] H
def tCons (ta:TE) (tr:TA):TA:=fun σ H Q=>ta σ H fun x H1=>tr σ H1 fun xs H2=>Q (x :: xs) H2
section
variable {X:Cx} {e:Expr} {es:List Expr} {te:TE} {t:TA} {pos:Pos}
theorem pa_nil:PA X [] tNil:=fun _ _ _ _ H Q I h=>Calls.spliced_nil ⟨[],H,I,.nil,h⟩
theorem pa_cons (ha:PE X e te) (hr:PA X es t) (hs:starEach (e :: es) X.env=(false,eval e X.env) :: starEach es X.env:=by rfl):PA X (e :: es) (tCons te t):=by
  intro pos pins s σ H Q I h
  rw [hs]
  show wpAny _ _ (spliced ((false,eval e X.env) :: backTo pos (starEach es X.env))) _ _ s
  refine Calls.spliced_cons (thn (ha pins s σ H _ I h) fun u s1 ⟨x,H1,I1,r1,q1⟩=>?_)
  exact thn (hr pos pins s1 σ H1 _ I1 q1) fun us s2 ⟨xs,H2,I2,r2,q2⟩=>⟨x :: xs,H2,I2,.cons r1 r2,q2⟩
def tTup (t:TA):TE:=fun σ H Q=>t σ H fun xs H1=>xs.length<=sizeLine/\∀ p,H1 p=none->Q (.ref p) (upd H1 p (.tup xs))
def tLst (t:TA):TE:=fun σ H Q=>t σ H fun xs H1=>xs.length<=sizeLine/\∀ p,H1 p=none->Q (.ref p) (upd H1 p (.lst xs))
theorem pe_tup {x1} (h:PA X es t):PE X (.Tuple es x1 pos) (tTup t):=by
  intro pins s σ H Q I hq
  refine wpAny_Tuple_spliced (thn (h pos pins s σ H _ I hq) fun us s1 ⟨xs,H1,I1,r,z,q⟩=>⟨by rw [<- r.length]; exact z,?_⟩)
  have hf:H1 s1.heap.objs.size=none:=I1.hok.fresh (Nat.le_refl _)
  refine ⟨.ref s1.heap.objs.size,upd H1 s1.heap.objs.size (.tup xs),I1.laid (t':=s1.toks) (fun b u e=>Heap.get?_push_of_some _ e) (Nat.le_refl _) ?_,rfl,q _ hf⟩
  exact ⟨z,us,r,⟨_,Heap.get?_push_size _ rfl,rfl,rfl,_,rfl⟩⟩
theorem pe_lst (h:PA X es t):PE X (.List es pos) (tLst t):=by
  intro pins s σ H Q I hq
  refine wpAny_List_spliced (thn (h pos pins s σ H _ I hq) fun us s1 ⟨xs,H1,I1,r,z,q⟩=>⟨by rw [<- r.length]; exact z,?_⟩)
  have hf:H1 s1.heap.objs.size=none:=I1.hok.fresh (Nat.le_refl _)
  refine ⟨.ref s1.heap.objs.size,upd H1 s1.heap.objs.size (.lst xs),I1.laid (t':=s1.toks) (fun b u e=>Heap.get?_push_of_some _ e) (Nat.le_refl _) ?_,rfl,q _ hf⟩
  exact ⟨z,us,0,r,Heap.get?_push_size _ rfl⟩
end
abbrev Sp:=List V->Hp->VK->XK->Prop
abbrev CXT:=List Env->Hp->Shared->XK->Value->Shared->Prop
structure Env0 (P:Program) (w:World) (K:PySem.W.Frag) (mg:Str->Option Value) (base:Heap) (A:Around) (outer:List Env) (s:Shared) (H:Hp):Prop where
  frames:A.frames=some outer
  mod:Mod K mg base
  bs:∀ b o,base.get? b=some o->s.heap.get? b=some o/\H b=none
  bsz:base.objs.size<=s.heap.objs.size
  funs:s.heap.FunFrames base outer
  frf:∀ b∈frs outer,H b=none
  hok:HOk P w H s.heap
  bare:AllBare s.gens
def CE (outer:List Env) (P:Program) (w:World) (H:Hp) (s:Shared) (Q:VK) (u:Value) (s':Shared):Prop :=
  ∃ v H',s'.os=s.os/\AllBare s'.gens/\Un (frs outer) [] H H' s.heap s'.heap/\HOk P w H' s'.heap/\RelV v u/\Q v H'
def CR (CX:CXT) (outer:List Env) (P:Program) (w:World) (H:Hp) (s:Shared) (Q:VK) (E:XK) (r:Result) (s':Shared):Prop :=
  match r with
  | .ok (.ret u)=>CE outer P w H s Q u s'
  | .ok _=>False
  | .error e=>CX outer H s E e s'
structure FnOk (P:Program) (w:World) (K:PySem.W.Frag) (mg:Str->Option Value) (base:Heap) (CX:CXT) (k:Nat) (f:Addr) (fd:FuncData) (ps:List Str) (sp:Sp):Prop where
  len:∀ vs H Q E,sp vs H Q E->vs.length=ps.length
  run:∀ (A:Around) (outer:List Env) (s:Shared) (H:Hp) (args:Args) (us:List Value) (vs:List V) (Q:VK) (E:XK),Room k A->Env0 P w K mg base A outer s H->BindsTo s fd args (ps.zip us)->Vals vs us->sp vs H Q E ->
    codeAny (model P w) A (.call (.ref f) args) (CR CX outer P w H s Q E) s
theorem FnOk.mono {P:Program} {w:World} {K:PySem.W.Frag} {mg:Str->Option Value} {base:Heap} {CX:CXT} {j k:Nat} {f:Addr} {fd:FuncData} {ps:List Str} {sp:Sp} (F:FnOk P w K mg base CX j f fd ps sp) (h:j<=k) :
    FnOk P w K mg base CX k f fd ps sp:=⟨F.len,fun A outer s H args us vs Q E hr=>F.run A outer s H args us vs Q E (hr.mono h)⟩
theorem FnOk.imp {P:Program} {w:World} {K:PySem.W.Frag} {mg:Str->Option Value} {base:Heap} {CX:CXT} {k:Nat} {f:Addr} {fd:FuncData} {ps:List Str} {sp sp':Sp} (F:FnOk P w K mg base CX k f fd ps sp)
    (h:∀ vs H Q E,sp' vs H Q E->sp vs H Q E):FnOk P w K mg base CX k f fd ps sp' :=
  ⟨fun vs H Q E q=>F.len vs H Q E (h _ _ _ _ q),fun A outer s H args us vs Q E hr he hb hv hs=>F.run A outer s H args us vs Q E hr he hb hv (h _ _ _ _ hs)⟩
theorem Env0.make {P:Program} {w:World} {K:PySem.W.Frag} {mg:Str->Option Value} {base:Heap} {A:Around} {outer:List Env} {s:Shared} {H:Hp} (e:Env0 P w K mg base A outer s H) (C:Addr) (us:List Value) (kw:List (Str × Value)) :
    Env0 P w K mg base (A.under (.builtin "type.__call__" ⟨.ref C :: us,kw⟩)) outer s H:=⟨by first | exact e.frames | (simpa [Around.under,Code.envs,Code.isFrame,pushEnvs] using e.frames),e.mod,e.bs,e.bsz,e.funs,e.frf,e.hok,e.bare⟩
theorem Env0.in1 {P:Program} {w:World} {K:PySem.W.Frag} {mg:Str->Option Value} {base:Heap} {A:Around} {outer:List Env} {s:Shared} {H:Hp} (e:Env0 P w K mg base A outer s H) :
    Env0 P w K mg base A.in1 outer s H:=⟨e.frames,e.mod,e.bs,e.bsz,e.funs,e.frf,e.hok,e.bare⟩
section
variable {X:Cx} {pins:List (Addr × Obj)} {σ:St} {H:Hp} {s s':Shared}
theorem Inv.env0 (I:Inv X pins σ H s):Env0 X.prog X.w X.K X.mg X.base X.A X.stack s H :=
  ⟨I.ok.frames,I.ok.mod,I.bs,Nat.le_trans I.ok.bsz I.sz,I.stack,I.stkFree,I.hok,I.bare⟩
theorem Inv.after {Q:VK} {u:Value} (I:Inv X pins σ H s) (h:CE X.stack X.prog X.w H s Q u s'):EP X pins σ Q u s':=by
  obtain ⟨v,H',os,bare,un,hok,r,q⟩:=h
  obtain ⟨hh,g,d,t,os'⟩:=s'
  obtain rfl:os'=s.os:=os
  exact ⟨v,H',I.call (h':=hh) (g':=g) (d':=d) (t':=t) (ch:=[]) un hok bare (fun b z=>absurd z (by simp)),r,q⟩
end
def tCall (sp:Sp) (dvs:List V) (E:XK) (t:TA):TE:=fun σ H Q=>t σ H fun vs H1=>sp (vs ++ dvs) H1 Q E
def tMeth (C:Addr) (m:Str) (sp:Sp) (dvs:List V) (E:XK) (ta:TE) (t:TA):TE:=fun σ H Q=>ta σ H fun x H1=>∃ a dx fs,x=.ref a/\H1 a=some (.ins C dx fs)/\fs.lookup m=none /\
  t σ H1 fun vs H2=>sp (x :: (vs ++ dvs)) H2 Q E
def tMake (C:Addr) (sp:Sp) (dvs:List V) (E:XK) (t:TA):TE:=fun σ H Q=>t σ H fun vs H1=>∀ x dx,H1 x=none->H1 dx=none->dx≠x ->
  sp (.ref x :: (vs ++ dvs)) (upd (upd H1 dx (.own x)) x (.ins C dx [])) (fun v H2=>v=.non/\Q (.ref x) H2) E
def Binds (K:PySem.W.Frag) (fd:FuncData) (ps:List Str) (ds:List Value):Prop :=
  ∀ (s:Shared) (us:List Value),K.In s.heap->(us ++ ds).length=ps.length->BindsTo s fd ⟨us,[]⟩ (ps.zip (us ++ ds))
theorem Binds.all {K:PySem.W.Frag} {fd:FuncData} {ps:List Str} (h:∀ us:List Value,us.length=ps.length->bindArgs fd ⟨us,[]⟩=pure (ps.zip us)):Binds K fd ps []:=fun s us _ hl=>by
  rw [List.append_nil] at hl ⊢
  exact .of_eq (h us hl)
def Passes (CX:CXT) (X:Cx) (E:XK):Prop:=∀ (pins:List (Addr × Obj)) (σ:St) (H:Hp) (s:Shared) (e:Value) (s':Shared),Inv X pins σ H s->CX X.stack H s E e s'->X.xe e s'
section
variable {X:Cx} {CX:CXT} {k:Nat} {f C:Addr} {fd:FuncData} {ps:List Str} {sp:Sp} {dvs:List V} {ds:List Value} {E:XK} {x m:Str} {p pos apos:Pos} {e o:Expr} {es:List Expr} {ta:TE} {t:TA}
theorem run_fn {pins:List (Addr × Obj)} {σ:St} {H:Hp} {s:Shared} {Q:VK} {us:List Value} {vs:List V} (F:FnOk X.prog X.w X.K X.mg X.base CX k f fd ps sp) (hr:Room k X.A) (hb:Binds X.K fd ps ds) (hd:Vals dvs ds) (hx:Passes CX X E)
    (I:Inv X pins σ H s) (r:Vals vs us) (h:sp (vs ++ dvs) H Q E):wpAny (model X.prog X.w) X.A (call (.ref f) us) (EP X pins σ Q) X.xe s:=by
  have r2:Vals (vs ++ dvs) (us ++ ds):=r.append hd
  have hl:(us ++ ds).length=ps.length:=by rw [<- r2.length]; exact F.len _ _ _ _ h
  refine wpAny_call (codeAny_mono (F.run X.A X.stack s H ⟨us,[]⟩ (us ++ ds) (vs ++ dvs) Q E hr I.env0 (hb s us I.kIn hl) r2 h) fun r s' hq=>?_)
  cases r with
  | error e=>exact hx pins σ H s e s' I hq
  | ok fl =>
    cases fl with
    | ret u=>exact I.after hq
    | next=>exact False.elim hq
    | brk=>exact False.elim hq
    | cont=>exact False.elim hq
theorem pe_call (F:FnOk X.prog X.w X.K X.mg X.base CX k f fd ps sp) (hr:Room k X.A) (hg:Gl X x) (hm:X.mg x=some (.ref f)) (hk:PySem.W.keepIn X.K (.ref f)=true) (hb:Binds X.K fd ps ds) (hd:Vals dvs ds) (hx:Passes CX X E)
    (ha:PA X (e :: es) t) (hdb:(x == ("__debug__":Str))=false:=by decide) (he:starEach (e :: es) X.env=(false,eval e X.env) :: starEach es X.env:=by rfl) (hpl:(backTo pos (starEach es X.env)).any (·.1)=false:=by rfl) :
    PE X (.Call (.Name x p) (e :: es) [] pos) (tCall sp dvs E t):=by
  intro pins s σ H Q I h
  refine wpAny_Call_Name_kw (ld_glob I hg hm ?_ hdb)
  refine PySem.W.callWith_K (h₀:=X.base) I.ok.mod.kin hk (thn (ha pos pins s σ H _ I h) fun us s1 ⟨vs,H1,I1,r,q⟩=>⟨I1.kIn,?_⟩) he hpl
  exact run_fn F hr hb hd hx I1 r q
theorem pe_meth {pl:Sem Bool} (he:PE X o ta) (c:Cls X.K C) (hm:Meth X.K C m f) (F:FnOk X.prog X.w X.K X.mg X.base CX k f fd ps sp) (hr:Room k X.A) (hb:Binds X.K fd ps ds) (hd:Vals dvs ds) (hx:Passes CX X E) (ha:PA X (e :: es) t)
    (hst:starEach (e :: es) X.env=(false,eval e X.env) :: starEach es X.env:=by rfl) (hpl:(backTo pos (starEach es X.env)).any (·.1)=false:=by rfl)
    (ht:eval (.Call (.Attribute o m apos) (e :: es) [] pos) X.env=(do
      let ov <- eval o X.env
      standAt apos.atName
      let (f,first) <- holding [ov] (getMethod ov m pl)
      callWith pos f first (backTo pos (starEach (e :: es) X.env)) (backToKw pos (keywordEach [] X.env))):=by rfl) :
    PE X (.Call (.Attribute o m apos) (e :: es) [] pos) (tMeth C m sp dvs E ta t):=by
  intro pins s σ H Q I h
  refine PySem.W.methodCall_KW (pl:=pl) (thn (he pins s σ H _ I h) fun u s1 ⟨x,H1,I1,rx,a,dx,fs,ex,ea,l,q⟩=>?_) ht
  subst ex
  obtain rfl:u=Value.ref a:=rx
  refine getmeth_ok I1 ea c hm l ?_
  refine PySem.W.callWith_K (first:=[.ref a]) (h₀:=X.base) I.ok.mod.kin hm.kp (thn (ha pos pins s1 σ H1 _ I1 q) fun us s2 ⟨vs,H2,I2,r,q2⟩=>⟨I2.kIn,?_⟩) hst hpl
  exact run_fn (us:=.ref a :: us) (vs:=.ref a :: vs) F hr hb hd hx I2 (.cons rfl r) q2
theorem pe_meth0 {pl:Sem Bool} (he:PE X o ta) (c:Cls X.K C) (hm:Meth X.K C m f) (F:FnOk X.prog X.w X.K X.mg X.base CX k f fd ps sp) (hr:Room k X.A) (hb:Binds X.K fd ps ds) (hd:Vals dvs ds) (hx:Passes CX X E)
    (ht:eval (.Call (.Attribute o m apos) [] [] pos) X.env=(do
      let ov <- eval o X.env
      standAt apos.atName
      let (f,first) <- holding [ov] (getMethod ov m pl)
      callWith pos f first (backTo pos (starEach [] X.env)) (backToKw pos (keywordEach [] X.env))):=by rfl) :
    PE X (.Call (.Attribute o m apos) [] [] pos) (tMeth C m sp dvs E ta tNil):=by
  intro pins s σ H Q I h
  refine PySem.W.methodCall_KW (pl:=pl) (thn (he pins s σ H _ I h) fun u s1 ⟨x,H1,I1,rx,a,dx,fs,ex,ea,l,q⟩=>?_) ht
  subst ex
  obtain rfl:u=Value.ref a:=rx
  refine getmeth_ok I1 ea c hm l ?_
  exact PySem.W.callWith_K0 (first:=[.ref a]) I1.kIn hm.kp (run_fn (us:=[.ref a]) (vs:=[.ref a]) F hr hb hd hx I1 (.cons rfl .nil) q)
structure Mk (K:PySem.W.Frag) (C f:Addr):Prop where
  makes:PySem.W.makesIn K C=true
  init:PySem.W.findIn K (.ref C) "__init__"=some (some (.ref f))
  fn:PySem.W.isFn K (.ref f)=true
  kp:PySem.W.keepIn K (.ref C)=true
theorem run_make {pins:List (Addr × Obj)} {σ:St} {H:Hp} {s:Shared} {Q:VK} {us:List Value} {vs:List V} (M:Mk X.K C f) (F:FnOk X.prog X.w X.K X.mg X.base CX k f fd ps sp) (hr:Room (k + 1) X.A) (hb:Binds X.K fd ps ds) (hd:Vals dvs ds)
    (hx:Passes CX X E) (I:Inv X pins σ H s) (r:Vals vs us)
    (h:∀ x dx,H x=none->H dx=none->dx≠x->sp (.ref x :: (vs ++ dvs)) (upd (upd H dx (.own x)) x (.ins C dx [])) (fun v H2=>v=.non/\Q (.ref x) H2) E) :
    wpAny (model X.prog X.w) X.A (call (.ref C) us) (EP X pins σ Q) X.xe s:=by
  have hq:=h (s.heap.objs.size + 1) s.heap.objs.size (I.hok.fresh (Nat.le_succ _)) (I.hok.fresh (Nat.le_refl _)) (Nat.ne_of_lt (Nat.lt_succ_self _))
  have I2:=Inv.made (C:=C) I
  have r2:Vals (V.ref (s.heap.objs.size + 1) :: (vs ++ dvs)) (Value.ref (s.heap.objs.size + 1) :: (us ++ ds)):=.cons rfl (r.append hd)
  have hl:(Value.ref (s.heap.objs.size + 1) :: us ++ ds).length=ps.length:=by
    have e:=r2.length
    rw [F.len _ _ _ _ hq] at e
    exact e.symm
  refine wpAny_call (make_map (f:=f) I.kIn M.makes M.init (beq_iff_eq.mp M.fn) (codeAny_mono (F.run _ X.stack _ _ ⟨Value.ref (s.heap.objs.size + 1) :: us,[]⟩ (Value.ref (s.heap.objs.size + 1) :: (us ++ ds)) _ _ E (hr.make C us [])
    (I2.env0.make C us []) (hb _ (Value.ref (s.heap.objs.size + 1) :: us) I2.kIn hl) r2 hq) fun r s' hq'=>?_))
  cases r with
  | error e=>exact hx pins σ _ _ e s' I2 hq'
  | ok fl =>
    cases fl with
    | ret u =>
      obtain ⟨v,H',I3,rv,ev,q3⟩:=I2.after hq'
      subst ev
      exact ⟨rv,⟨V.ref (s.heap.objs.size + 1),H',I3,rfl,q3⟩⟩
    | next=>exact False.elim hq'
    | brk=>exact False.elim hq'
    | cont=>exact False.elim hq'
theorem pe_make (M:Mk X.K C f) (F:FnOk X.prog X.w X.K X.mg X.base CX k f fd ps sp) (hr:Room (k + 1) X.A) (hg:Gl X x) (hm:X.mg x=some (.ref C)) (hb:Binds X.K fd ps ds) (hd:Vals dvs ds) (hx:Passes CX X E)
    (ha:PA X (e :: es) t) (hdb:(x == ("__debug__":Str))=false:=by decide) (he:starEach (e :: es) X.env=(false,eval e X.env) :: starEach es X.env:=by rfl) (hpl:(backTo pos (starEach es X.env)).any (·.1)=false:=by rfl) :
    PE X (.Call (.Name x p) (e :: es) [] pos) (tMake C sp dvs E t):=by
  intro pins s σ H Q I h
  refine wpAny_Call_Name_kw (ld_glob I hg hm ?_ hdb)
  refine PySem.W.callWith_K (h₀:=X.base) I.ok.mod.kin M.kp (thn (ha pos pins s σ H _ I h) fun us s1 ⟨vs,H1,I1,r,q⟩=>⟨I1.kIn,?_⟩) he hpl
  exact run_make M F hr hb hd hx I1 r q
theorem pe_make0 (M:Mk X.K C f) (F:FnOk X.prog X.w X.K X.mg X.base CX k f fd ps sp) (hr:Room (k + 1) X.A) (hg:Gl X x) (hm:X.mg x=some (.ref C)) (hb:Binds X.K fd ps ds) (hd:Vals dvs ds) (hx:Passes CX X E)
    (hdb:(x == ("__debug__":Str))=false:=by decide):PE X (.Call (.Name x p) [] [] pos) (tMake C sp dvs E tNil):=by
  intro pins s σ H Q I h
  refine wpAny_Call_Name_kw (ld_glob I hg hm ?_ hdb)
  exact PySem.W.callWith_K0 I.kIn M.kp (run_make (us:=[]) M F hr hb hd hx I .nil h)
end
section
variable {X:Cx} {CX:CXT} {k:Nat} {f C:Addr} {fd:FuncData} {ps ks:List Str} {sp:Sp} {E:XK} {x m:Str} {p pos apos kpos:Pos} {e o:Expr} {es:List Expr} {kws:List Keyword} {te ta:TE} {t tk:TA} {nm:Option Str}
structure KBinds (K:PySem.W.Frag) (fd:FuncData) (ps ks:List Str) (g:List Value->List Value->List Value) (gV:List V->List V->List V):Prop where
  to:∀ (s:Shared) (us ws:List Value),K.In s.heap->(g us ws).length=ps.length->BindsTo s fd ⟨us,ks.zip ws⟩ (ps.zip (g us ws))
  rel:∀ {vs:List V} {us:List Value} {zs:List V} {ws:List Value},Vals vs us->Vals zs ws->Vals (gV vs zs) (g us ws)
variable {g:List Value->List Value->List Value} {gV:List V->List V->List V}
end
structure FnScope (N P:List Str) (sc:Scope):Prop where
  kind:sc.kind=.function
  co:sc.isCoroutine=false
  gen:sc.isGenerator=false
  nd:N.Nodup
  pre:N.take P.length=P
  par:∀ x∈P,sc.names.lookup x=some .local\/sc.names.lookup x=some .cell
  nofree:∀ y∈sc.names,y.2≠.free
theorem bindL_out {kindOf:Str->Option NameKind} {x:Str}:∀ {binds:List (Str × Value)} {m:Str->Option Value},(∀ v,(x,v) ∉ binds)->bindL kindOf binds m x=m x
  | [],_,_=>rfl
  | (n,v) :: r,m,h=>by
    unfold bindL
    rw [bindL_out fun w hw=>h w (List.mem_cons_of_mem _ hw)]
    split
    · have:x≠n:=by rintro rfl; exact h v List.mem_cons_self
      simp [this]
    · rfl
theorem bindC_out {kindOf:Str->Option NameKind} {x:Str}:∀ {binds:List (Str × Value)} {m:Str->Option Value},(∀ v,(x,v) ∉ binds)->bindC kindOf binds m x=m x
  | [],_,_=>rfl
  | (n,v) :: r,m,h=>by
    unfold bindC
    rw [bindC_out fun w hw=>h w (List.mem_cons_of_mem _ hw)]
    split
    · rfl
    · have:x≠n:=by rintro rfl; exact h v List.mem_cons_self
      simp [this]
theorem bindL_get {kindOf:Str->Option NameKind} {x:Str} {v:Value}:∀ {P:List Str} {vs:List Value} {i:Nat} {m:Str->Option Value},P.Nodup->P[i]?=some x->vs[i]?=some v->kindOf x=some .local ->
    bindL kindOf (P.zip vs) m x=some v
  | [],_,_,_,_,h,_,_=>by simp at h
  | _ :: _,[],_,_,_,_,h,_=>by simp at h
  | p :: P,w :: vs,0,m,nd,h1,h2,hk=>by
    simp at h1 h2; subst h1; subst h2
    show bindL kindOf ((p,w) :: P.zip vs) m p=_
    unfold bindL
    rw [bindL_out fun v hv=>(List.nodup_cons.mp nd).1 (List.of_mem_zip hv).1,if_pos hk]
    simp
  | p :: P,w :: vs,i + 1,m,nd,h1,h2,hk=>by
    show bindL kindOf ((p,w) :: P.zip vs) m x=_
    unfold bindL
    exact bindL_get (i:=i) (List.nodup_cons.mp nd).2 (by simpa using h1) (by simpa using h2) hk
theorem bindC_get {kindOf:Str->Option NameKind} {x:Str} {v:Value}:∀ {P:List Str} {vs:List Value} {i:Nat} {m:Str->Option Value},P.Nodup->P[i]?=some x->vs[i]?=some v->kindOf x≠some .local ->
    bindC kindOf (P.zip vs) m x=some v
  | [],_,_,_,_,h,_,_=>by simp at h
  | _ :: _,[],_,_,_,_,h,_=>by simp at h
  | p :: P,w :: vs,0,m,nd,h1,h2,hk=>by
    simp at h1 h2; subst h1; subst h2
    show bindC kindOf ((p,w) :: P.zip vs) m p=_
    unfold bindC
    rw [bindC_out fun v hv=>(List.nodup_cons.mp nd).1 (List.of_mem_zip hv).1,if_neg hk]
    simp
  | p :: P,w :: vs,i + 1,m,nd,h1,h2,hk=>by
    show bindC kindOf ((p,w) :: P.zip vs) m x=_
    unfold bindC
    exact bindC_get (i:=i) (List.nodup_cons.mp nd).2 (by simpa using h1) (by simpa using h2) hk
def start (N:List Str) (vs:List V):St:=vs.map some ++ List.replicate (N.length - vs.length) none
def cxOf (CX:CXT) (P:Program) (w:World) (K:PySem.W.Frag) (mg:Str->Option Value) (base:Heap) (N:List Str) (qual:Str) (scope:Scope) (f:Addr) (cd:Value) (A:Around) (outer:List Env) (s:Shared) (H:Hp) (E:XK):Cx where
  prog:=P
  w:=w
  K:=K
  mg:=mg
  base:=base
  A:=A.deeper (envOfC qual scope s.heap.objs.size f cd)
  N:=N
  s₀:=s
  H₀:=H
  env:=envOfC qual scope s.heap.objs.size f cd
  outer:=outer
  stack:=envOfC qual scope s.heap.objs.size f cd :: outer
  ex:=[]
  calm:=true
  fn:=fun _=>true
  pn:=[]
  xe:=fun e s'=>wpAny (model P w) (A.deeper (envOfC qual scope s.heap.objs.size f cd)) (leaving (envOfC qual scope s.heap.objs.size f cd) e) (fun _ s''=>CX outer H s E e s'') (fun e' s''=>CX outer H s E e' s'') s'
theorem cell_has {sc:Scope} {n:Nat} {x:Str} (h:sc.names.lookup x=some .cell):∃ c,(cellsFrom n sc.names []).lookup x=some c:=by
  have q:=PySem.W.cellsFrom_some sc.names n [] (.inl h)
  exact Option.isSome_iff_exists.mp q
theorem inv_start {CX:CXT} {P:Program} {w:World} {K:PySem.W.Frag} {mg:Str->Option Value} {base:Heap} {N ps:List Str} {qual:Str} {scope:Scope} {f:Addr} {cd:Value} {A:Around} {outer:List Env} {s s1:Shared} {H:Hp} {E:XK} {us:List Value} {vs:List V}
    (S:FnScope N ps scope) (hd:A.handled=none) (e0:Env0 P w K mg base A outer s H) (hl:vs.length=ps.length) (r:Vals vs us)
    (x:InCallC s s.heap.objs.size (bindL (envOfC qual scope s.heap.objs.size f cd).kindOf (ps.zip us) fun _=>none) (cellsFrom (s.heap.objs.size + 1) scope.names []) (bindC (envOfC qual scope s.heap.objs.size f cd).kindOf (ps.zip us) fun _=>none) s1) :
    Inv (cxOf CX P w K mg base N qual scope f cd A outer s H E) [] (start N vs) H s1:=by
  have hpl:ps.length<=N.length:=by have:=congrArg List.length S.pre; rw [List.length_take] at this; lia
  obtain ⟨h1,tk,rfl,hk⟩:=x.done
  have noA:∀ b:Addr,b ∉ (cxOf CX P w K mg base N qual scope f cd A outer s H E).ex:=fun b z=>absurd (show b∈([]:List Addr) from z) (by simp)
  refine ⟨⟨e0.mod,S.kind,rfl,rfl,Nat.le_refl _,fun y z c h1 h2=>?_,fun y hy=>?_,fun y c _ h=>?_,fun _=>hd,Around.frames_deeper e0.frames,.inr ⟨rfl,rfl⟩,fun b z=>absurd z (noA b),e0.bs,e0.bsz,fun b _ _=>noA b,fun b z=>absurd z (noA b),e0.funs,e0.frf⟩,
    rfl,e0.bare,Un.kept hk,⟨_,x.toInCall.ns,fun i y v h1 h2 h3=>?_⟩,fun y c h=>⟨_,x.cell y c h⟩,e0.hok.fresh (Nat.le_refl _),fun y c h=>?_,fun p hp=>absurd (show p∈([]:List (Addr × Obj)) from hp) (by simp),e0.hok.kept hk,?_⟩
  · exact name_of_addr x.apart (PySem.mem_of_lookup h1) (PySem.mem_of_lookup h2)
  · have hy:scope.names.lookup y=some .cell\/scope.names.lookup y=some .free:=hy
    rcases hy with hy | hy
    · exact cell_has hy
    · exact absurd rfl (S.nofree _ (PySem.mem_of_lookup hy))
  · exact Nat.le_of_lt (x.above y c (PySem.mem_of_lookup h))
  · have hi:i < vs.length:=by
      unfold start at h2
      by_cases hi:i < vs.length
      · exact hi
      · rw [List.getElem?_append_right (by simpa using hi)] at h2
        rw [List.getElem?_replicate] at h2
        split at h2 <;> cases h2
    have ha:vs[i]?=some v:=by
      unfold start at h2
      rw [List.getElem?_append_left (by simpa using hi),List.getElem?_map] at h2
      cases e:vs[i]? with
      | none=>rw [e] at h2; cases h2
      | some a=>rw [e] at h2; cases h2; rfl
    obtain ⟨u,hu,rv⟩:=r.get ha
    have hp:ps[i]?=some y:=by
      rw [<- S.pre,List.getElem?_take_of_lt (by lia)]; exact h1
    have ndP:ps.Nodup:=by rw [<- S.pre]; exact S.nd.sublist (List.take_sublist _ _)
    refine ⟨u,rv,?_⟩
    rcases S.par y (List.mem_of_getElem? hp) with k | k
    · exact .inl ⟨k,bindL_get ndP hp hu k⟩
    · obtain ⟨c,e⟩:=cell_has (n:=s.heap.objs.size + 1) k
      refine .inr ⟨.inl k,c,e,?_⟩
      have q:=x.cell y c e
      rw [bindC_get ndP hp hu (by show scope.names.lookup y≠_; rw [k]; decide)] at q
      exact q
  · exact e0.hok.fresh (Nat.le_of_lt (x.above y c (PySem.mem_of_lookup h)))
  · unfold start
    show _=N.length
    rw [List.length_append,List.length_map,List.length_replicate]
    lia
theorem fn_of {CX:CXT} {P:Program} {w:World} {K:PySem.W.Frag} {mg:Str->Option Value} {base:Heap} {k:Nat} {f:Addr} {name qual:Str} {params:Arguments} {body:List Stmt} {scope:Scope} {dV kV doc pm cdv ct oc:Value} {an od:Option Addr}
    {osl:Array (Option Value)} {N ps:List Str} {sp:Sp} (lk:K.lookup f=some ⟨oc,od,.func (PySem.W.fnOf name qual params body scope dV kV doc pm an cdv ct),osl⟩) (hcd:PySem.W.codeIn K cdv qual=true) (S:FnScope N ps scope)
    (len:∀ vs H Q E,sp vs H Q E->vs.length=ps.length)
    (hbody:∀ (A:Around) (outer:List Env) (s:Shared) (H:Hp) (vs:List V) (Q:VK) (E:XK),Room k (A.deeper (envOfC qual scope s.heap.objs.size f cdv))->sp vs H Q E ->
      ∃ t,PSs (cxOf CX P w K mg base N qual scope f cdv A outer s H E) body t/\t { nx:=fun _ H'=>Q .non H',rt:=Q } (start N vs) H) :
    FnOk P w K mg base CX (k + 1) f (PySem.W.fnOf name qual params body scope dV kV doc pm an cdv ct) ps sp:=by
  refine ⟨len,fun A outer s H args us vs Q E hr e0 hb r hsp=>?_⟩
  have hl:=len _ _ _ _ hsp
  have KX:K.In s.heap:=e0.mod.kin.keeps fun b o e=>(e0.bs b o e).1
  have lim:s.heap.NoLimit:=e0.mod.nolimit.keeps fun b o e=>(e0.bs b o e).1
  have hkind:∀ y∈ps.zip us,scope.names.lookup y.1=some .local\/(scope.names.lookup y.1=some .cell/\((cellsFrom (s.heap.objs.size + 1) scope.names []).lookup y.1).isSome=true):=fun ⟨n,v⟩ hy=>by
    rcases S.par n (List.of_mem_zip hy).1 with q | q
    · exact .inl q
    · exact .inr ⟨q,PySem.W.cellsFrom_some _ _ _ (.inl q)⟩
  refine codeAny_call_function hr.depth (KX _ _ lk) rfl S.co S.gen rfl (PySem.W.codeRec_of KX hcd) (hb _ _ _ _ ?_)
  refine wpAny_newFunctionEnv_cells S.kind hkind fun env he s1 x=>?_
  subst he
  refine ⟨lim.keeps x.toInCall.keep,codeAny_func ?_⟩
  obtain ⟨t,ht,hq⟩:=hbody A outer s H vs Q E (hr.deeper _) hsp
  have I:Inv (cxOf CX P w K mg base N qual scope f cdv A outer s H E) [] (start N vs) H s1:=inv_start S hr.hd e0 hl r x
  refine wpAny_mono (ht [] s1 (start N vs) H _ I hq) (fun fl s' hs=>?_) fun e s' hs=>hs
  have fin:∀ {σ':St} {H':Hp} {v:V} {u:Value},Inv (cxOf CX P w K mg base N qual scope f cdv A outer s H E) [] σ' H' s'->RelV v u->Q v H'->CE outer P w H s Q u s' :=
    fun {σ' H' v u} J rv q=>⟨v,H',J.os,J.bare,J.base,J.hok,rv,q⟩
  cases fl with
  | ret u =>
    obtain ⟨v,σ',H',J,rv,q⟩:=hs
    exact fin J rv q
  | next =>
    obtain ⟨σ',H',J,q⟩:=hs
    exact fin (v:=V.non) (u:=Value.none) J rfl q
  | brk =>
    obtain ⟨_,_,_,q⟩:=hs
    exact False.elim q
  | cont =>
    obtain ⟨_,_,_,q⟩:=hs
    exact False.elim q
end L2
namespace L2
open PySem PySem.Spec PyProof.Rows
section
variable {X:Cx} {x:Str} {p pos:Pos} {e:Expr} {es:List Expr} {t:TA} {id T:String} {r:List V->Hp->VK->Prop}
def tCB (r:List V->Hp->VK->Prop) (t:TA):TE:=fun σ H Q=>t σ H fun vs H1=>r vs H1 Q
theorem pe_callB (hc:CallR X (.builtin id) r) (hg:Gl X x) (hm:X.mg x=none) (hv:bootBuiltins x=some (.builtin id)) (ha:PA X (e :: es) t) (hn:x≠"__name__":=by decide) (hdb:(x == ("__debug__":Str))=false:=by decide)
    (he:starEach (e :: es) X.env=(false,eval e X.env) :: starEach es X.env:=by rfl) (hpl:(backTo pos (starEach es X.env)).any (·.1)=false:=by rfl):PE X (.Call (.Name x p) (e :: es) [] pos) (tCB r t):=by
  intro pins s σ H Q I h
  refine wpAny_Call_Name_kw (ld_blt I hg hm hv ?_ hn hdb)
  exact PyProof.Rows.callWith_builtin1 (thn (ha pos pins s σ H _ I h) fun us s1 ⟨vs,H1,I1,r1,q1⟩=>hc pins s1 σ H1 vs us Q I1 r1 q1) he hpl
theorem pe_callTy (hc:CallR X (.type T) r) (hg:Gl X x) (hm:X.mg x=none) (hv:bootBuiltins x=some (.type T)) (ha:PA X (e :: es) t) (hn:x≠"__name__":=by decide) (hdb:(x == ("__debug__":Str))=false:=by decide)
    (he:starEach (e :: es) X.env=(false,eval e X.env) :: starEach es X.env:=by rfl) (hpl:(backTo pos (starEach es X.env)).any (·.1)=false:=by rfl):PE X (.Call (.Name x p) (e :: es) [] pos) (tCB r t):=by
  intro pins s σ H Q I h
  refine wpAny_Call_Name_kw (ld_blt I hg hm hv ?_ hn hdb)
  exact PyProof.Rows.callWith_type1 (thn (ha pos pins s σ H _ I h) fun us s1 ⟨vs,H1,I1,r1,q1⟩=>hc pins s1 σ H1 vs us Q I1 r1 q1) he hpl
end
end L2
namespace HT
open PySem PyProof.Rows
section
open PySem.SeqAt
open PySem.AutoSeq1 (wpAny_loadPart')
open PySem.MeetsSeq PySem.MeetsSeq2 PySem.MeetsSeq3
end
section
variable {prog:Program} {w:World} {A:Around} {E:Value->Shared->Prop} {s:Shared}
def sIx (n d:Nat):Option Int->Nat
  | none=>d
  | some v=>if v < 0 then (v + (n:Int)).toNat else min v.toNat n
theorem sIx_nat (n d k:Nat):sIx n d (some (k:Int))=min k n:=by
  show (if (k:Int) < 0 then ((k:Int) + (n:Int)).toNat else min (k:Int).toNat n)=min k n
  rw [if_neg (by lia),Int.toNat_natCast]
end
end HT
namespace L2
open PySem PySem.Spec PyProof.Rows
abbrev TO:=St->Hp->(Option Int->Hp->Prop)->Prop
def PO (X:Cx) (e:Option Expr) (t:TO):Prop :=
  ∀ (pins:List (Addr × Obj)) (s:Shared) (σ:St) (H:Hp) (Q:Option Int->Hp->Prop),Inv X pins σ H s->t σ H Q ->
    wpAny (model X.prog X.w) X.A (evalPart e X.env) (fun u s'=>∃ o H',Inv X pins σ H' s'/\IsPart u o/\Q o H') X.xe s
def tNoPart:TO:=fun _ H Q=>Q none H
def tPart (t:TE):TO:=fun σ H Q=>t σ H fun x H1=>∃ i,x=.int i/\Q (some i) H1
section
variable {X:Cx} {e:Expr} {te:TE} {lo hi:Option Expr} {tl th:TO} {pos p2:Pos}
theorem po_none:PO X none tNoPart:=by
  intro pins s σ H Q I h
  rw [evalPart_none]
  exact wpAny_pure ⟨none,H,I,.none,h⟩
theorem po_some (h:PE X e te):PO X (some e) (tPart te):=by
  intro pins s σ H Q I hw
  rw [evalPart_some]
  refine thn (h pins s σ H _ I hw) fun u s1 ⟨x,H1,I1,r1,q1⟩=>?_
  obtain ⟨i,rfl,q⟩:=q1
  obtain ⟨t,rfl⟩:=r1
  exact ⟨some i,H1,I1,.int i t,q⟩
def SlR (X:Cx) (r:V->Option Int->Option Int->Hp->VK->Prop):Prop :=
  ∀ (pins:List (Addr × Obj)) (s:Shared) (σ:St) (H:Hp) (x:V) (v vl vu:Value) (lo hi:Option Int) (sl:Addr) (Q:VK),Inv X pins σ H s->RelV x v->s.heap.IsSliceOf sl vl vu .none->IsPart vl lo->IsPart vu hi->r x lo hi H Q ->
    ∃ T id,typeLookup (.type T) "__getitem__"=pure (some (.builtin id))/\s.TypeIs v T/\wpAny (model X.prog X.w) X.A (getItem v (.ref sl)) (EP X pins σ Q) X.xe s
theorem SlR.or {r r':V->Option Int->Option Int->Hp->VK->Prop} (h:SlR X r) (h':SlR X r'):SlR X (fun x lo hi H Q=>r x lo hi H Q\/r' x lo hi H Q):=by
  intro pins s σ H x v vl vu lo hi sl Q I rx hs pl pu q
  rcases q with q | q
  · exact h pins s σ H x v vl vu lo hi sl Q I rx hs pl pu q
  · exact h' pins s σ H x v vl vu lo hi sl Q I rx hs pl pu q
def tSl (r:V->Option Int->Option Int->Hp->VK->Prop) (te:TE) (tl th:TO):TE:=fun σ H Q=>te σ H fun x H1=>tl σ H1 fun l H2=>th σ H2 fun u H3=>r x l u H3 Q
theorem pe_slice {r:V->Option Int->Option Int->Hp->VK->Prop} (hr:SlR X r) (he:PE X e te) (hl:PO X lo tl) (hu:PO X hi th):PE X (.Subscript e (.Slice lo hi none p2) pos) (tSl r te tl th):=by
  intro pins s σ H Q I h
  refine Subscript_ (thn (he pins s σ H _ I h) fun v s1 ⟨x,H1,I1,r1,q1⟩=>?_)
  refine wpAny_Slice (thn (hl pins s1 σ H1 _ I1 q1) fun vl s2 ⟨l,H2,I2,pl,q2⟩=>thn (hu pins s2 σ H2 _ I2 q2) fun vu s3 ⟨u,H3,I3,pu,q3⟩=>?_)
  rw [evalPart_none]
  refine wpAny_pure ?_
  have I4:Inv X pins σ H3 { s3 with heap:=s3.heap.push { cls:=.type "slice",data:=.fields #[vl,vu,.none] } }:=I3.kept (t':=s3.toks) fun b ob q=>Heap.get?_push_of_some _ q
  obtain ⟨T,id,hT,ht,hg⟩:=hr pins { s3 with heap:=s3.heap.push { cls:=.type "slice",data:=.fields #[vl,vu,.none] } } σ H3 x v vl vu l u s3.heap.objs.size Q I4 r1 (Heap.IsSliceOf.new ..) pl pu q3
  show wpAny (model X.prog X.w) X.A (subscriptTail e (.Slice lo hi none p2) v (.ref s3.heap.objs.size)) (EP X pins σ Q) X.xe { s3 with heap:=s3.heap.push { cls:=.type "slice",data:=.fields #[vl,vu,.none] } }
  exact tail_any (ops:=[.ref s3.heap.objs.size,v]) ht hT hg (by with_unfolding_all rfl)
def cutV (xs:List V) (lo hi:Option Int):List V:=(xs.drop (HT.sIx xs.length 0 lo)).take (HT.sIx xs.length xs.length hi - HT.sIx xs.length 0 lo)
theorem cutV_length (xs:List V) (lo hi:Option Int):(cutV xs lo hi).length<=xs.length:=by
  unfold cutV
  rw [List.length_take,List.length_drop]
  lia
end
end L2
namespace L2
open PySem PySem.Spec PyProof.Rows
def ixN (n:Nat) (i:Int):Option Nat:=if 0<=i then (if i < n then some i.toNat else none) else if -(n:Int)<=i then some (i + n).toNat else none
def atI {α:Type} (xs:List α) (i:Int):Option α:=(ixN xs.length i).bind fun j=>xs[j]?
theorem ixN_seq {n:Nat} {i:Int} {j:Nat} (h:ixN n i=some j):seqIndex? i n=some j/\j < n/\-(n:Int)<=i/\i < n:=by
  unfold ixN at h
  by_cases h0:0<=i
  · rw [if_pos h0] at h
    by_cases h1:i < n
    · rw [if_pos h1] at h
      have e:i.toNat=j:=Option.some.inj h
      exact ⟨by rw [seqIndex_of h0 h1,e],by lia,by lia,h1⟩
    · rw [if_neg h1] at h; cases h
  · rw [if_neg h0] at h
    by_cases h1:-(n:Int)<=i
    · rw [if_pos h1] at h
      have e:(i + n).toNat=j:=Option.some.inj h
      exact ⟨by rw [seqIndex_neg (by lia) h1,e],by lia,h1,by lia⟩
    · rw [if_neg h1] at h; cases h
theorem atI_get {α:Type} {xs:List α} {i:Int} {v:α} (h:atI xs i=some v):∃ j,seqIndex? i xs.length=some j/\xs[j]?=some v/\j < xs.length/\-(xs.length:Int)<=i/\i < xs.length:=by
  unfold atI at h
  cases e:ixN xs.length i with
  | none=>rw [e] at h; cases h
  | some j =>
    rw [e] at h
    obtain ⟨h1,h2,h3,h4⟩:=ixN_seq e
    exact ⟨j,h1,h,h2,h3,h4⟩
theorem atI_nat {α:Type} {xs:List α} {j:Nat} {v:α} (h:xs[j]?=some v):atI xs (j:Int)=some v:=by
  have hj:j < xs.length:=(List.getElem?_eq_some_iff.mp h).1
  have e:ixN xs.length (j:Int)=some j:=by
    unfold ixN
    rw [if_pos (by lia),if_pos (by lia)]; simp
  unfold atI; rw [e]; exact h
def PlainIx (b:Expr):Prop:=∀ o i,subscripted b false o i=operate [o,i] (getItem o i)
def IxR (X:Cx) (r:R2):Prop :=
  ∀ (value slice:Expr) (pins:List (Addr × Obj)) (s:Shared) (σ:St) (H:Hp) (x y:V) (v u:Value) (Q:VK),Inv X pins σ H s->RelV x v->RelV y u->r x y H Q ->
    subscripted slice false v u=operate [v,u] (getItem v u)->wpAny (model X.prog X.w) X.A (subscriptTail value slice v u) (EP X pins σ Q) X.xe s
def MtR (X:Cx) (id:String) (r:V->List V->Hp->VK->Prop):Prop :=
  ∀ (pins:List (Addr × Obj)) (s:Shared) (σ:St) (H:Hp) (x:V) (xs:List V) (v:Value) (us:List Value) (Q:VK),Inv X pins σ H s->RelV x v->Vals xs us->r x xs H Q ->
    wpAny (model X.prog X.w) X.A (call (.builtin id) (v :: us)) (EP X pins σ Q) X.xe s
section
variable {X:Cx} {a b:Expr} {ta tb:TE} {pos:Pos}
theorem IxR.or {r r':R2} (h:IxR X r) (h':IxR X r'):IxR X (fun x y H Q=>r x y H Q\/r' x y H Q):=by
  intro value slice pins s σ H x y v u Q I rx ry q hs
  rcases q with q | q
  · exact h value slice pins s σ H x y v u Q I rx ry q hs
  · exact h' value slice pins s σ H x y v u Q I rx ry q hs
theorem MtR.or {id:String} {r r':V->List V->Hp->VK->Prop} (h:MtR X id r) (h':MtR X id r'):MtR X id (fun x xs H Q=>r x xs H Q\/r' x xs H Q):=by
  intro pins s σ H x xs v us Q I rx rs q
  rcases q with q | q
  · exact h pins s σ H x xs v us Q I rx rs q
  · exact h' pins s σ H x xs v us Q I rx rs q
theorem pe_ix {r:R2} (hr:IxR X r) (ha:PE X a ta) (hb:PE X b tb) (hs:PlainIx b):PE X (.Subscript a b pos) (tOp r ta tb):=by
  intro pins s σ H Q I h
  exact Subscript_ (binT ha hb I h fun v u s2 x y H2 I2 rx ry q=>hr a b pins s2 σ H2 x y v u Q I2 rx ry q (hs _ _))
def rIxL (K:PySem.W.Frag):R2:=fun x y H Q=>∃ p xs i v,x=.ref p/\y=.int i/\SqL K H p xs/\atI xs i=some v/\Q v H
def rIxT (K:PySem.W.Frag):R2:=fun x y H Q=>∃ p xs i v,x=.ref p/\y=.int i/\SqT K H p xs/\atI xs i=some v/\Q v H
theorem ix_list:IxR X (rIxL X.K):=by
  intro value slice pins s σ H x y v u Q I rx ry h hs
  obtain ⟨p,xs,i,z,rfl,rfl,hq,he,q⟩:=h
  cases rx
  obtain ⟨t,rfl⟩:=ry
  obtain ⟨its,r,pl,hz⟩:=I.list hq
  obtain ⟨j,h1,h2,h3,h4,h5⟩:=atI_get he
  obtain ⟨w,ew,rw'⟩:=r.get h2
  have hl:=r.length
  have hn:=line63
  have fin:EP X pins σ Q w s:=⟨z,H,I,rw',q⟩
  by_cases h0:0<=i
  · have hj:i.toNat=j:=by
      rw [seqIndex_of h0 h5] at h1
      exact Option.some.inj h1
    exact item_listR pl.isList h0 (by lia) (by rw [hj]; simpa using ew) fin hs
  · have hj:(i + (its.toArray.size:Int)).toNat=j:=by
      rw [seqIndex_neg (by lia) h4] at h1
      rw [List.size_toArray,<- hl]
      exact Option.some.inj h1
    exact subscriptTail_builtinR (x:=w) pl.isList.typeIs slot_list_getitem.lookup
      (wpAny_getItem_list_neg (Q:=fun r s'=>r=w/\EP X pins σ Q r s') pl.isList (by lia) (by rw [List.size_toArray] <;> lia) (by lia) (by rw [hj]; simpa using ew) ⟨rfl,fin⟩) hs
theorem ix_tup:IxR X (rIxT X.K):=by
  intro value slice pins s σ H x y v u Q I rx ry h hs
  obtain ⟨p,xs,i,z,rfl,rfl,hq,he,q⟩:=h
  cases rx
  obtain ⟨t,rfl⟩:=ry
  obtain ⟨its,r,pl,hz⟩:=I.tuple hq
  obtain ⟨j,h1,h2,h3,h4,h5⟩:=atI_get he
  obtain ⟨w,ew,rw'⟩:=r.get h2
  have hl:=r.length
  have hn:=line63
  have fin:EP X pins σ Q w s:=⟨z,H,I,rw',q⟩
  exact subscriptTail_builtinR (x:=w) pl.typeIs slot_tuple_getitem.lookup
    (getItem_tuple (j:=j) (Q:=fun r s'=>r=w/\EP X pins σ Q r s') pl (by lia) (by lia) (by rw [List.size_toArray,<- hl]; exact h1) (by simpa using ew) ⟨rfl,fin⟩) hs
theorem mapSeq_set (its:List Value) (n j:Nat) (u:Value):Obj.mapSeq (·.setIfInBounds j u) { cls:=.type "list",data:=.seq its.toArray n }={ cls:=.type "list",data:=.seq (its.set j u).toArray n }:=by
  simp [Obj.mapSeq]
theorem Inv.lst {pins:List (Addr × Obj)} {σ:St} {H:Hp} {s:Shared} {p:Addr} {xs:List V} (I:Inv X pins σ H s) (h:H p=some (.lst xs)) :
    ∃ (its:List Value) (n:Nat),Vals xs its/\s.heap.get? p=some { cls:=.type "list",data:=.seq its.toArray n }/\xs.length<=sizeLine:=by
  obtain ⟨z,its,n,r,e⟩:=I.hok p _ h
  exact ⟨its,n,r,e,z⟩
theorem Inv.lstUpd {pins:List (Addr × Obj)} {σ:St} {H:Hp} {s:Shared} {p:Addr} {xs ys:List V} {its its':List Value} {n n':Nat} {f:Obj->Obj} (I:Inv X pins σ H s) (h:H p=some (.lst xs))
    (ho:s.heap.get? p=some { cls:=.type "list",data:=.seq its.toArray n }) (hf:f { cls:=.type "list",data:=.seq its.toArray n }={ cls:=.type "list",data:=.seq its'.toArray n' }) (r:Vals ys its') (hz:ys.length<=sizeLine) (t:Nat) :
    Inv X pins σ (upd H p (.lst ys)) { s with heap:=s.heap.update p f,toks:=t }:=by
  have e:(s.heap.update p f).get? p=some { cls:=.type "list",data:=.seq its'.toArray n' }:=by
    rw [Heap.get?_update_self f ho (by rw [hf] <;> rfl),hf]
  refine I.write (x:=p) (e:=p) (by rw [h]; trivial) (.inl rfl) (fun b u hb q=>(Heap.get?_update_other _ _ (Ne.symm hb)).trans q) ⟨_,e⟩ ?_
  exact ⟨hz,its',n',r,e⟩
def rSetL:V->V->V->Hp->(Hp->Prop)->Prop:=fun o i v H Q=>∃ p xs k j,o=.ref p/\i=.int k/\H p=some (.lst xs)/\ixN xs.length k=some j/\Q (upd H p (.lst (xs.set j v)))
theorem set_list:PSet X rSetL:=by
  intro pins s σ H o i v ov iv u Q I ro ri rv h
  obtain ⟨p,xs,k,j,rfl,rfl,hp,hj,q⟩:=h
  cases ro
  obtain ⟨t,rfl⟩:=ri
  obtain ⟨its,n,r,ho,hz⟩:=I.lst hp
  obtain ⟨h1,h2,h3,h4⟩:=ixN_seq hj
  have hl:=r.length
  have hn:=line63
  have I':Inv X pins σ (upd H p (.lst (xs.set j v))) { s with heap:=s.heap.update p (Obj.mapSeq (·.setIfInBounds j u)) } :=
    I.lstUpd hp ho (mapSeq_set its n j u) (r.set rv j) (by rw [List.length_set]; exact hz) s.toks
  by_cases h0:0<=k
  · have hk:k.toNat=j:=by
      rw [seqIndex_of h0 h4] at h1
      exact Option.some.inj h1
    exact PySem.W.ki_setAt ho h0 (by lia) (by rw [List.size_toArray,<- hl]; exact h4) (by rw [hk]; exact ⟨_,I',q⟩)
  · have hk:(k + (its.toArray.size:Int)).toNat=j:=by
      rw [seqIndex_neg (by lia) h3] at h1
      rw [List.size_toArray,<- hl]
      exact Option.some.inj h1
    exact PySem.W.ki_setBack ho (by lia) (by rw [List.size_toArray,<- hl]; exact h3) (by lia) (by rw [hk]; exact ⟨_,I',q⟩)
theorem slice_bounds (lo hi:Option Int) (n:Nat):(sliceBounds lo hi none n).1=((HT.sIx n 0 lo:Nat):Int)/\(sliceBounds lo hi none n).2.1=((HT.sIx n n hi:Nat):Int)/\(sliceBounds lo hi none n).2.2=1:=by
  refine ⟨?_,?_,rfl⟩
  · cases lo with
    | none=>simp [sliceBounds,HT.sIx]
    | some i =>
      simp only [sliceBounds,HT.sIx,Option.getD_none,show (1:Int) > 0 by decide,if_true]
      by_cases h:i < 0
      · simp only [h,if_true] <;> lia
      · simp only [h,if_false] <;> lia
  · cases hi with
    | none=>simp [sliceBounds,HT.sIx]
    | some i =>
      simp only [sliceBounds,HT.sIx,Option.getD_none,show (1:Int) > 0 by decide,if_true]
      by_cases h:i < 0
      · simp only [h,if_true] <;> lia
      · simp only [h,if_false] <;> lia
theorem slicePick_cut (its:List Value) (lo hi:Option Int):slicePick its.toArray lo hi none=((its.drop (HT.sIx its.length 0 lo)).take (HT.sIx its.length its.length hi - HT.sIx its.length 0 lo)).toArray:=by
  obtain ⟨h1,h2,h3⟩:=slice_bounds lo hi its.toArray.size
  unfold slicePick
  rw [h1,h2,h3]
  simp only [sliceRange_one,pick_run,List.size_toArray] <;> rfl
def rSlL (K:PySem.W.Frag):V->Option Int->Option Int->Hp->VK->Prop:=fun x lo hi H Q=>∃ a xs,x=.ref a/\SqL K H a xs/\∀ p,H p=none->Q (.ref p) (upd H p (.lst (cutV xs lo hi)))
theorem sl_list:SlR X (rSlL X.K):=by
  intro pins s σ H x v vl vu lo hi sl Q I rx hs pl pu h
  obtain ⟨a,xs,rfl,hx,q⟩:=h
  cases rx
  obtain ⟨its,r,ht,hz⟩:=I.list hx
  have hlen:=r.length
  refine ⟨"list",_,slot_list_getitem.lookup,ht.isList.typeIs,?_⟩
  refine wpAny_getItem_list_slice ht.isList hs pl pu .none (by simp) ?_ (by rw [List.size_toArray] <;> lia)
  rw [slicePick_cut,<- hlen]
  refine ⟨.ref s.heap.objs.size,_,I.laid (t':=s.toks) (o:=.lst (cutV xs lo hi)) (fun b ob q=>Heap.get?_push_of_some _ q) (Nat.le_refl _) ?_,rfl,q _ (I.hok.fresh (Nat.le_refl _))⟩
  exact ⟨Nat.le_trans (cutV_length xs lo hi) hz,_,0,(r.drop (HT.sIx xs.length 0 lo)).take (HT.sIx xs.length xs.length hi - HT.sIx xs.length 0 lo),Heap.get?_push_size _ rfl⟩
def flatV:V->Bool
  | .non=>true
  | .bl _=>true
  | .int _=>true
  | .str _=>true
  | _=>false
def eqV:V->V->Bool
  | .non,.non=>true
  | .bl a,.bl b=>a == b
  | .bl a,.int b=>(if a then 1 else 0) == b
  | .int a,.bl b=>a == (if b then 1 else 0)
  | .int a,.int b=>a == b
  | .str a,.str b=>a == b
  | _,_=>false
theorem eqAt_V {A:Around} {s:Shared} {y x:V} {u v:Value} (ry:RelV y u) (rx:RelV x v) (fy:flatV y=true) (fx:flatV x=true):SeqAt.EqAt A s u v (eqV y x):=by
  cases y with
  | non =>
    cases ry
    cases x with
    | non=>cases rx; exact SeqAt.EqAt.same _
    | bl b=>cases rx; exact SeqAt.EqAt.none_bool b
    | int b=>obtain ⟨t,rfl⟩:=rx; exact SeqAt.EqAt.none_int b t
    | str b=>obtain ⟨t,rfl⟩:=rx; exact SeqAt.EqAt.none_str b t
    | _=>exact absurd (show false=true from fx) Bool.false_ne_true
  | bl a =>
    cases ry
    cases x with
    | non=>cases rx; exact SeqAt.EqAt.bool_none a
    | bl b=>cases rx; exact SeqAt.EqAt.bool_bool a b
    | int b=>obtain ⟨t,rfl⟩:=rx; exact SeqAt.EqAt.bool_int a b t
    | str b=>obtain ⟨t,rfl⟩:=rx; exact SeqAt.EqAt.bool_str a b t
    | _=>exact absurd (show false=true from fx) Bool.false_ne_true
  | int a =>
    obtain ⟨t',rfl⟩:=ry
    cases x with
    | non=>cases rx; exact SeqAt.EqAt.int_none a t'
    | bl b=>cases rx; exact SeqAt.EqAt.int_bool a t' b
    | int b=>obtain ⟨t,rfl⟩:=rx; exact SeqAt.EqAt.int_int a t' b t
    | str b=>obtain ⟨t,rfl⟩:=rx; exact SeqAt.EqAt.int_str a t' b t
    | _=>exact absurd (show false=true from fx) Bool.false_ne_true
  | str a =>
    obtain ⟨t',rfl⟩:=ry
    cases x with
    | non=>cases rx; exact SeqAt.EqAt.str_none a t'
    | bl b=>cases rx; exact SeqAt.EqAt.str_bool a t' b
    | int b=>obtain ⟨t,rfl⟩:=rx; exact SeqAt.EqAt.str_int a t' b t
    | str b=>obtain ⟨t,rfl⟩:=rx; exact SeqAt.EqAt.str_str a t' b t
    | _=>exact absurd (show false=true from fx) Bool.false_ne_true
  | _=>exact absurd (show false=true from fy) Bool.false_ne_true
def eqU (x:V) (u:Value):Bool:=match u with
  | .none=>eqV .non x
  | .bool b=>eqV (.bl b) x
  | .int i _=>eqV (.int i) x
  | .str z _=>eqV (.str z) x
  | _=>false
theorem eqU_of {x y:V} {u:Value} (r:RelV y u) (f:flatV y=true):eqU x u=eqV y x:=by
  cases y with
  | non=>cases r; rfl
  | bl b=>cases r; rfl
  | int i=>obtain ⟨t,rfl⟩:=r; rfl
  | str z=>obtain ⟨t,rfl⟩:=r; rfl
  | _=>exact absurd (show false=true from f) Bool.false_ne_true
theorem any_eqU {x:V}:∀ {xs:List V} {us:List Value},Vals xs us->xs.all flatV=true->us.any (eqU x)=xs.any fun y=>eqV y x
  | _,_,.nil,_=>rfl
  | y :: xs,u :: us,.cons r t,f=>by
    rw [List.all_cons,Bool.and_eq_true] at f
    rw [List.any_cons,List.any_cons,eqU_of r f.1,any_eqU t f.2]
theorem mem_eqAt {A:Around} {s:Shared} {x:V} {v:Value} (rx:RelV x v) (fx:flatV x=true):∀ {xs:List V} {us:List Value},Vals xs us->xs.all flatV=true->∀ u∈us,SeqAt.EqAt A s u v (eqU x u)
  | _,_,.nil,_=>fun u hu=>by cases hu
  | y :: xs,u :: us,.cons r t,f=>fun u' hu=>by
    rw [List.all_cons,Bool.and_eq_true] at f
    rcases List.mem_cons.mp hu with rfl | hu
    · rw [eqU_of r f.1]; exact eqAt_V r rx f.1 fx
    · exact mem_eqAt rx fx t f.2 u' hu
def inV (x:V) (xs:List V):Bool:=xs.any fun y=>eqV y x
def rIn (K:PySem.W.Frag) (neg:Bool):R2:=fun x y H Q=>∃ p xs,y=.ref p/\(SqL K H p xs\/SqT K H p xs)/\flatV x=true/\xs.all flatV=true/\Q (.bl (if neg then !inV x xs else inV x xs)) H
theorem op_in_seq:OpR X (compareOp .In) (rIn X.K false):=by
  intro pins s σ H x y v u Q I rx ry h
  obtain ⟨p,xs,rfl,hq,fx,fs,q⟩:=h
  cases ry
  rcases hq with hq | hq
  · obtain ⟨its,r,pl,hz⟩:=I.list hq
    refine SeqAt.in_listAt (eqU x) pl.isList (fun w hw=>mem_eqAt rx fx r fs w (by simpa using hw)) ⟨.bl _,H,I,rfl,?_⟩
    rw [show its.toArray.any (eqU x)=its.any (eqU x) by simp,any_eqU r fs]
    exact q
  · obtain ⟨its,r,pl,hz⟩:=I.tuple hq
    refine SeqAt.in_tupleAt (eqU x) pl (fun w hw=>mem_eqAt rx fx r fs w (by simpa using hw)) ⟨.bl _,H,I,rfl,?_⟩
    rw [show its.toArray.any (eqU x)=its.any (eqU x) by simp,any_eqU r fs]
    exact q
theorem call_len_seq:CallR X (.builtin "len") (fun xs H Q=>∃ p ys,xs=[.ref p]/\(SqL X.K H p ys\/SqT X.K H p ys)/\Q (.int ys.length) H):=by
  intro pins s σ H xs us Q I r h
  obtain ⟨p,ys,rfl,hq,q⟩:=h
  obtain ⟨u,rfl,rx⟩:=vals1 r
  cases rx
  have hn:=line63
  rcases hq with hq | hq
  · obtain ⟨its,r',pl,hz⟩:=I.list hq
    have hlen:=r'.length
    exact Calls.call_len_list pl.isList (by simp only [List.size_toArray] <;> lia) ⟨.int ys.length,H,I.tok _,⟨s.toks + 1,by rw [List.size_toArray,hlen]⟩,q⟩
  · obtain ⟨its,r',pl,hz⟩:=I.tuple hq
    have hlen:=r'.length
    exact len_tuple pl (by simp only [List.size_toArray] <;> lia) ⟨.int ys.length,H,I.tok _,⟨s.toks + 1,by rw [List.size_toArray,hlen]⟩,q⟩
theorem CallR.or {f:Value} {r r':List V->Hp->VK->Prop} (h:CallR X f r) (h':CallR X f r'):CallR X f (fun xs H Q=>r xs H Q\/r' xs H Q):=by
  intro pins s σ H xs us Q I rs q
  rcases q with q | q
  · exact h pins s σ H xs us Q I rs q
  · exact h' pins s σ H xs us Q I rs q
theorem call_list_of:CallR X (.type "list") (fun xs H Q=>∃ p ys,xs=[.ref p]/\(SqL X.K H p ys\/SqT X.K H p ys)/\∀ l,H l=none->Q (.ref l) (upd H l (.lst ys))):=by
  intro pins s σ H xs us Q I r h
  obtain ⟨p,ys,rfl,hq,q⟩:=h
  obtain ⟨u,rfl,rx⟩:=vals1 r
  cases rx
  have fin:∀ (its:List Value),Vals ys its->ys.length<=sizeLine->∀ (h':Heap) (c':Nat),(∀ b o',s.heap.get? b=some o'->h'.get? b=some o') ->
      h'.get? s.heap.objs.size=some { cls:=.type "list",dict:=none,data:=.seq its.toArray c',slots:=#[] }->EP X pins σ Q (.ref s.heap.objs.size) { s with heap:=h' }:=fun its r' hz h' c' kp e =>
    ⟨.ref s.heap.objs.size,_,I.laid (t':=s.toks) kp (Nat.le_refl _) (show ObjOk X.prog X.w _ h' _ (.lst ys) from ⟨hz,its,c',r',e⟩),rfl,q _ (I.hok.fresh (Nat.le_refl _))⟩
  rcases hq with hq | hq
  · obtain ⟨its,r',pl,hz⟩:=I.list hq
    have hlen:=r'.length
    obtain ⟨o,ho,hc,n,hd⟩:=pl.isList
    exact call_list_seq p (.inl rfl) ho hc hd (fun h' c' kp e=>fin its r' hz h' c' kp e) (by simp only [List.size_toArray] <;> lia)
  · obtain ⟨its,r',pl,hz⟩:=I.tuple hq
    have hlen:=r'.length
    obtain ⟨o,ho,hc,n,hd⟩:=pl
    exact call_list_seq p (.inr rfl) ho hc hd (fun h' c' kp e=>fin its r' hz h' c' kp e) (by simp only [List.size_toArray] <;> lia)
def tyV (K:PySem.W.Frag) (T:String) (x:V) (H:Hp):Prop:=match x with
  | .str _=>T="str"
  | .int _=>T="int"
  | .ref p=>(T="list"/\∃ xs,SqL K H p xs)\/(T="tuple"/\((∃ o,K.lookup p=some o/\o.cls=.type "tuple"/\o.dict=none)\/∃ xs,H p=some (.tup xs))) \/
      (T="dict"/\((∃ kvs,H p=some (.dK kvs))\/∃ kvs,H p=some (.dT kvs)))\/(T="set"/\∃ S n,H p=some (.set S n))
  | _=>False
theorem tyV_is {pins:List (Addr × Obj)} {σ:St} {H:Hp} {s:Shared} {T:String} {x:V} {v:Value} (I:Inv X pins σ H s) (r:RelV x v) (ty:tyV X.K T x H) :
    s.TypeIs v T/\∀ a,v=.ref a->∃ ob,s.heap.get? a=some ob/\ob.dict=none:=by
  cases x with
  | str z =>
    obtain ⟨t,rfl⟩:=r
    cases (show T="str" from ty)
    exact ⟨typeIs_str s z t,fun _ e=>nomatch e⟩
  | int i =>
    obtain ⟨t,rfl⟩:=r
    cases (show T="int" from ty)
    exact ⟨typeIs_int s i t,fun _ e=>nomatch e⟩
  | ref p =>
    cases r
    rcases ty with ⟨rfl,xs,hq⟩ | ⟨rfl,⟨o,hk,hc,hd⟩ | ⟨xs,hk⟩⟩ | ⟨rfl,hk⟩ | ⟨rfl,S,n,hk⟩
    · obtain ⟨its,_,pl,_⟩:=I.list hq
      refine ⟨pl.isList.typeIs,fun a e=>?_⟩
      cases e
      obtain ⟨o,n,e,c,hd,_⟩:=pl
      exact ⟨o,e,hd⟩
    · refine ⟨⟨o,I.kIn p o hk,hc⟩,fun a e=>?_⟩
      cases e
      exact ⟨o,I.kIn _ o hk,hd⟩
    · obtain ⟨_,_,_,o,ho,hc,hd,_⟩:=I.hok p _ hk
      refine ⟨⟨o,ho,hc⟩,fun a e=>?_⟩
      cases e
      exact ⟨o,ho,hd⟩
    · have z:∃ o,s.heap.get? p=some o/\o.ExactDict:=by
        rcases hk with ⟨kvs,hk⟩ | ⟨kvs,hk⟩
        · obtain ⟨_,_,_,_,o,_,_,e,ex,_⟩:=I.hok p _ hk
          exact ⟨o,e,ex⟩
        · obtain ⟨_,_,_,_,o,_,_,e,ex,_⟩:=I.hok p _ hk
          exact ⟨o,e,ex⟩
      obtain ⟨o,e,ex⟩:=z
      refine ⟨⟨o,e,ex.1⟩,fun a e2=>?_⟩
      cases e2
      exact ⟨o,e,ex.2.1⟩
    · obtain ⟨o,_,_,_,e,ex,_⟩:=I.hok p _ hk
      refine ⟨⟨o,e,ex.1⟩,fun a e2=>?_⟩
      cases e2
      exact ⟨o,e,ex.2.1⟩
  | _=>exact False.elim ty
def tBM0 (K:PySem.W.Frag) (T:String) (r:V->List V->Hp->VK->Prop) (to:TE):TE:=fun σ H Q=>to σ H fun x H1=>tyV K T x H1/\r x [] H1 Q
def tBM (K:PySem.W.Frag) (T:String) (r:V->List V->Hp->VK->Prop) (to:TE) (t:TA):TE:=fun σ H Q=>to σ H fun x H1=>tyV K T x H1/\t σ H1 fun xs H2=>r x xs H2 Q
variable {o e:Expr} {es:List Expr} {to:TE} {t:TA} {name:Str} {apos cpos:Pos} {T id:String} {r:V->List V->Hp->VK->Prop}
theorem pe_bm0 (pa:PlainAttrs T) (slot:Slot T name id) (hty:typeOf (.builtin id)=pure (.type "method_descriptor")) (hm:MtR X id r) (ho:PE X o to)
    (hbase:attributeBase o name X.env (eval o X.env)=eval o X.env:=by rfl) (hline:(apos.endLine == cpos.line)=true:=by rfl):PE X (.Call (.Attribute o name apos) [] [] cpos) (tBM0 X.K T r to):=by
  intro pins s σ H Q I h
  refine wpAny_Call_method0_late hbase hline (thn (ho pins s σ H _ I h) fun v s1 ⟨x,H1,I1,r1,ty,q1⟩=>?_)
  obtain ⟨h1,h2⟩:=tyV_is I1 r1 ty
  exact ⟨T,id,pa,slot,hty,h1,h2,Calls.callWith_builtin rfl (PySem.evalArgs_none (hm pins s1 σ H1 x [] v [] Q I1 r1 .nil q1))⟩
theorem pe_bm (pa:PlainAttrs T) (slot:Slot T name id) (hty:typeOf (.builtin id)=pure (.type "method_descriptor")) (hm:MtR X id r) (ho:PE X o to) (ha:PA X (e :: es) t)
    (hbase:attributeBase o name X.env (eval o X.env)=eval o X.env:=by rfl)
    (hfew:((backTo cpos (starEach (e :: es) X.env)).all (fun x=>!x.1) && (backToKw cpos (keywordEach [] X.env)).all (fun x=>x.1.isSome)
      && decide ((e :: es).length + ([]:List Keyword).length + (if ([]:List Keyword).isEmpty then 0 else 1) < 30))=true:=by rfl)
    (hline:(apos.endLine == cpos.line)=true:=by rfl) (hs:starEach (e :: es) X.env=(false,eval e X.env) :: starEach es X.env:=by rfl) (hplain:(backTo cpos (starEach es X.env)).any (·.1)=false:=by rfl) :
    PE X (.Call (.Attribute o name apos) (e :: es) [] cpos) (tBM X.K T r to t):=by
  intro pins s σ H Q I h
  refine wpAny_Call_method_late hbase hfew hline rfl (thn (ho pins s σ H _ I h) fun v s1 ⟨x,H1,I1,r1,ty,q1⟩=>?_)
  obtain ⟨h1,h2⟩:=tyV_is I1 r1 ty
  refine ⟨T,id,pa,slot,hty,h1,h2,?_⟩
  have hA:=ha cpos pins s1 σ H1 _ I1 q1
  rw [hs] at hA ⊢
  refine Calls.callWith_builtin (by show (false || (backTo cpos (starEach es X.env)).any (·.1))=false; rw [hplain] <;> rfl) (Calls.evalArgs_plain ?_)
  exact thn hA fun us s2 ⟨vs,H2,I2,r2,q2⟩=>hm pins s2 σ H2 x vs v us Q I2 r1 r2 q2
end
end L2
namespace L2
open PySem PySem.Spec PyProof.Rows
def MtM (X:Cx) (id:String) (r:V->List V->Hp->VK->Prop):Prop :=
  ∀ (pins:List (Addr × Obj)) (s:Shared) (σ:St) (H:Hp) (x:V) (xs:List V) (v:Value) (us:List Value) (Q:VK),Inv X pins σ H s->RelV x v->Vals xs us->r x xs H Q ->
    wpAny (model X.prog X.w) X.A (call (.builtin id) (v :: us)) (EP X pins σ Q) X.xe s
theorem Vals.one:∀ {x:V} {us:List Value},Vals [x] us->∃ u,us=[u]/\RelV x u
  | _,_,.cons r .nil=>⟨_,rfl,r⟩
theorem Vals.two:∀ {x y:V} {us:List Value},Vals [x,y] us->∃ u v,us=[u,v]/\RelV x u/\RelV y v
  | _,_,_,.cons r (.cons q .nil)=>⟨_,_,rfl,r,q⟩
theorem Vals.zero:∀ {us:List Value},Vals [] us->us=[]
  | _,.nil=>rfl
theorem Vals.dropLast {xs:List V} {us:List Value} (h:Vals xs us):Vals xs.dropLast us.dropLast:=by
  induction h with
  | nil=>exact .nil
  | cons r t ih =>
    cases t with
    | nil=>exact .nil
    | cons q t'=>exact .cons r ih
theorem Vals.eraseIdx:∀ {xs:List V} {us:List Value} (i:Nat),Vals xs us->Vals (xs.eraseIdx i) (us.eraseIdx i)
  | _,_,_,.nil=>.nil
  | _,_,0,.cons _ t=>t
  | _,_,i + 1,.cons r t=>.cons r (Vals.eraseIdx i t)
theorem erase_last {α:Type} (l:List α):l.eraseIdx (l.length - 1)=l.dropLast:=by
  induction l with
  | nil=>rfl
  | cons a r ih =>
    cases r with
    | nil=>rfl
    | cons b r =>
      have e:(a :: b :: r).length - 1=((b :: r).length - 1) + 1:=by
        have h1:(a :: b :: r).length=r.length + 2:=rfl
        have h2:(b :: r).length=r.length + 1:=rfl
        lia
      rw [e,List.eraseIdx_cons_succ,ih]
      all_goals rfl
theorem len_erase {α:Type}:∀ (l:List α) (i:Nat),(l.eraseIdx i).length<=l.length
  | [],_=>Nat.le_refl _
  | _ :: _,0=>Nat.le_succ _
  | _ :: r,i + 1=>Nat.succ_le_succ (len_erase r i)
section
variable {X:Cx} {pins:List (Addr × Obj)} {σ:St} {H:Hp} {s:Shared} {l b:Addr} {xs ys zs:List V}
theorem Inv.lset {its its':List Value} {n:Nat} {f:Array Value->Array Value} {t':Nat} (I:Inv X pins σ H s) (hH:H l=some (.lst xs))
    (e:s.heap.get? l=some { cls:=.type "list",data:=.seq its.toArray n }) (hf:f its.toArray=its'.toArray) (hv:Vals ys its') (hz:ys.length<=sizeLine) :
    Inv X pins σ (upd H l (.lst ys)) { s with heap:=s.heap.update l (Obj.mapSeq f),toks:=t' }:=by
  have q:=PySem.IsL.update e f
  rw [hf] at q
  refine I.write (x:=l) (e:=l) (by rw [hH]; exact trivial) (.inl rfl) (fun b' u hb hu=>(Heap.get?_update_other s.heap (Obj.mapSeq f) (Ne.symm hb)).trans hu) ⟨_,q⟩ ?_
  exact ⟨hz,its',_,hv,q⟩
theorem Inv.lnew {its:List Value} {t':Nat} (I:Inv X pins σ H s) (hv:Vals ys its) (hz:ys.length<=sizeLine) :
    Inv X pins σ (upd H s.heap.objs.size (.lst ys)) { s with heap:=s.heap.push { cls:=.type "list",data:=.seq its.toArray },toks:=t' } :=
  I.laid (fun _ _ q=>Heap.get?_push_of_some _ q) (Nat.le_refl _) ⟨hz,its,0,hv,Heap.get?_push_size _ rfl⟩
theorem Inv.fresh (I:Inv X pins σ H s):H s.heap.objs.size=none:=I.hok.fresh (Nat.le_refl _)
theorem Inv.lstM (I:Inv X pins σ H s) (hH:H l=some (.lst xs)):xs.length<=sizeLine/\∃ (its:List Value) (n:Nat),Vals xs its/\xs.length=its.length/\s.heap.get? l=some { cls:=.type "list",data:=.seq its.toArray n }:=by
  obtain ⟨z,its,n,r,e⟩:=I.hok l _ hH
  exact ⟨z,its,n,r,r.length,e⟩
theorem notLongL {n:Nat} (h:n<=sizeLine):Builtin.List.listTooLong n=false:=by
  unfold Builtin.List.listTooLong
  exact decide_eq_false (by lia)
end
section
variable {X:Cx}
def rAppend:V->List V->Hp->VK->Prop:=fun x vs H Q=>∃ l xs y,x=.ref l/\vs=[y]/\H l=some (.lst xs)/\xs.length < sizeLine/\Q .non (upd H l (.lst (xs ++ [y])))
theorem mt_append:MtM X "list.append" rAppend:=by
  intro pins s σ H x vs v us Q I rx rv h
  obtain ⟨l,xs,y,rfl,rfl,hH,hz,q⟩:=h
  cases rx
  obtain ⟨u,rfl,ru⟩:=rv.one
  obtain ⟨z,its,n,r,hl,e⟩:=I.lstM hH
  refine call_meets F.slot_list_append ⟨_,e,rfl⟩ F.entry_list_append (F.args_list_append_2 _ _) (PySem.list_append l its.toArray n u (by rw [List.size_toArray]; lia)) ⟨e,?_⟩
  refine ⟨.non,_,I.lset (its':=its ++ [u]) hH e (by simp) (r.append (.cons ru .nil)) ?_,rfl,q⟩
  rw [List.length_append,List.length_singleton]
  lia
def rExtend:V->List V->Hp->VK->Prop:=fun x vs H Q=>∃ l b xs zs,x=.ref l/\vs=[.ref b]/\H l=some (.lst xs)/\H b=some (.lst zs)/\xs.length + zs.length<=sizeLine/\Q .non (upd H l (.lst (xs ++ zs)))
theorem mt_extend:MtM X "list.extend" rExtend:=by
  intro pins s σ H x vs v us Q I rx rv h
  obtain ⟨l,b,xs,zs,rfl,rfl,hH,hB,hz,q⟩:=h
  cases rx
  obtain ⟨u,rfl,ru⟩:=rv.one
  cases ru
  obtain ⟨z,its,n,r,hl,e⟩:=I.lstM hH
  obtain ⟨z2,its2,n2,r2,hl2,e2⟩:=I.lstM hB
  have hsz:its.toArray.size + its2.toArray.size<=sizeLine:=by rw [List.size_toArray,List.size_toArray]; lia
  have hlong:¬ (!its.toArray.isEmpty && Builtin.List.listTooLong (its.toArray.size + its2.toArray.size))=true:=by
    rw [notLongL hsz,Bool.and_false]
    exact Bool.false_ne_true
  refine call_meets F.slot_list_extend ⟨_,e,rfl⟩ F.entry_list_extend (F.args_list_extend_2 _ _)
    (AutoSeq1.list_extend_list_list_0 l its.toArray n b its2.toArray n2 hlong (by rw [List.size_toArray]; lia) (by lia)) ⟨e,e2,?_⟩
  refine ⟨.non,_,I.lset (its':=its ++ its2) hH e (by simp) (r.append r2) ?_,rfl,q⟩
  rw [List.length_append]
  lia
def rPop:V->List V->Hp->VK->Prop:=fun x vs H Q=>∃ l xs y,x=.ref l/\vs=[]/\H l=some (.lst xs)/\xs[xs.length - 1]?=some y/\Q y (upd H l (.lst xs.dropLast))
theorem mt_pop:MtM X "list.pop" rPop:=by
  intro pins s σ H x vs v us Q I rx rv h
  obtain ⟨l,xs,y,rfl,rfl,hH,hy,q⟩:=h
  cases rx
  have hus:=rv.zero
  subst hus
  obtain ⟨z,its,n,r,hl,e⟩:=I.lstM hH
  obtain ⟨u,hu,ru⟩:=r.get hy
  have hy':its.toArray[its.toArray.size - 1]?=some u:=by
    show its.toArray[its.length - 1]?=some u
    rw [<- Array.getElem?_toList,<- hl]
    exact hu
  refine call_meets F.slot_list_pop ⟨_,e,rfl⟩ F.entry_list_pop (F.args_list_pop_1 _) (MeetsSeq.list_pop_last l its.toArray n u hy' (by rw [List.size_toArray]; lia)) ⟨e,?_⟩
  refine ⟨y,_,I.lset (its':=its.dropLast) hH e ?_ r.dropLast ?_,ru,q⟩
  · show its.toArray.eraseIdxIfInBounds (its.toArray.size - 1)=its.dropLast.toArray
    rw [List.size_toArray,List.eraseIdxIfInBounds_toArray,erase_last]
  · rw [List.length_dropLast]
    lia
def rPopAt:V->List V->Hp->VK->Prop:=fun x vs H Q=>∃ l xs i k y,x=.ref l/\vs=[.int i]/\H l=some (.lst xs)/\-(2 ^ 63)<=i/\i < 2 ^ 63/\seqIndex? i xs.length=some k/\xs[k]?=some y/\Q y (upd H l (.lst (xs.eraseIdx k)))
theorem mt_popAt:MtM X "list.pop" rPopAt:=by
  intro pins s σ H x vs v us Q I rx rv h
  obtain ⟨l,xs,i,k,y,rfl,rfl,hH,h1,h2,hk,hy,q⟩:=h
  cases rx
  obtain ⟨u,rfl,ru⟩:=rv.one
  obtain ⟨t,rfl⟩:=ru
  obtain ⟨z,its,n,r,hl,e⟩:=I.lstM hH
  obtain ⟨w,hw,rw'⟩:=r.get hy
  refine call_meets F.slot_list_pop ⟨_,e,rfl⟩ F.entry_list_pop (F.args_list_pop_2 _ _)
    (MeetsSeq.list_pop_at l its.toArray n i t k w (fitsIndex_both h1 h2) (by rw [List.size_toArray,<- hl]; exact hk) (by rw [<- Array.getElem?_toList]; exact hw) (by rw [List.size_toArray]; lia)) ⟨e,?_⟩
  refine ⟨y,_,I.lset (its':=its.eraseIdx k) hH e ?_ (r.eraseIdx k) ?_,rw',q⟩
  · show its.toArray.eraseIdxIfInBounds k=(its.eraseIdx k).toArray
    rw [List.eraseIdxIfInBounds_toArray]
  · have:=len_erase xs k
    lia
def rClear:V->List V->Hp->VK->Prop:=fun x vs H Q=>∃ l xs,x=.ref l/\vs=[]/\H l=some (.lst xs)/\Q .non (upd H l (.lst []))
theorem mt_clear:MtM X "list.clear" rClear:=by
  intro pins s σ H x vs v us Q I rx rv h
  obtain ⟨l,xs,rfl,rfl,hH,q⟩:=h
  cases rx
  have hus:=rv.zero
  subst hus
  obtain ⟨z,its,n,r,hl,e⟩:=I.lstM hH
  refine call_meets F.slot_list_clear ⟨_,e,rfl⟩ F.entry_list_clear (F.args_list_clear_1 _) (AutoSeq1.list_clear_list_0 l its.toArray n (by rw [List.size_toArray]; lia)) ⟨e,?_⟩
  exact ⟨.non,_,I.lset (its':=[]) (ys:=[]) hH e rfl .nil (Nat.zero_le _),rfl,q⟩
def rCat:R2:=fun x y H Q=>∃ l b xs zs,x=.ref l/\y=.ref b/\H l=some (.lst xs)/\H b=some (.lst zs)/\xs.length + zs.length<=sizeLine/\∀ p,H p=none->Q (.ref p) (upd H p (.lst (xs ++ zs)))
theorem op_cat:OpR X (binaryOp .Add) rCat:=by
  intro pins s σ H x y v u Q I rx ry h
  obtain ⟨l,b,xs,zs,rfl,rfl,hH,hB,hz,q⟩:=h
  cases rx
  cases ry
  obtain ⟨z,its,n,r,hl,e⟩:=I.lstM hH
  obtain ⟨z2,its2,n2,r2,hl2,e2⟩:=I.lstM hB
  refine PySem.P.add_list e e2 ?_ (by rw [List.size_toArray,List.size_toArray]; lia)
  have ea:its.toArray ++ its2.toArray=(its ++ its2).toArray:=by simp
  rw [ea]
  exact ⟨.ref _,_,I.lnew (t':=s.toks) (r.append r2) (by rw [List.length_append]; lia),rfl,q _ I.fresh⟩
end
section
variable {prog:Program} {w:World} {A:Around} {E:Value->Shared->Prop} {s:Shared}
end
section
variable {X:Cx}
end
end L2
namespace Att
open PySem PySem.W PySem.Calls PyProof.Rows
theorem ints_of_wellAll {P:Params} {h:Heap}:∀ (ns:List Int) (vs:List Value),WellAll P h vs (ns.map WData.int)->IntsAre vs ns:=by
  intro ns
  induction ns with
  | nil =>
    intro vs w
    rw [List.map_nil] at w
    cases w
    exact .nil
  | cons n ns ih =>
    intro vs w
    rw [List.map_cons] at w
    cases w with
    | cons a b =>
      cases a
      exact .cons _ _ (ih _ b)
theorem script_of {l:OpenLaw} {n:Nat} (hn:l.most=some n) {P:Params} {h:Heap} {args:List WData} {vals:List Value}
    (hpre:l.row.toRowW.claim.pre args=true) (hwl:WellAll P h vals args) :
    ∃ a vs ns,vals=[Value.ref a]/\args=[WData.list (ns.map WData.int)]/\h.get? a=some { cls:=.type "list",data:=.seq vs.toArray }/\IntsAre vs ns/\ns.length<=n:=by
  have hsh:WShape.hasAll [] args [.list .int]=true:=(pre_splitW hpre).1
  have hc:l.pre.holds [] { args:=args }=true:=(pre_splitW hpre).2
  obtain ⟨d,r,rfl,h1,h2⟩:=hasAllW_cons hsh
  obtain rfl:=hasAllW_nil h2
  obtain ⟨xs,rfl,h3⟩:=hasW_list h1
  obtain ⟨ns,rfl⟩:=items_int h3
  have hlen:ns.length<=n:=by
    unfold OpenLaw.pre at hc
    have h4:(WTm.not (.lt (.lit (.int (n:Int))) (.len (.arg 0)))).holds [] { args:=[.list (ns.map .int)] }=true:=by
      have h4:=(holds_andW hc).1
      rw [hn] at h4
      exact h4
    have h5:=condW_of h4 (w_not (w_lt w_lit (w_len_list (w_arg rfl))))
    rw [List.length_map] at h5
    refine Nat.le_of_not_lt fun q=>?_
    have q':(n:Int) < ((ns.length:Nat):Int):=by lia
    first
      | (rw [decide_eq_true q'] at h5; exact absurd h5 (by decide))
      | (simp at h5; lia)
  cases hwl with
  | cons w1 w2 =>
    cases w2
    cases w1 with
    | list ho hall=>exact ⟨_,_,ns,rfl,rfl,ho,ints_of_wellAll ns _ hall,hlen⟩
theorem post_true (l:OpenLaw) (args:List WData):l.row.toRowW.claim.post args (.bool true) args=true :=
  postW_of (r:=l.row.toRowW) (X:=(true == true))
    (show WShape.has [] (.bool true) .bool=true by first | rfl | decide | simp [WShape.has,WShape.arms,WShape.armsAll])
    (show (WTm.eq .res (.lit (.bool true))).value [] { args:=args,res:=some (.bool true),after:=args }=some (.bool (true == true)) from w_eq_bool (w_res rfl) w_lit) rfl
theorem attach_call {l:OpenLaw} {n:Nat} {q:Program} {loose:List Str} {XP:(Str->Option Value)->Heap->Prop} {YP:World->Heap->Prop} {d:DefRec}
    (hn:l.most=some n) (hdf:d.params.defaults=[])
    (call:∀ (w:World) (s₀ s₁:Shared) (mg mb:Str->Option Value) (fa:Addr) (o:Obj) (pm cd doc:Value) (a:Addr) (vs:List Value) (ns:List Int),
      Ground q loose [] XP w s₀ mg mb s₁.heap->YP w s₁.heap ->
      s₁.heap.get? fa=some o->o.data=.func (docDef d.name d.params d.body d.scope pm cd doc)->s₁.heap.CodeRec cd d.name->mg d.name=some (.ref fa) ->
      s₁.heap.get? a=some { cls:=.type "list",data:=.seq vs.toArray }->IntsAre vs ns->ns.length<=n->s₁.gens=#[] ->
      codeAny (model l.prog w) callerA (.call (.ref fa) ⟨[.ref a],[]⟩) (fun r s'=>r=.ok (.ret (.bool true))/\OldK s₁.heap s'.heap/\s'.os=s₁.os/\AllBare s'.gens) s₁) :
    WalkO q loose XP YP l.row.toRowW d [] (fun f vs=>PySem.call f vs):=by
  intro w s₀ s₁ mg mb G Y fa o pm cd doc dV kV ho hd hcd hD hmg hg args vals as hpre hlay hrd hwl hlo
  obtain rfl:dV=.none:=Dflts.none hD hdf
  obtain rfl:kV=.none:=Dflts.noKw hD
  obtain ⟨a,vs,ns,rfl,rfl,hobj,hints,hlen⟩:=script_of hn hpre hwl
  refine enter_call (codeAny_mono (call w s₀ s₁ mg mb fa o pm cd doc a vs ns G Y ho (fd_plain hd) hcd hmg hobj hints hlen hg) fun r s' hq=>?_)
  obtain ⟨rfl,h2,h3,h4⟩:=hq
  exact ⟨.inl ⟨.bool true,.bool true,[],rfl,fun _=>rfl,.bool true,post_true l _,fun _=>⟨List.Pairwise.nil,fun _ hm=>(nomatch hm)⟩⟩,h2,h3,h4⟩
section
variable {prog:Program} {w:World} {A:Around} {E:Value->Shared->Prop} {s:Shared} {K:Frag}
def ledger (h:Heap) (L d:Addr):List (Addr × Obj):=(List.range h.objs.size).filterMap fun a=>if a=L\/a=d then none else (h.get? a).map fun o=>(a,o)
end
end Att
namespace L2
open PySem PySem.Spec PyProof.Rows
theorem vals_ints:∀ {vs:List Value} {ns:List Int},IntsAre vs ns->Vals (ns.map V.int) vs
  | _,_,.nil=>.nil
  | _,_,.cons n t h=>.cons ⟨t,rfl⟩ (vals_ints h)
def Only (H:Hp):Prop:=∀ b,H b=none\/∃ o xs,H b=some (.frz o (.lst xs))
theorem law_call {P:Program} {w:World} {K:PySem.W.Frag} {mg mb:Str->Option Value} {CX:CXT} {k:Nat} {fa a:Addr} {fd:FuncData} {x:Str} {sp:Sp} {s₁:Shared} {vs:List Value} {ns:List Int}
    (KX:K.In s₁.heap) (hns:s₁.heap.Ns mainGlobals mg) (hb:s₁.heap.Ns builtinsNs mb) (hbb:∀ x:Str,x≠"__name__"->mb x=bootBuiltins x) (hlim:s₁.heap.NoLimit) (hg:s₁.gens=#[])
    (ha:s₁.heap.get? a=some { cls:=.type "list",data:=.seq vs.toArray }) (hi:IntsAre vs ns) (hl:ns.length<=sizeLine) (hr:Room k callerA)
    (F:∀ base:Heap,K.In base->base.Ns mainGlobals mg->FnOk P w K mg base CX k fa fd [x] sp) (hbind:∀ (s:Shared) (u:Value),BindsTo s fd ⟨[u],[]⟩ [(x,u)])
    (hsp:∀ H:Hp,Only H->SqL K H a (ns.map V.int)->sp [.ref a] H (fun v _=>v=.bl true) fun _ _ _=>False)
    (hCX:∀ H e s',CX [] H s₁ (fun _ _ _=>False) e s'->False) :
    codeAny (model P w) callerA (.call (.ref fa) ⟨[.ref a],[]⟩) (fun r s'=>r=.ok (.ret (.bool true))/\OldK s₁.heap s'.heap/\s'.os=s₁.os/\AllBare s'.gens) s₁:=by
  have rv:=vals_ints hi
  have lenV:=hi.length
  -- from an abstract heap in which nothing but the script may be tracked
  have core:∀ H:Hp,Only H->SqL K H a (ns.map V.int)->HOk P w H s₁.heap->(∀ b,H b≠none->b=a)->(H a≠none->K.lookup a=none) ->
      codeAny (model P w) callerA (.call (.ref fa) ⟨[.ref a],[]⟩) (fun r s'=>r=.ok (.ret (.bool true))/\OldK s₁.heap s'.heap/\s'.os=s₁.os/\AllBare s'.gens) s₁:=by
    intro H hO hS hok hA hK
    have base_of:∀ {b:Addr} {o:Obj},s₁.heap.get? b=some o->H b=none->(hidT s₁.heap H).get? b=some o:=fun e n=>hidT_get e n
    have noA:∀ {b:Addr} {o:Obj} {es:Array DictEntry} {ep:Nat},s₁.heap.get? b=some o->o.data=.dict es ep->H b=none:=fun {b o es ep} e d=>by
      cases q:H b with
      | none=>rfl
      | some u =>
        have e':b=a:=hA b (by rw [q]; simp)
        subst e'
        rw [ha] at e; cases e
        have d':Data.seq vs.toArray _=Data.dict es ep:=d
        cases d'
    have nsK:∀ {b:Addr} {m:Str->Option Value},s₁.heap.Ns b m->(hidT s₁.heap H).Ns b m:=fun {b m} ⟨o,es,ep,e,d,r⟩=>⟨o,es,ep,base_of e (noA e d),d,r⟩
    have hKb:K.In (hidT s₁.heap H):=fun b o e=>base_of (KX b o e) (by
      cases q:H b with
      | none=>rfl
      | some u =>
        have e':b=a:=hA b (by rw [q]; simp)
        subst e'
        rw [hK (by rw [q]; simp)] at e; cases e)
    have hM:Mod K mg (hidT s₁.heap H):=⟨hKb,nsK hns,⟨mb,nsK hb,hbb⟩,let ⟨mc,h1,h2⟩:=hlim; ⟨mc,nsK h1,h2⟩⟩
    have e0:Env0 P w K mg (hidT s₁.heap H) callerA [] s₁ H:=⟨rfl,hM,fun b o e=>of_hidT e,Nat.le_of_eq (hidT_size _ _),trivial,fun b hb=>absurd (show b∈([]:List Addr) from hb) (by simp),hok,.of_eq hg⟩
    refine codeAny_mono ((F _ hKb (nsK hns)).run callerA [] s₁ H ⟨[.ref a],[]⟩ [.ref a] [.ref a] _ _ hr e0 (hbind s₁ (.ref a)) (.cons rfl .nil) (hsp H hO hS)) fun r s' h=>?_
    cases r with
    | error e=>exact (hCX H e s' h).elim
    | ok fl =>
      cases fl with
      | next=>exact False.elim h
      | brk=>exact False.elim h
      | cont=>exact False.elim h
      | ret u =>
        obtain ⟨v,H',os,bare,un,hok',r',q⟩:=h
        have q':v=.bl true:=q
        subst q'
        obtain rfl:u=Value.bool true:=r'
        refine ⟨rfl,OldK.of_keep fun b o e=>?_,os,bare⟩
        cases q:H b with
        | none=>exact un.keep b o e q (by intro z; exact absurd (show b∈([]:List Addr) from z) (by simp)) (by simp)
        | some u =>
          rcases hO b with z | ⟨ob,xs,z⟩
          · rw [q] at z; cases z
          · have z2:=un.frzs b ob _ z
            obtain ⟨e1,_⟩:=hok b _ z
            obtain ⟨e2,_⟩:=hok' b _ z2
            rw [e] at e1; cases e1
            exact e2
  cases hk:K.lookup a with
  | some o =>
    -- the script is one of the module's own objects
    have e:=KX a o hk
    rw [ha] at e
    cases e
    refine core (fun _=>none) (fun _=>.inl rfl) (.inr ⟨_,vs.toArray,_,hk,rfl,rfl,rfl,by rw [List.size_toArray,lenV]; exact hl,by simpa using rv⟩) (fun b u z=>by have z':(none:Option HO)=some u:=z; cases z') (fun b z=>absurd rfl z) fun z=>absurd rfl z
  | none =>
    refine core (fun b=>if b=a then some (.frz { cls:=.type "list",data:=.seq vs.toArray } (.lst (ns.map V.int))) else none) (fun b=>?_) (.inl (.inr ⟨{ cls:=.type "list",data:=.seq vs.toArray },if_pos rfl⟩)) (fun b u z=>?_) (fun b z=>?_) fun _=>hk
    · by_cases hb:b=a
      · exact .inr ⟨_,_,if_pos hb⟩
      · exact .inl (if_neg hb)
    · by_cases hb:b=a
      · have z':=(if_pos hb).symm.trans z
        cases z'
        subst hb
        exact ⟨ha,by rw [List.length_map]; exact hl,vs,_,rv,ha⟩
      · have z':=(if_neg hb).symm.trans z
        cases z'
    · by_cases hb:b=a
      · exact hb
      · exact absurd (if_neg hb) z
end L2
namespace L2
open PySem PySem.Spec PyProof.Rows
theorem walk_of {l:PySem.W.OpenLaw} {n k:Nat} {q:Program} {loose:List Str} {XP:(Str->Option Value)->Heap->Prop} {YP:World->Heap->Prop} {d:DefRec} {K:Params->PySem.W.Frag} {CX:World->CXT} {sp:World->Sp} {x:Str}
    (hn:l.most=some n) (hn2:n<=sizeLine) (hdf:d.params.defaults=[]) (hr:Room k callerA)
    (hY:∀ (w:World) (h:Heap),YP w h->(K w.params).In h)
    (F:∀ (w:World) (mg:Str->Option Value) (fa:Addr) (h:Heap),(K w.params).In h->h.Ns mainGlobals mg->mg d.name=some (.ref fa) ->
      ∃ fd:FuncData,(∀ (s:Shared) (u:Value),BindsTo s fd ⟨[u],[]⟩ [(x,u)]) /\
        ∀ base:Heap,(K w.params).In base->base.Ns mainGlobals mg->FnOk l.prog w (K w.params) mg base (CX w) k fa fd [x] (sp w))
    (hsp:∀ (w:World) (H:Hp) (a:Addr) (ns:List Int),ns.length<=n->Only H->SqL (K w.params) H a (ns.map V.int)->sp w [.ref a] H (fun v _=>v=.bl true) fun _ _ _=>False)
    (hCX:∀ (w:World) (H:Hp) (s:Shared) (e:Value) (s':Shared),CX w [] H s (fun _ _ _=>False) e s'->False) :
    PySem.W.WalkO q loose XP YP l.row.toRowW d [] (fun f vs=>PySem.call f vs):=by
  refine Att.attach_call hn hdf fun w s₀ s₁ mg mb fa o pm cd doc a vs ns G Y ho hd hcd hmg hobj hints hlen hg=>?_
  have KX:=hY w _ Y
  obtain ⟨fd,hb,hF⟩:=F w mg fa _ KX G.T.g hmg
  exact law_call KX G.T.g G.T.b G.T.builtins G.T.nolimit hg hobj hints (Nat.le_trans hlen hn2) hr hF hb (fun H hO hS=>hsp w H a ns hlen hO hS) fun H e s'=>hCX w H s₁ e s'
end L2
/- THE LAST THEOREM (shape; LID, My.* are yours):
   My.Adr: a structure of the addresses that your layer names (classes,functions); My.Txt K t: a structure (Prop) of the equations over K;
   My.txt_mk:{K} {implicit addresses ..} (e1:nsIn K mainGlobals "law"=some (some (.ref f))) (e2:K.lookup f=some ⟨oc,od,.func (fnOf "law" "law" params body scope dV kV doc pm an cdv ct),sl⟩) (e3:codeIn K cdv "law"=true) ..:∃ t,My.Txt K t
set_option maxRecDepth 100000 in
set_option maxHeartbeats 0 in
theorem PySem.Challenge.cw_LID_holds : PySem.Challenge.rw_LID.Holds := by
  w_on; o_law; k_head; (case hw=>w_witness2)
  k_fill
  refine L2.walk_of (l:=PySem.Challenge.rw_LID) (n:=63) (k:=40) (x:="script") (CX:=fun w=>..) (sp:=fun _=>My.sp_law) rfl (by decide) rfl ⟨rfl,by decide,by decide⟩ (fun w h Y=>PySem.W.kIn_of Y) ?F ?S ?C
  case F =>
    intro w mg fa h KX G hmg
    have T:∃ t,My.Txt (L2.KOf KX) t:=by
      dsimp only [L2.KOf]                          -- K must stand as «<heap const> w.params» for k_is
      refine' My.txt_mk ?e1 ?e2 ?e3 ..
      (case e1 => PySem.W.k_is)                    -- in the order: a name -> its address -> its object -> its parts
      (case e2=>PySem.W.k_is)
      ..
    obtain ⟨t,T⟩:=T
    have e0:=hmg.symm.trans (PySem.W.mg_of KX G T.law)
    cases e0                                       -- fa is the law's own address
    exact ⟨_, fun s u => .of_eq rfl, fun base kb nb => My.law_fn T kb nb⟩     -- if «.of_eq rfl» comes too early: refine' ⟨_, ?b, fun base kb nb => My.law_fn T kb nb⟩; exact fun s u => .of_eq rfl
  case S=>exact fun w H a ns hl hO hS=>..
  case C=>exact ..
(the tactic k_is has no namespace: write k_is) -/
namespace L2
open PySem PySem.Spec PyProof.Rows
def inClass (s:Stmt) (j:Nat):Stmt:=match s with
  | .ClassDef _ _ _ body _ _ _ _ _ _ _=>body.getD j (.Pass ⟨0,0,0,0⟩)
  | _=>.Pass ⟨0,0,0,0⟩
def defArgs (s:Stmt):Arguments:=match s with
  | .FunctionDef _ a _ _ _ _ _ _ _ _=>a
  | _=>{ posonlyargs:=[],args:=[],vararg:=none,kwonlyargs:=[],kw_defaults:=[],kwarg:=none,defaults:=[] }
def defBody (s:Stmt):List Stmt:=match s with
  | .FunctionDef _ _ b _ _ _ _ _ _ _=>b
  | _=>[]
def defScope (s:Stmt):Scope:=match s with
  | .FunctionDef _ _ _ _ _ _ sc _ _ _=>sc
  | _=>{ kind:=.function,names:=[],isGenerator:=false,isCoroutine:=false }
abbrev CX0:CXT:=fun _ _ _ _ _ _=>False
abbrev E0:XK:=fun _ _ _=>False
theorem pass0 {X:Cx}:Passes CX0 X E0:=fun _ _ _ _ _ _ _ h=>h.elim
structure Fun (K:PySem.W.Frag) (x qual:Str) (st:Stmt) (f:Addr) (fd:FuncData):Prop where
  ex:∃ (oc:Value) (od:Option Addr) (kV doc pm:Value) (an:Option Addr) (cdv ct:Value) (osl:Array (Option Value)),
    fd=PySem.W.fnOf x qual (defArgs st) (defBody st) (defScope st) .none kV doc pm an cdv ct/\K.lookup f=some ⟨oc,od,.func fd,osl⟩/\PySem.W.codeIn K cdv qual=true
  kp:PySem.W.keepIn K (.ref f)=true
section
variable {P:Program} {w:World} {K:PySem.W.Frag} {mg:Str->Option Value} {base:Heap}
theorem Fun.ok {x qual:Str} {st:Stmt} {f:Addr} {fd:FuncData} {N ps:List Str} {k:Nat} {sp:Sp} (F:Fun K x qual st f fd) (S:FnScope N ps (defScope st)) (len:∀ vs H Q E,sp vs H Q E->vs.length=ps.length)
    (hbody:∀ (cdv:Value) (A:Around) (outer:List Env) (s:Shared) (H:Hp) (vs:List V) (Q:VK) (E:XK),Room k (A.deeper (envOfC qual (defScope st) s.heap.objs.size f cdv))->sp vs H Q E ->
      ∃ t,PSs (cxOf CX0 P w K mg base N qual (defScope st) f cdv A outer s H E).nox (defBody st) t/\t { nx:=fun _ H'=>Q .non H',rt:=Q } (start N vs) H):FnOk P w K mg base CX0 (k + 1) f fd ps sp:=by
  obtain ⟨oc,od,kV,doc,pm,an,cdv,ct,osl,rfl,lk,hcd⟩:=F.ex
  refine fn_of lk hcd S len fun A outer s H vs Q E hr hsp=>?_
  obtain ⟨t,h,q⟩:=hbody cdv A outer s H vs Q E hr hsp
  exact ⟨t,h.nox,q⟩
theorem Fun.binds {x qual:Str} {st:Stmt} {f:Addr} {fd:FuncData} {ps:List Str} (F:Fun K x qual st f fd)
    (h:∀ (kV doc pm:Value) (an:Option Addr) (cdv ct:Value) (us:List Value),us.length=ps.length->bindArgs (PySem.W.fnOf x qual (defArgs st) (defBody st) (defScope st) .none kV doc pm an cdv ct) ⟨us,[]⟩=pure (ps.zip us)):Binds K fd ps []:=by
  obtain ⟨oc,od,kV,doc,pm,an,cdv,ct,osl,rfl,lk,hcd⟩:=F.ex
  exact .all (h kV doc pm an cdv ct)
theorem fun_mk {x qual:Str} {st:Stmt} {f:Addr} {oc:Value} {od an:Option Addr} {osl:Array (Option Value)} {kV doc pm cdv ct:Value} (l:K.lookup f=some ⟨oc,od,.func (PySem.W.fnOf x qual (defArgs st) (defBody st) (defScope st) .none kV doc pm an cdv ct),osl⟩)
    (c:PySem.W.codeIn K cdv qual=true) (k:PySem.W.keepIn K (.ref f)=true):Fun K x qual st f (PySem.W.fnOf x qual (defArgs st) (defBody st) (defScope st) .none kV doc pm an cdv ct):=⟨⟨oc,od,kV,doc,pm,an,cdv,ct,osl,rfl,l,c⟩,k⟩
end
theorem hu_of {A:Around} {k:Nat} (hr:Room k A):A.units + 1 < cLine:=Nat.lt_of_le_of_lt (Nat.add_le_add_left (by decide:1<=64) _) hr.units
section
variable {X:Cx}
theorem pv (i:Nat) {x:Str} {pos:Pos} (hN:X.N[i]?=some x:=by rfl) (hv:Vis X.env.scope x:=by first | exact Or.inl rfl | exact Or.inr (Or.inl rfl) | exact Or.inr (Or.inr rfl)) (hd:(x == ("__debug__":Str))=false:=by decide)
    (hcd:(x == ("__classdict__":Str))=false:=by decide):PE X (.Name x pos) (tVar i):=pe_var hN hv hd hcd
end
theorem iteF {A B:Prop} (h:B):if false=true then A else B:=by
  rw [if_neg Bool.false_ne_true]
  exact h
theorem iteT {A B:Prop} (h:A):if true=true then A else B:=by
  rw [if_pos rfl]
  exact h
theorem ite2 {c A B:Prop} [Decidable c] (h1:c->A) (h2:¬ c->B):if c then A else B:=by
  by_cases h:c
  · rw [if_pos h]
    exact h1 h
  · rw [if_neg h]
    exact h2 h
def Same (H H':Hp):Prop:=∀ b o,H b=some o->H' b=some o
theorem Same.refl (H:Hp):Same H H:=fun _ _ h=>h
theorem Same.trans {H H1 H2:Hp} (a:Same H H1) (b:Same H1 H2):Same H H2:=fun c o h=>b c o (a c o h)
theorem Same.free {H H':Hp} (e:Same H H') {l:Addr} (h:H' l=Option.none):H l=Option.none:=by
  cases q:H l with
  | none=>rfl
  | some o =>
    rw [e l o q] at h
    cases h
theorem Same.seq {K:PySem.W.Frag} {H H':Hp} {a:Addr} {xs:List V} (e:Same H H') (h:SqL K H a xs):SqL K H' a xs:=by
  rcases h with (h | ⟨o,h⟩) | h
  · exact .inl (.inl (e _ _ h))
  · exact .inl (.inr ⟨o,e _ _ h⟩)
  · exact .inr h
end L2
namespace L2
open PySem PySem.Spec PyProof.Rows
def AllIn (env:Env):List (Str × Addr)->Prop
  | []=>True
  | p :: r=>env.cells.lookup p.1=some p.2/\AllIn env r
theorem AllIn.get {env:Env}:∀ {cl:List (Str × Addr)} {y:Str} {c:Addr},AllIn env cl->cl.lookup y=some c->env.cells.lookup y=some c
  | [],_,_,_,h=>by simp at h
  | (n,a) :: r,y,c,⟨e,t⟩,h=>by
    rw [List.lookup_cons] at h
    by_cases q:y=n
    · subst q
      rw [beq_self_eq_true] at h
      cases h
      exact e
    · have q':(y == n)=false:=beq_eq_false_iff_ne.mpr q
      rw [q'] at h
      exact AllIn.get t h
def blank:List Nat->St->St
  | [],σ=>σ
  | i :: S,σ=>blank S (σ.set i none)
theorem blank_len:∀ (S:List Nat) (σ:St),(blank S σ).length=σ.length
  | [],_=>rfl
  | i :: S,σ=>by rw [blank,blank_len S,List.length_set]
theorem blank_get:∀ (S:List Nat) (σ:St) {j:Nat} {v:V},(blank S σ)[j]?=some (some v)->σ[j]?=some (some v)/\j ∉ S
  | [],_,_,_,h=>⟨h,by simp⟩
  | i :: S,σ,j,v,h=>by
    obtain ⟨h1,h2⟩:=blank_get S (σ.set i none) h
    rw [List.getElem?_set] at h1
    by_cases e:i=j
    · rw [if_pos e] at h1
      split at h1 <;> cases h1
    · rw [if_neg e] at h1
      exact ⟨h1,fun z=>(List.mem_cons.mp z).elim (fun z=>e z.symm) h2⟩
structure LcOk (X:Cx) (scope:Scope) (cl:List (Str × Addr)) (S:List Nat):Prop where
  clos:closureFor scope X.env=pure cl
  kind:scope.kind=.function
  noC:scope.names.all (fun y=>y.2 != .cell)=true
  loc:scope.names.all (fun y=>y.2 != .local || scope.names.lookup y.1 == some .local)=true
  own:X.N.zipIdx.all (fun y=>S.contains y.2 || scope.names.lookup y.1 != some .local)=true
  sub:AllIn X.env cl
  has:scope.names.all (fun p=>p.2 != .free || ((cl.lookup p.1).isSome && (X.env.kindOf p.1 == some .cell || X.env.kindOf p.1 == some .free)))=true
section
variable {X:Cx} {scope:Scope} {cl:List (Str × Addr)} {S:List Nat}
theorem LcOk.nocell (L:LcOk X scope cl S):∀ y∈scope.names,y.2≠.cell:=fun y hy=>by
  have h:=List.all_eq_true.mp L.noC y hy
  exact bne_iff_ne.mp h
theorem LcOk.locs (L:LcOk X scope cl S):∀ y∈scope.names,y.2=.local->scope.names.lookup y.1=some .local:=fun y hy e=>by
  have h:=List.all_eq_true.mp L.loc y hy
  rw [e] at h
  simpa using h
theorem LcOk.apart (L:LcOk X scope cl S):∀ (i:Nat) (y:Str),X.N[i]?=some y->i ∉ S->scope.names.lookup y≠some .local:=fun i y hy hi=>by
  have h:=List.all_eq_true.mp L.own (y,i) (List.mem_zipIdx_iff_getElem?.mpr hy)
  have hc:S.contains i=false:=by simpa using hi
  rw [hc,Bool.false_or] at h
  exact bne_iff_ne.mp h
theorem LcOk.free (L:LcOk X scope cl S) {y:Str} (h:scope.names.lookup y=some .free):(∃ c,cl.lookup y=some c)/\(X.env.kindOf y=some .cell\/X.env.kindOf y=some .free):=by
  have h1:=List.all_eq_true.mp L.has _ (PySem.mem_of_lookup h)
  simp only [bne_self_eq_false,Bool.false_or,Bool.and_eq_true,Bool.or_eq_true,beq_iff_eq] at h1
  exact ⟨Option.isSome_iff_exists.mp h1.1,h1.2⟩
theorem lookup_relabel (names:List (Str × NameKind)) (env:Env) (y:Str) :
    (names.map fun (n,k)=>if (k == NameKind.free && env.scope.kind == .function && env.kindOf n == some .cell) then (n,NameKind.cell) else (n,k)).lookup y =
      (names.lookup y).map fun k=>if (k == NameKind.free && env.scope.kind == .function && env.kindOf y == some .cell) then NameKind.cell else k:=by
  induction names with
  | nil=>rfl
  | cons p r ih =>
    obtain ⟨n,k⟩:=p
    rw [List.map_cons]
    by_cases q:y=n
    · subst q
      by_cases hc:(k == NameKind.free && env.scope.kind == .function && env.kindOf y == some .cell)=true
      · show List.lookup y ((if (k == NameKind.free && env.scope.kind == .function && env.kindOf y == some .cell)=true then (y,NameKind.cell) else (y,k)) :: _)=_
        rw [if_pos hc,List.lookup_cons,List.lookup_cons,beq_self_eq_true]
        show some NameKind.cell=some (if _ then _ else _)
        rw [if_pos hc]
      · show List.lookup y ((if (k == NameKind.free && env.scope.kind == .function && env.kindOf y == some .cell)=true then (y,NameKind.cell) else (y,k)) :: _)=_
        rw [if_neg hc,List.lookup_cons,List.lookup_cons,beq_self_eq_true]
        show some k=some (if _ then _ else _)
        rw [if_neg hc]
    · have q':(y == n)=false:=beq_eq_false_iff_ne.mpr q
      by_cases hc:(k == NameKind.free && env.scope.kind == .function && env.kindOf n == some .cell)=true
      · show List.lookup y ((if (k == NameKind.free && env.scope.kind == .function && env.kindOf n == some .cell)=true then (n,NameKind.cell) else (n,k)) :: _)=_
        rw [if_pos hc,List.lookup_cons,List.lookup_cons,q']
        exact ih
      · show List.lookup y ((if (k == NameKind.free && env.scope.kind == .function && env.kindOf n == some .cell)=true then (n,NameKind.cell) else (n,k)) :: _)=_
        rw [if_neg hc,List.lookup_cons,List.lookup_cons,q']
        exact ih
theorem LcOk.kinds (L:LcOk X scope cl S) {y:Str} (h:(relabel scope X.env).names.lookup y=some .cell\/(relabel scope X.env).names.lookup y=some .free):scope.names.lookup y=some .free:=by
  have e:(relabel scope X.env).names.lookup y=(scope.names.lookup y).map fun k=>if (k == NameKind.free && X.env.scope.kind == .function && X.env.kindOf y == some .cell) then NameKind.cell else k:=lookup_relabel scope.names X.env y
  rw [e] at h
  cases q:scope.names.lookup y with
  | none=>rw [q] at h; rcases h with h | h <;> cases h
  | some k =>
    have hk:k≠.cell:=L.nocell _ (PySem.mem_of_lookup q)
    rw [q] at h
    by_cases hf:k=.free
    · rw [hf]
    · have z:(k == NameKind.free)=false:=beq_eq_false_iff_ne.mpr hf
      rw [Option.map_some,z,Bool.false_and,Bool.false_and,if_neg Bool.false_ne_true] at h
      rcases h with h | h
      · exact absurd (Option.some.inj h) hk
      · exact absurd (Option.some.inj h) hf
def cxLC (X:Cx) (scope:Scope) (cl:List (Str × Addr)) (M:List Str) (C:Addr) (s₀:Shared) (H₀:Hp) (ex:List Addr) (E:Value->Shared->Prop):Cx where
  prog:=X.prog
  w:=X.w
  K:=X.K
  mg:=X.mg
  base:=X.base
  A:=X.A
  N:=X.N ++ M
  s₀:=s₀
  H₀:=H₀
  env:=compEnvC scope cl C X.env
  outer:=X.stack
  stack:=X.stack
  ex:=ex
  fn:=fun _=>false
  calm:=X.calm
  pn:=[]
  xe:=E
variable {pins:List (Addr × Obj)} {σ:St} {H:Hp} {s:Shared} {ex:List Addr} {M:List Str} {C:Addr}
theorem lc_start {E:Value->Shared->Prop} {h1:Heap} {tk:Nat} {m:Str->Option Value} (I:Inv X pins σ H s) (L:LcOk X scope cl S) (hf:∀ b∈ex,FpOk X pins H b) (hlt:∀ b∈ex,b < s.heap.objs.size)
    (hk:∀ b o,s.heap.get? b=some o->h1.get? b=some o) (hC:s.heap.objs.size<=C) (hns:h1.Ns C m) :
    Inv (cxLC X scope cl M C s H ex E) [] (blank S σ ++ List.replicate M.length none) H { s with heap:=h1,toks:=tk }:=by
  refine ⟨⟨I.ok.mod,L.kind,I.ok.glob,I.ok.blt,hC,fun x y c a b=>I.ok.inj x y c (L.sub.get a) (L.sub.get b),fun y hy=>(L.free (L.kinds hy)).1,(fun x c z=>nomatch z),I.ok.hd,I.ok.frames,.inl rfl,fun b hb=>⟨?_,fun x c e=>?_⟩,
      I.bs,Nat.le_trans I.ok.bsz I.sz,fun b o e hb=>?_,fun b hb z=>?_,I.stack,I.stkFree⟩,
    rfl,I.bare,Un.kept hk,⟨m,hns,fun i y v e1 e2 e3=>?_⟩,fun y c e=>?_,I.hok.fresh hC,fun y c e=>I.freeC y c (L.sub.get e),fun p hp=>absurd (show p∈([]:List (Addr × Obj)) from hp) (by simp),I.hok.kept hk,?_⟩
  · exact Nat.ne_of_lt (Nat.lt_of_lt_of_le (hlt b hb) hC)
  · exact (hf b hb).2.2.2.2.1 x c (L.sub.get e)
  · rcases (hf b hb).2.2.2.1 with z | z
    · exact I.ok.noex b o e z
    · exact absurd (Nat.lt_of_lt_of_le (Heap.lt_size e) (Nat.le_trans I.ok.bsz z)) (Nat.lt_irrefl _)
  · rcases List.mem_cons.mp (I.stkSub b z) with q | q
    · exact (hf b hb).2.1 q
    · exact (hf b hb).2.2.1 q
  · have e1':(X.N ++ M)[i]?=some y:=e1
    by_cases hi:i < σ.length
    · rw [List.getElem?_append_left (by rw [blank_len]; exact hi)] at e2
      obtain ⟨e2,hiS⟩:=blank_get S σ e2
      rw [List.getElem?_append_left (by rw [<- I.len]; exact hi)] at e1'
      obtain ⟨m0,hn0,hl⟩:=I.loc
      have hy:scope.names.lookup y=some .free:=by
        rcases e3 with e3 | e3
        · have q:=lookup_relabel scope.names X.env y
          have e3':(relabel scope X.env).names.lookup y=some .local:=e3
          cases z:scope.names.lookup y with
          | none =>
            rw [z] at q
            have q':(relabel scope X.env).names.lookup y=none:=q
            rw [e3'] at q'; cases q'
          | some k =>
            have hk1:k≠.local:=fun w=>L.apart i y e1' hiS (w ▸ z)
            rw [z,Option.map_some] at q
            have q':some NameKind.local=some (if (k == NameKind.free && X.env.scope.kind == .function && X.env.kindOf y == some .cell)=true then NameKind.cell else k):=e3'.symm.trans q
            have q2:=Option.some.inj q'
            by_cases hc:(k == NameKind.free && X.env.scope.kind == .function && X.env.kindOf y == some .cell)=true
            · rw [if_pos hc] at q2; cases q2
            · rw [if_neg hc] at q2; exact absurd q2.symm hk1
        · exact L.kinds e3
      obtain ⟨⟨c,hc⟩,hk2⟩:=L.free hy
      obtain ⟨u,r,l⟩:=hl i y v e1' e2 (.inr hk2)
      refine ⟨u,r,.inr ⟨?_,c,hc,?_⟩⟩
      · have q:=lookup_relabel scope.names X.env y
        rw [hy,Option.map_some] at q
        have q':(relabel scope X.env).names.lookup y=some (if (NameKind.free == NameKind.free && X.env.scope.kind == .function && X.env.kindOf y == some .cell)=true then NameKind.cell else NameKind.free):=q
        by_cases hc:(NameKind.free == NameKind.free && X.env.scope.kind == .function && X.env.kindOf y == some .cell)=true
        · rw [if_pos hc] at q'; exact .inl q'
        · rw [if_neg hc] at q'; exact .inr q'
      · rcases l with ⟨l1,_⟩ | ⟨_,c',e',z⟩
        · rcases hk2 with w | w <;> (rw [l1] at w; cases w)
        · have ec:c'=c:=by
            have w:=L.sub.get hc
            rw [e'] at w
            exact Option.some.inj w
          subst ec
          obtain ⟨o,ho,hd⟩:=z
          exact ⟨o,hk _ _ ho,hd⟩
    · rw [List.getElem?_append_right (by rw [blank_len]; exact Nat.not_lt.mp hi),List.getElem?_replicate] at e2
      split at e2 <;> cases e2
  · obtain ⟨v,o,ho,hd⟩:=I.cell y c (L.sub.get e)
    exact ⟨v,o,hk _ _ ho,hd⟩
  · show (blank S σ ++ List.replicate M.length none).length=(X.N ++ M).length
    rw [List.length_append,List.length_append,List.length_replicate,blank_len,I.len]
def PTs (X:Cx) (ifs:List Expr) (t:TT):Prop :=
  ∀ (pins:List (Addr × Obj)) (s:Shared) (σ:St) (H:Hp) (Q:Bool->Hp->Prop),Inv X pins σ H s->t σ H Q ->
    wpAny (model X.prog X.w) X.A (forIn ifs true fun c r=>if r=true then do let ok <- isTrue c X.env (eval c X.env); pure (ForInStep.yield ok) else pure (ForInStep.yield r)) (TP X pins σ Q) X.xe s
def tYes:TT:=fun _ H Q=>Q true H
theorem pts_nil {X:Cx}:PTs X [] tYes:=fun _ _ _ H _ I h=>wpAny_tests_nil ⟨H,I,h⟩
theorem pts_one {X:Cx} {c:Expr} {t:TT} (h:PT X c t):PTs X [c] t:=fun pins s σ H Q I q=>wpAny_tests_one (h pins s σ H Q I q)
def lcBy (J:It) (g:TG) (tt:TT) (te:TE) (Q:VK) (W:Nat->Nat->St->List V->Hp->Prop):Prop:=∀ i m τ ys H,W i m τ ys H ->
  (J.stop i H/\∀ p,H p=none->Q (.ref p) (upd H p (.lst ys))) \/
  (J.go i H/\∃ N:St->List V->Hp->Prop,(∀ τ' ys' H',N τ' ys' H'->∃ m',m' < m/\W (i + 1) m' τ' ys' H')/\∀ x H',J.yld i H x H'->g x τ H' fun τ2 H2=>tt τ2 H2 fun b H3 =>
    if b=true then te τ2 H3 fun y H4=>ys.length < sizeLine/\N τ2 (ys ++ [y]) H4 else N τ2 ys H3)
def tLC (wi:TI) (g:TG) (tt:TT) (te:TE) (n:Nat):TE:=fun σ H Q=>wi σ H fun J H1=>∃ W,(∃ m,W 0 m (σ ++ List.replicate n none) [] H1)/\lcBy J g tt te Q W
def tLCS (S:List Nat) (wi:TI) (g:TG) (tt:TT) (te:TE) (n:Nat):TE:=fun σ H Q=>wi σ H fun J H1=>∃ W,(∃ m,W 0 m (blank S σ ++ List.replicate n none) [] H1)/\lcBy J g tt te Q W
theorem lc_core {tg elt iter:Expr} {ifs:List Expr} {pos:Pos} {g:TG} {tt:TT} {te:TE} {J:It} {fp:List Addr} {it:Addr} {tn:Nat->Heap->Prop} {Q:VK} {E:Value->Shared->Prop} {R:Value->Addr->Result->Shared->Prop} {Al:Addr->(Value->Shared->Prop)->Prop}
    {W:Nat->Nat->St->List V->Hp->Prop} {m0:Nat} (L:LcOk X scope cl S) (hc:X.calm=true) (I:Inv X pins σ H s) (T:Turn X.prog X.w X.K tg J fp it tn) (st:tn 0 s.heap) (hf:∀ b∈fp,FpOk X pins H b)
    (hg:∀ C s H ex E,PG (cxLC X scope cl M C s H ex E) tg g) (ht:∀ C s H ex E,PTs (cxLC X scope cl M C s H ex E) ifs tt) (he:∀ C E,Al C E->PE (cxLC X scope cl M C s H fp E) elt te)
    (hal:∀ C,s.heap.objs.size < C->Al C (notedBy (model X.prog X.w) X.A (compEnvC scope cl C X.env) (fun e s'=>R (.ref s.heap.objs.size) C (.error e) s')))
    (w0:W 0 m0 (blank S σ ++ List.replicate M.length none) [] H) (turn:lcBy J g tt te Q W)
    (hR:∀ D C s' H' ys m,Inv X pins σ (upd H' D (.lst ys)) s'->FpOk X pins (upd H' D (.lst ys)) C->s'.heap.Ns C m->Q (.ref D) (upd H' D (.lst ys))->R (.ref D) C (.ok .next) s') :
    wpAny (model X.prog X.w) X.A (newList []) (fun acc s₃=>wpAny (model X.prog X.w) X.A (newFunctionEnv scope X.env.globals cl [] X.env.qual none .none (some X.env)) (fun cenv s₄ =>
      codeAny (model X.prog X.w) X.A (.compStart (.ListComp elt [⟨tg,iter,ifs,0⟩] scope pos) 0 (.ref it) acc { cenv with scope:=relabel scope X.env }) (R acc cenv.locals) s₄) E s₃) E s:=by
  refine wpAny_newObj_type (wpAny_newFunctionEnv L.nocell (by intro y hy; simp at hy) (fun h₁ hns₁ hsb₁=>?_) L.kind)
  dsimp only at hns₁ hsb₁ ⊢
  generalize hG:s.heap.push { cls:=.type "list",dict:=none,data:=.seq ([]:List Value).toArray }=G at hns₁ hsb₁ ⊢
  have hC:G.objs.size=s.heap.objs.size + 1:=by rw [<- hG,Heap.size_push]
  have hDC:s.heap.objs.size≠G.objs.size:=by rw [hC]; exact Nat.ne_of_lt (Nat.lt_succ_self _)
  have hCle:s.heap.objs.size<=G.objs.size:=by rw [hC]; exact Nat.le_succ _
  have old:∀ b o,s.heap.get? b=some o->h₁.get? b=some o:=fun b o e =>
    hsb₁.extBut b o (by rw [hC]; exact Nat.ne_of_lt (Nat.lt_succ_of_lt (Heap.lt_size e))) (Heap.get?_push_of_some _ (hG ▸ Heap.get?_push_of_some _ e))
  have hacc:h₁.get? s.heap.objs.size=some { cls:=.type "list",data:=.seq ([]:List Value).toArray }:=hsb₁.extBut _ _ hDC (Heap.get?_push_of_some _ (hG ▸ Heap.get?_push_size _ rfl))
  have fpo:∀ b∈fp,b < s.heap.objs.size:=fun b hb=>let ⟨o,e,_⟩:=T.obj 0 _ st b hb; Heap.lt_size e
  have st1:tn 0 h₁:=T.keep 0 _ _ st fun b _ o e=>old b o e
  have nofs:s.heap.objs.size ∉ frs X.stack:=fun z=>by
    rcases List.mem_cons.mp (I.stkSub _ z) with q | q
    · exact absurd (q ▸ I.lt) (Nat.lt_irrefl _)
    · exact I.nofs (Nat.le_refl _) q
  have nocl:∀ y c,cl.lookup y=some c->c≠s.heap.objs.size:=fun y c e z=>by
    obtain ⟨v,o,ho,_⟩:=I.cell y c (L.sub.get e)
    exact absurd (z ▸ Heap.lt_size ho) (Nat.lt_irrefl _)
  have loop:∀ s₃:Shared,s₃={ s with heap:=h₁,toks:=s.toks + ([]:List (Str × Value)).length } ->
      codeAny (model X.prog X.w) X.A (.compLoop (.ListComp elt [⟨tg,iter,ifs,0⟩] scope pos) 0 (.ref it) (.ref s.heap.objs.size) (compEnvC scope cl G.objs.size X.env)) (R (.ref s.heap.objs.size) G.objs.size) s₃:=by
    rintro s₃ rfl
    have hAl:=hal G.objs.size (by rw [hC]; exact Nat.lt_succ_self _)
    generalize hE:notedBy (model X.prog X.w) X.A (compEnvC scope cl G.objs.size X.env) (fun e s'=>R (.ref s.heap.objs.size) G.objs.size (.error e) s')=E' at hAl ⊢
    have IY:Inv (cxLC X scope cl M G.objs.size s H fp E') [] (blank S σ ++ List.replicate M.length none) H { s with heap:=h₁,toks:=s.toks + ([]:List (Str × Value)).length }:=lc_start I L hf fpo old hCle hns₁
    refine codeAny_loop rfl (fun n s'=>∃ (i:Nat) (τ:St) (H':Hp) (ys:List V) (its:List Value) (k:Nat),Inv (cxLC X scope cl M G.objs.size s H fp E') [] τ H' s'/\tn i s'.heap/\(∀ b∈fp,H' b=none) /\
      s'.heap.get? s.heap.objs.size=some { cls:=.type "list",data:=.seq its.toArray k }/\H' s.heap.objs.size=none/\Vals ys its/\ys.length<=sizeLine/\W i n τ ys H') (fun n s' hI=>?_) m0
      ⟨0,_,H,[],[],_,IY,st1,fun b hb=>(hf b hb).1,hacc,I.hok.fresh (Nat.le_refl _),.nil,Nat.zero_le _,w0⟩
    obtain ⟨i,τ,H1,ys,its,k,I1,st1,fr1,eD,fD,rv,hz,w1⟩:=hI
    show wpAny _ X.A ((compTurn (.ListComp elt [⟨tg,iter,ifs,0⟩] scope pos) 0 (.ref it) (.ref s.heap.objs.size) (compEnvC scope cl G.objs.size X.env)).onRaise (fun x=>do noteFrame x (compEnvC scope cl G.objs.size X.env); theTreesLotGoes x)) _ _ s'
    refine wpAny_noted ?_
    rw [hE,compTurn_list]
    have I1':Inv (cxLC X scope cl M G.objs.size s H fp E') [(s.heap.objs.size,{ cls:=.type "list",data:=.seq its.toArray k })] τ H1 s':=I1.pins_of fun p hp=>by
      have e:p=(s.heap.objs.size,{ cls:=.type "list",data:=.seq its.toArray k }):=by simpa using hp
      subst e
      exact ⟨eD,fD,hDC,nofs,(fun v z=>nomatch z)⟩
    have stat:∀ {H':Hp},(∀ b∈fp,H' b=none)->∀ b∈fp,FpOk (cxLC X scope cl M G.objs.size s H fp E') [(s.heap.objs.size,{ cls:=.type "list",data:=.seq its.toArray k })] H' b:=fun hn b hb=>by
      refine ⟨hn b hb,?_,?_,.inl hb,fun x c e=>(hf b hb).2.2.2.2.1 x c (L.sub.get e),fun p hp z=>?_⟩
      · exact Nat.ne_of_lt (Nat.lt_of_lt_of_le (fpo b hb) hCle)
      · intro z
        rcases List.mem_cons.mp (I.stkSub b z) with q | q
        · exact (hf b hb).2.1 q
        · exact (hf b hb).2.2.1 q
      · have e:p=(s.heap.objs.size,{ cls:=.type "list",data:=.seq its.toArray k }):=by
          have hp':p∈[(s.heap.objs.size,({ cls:=.type "list",data:=.seq its.toArray k }:Obj))]:=hp
          simpa using hp'
        subst e
        exact absurd (z ▸ fpo b hb) (Nat.lt_irrefl _)
    refine wpAny_bind (wpAny_standAt (wpAny_bind ?_))
    rcases turn i n τ ys H1 w1 with ⟨stop,q⟩ | ⟨go,N,hN,step⟩
    · refine thn (T.done (cxLC X scope cl M G.objs.size s H fp E') rfl rfl rfl hc i _ s' τ H1 E' I1' (stat fr1) st1 stop) fun r s4 ⟨hr,I4⟩=>?_
      subst hr
      refine wpAny_pure ?_
      obtain ⟨eD4,_,_⟩:=I4.pin (s.heap.objs.size,{ cls:=.type "list",data:=.seq its.toArray k }) (List.mem_append_right _ List.mem_cons_self)
      have base4:Un (frs X.stack) fp H H1 s.heap s4.heap:=I4.base
      have un:Un (frs X.stack) fp H (upd H1 s.heap.objs.size (.lst ys)) s.heap s4.heap:=⟨base4.keep,base4.slot,fun b o e n hx=>by rw [upd_ne (Nat.ne_of_lt (Heap.lt_size e))]; exact base4.free b o e n hx,base4.there,
        fun b xs e=>by rw [upd_ne (ne_of_none (base4.tups b xs e) fD)]; exact base4.tups b xs e,fun b o u e=>by rw [upd_ne (ne_of_none (base4.frzs b o u e) fD)]; exact base4.frzs b o u e,
        fun b ps e=>by
          obtain ⟨more,w⟩:=base4.tbls b ps e
          exact ⟨more,by rw [upd_ne (ne_of_none w fD)]; exact w⟩⟩
      have hok:HOk X.prog X.w (upd H1 s.heap.objs.size (.lst ys)) s4.heap:=fun b u e=>by
        by_cases hb:b=s.heap.objs.size
        · subst hb
          rw [upd_same] at e
          cases e
          exact ⟨hz,its,k,rv,eD4⟩
        · rw [upd_ne hb] at e
          exact (I4.hok b u e).stay (fun c v _ q=>q) (fun c q=>by rw [upd_ne (ne_of_none q fD)]; exact q) fun c xs q=>by rw [upd_ne (ne_of_none q fD)]; exact q
      have IX:Inv X pins σ (upd H1 s.heap.objs.size (.lst ys)) s4:=I.call' I4.os un hok I4.bare fun b hb=>⟨(hf b hb).2.2.2.1,(hf b hb).2.1,(hf b hb).2.2.2.2.1,(hf b hb).2.2.2.2.2⟩
      have fC:H1 G.objs.size=none:=I4.free
      obtain ⟨m4,n4,_⟩:=I4.loc
      exact hR _ _ s4 H1 ys m4 IX (I.fpOk hCle (by rw [upd_ne (Ne.symm hDC)]; exact fC)) n4 (q _ fD)
    · refine thn (T.item (cxLC X scope cl M G.objs.size s H fp E') rfl rfl rfl hc i _ s' τ H1 E' I1' (stat fr1) st1 go) fun r s4 ⟨u,hr,h4⟩=>?_
      subst hr
      refine wpAny_bind (thn h4 fun _ s5 ⟨x,H5,I5,r5,y5,st5,fr5⟩=>?_)
      have I5':=I5.pinned (stat fr5) (T.obj _ _ st5)
      -- what holds behind a turn
      have kept:∀ {τ6:St} {H6:Hp} {s6:Shared},Inv (cxLC X scope cl M G.objs.size s H fp E') ([(s.heap.objs.size,{ cls:=.type "list",data:=.seq its.toArray k })] ++ pinsAt fp s5.heap) τ6 H6 s6 ->
          Inv (cxLC X scope cl M G.objs.size s H fp E') [] τ6 H6 s6/\tn (i + 1) s6.heap/\(∀ b∈fp,H6 b=none)/\s6.heap.get? s.heap.objs.size=some { cls:=.type "list",data:=.seq its.toArray k }/\H6 s.heap.objs.size=none:=fun {τ6 H6 s6} I6=>by
        have pin:∀ b∈fp,∀ o,s5.heap.get? b=some o->s6.heap.get? b=some o/\H6 b=none:=fun b hb o e =>
          let w:=I6.pin (b,o) (List.mem_append_right _ (List.mem_append_right _ (mem_pinsAt hb e)))
          ⟨w.1,w.2.1⟩
        have pD:=I6.pin (s.heap.objs.size,{ cls:=.type "list",data:=.seq its.toArray k }) (List.mem_append_right _ (List.mem_append_left _ List.mem_cons_self))
        refine ⟨I6.pins_of (fun p hp=>nomatch hp),T.keep _ _ _ st5 fun b hb o e=>(pin b hb o e).1,fun b hb=>?_,pD.1,pD.2.1⟩
        obtain ⟨o,e,_⟩:=T.obj _ _ st5 b hb
        exact (pin b hb o e).2
      refine wpAny_bind (thn (hg _ _ _ _ _ _ s5 τ H5 x u _ I5' r5 (step x H5 y5)) fun _ s6 ⟨σ6,H6,I6,q6⟩=>?_)
      refine wpAny_bind (thn (ht _ _ _ _ _ _ s6 σ6 H6 _ I6 q6) fun ok s7 ⟨H7,I7,q7⟩=>?_)
      cases ok with
      | false =>
        have q7':N σ6 ys H7:=by simpa using q7
        obtain ⟨m',hm,w7⟩:=hN _ _ _ q7'
        obtain ⟨K1,K2,K3,K4,K5⟩:=kept I7
        exact wpAny_pure ⟨rfl,m',hm,i + 1,σ6,H7,ys,its,k,K1,K2,K3,K4,K5,rv,hz,w7⟩
      | true =>
        have q7':te σ6 H7 fun y H4=>ys.length < sizeLine/\N σ6 (ys ++ [y]) H4:=by simpa using q7
        refine wpAny_bind (wpAny_bind (thn (he _ _ hAl _ s7 σ6 H7 _ I7 q7') fun y s8 ⟨v8,H8,I8,r8,hz8,n8⟩=>?_))
        obtain ⟨m',hm,w8⟩:=hN _ _ _ n8
        obtain ⟨K1,K2,K3,K4,K5⟩:=kept I8
        have hl:=rv.length
        refine wpAny_bind (wpAny_list_append_plain (hsz:=by rw [List.size_toArray]; lia) ⟨k,K4⟩ fun h9 hl9 hs9=>wpAny_pure (wpAny_pure ⟨rfl,m',hm,?_⟩))
        obtain ⟨k9,e9⟩:=hl9
        have I9:Inv (cxLC X scope cl M G.objs.size s H fp E') [] σ6 H8 { s8 with heap:=h9 }:=K1.turned (t':=s8.toks) (it:=s.heap.objs.size) (fun b o hb e=>(hs9.2 b hb).trans e) K5 hDC (.inr (Nat.le_refl _))
          (fun y c e=>nocl y c e) fun p hp=>nomatch hp
        refine ⟨i + 1,σ6,H8,ys ++ [v8],its ++ [y],k9,I9,T.keep _ _ _ K2 fun b hb o e=>(hs9.2 b (Nat.ne_of_lt (fpo b hb))).trans e,K3,?_,K5,rv.append (.cons r8 .nil),?_,w8⟩
        · rw [e9]
          simp
        · rw [List.length_append,List.length_singleton]
          lia
  exact codeAny_compStart_list (loop _ rfl) (T.self X.A 0 _ _ _ st1 (loop _ rfl))
variable {tg elt iter:Expr} {ifs:List Expr} {pos:Pos} {wi:TI} {g:TG} {tt:TT} {te:TE}
theorem pe_lc (L:LcOk X scope cl S) (hc:X.calm=true) (hi:PI X tg iter wi) (hg:∀ C s H ex E,PG (cxLC X scope cl M C s H ex E) tg g) (ht:∀ C s H ex E,PTs (cxLC X scope cl M C s H ex E) ifs tt) (he:∀ C s H ex E,PE (cxLC X scope cl M C s H ex E) elt te)
    (hs:∀ x,foldedSetIterable iter X.env x=pure x:=by intro _; rfl):PE X (.ListComp elt [⟨tg,iter,ifs,0⟩] scope pos) (tLCS S wi g tt te M.length):=by
  intro pins s σ H Q I h
  rw [eval_ListComp]
  refine wpAny_comprehension_free (use:=none) rfl hs L.clos L.kind L.locs (thn (hi pins s σ H _ I h) fun v s1 h1=>thn h1 fun itv s2 h2=>?_)
  obtain ⟨it,fp,tn,J,H2,rfl,I2,T,st2,f2,W,⟨m0,w0⟩,turn⟩:=h2
  refine lc_core (R:=fun acc C=>compPost (model X.prog X.w) X.A X.xe none (EP X pins σ Q) acc C) (Al:=fun _ _=>True) L hc I2 T st2 f2 hg ht (fun C E _=>he C _ _ _ E) (fun _ _=>trivial) w0 turn ?_
  intro D C s' H' ys m IX fC ns q
  exact ⟨m,ns,fun h' sb=>⟨.ref D,_,IX.turned (t':=s'.toks) (fun b o hb e=>(sb.2 b hb).trans e) fC.1 fC.2.1 fC.2.2.2.1 fC.2.2.2.2.1 fC.2.2.2.2.2,rfl,q⟩⟩
theorem ps_set_lc {i:Nat} {y:Str} {py spos:Pos} (hN:X.N.Nodup) (hi':X.N[i]?=some y) (hy:Loc X.env.scope y) (L:LcOk X scope cl S) (hc:X.calm=true) (hi:PI X tg iter wi) (hg:∀ C s H ex E,PG (cxLC X scope cl M C s H ex E) tg g)
    (ht:∀ C s H ex E,PTs (cxLC X scope cl M C s H ex E) ifs tt) (he:∀ C s H ex E,PE (cxLC X scope cl M C s H ex E) elt te) (hs:∀ x,foldedSetIterable iter X.env x=pure x:=by intro _; rfl)
    (hsw:swapsWith (.ListComp elt [⟨tg,iter,ifs,0⟩] scope pos) (some (.Name y py)) spos.line X.env=pure true:=by rfl)
    (hf:X.fn y=true\/X.env.scope.names.lookup y=some .local:=by first | exact .inl rfl | exact .inr rfl | assumption) :
    PS X (.Assign [.Name y py] (.ListComp elt [⟨tg,iter,ifs,0⟩] scope pos) spos) (fun D σ H=>tLCS S wi g tt te M.length σ H fun v H1=>D.nx (σ.set i (some v)) H1):=by
  intro pins s σ H D I h
  rw [exec_Assign_Name_used _ _ _ _ hsw]
  refine wpAny_bind (wpAny_standAt (wpAny_bind ?_))
  show wpAny _ X.A (do let _ <- comprehension (.ListComp elt [⟨tg,iter,ifs,0⟩] scope pos) scope X.env _ (newList []) false (eval iter X.env) (some (assign (.Name y py) X.env))) _ _ s
  refine wpAny_bind (wpAny_mono (wpAny_comprehension_free (use:=some (assign (.Name y py) X.env)) (Q:=fun _ s'=>SP X pins D .next s') rfl hs L.clos L.kind L.locs
    (thn (hi pins s σ H _ I h) fun v s1 h1=>thn h1 fun itv s2 h2=>?_)) (fun _ s' hq=>wpAny_pure (wpAny_pure hq)) fun _ _ e=>e)
  obtain ⟨it,fp,tn,J,H2,rfl,I2,T,st2,f2,W,⟨m0,w0⟩,turn⟩:=h2
  refine lc_core (R:=fun acc C=>compPost (model X.prog X.w) X.A X.xe (some (assign (.Name y py) X.env)) (fun _ s'=>SP X pins D .next s') acc C) (Al:=fun _ _=>True) L hc I2 T st2 f2 hg ht (fun C E _=>he C _ _ _ E) (fun _ _=>trivial) w0 turn ?_
  intro D' C s' H' ys m IX fC ns q
  show wpAny _ X.A (assign (.Name y py) X.env (.ref D')) _ _ s'
  refine wpAny_assign_Name (store_ok2 IX hN hi' hy (v:=.ref D') rfl (fun s'' I'' ⟨a,sb,ha⟩=>?_) hf)
  refine ⟨m,ns.sameBut sb ?_,fun h' sb'=>⟨_,_,I''.turned (t':=s''.toks) (fun b o hb e=>(sb'.2 b hb).trans e) fC.1 fC.2.1 fC.2.2.2.1 fC.2.2.2.2.1 fC.2.2.2.2.2,q⟩⟩
  rcases ha with ha | ha
  · rw [ha]; exact fC.2.1
  · exact Ne.symm (fC.2.2.2.2.1 y a ha)
end
def clOf (scope:Scope) (env:Env):List (Str × Addr):=scope.names.foldl (fun cs p=>if p.2 == .free then (match env.cells.lookup p.1 with | some a=>(p.1,a) :: cs | none=>cs) else cs) []
theorem clOf_in (env:Env):∀ (names:List (Str × NameKind)) (acc:List (Str × Addr)),AllIn env acc->AllIn env (names.foldl (fun cs p=>if p.2 == .free then (match env.cells.lookup p.1 with | some a=>(p.1,a) :: cs | none=>cs) else cs) acc)
  | [],_,h=>h
  | (n,k) :: r,acc,h=>by
    rw [List.foldl_cons]
    refine clOf_in env r _ ?_
    by_cases hk:(k == NameKind.free)=true
    · rw [if_pos hk]
      cases e:env.cells.lookup n with
      | none=>exact h
      | some a=>exact ⟨e,h⟩
    · rw [if_neg hk]
      exact h
section
variable {X:Cx} {scope:Scope} {M:List Str} {tg elt iter:Expr} {ifs:List Expr} {pos:Pos} {wi:TI} {g:TG} {tt:TT} {te:TE}
theorem lcOkS {S:List Nat} (h1:closureFor scope X.env=pure (clOf scope X.env)) (h2:scope.kind=.function) (h3:scope.names.all (fun y=>y.2 != .cell)=true) (h4:scope.names.all (fun y=>y.2 != .local || scope.names.lookup y.1 == some .local)=true)
    (h5:X.N.zipIdx.all (fun y=>S.contains y.2 || scope.names.lookup y.1 != some .local)=true) (h6:scope.names.all (fun p=>p.2 != .free || (((clOf scope X.env).lookup p.1).isSome && (X.env.kindOf p.1 == some .cell || X.env.kindOf p.1 == some .free)))=true) :
    LcOk X scope (clOf scope X.env) S:=⟨h1,h2,h3,h4,h5,clOf_in X.env scope.names [] trivial,h6⟩
theorem lcOk (h1:closureFor scope X.env=pure (clOf scope X.env)) (h2:scope.kind=.function) (h3:scope.names.all (fun y=>y.2 != .cell)=true) (h4:scope.names.all (fun y=>y.2 != .local || scope.names.lookup y.1 == some .local)=true)
    (h5:X.N.all (fun y=>scope.names.lookup y != some .local)=true) (h6:scope.names.all (fun p=>p.2 != .free || (((clOf scope X.env).lookup p.1).isSome && (X.env.kindOf p.1 == some .cell || X.env.kindOf p.1 == some .free)))=true) :
    LcOk X scope (clOf scope X.env) []:=lcOkS h1 h2 h3 h4 (List.all_eq_true.mpr fun y hy=>by
      have hm:y.1∈X.N:=List.mem_of_getElem? (List.mem_zipIdx_iff_getElem?.mp hy)
      rw [List.all_eq_true.mp h5 y.1 hm,Bool.or_true]) h6
theorem pe_comp (M:List Str) (hc:X.calm=true) (hi:PI X tg iter wi) (hg:∀ C s H ex E,PG (cxLC X scope (clOf scope X.env) M C s H ex E) tg g) (ht:∀ C s H ex E,PTs (cxLC X scope (clOf scope X.env) M C s H ex E) ifs tt)
    (he:∀ C s H ex E,PE (cxLC X scope (clOf scope X.env) M C s H ex E) elt te) (hs:∀ x,foldedSetIterable iter X.env x=pure x:=by intro _; rfl)
    (h1:closureFor scope X.env=pure (clOf scope X.env):=by with_unfolding_all rfl) (h2:scope.kind=.function:=by rfl) (h3:scope.names.all (fun y=>y.2 != .cell)=true:=by rfl) (h4:scope.names.all (fun y=>y.2 != .local || scope.names.lookup y.1 == some .local)=true:=by rfl)
    (h5:X.N.all (fun y=>scope.names.lookup y != some .local)=true:=by rfl) (h6:scope.names.all (fun p=>p.2 != .free || (((clOf scope X.env).lookup p.1).isSome && (X.env.kindOf p.1 == some .cell || X.env.kindOf p.1 == some .free)))=true:=by rfl) :
    PE X (.ListComp elt [⟨tg,iter,ifs,0⟩] scope pos) (tLC wi g tt te M.length):=pe_lc (lcOk h1 h2 h3 h4 h5 h6) hc hi hg ht he hs
theorem ps_comp (M:List Str) {i:Nat} {y:Str} {py spos:Pos} (hN:X.N.Nodup) (hi':X.N[i]?=some y) (hy:Loc X.env.scope y) (hc:X.calm=true) (hi:PI X tg iter wi) (hg:∀ C s H ex E,PG (cxLC X scope (clOf scope X.env) M C s H ex E) tg g)
    (ht:∀ C s H ex E,PTs (cxLC X scope (clOf scope X.env) M C s H ex E) ifs tt) (he:∀ C s H ex E,PE (cxLC X scope (clOf scope X.env) M C s H ex E) elt te) (hs:∀ x,foldedSetIterable iter X.env x=pure x:=by intro _; rfl)
    (hsw:swapsWith (.ListComp elt [⟨tg,iter,ifs,0⟩] scope pos) (some (.Name y py)) spos.line X.env=pure true:=by rfl)
    (hf:X.fn y=true\/X.env.scope.names.lookup y=some .local:=by first | exact .inl rfl | exact .inr rfl | assumption)
    (h1:closureFor scope X.env=pure (clOf scope X.env):=by with_unfolding_all rfl) (h2:scope.kind=.function:=by rfl) (h3:scope.names.all (fun y=>y.2 != .cell)=true:=by rfl) (h4:scope.names.all (fun y=>y.2 != .local || scope.names.lookup y.1 == some .local)=true:=by rfl)
    (h5:X.N.all (fun y=>scope.names.lookup y != some .local)=true:=by rfl) (h6:scope.names.all (fun p=>p.2 != .free || (((clOf scope X.env).lookup p.1).isSome && (X.env.kindOf p.1 == some .cell || X.env.kindOf p.1 == some .free)))=true:=by rfl) :
    PS X (.Assign [.Name y py] (.ListComp elt [⟨tg,iter,ifs,0⟩] scope pos) spos) (fun D σ H=>tLC wi g tt te M.length σ H fun v H1=>D.nx (σ.set i (some v)) H1):=ps_set_lc hN hi' hy (lcOk h1 h2 h3 h4 h5 h6) hc hi hg ht he hs hsw hf
end
section
variable {g:TG} {tt:TT} {te:TE} {Q:VK} {σ:St} {H:Hp}
theorem lc_list {K:PySem.W.Frag} {a:Addr} {xs:List V} (Pv:Nat->St->List V->Hp->Prop) (h0:Pv 0 σ [] H) (hl:∀ i τ ys H,i<=xs.length->Pv i τ ys H->SqL K H a xs)
    (hs:∀ i x τ ys H,xs[i]?=some x->Pv i τ ys H->g x τ H fun τ2 H2=>tt τ2 H2 fun b H3=>if b=true then te τ2 H3 fun y H4=>ys.length < sizeLine/\Pv (i + 1) τ2 (ys ++ [y]) H4 else Pv (i + 1) τ2 ys H3)
    (hd:∀ τ ys H,Pv xs.length τ ys H->∀ p,H p=none->Q (.ref p) (upd H p (.lst ys))):∃ W,(∃ m,W 0 m σ [] H)/\lcBy (Itl K a) g tt te Q W:=by
  refine ⟨fun i m τ ys H=>m=xs.length - i/\i<=xs.length/\Pv i τ ys H,⟨xs.length,by simp,Nat.zero_le _,h0⟩,?_⟩
  rintro i m τ ys H ⟨rfl,hi,p⟩
  have q:=hl i τ ys H hi p
  by_cases hlt:i < xs.length
  · refine .inr ⟨⟨xs,xs[i],q,by simp [hlt]⟩,Pv (i + 1),fun τ' ys' H' p'=>⟨xs.length - (i + 1),by lia,rfl,hlt,p'⟩,fun x H' y=>?_⟩
    obtain ⟨e,y⟩:=y
    subst e
    exact hs i x τ ys _ (y xs q) p
  · have e:i=xs.length:=by lia
    subst e
    exact .inl ⟨⟨xs,q,Nat.le_refl _⟩,hd τ ys H p⟩
end
end L2
namespace L2
open PySem PySem.Spec PyProof.Rows Builtin Builtin.Str
section
variable {X:Cx} {tg:Expr}
theorem call_isinst:CallR X (.builtin "isinstance") (fun xs H Q=>∃ x t T b,xs=[x,.ty T]/\TyOf X.K H x t/\PySem.W.kitOne X.K t (.type T)=some b/\Q (.bl b) H):=by
  intro pins s σ H xs us Q I r h
  obtain ⟨x,t,T,b,rfl,ty,e,q⟩:=h
  obtain ⟨u,u',rfl,rx,ru⟩:=vals2 r
  cases ru
  exact isinst_ok I rx ty e fun tk=>⟨.bl b,H,I.tok tk,rfl,q⟩
theorem range_all (bs:List Bool):(List.range bs.length).all (fun i=>bs.getD i false)=bs.all id:=by
  induction bs with
  | nil=>rfl
  | cons b r ih =>
    rw [List.length_cons,List.range_succ_eq_map,List.all_cons,List.all_map,List.all_cons]
    have e:(List.range r.length).all ((fun i=>(b :: r).getD i false) ∘ Nat.succ)=(List.range r.length).all fun i=>r.getD i false:=by
      congr 1
    rw [e,ih]
    rfl
theorem call_all_bools (hc:X.calm=true):CallR X (.builtin "all") (fun xs H Q=>∃ (p:Addr) (bs:List Bool),xs=[.ref p]/\SqL X.K H p (bs.map V.bl)/\Q (.bl (bs.all id)) H):=by
  intro pins s σ H xs us Q I r h
  obtain ⟨p,bs,rfl,hq,q⟩:=h
  obtain ⟨u,rfl,rx⟩:=vals1 r
  cases rx
  obtain ⟨its,rv,pl,hz⟩:=I.list hq
  have hh:X.A.handled=none:=I.ok.hd hc
  have hlen:its.toArray.size=bs.length:=by rw [List.size_toArray,<- rv.length,List.length_map]
  have hne:p≠s.heap.objs.size:=by
    obtain ⟨o,n,e,_⟩:=pl
    exact Nat.ne_of_lt (Heap.lt_size e)
  refine call_all_walk (wpAny_pyIter_list pl.isList ?_)
  refine ⟨s.heap.objs.size,_,_,_,_,_,fun i=>bs.getD i false,rfl,Walks.list (A:=X.A.in1) hh _ p hne its.toArray,⟨⟨_,Heap.get?_push_size _ rfl,rfl,rfl⟩,pl.isList.at fun o e=>Heap.get?_push_of_some _ e⟩,fun i v s1 Q1 E1 hv hQ=>?_,fun h' tk kk=>?_⟩
  · have hi:i < bs.length:=by
      obtain ⟨hi,_⟩:=Array.getElem?_eq_some_iff.mp hv
      rw [hlen] at hi
      exact hi
    have hb:(bs.map V.bl)[i]?=some (V.bl (bs.getD i false)):=by
      rw [List.getElem?_map,List.getElem?_eq_getElem hi]
      simp [List.getD,List.getElem?_eq_getElem hi]
    obtain ⟨u',hu,ru⟩:=rv.get hb
    have e:its.toArray[i]?=some u':=by simpa using hu
    have hv':its.toArray[i]?=some v:=hv
    rw [hv'] at e
    cases e
    cases ru
    exact wpAny_truthy_bool hQ
  · rw [hlen,range_all]
    have I1:Inv X pins σ H { s with heap:=s.heap.push { cls:=.type "list_iterator",data:=.fields #[.ref p,.int 0 0] } }:=I.kept (t':=s.toks) fun b o e=>Heap.get?_push_of_some _ e
    have f:=I.fpOk (H':=H) (Nat.le_refl _) I.fresh
    exact ⟨.bl (bs.all id),H,I1.turned (it:=s.heap.objs.size) (fun b o hb e=>kk b o (by simpa using hb) e) f.1 f.2.1 f.2.2.2.1 f.2.2.2.2.1 f.2.2.2.2.2,rfl,q⟩
end
end L2
namespace L2
open PySem PySem.Spec PyProof.Rows
def isStar:Expr->Bool
  | .Starred ..=>true
  | _=>false
theorem star_cons {e:Expr} {es:List Expr} {env:Env} (h:isStar e=false):starEach (e :: es) env=(false,eval e env) :: starEach es env:=by
  cases e <;> first
    | rfl
    | exact absurd (show true=false from h) (by decide)
theorem star_any {env:Env} {pos:Pos}:∀ {es:List Expr},es.all (fun e=>!isStar e)=true->(backTo pos (starEach es env)).any (·.1)=false
  | [],_=>rfl
  | e :: es,h=>by
    rw [List.all_cons,Bool.and_eq_true] at h
    have h1:isStar e=false:=by simpa using h.1
    rw [star_cons h1]
    show (false || (backTo pos (starEach es env)).any (·.1))=false
    rw [star_any h.2]
    rfl
section
variable {X:Cx} {CX:CXT} {k:Nat} {f C:Addr} {fd:FuncData} {ps:List Str} {sp:Sp} {dvs:List V} {ds:List Value} {E:XK} {x m:Str} {p pos apos:Pos} {e o:Expr} {es:List Expr} {te ta:TE} {t:TA} {id T:String} {r:List V->Hp->VK->Prop}
theorem pa_c (ha:PE X e te) (hr:PA X es t) (h:isStar e=false:=by rfl):PA X (e :: es) (tCons te t):=pa_cons ha hr (star_cons h)
theorem pe_fn (F:FnOk X.prog X.w X.K X.mg X.base CX k f fd ps sp) (hr:Room k X.A) (hg:Gl X x) (hm:X.mg x=some (.ref f)) (hk:PySem.W.keepIn X.K (.ref f)=true) (hb:Binds X.K fd ps ds) (hd:Vals dvs ds) (hx:Passes CX X E)
    (ha:PA X (e :: es) t) (hdb:(x == ("__debug__":Str))=false:=by decide) (h1:isStar e=false:=by rfl) (h2:es.all (fun e=>!isStar e)=true:=by rfl) :
    PE X (.Call (.Name x p) (e :: es) [] pos) (tCall sp dvs E t):=pe_call F hr hg hm hk hb hd hx ha hdb (star_cons h1) (star_any h2)
theorem pe_fnB (hc:CallR X (.builtin id) r) (hg:Gl X x) (hm:X.mg x=none) (hv:bootBuiltins x=some (.builtin id)) (ha:PA X (e :: es) t) (hn:x≠"__name__":=by decide) (hdb:(x == ("__debug__":Str))=false:=by decide)
    (h1:isStar e=false:=by rfl) (h2:es.all (fun e=>!isStar e)=true:=by rfl):PE X (.Call (.Name x p) (e :: es) [] pos) (tCB r t):=pe_callB hc hg hm hv ha hn hdb (star_cons h1) (star_any h2)
theorem pe_fnTy (hc:CallR X (.type T) r) (hg:Gl X x) (hm:X.mg x=none) (hv:bootBuiltins x=some (.type T)) (ha:PA X (e :: es) t) (hn:x≠"__name__":=by decide) (hdb:(x == ("__debug__":Str))=false:=by decide)
    (h1:isStar e=false:=by rfl) (h2:es.all (fun e=>!isStar e)=true:=by rfl):PE X (.Call (.Name x p) (e :: es) [] pos) (tCB r t):=pe_callTy hc hg hm hv ha hn hdb (star_cons h1) (star_any h2)
end
end L2
namespace L2
open PySem PySem.Spec PyProof.Rows
structure jE (X:Cx) (e:Expr) (t:TE):Prop where
  out:PE X e t
structure jT (X:Cx) (e:Expr) (t:TT):Prop where
  out:PT X e t
structure jW (X:Cx) (e:Expr) (t:TT):Prop where
  out:PW X e t
structure jA (X:Cx) (es:List Expr) (t:TA):Prop where
  out:PA X es t
structure jS (X:Cx) (st:Stmt) (t:TS):Prop where
  out:PS X st t
structure jSs (X:Cx) (sts:List Stmt) (t:TS):Prop where
  out:PSs X sts t
structure jG (X:Cx) (tg:Expr) (t:TG):Prop where
  out:PG X tg t
structure jGs (X:Cx) (tg:List Expr) (t:TGs):Prop where
  out:PGs X tg t
structure jI (X:Cx) (tg iter:Expr) (t:TI):Prop where
  out:PI X tg iter t
structure jO (X:Cx) (e:Option Expr) (t:TO):Prop where
  out:PO X e t
structure jTs (X:Cx) (ifs:List Expr) (t:TT):Prop where
  out:PTs X ifs t
structure jOp (X:Cx) (f:Value->Value->Sem Value) (r:R2):Prop where
  out:OpR X f r
structure jIx (X:Cx) (r:R2):Prop where
  out:IxR X r
structure jSl (X:Cx) (r:V->Option Int->Option Int->Hp->VK->Prop):Prop where
  out:SlR X r
structure jMt (X:Cx) (id:String) (r:V->List V->Hp->VK->Prop):Prop where
  out:MtR X id r
structure jCa (X:Cx) (f:Value) (r:List V->Hp->VK->Prop):Prop where
  out:CallR X f r
section
variable {X:Cx} {a b c e o:Expr} {es rest:List Expr} {ta tb tc te to:TE} {t u:TA} {tA tB':TT} {pos p p2 apos cpos px:Pos} {x y m:Str} {op op':CmpOp} {bop:Operator} {r r':R2}
theorem jv (i:Nat) (hN:X.N[i]?=some x:=by rfl) (hv:Vis X.env.scope x:=by first | exact Or.inl rfl | exact Or.inr (Or.inl rfl) | exact Or.inr (Or.inr rfl)) (hd:(x == ("__debug__":Str))=false:=by decide)
    (hcd:(x == ("__classdict__":Str))=false:=by decide):jE X (.Name x pos) (tVar i):=⟨pv i hN hv hd hcd⟩
theorem je_int {i j}:jE X (.Constant (.int i) j pos) (tC (.int i)):=⟨pe_int⟩
theorem je_bl {b j}:jE X (.Constant (.bool b) j pos) (tC (.bl b)):=⟨pe_bl⟩
theorem je_non {j}:jE X (.Constant .none j pos) (tC .non):=⟨pe_non⟩
theorem je_str {x j}:jE X (.Constant (.str x) j pos) (tC (.str x)):=⟨pe_str⟩
theorem je_glob {v:V} {w:Value} (hg:Gl X x) (hm:X.mg x=some w) (r:RelV v w) (hd:(x == ("__debug__":Str))=false:=by decide):jE X (.Name x pos) (tC v):=⟨pe_glob hg hm r hd⟩
theorem je_bltn {v:V} {w:Value} (hg:Gl X x) (hm:X.mg x=none) (hv:bootBuiltins x=some w) (r:RelV v w) (hn:x≠"__name__":=by decide) (hd:(x == ("__debug__":Str))=false:=by decide):jE X (.Name x pos) (tC v):=⟨pe_bltn hg hm hv r hn hd⟩
theorem je_op (ho:jOp X (binaryOp bop) r) (ha:jE X a ta) (hb:jE X b tb):jE X (.BinOp a bop b pos) (tOp r ta tb):=⟨pe_op ho.out ha.out hb.out⟩
theorem je_cmpR (ho:jOp X (compareOp op) r) (ha:jE X a ta) (hb:jE X b tb) (hm:behindInMarks op b=false):jE X (.Compare a [op] [b] pos) (tOp r ta tb):=⟨pe_cmpR ho.out ha.out hb.out hm⟩
theorem jt_cmpR (ho:jOp X (compareOp op) r) (ha:jE X a ta) (hb:jE X b tb) (hm:behindInMarks op b=false):jT X (.Compare a [op] [b] pos) (tTest (tOp r ta tb)):=⟨pt_cmpR ho.out ha.out hb.out hm⟩
theorem jt_val (h:jE X e te) (he:∀ whole,isTrue e X.env whole=(do let v <- whole; standAt e.pos; holding [v] (truthy v)):=by intro _; rfl):jT X e (tB te):=⟨pt_val h.out he⟩
theorem jw_and1 (ha:jT X a tA):jW X (.BoolOp .And [a] pos) tA:=⟨pw_and1 ha.out⟩
theorem jw_or1 (ha:jT X a tA):jW X (.BoolOp .Or [a] pos) tA:=⟨pw_or1 ha.out⟩
theorem jw_and (ha:jT X a tA) (hb:jW X (.BoolOp .And (b :: rest) pos) tB'):jW X (.BoolOp .And (a :: b :: rest) pos) (tAnd tA tB'):=⟨pw_and ha.out hb.out⟩
theorem jw_or (ha:jT X a tA) (hb:jW X (.BoolOp .Or (b :: rest) pos) tB'):jW X (.BoolOp .Or (a :: b :: rest) pos) (tOr tA tB'):=⟨pw_or ha.out hb.out⟩
theorem jW.pt (h:jW X e tA):jT X e tA:=⟨PW.pt h.out⟩
theorem jt_not (ha:jT X a tA):jT X (.UnaryOp .Not a pos) (tNot tA):=⟨pt_not ha.out⟩
theorem je_one {op} (h:jE X a te):jE X (.BoolOp op [a] pos) te:=⟨pe_one h.out⟩
theorem je_and (ha:jE X a ta) (hb:jE X (.BoolOp .And (b :: rest) pos) tb):jE X (.BoolOp .And (a :: b :: rest) pos) (tAndV ta tb):=⟨pe_and ha.out hb.out⟩
theorem je_or (ha:jE X a ta) (hb:jE X (.BoolOp .Or (b :: rest) pos) tb):jE X (.BoolOp .Or (a :: b :: rest) pos) (tOrV ta tb):=⟨pe_or ha.out hb.out⟩
theorem je_ifExp (hc:jT X c tA) (ha:jE X a ta) (hb:jE X b tb):jE X (.IfExp c a b pos) (tIf tA ta tb):=⟨pe_ifExp hc.out ha.out hb.out⟩
theorem ja_nil:jA X [] tNil:=⟨pa_nil⟩
theorem ja_c (ha:jE X e te) (hr:jA X es t) (h:isStar e=false:=by rfl):jA X (e :: es) (tCons te t):=⟨pa_c ha.out hr.out h⟩
theorem je_lst (h:jA X es t):jE X (.List es pos) (tLst t):=⟨pe_lst h.out⟩
theorem je_tup {x1} (h:jA X es t):jE X (.Tuple es x1 pos) (tTup t):=⟨pe_tup h.out⟩
theorem je_ix (hr:jIx X r) (ha:jE X a ta) (hb:jE X b tb) (hs:PlainIx b):jE X (.Subscript a b pos) (tOp r ta tb):=⟨pe_ix hr.out ha.out hb.out hs⟩
theorem jo_none:jO X none tNoPart:=⟨po_none⟩
theorem jo_some (h:jE X e te):jO X (some e) (tPart te):=⟨po_some h.out⟩
theorem je_slice {r:V->Option Int->Option Int->Hp->VK->Prop} {lo hi:Option Expr} {tl th:TO} (hr:jSl X r) (he:jE X e te) (hl:jO X lo tl) (hu:jO X hi th):jE X (.Subscript e (.Slice lo hi none p2) pos) (tSl r te tl th):=⟨pe_slice hr.out he.out hl.out hu.out⟩
variable {CX:CXT} {k:Nat} {f C:Addr} {fd:FuncData} {ps:List Str} {sp:Sp} {dvs:List V} {ds:List Value} {E:XK} {id T:String} {rc:List V->Hp->VK->Prop} {rm:V->List V->Hp->VK->Prop}
theorem je_fn (F:FnOk X.prog X.w X.K X.mg X.base CX k f fd ps sp) (hr:Room k X.A) (hg:Gl X x) (hm:X.mg x=some (.ref f)) (hk:PySem.W.keepIn X.K (.ref f)=true) (hb:Binds X.K fd ps ds) (hd:Vals dvs ds) (hx:Passes CX X E)
    (ha:jA X (e :: es) t) (hdb:(x == ("__debug__":Str))=false:=by decide) (h1:isStar e=false:=by rfl) (h2:es.all (fun e=>!isStar e)=true:=by rfl) :
    jE X (.Call (.Name x p) (e :: es) [] pos) (tCall sp dvs E t):=⟨pe_fn F hr hg hm hk hb hd hx ha.out hdb h1 h2⟩
theorem je_fnB (hc:jCa X (.builtin id) rc) (hg:Gl X x) (hm:X.mg x=none) (hv:bootBuiltins x=some (.builtin id)) (ha:jA X (e :: es) t) (hn:x≠"__name__":=by decide) (hdb:(x == ("__debug__":Str))=false:=by decide)
    (h1:isStar e=false:=by rfl) (h2:es.all (fun e=>!isStar e)=true:=by rfl):jE X (.Call (.Name x p) (e :: es) [] pos) (tCB rc t):=⟨pe_fnB hc.out hg hm hv ha.out hn hdb h1 h2⟩
theorem je_fnTy (hc:jCa X (.type T) rc) (hg:Gl X x) (hm:X.mg x=none) (hv:bootBuiltins x=some (.type T)) (ha:jA X (e :: es) t) (hn:x≠"__name__":=by decide) (hdb:(x == ("__debug__":Str))=false:=by decide)
    (h1:isStar e=false:=by rfl) (h2:es.all (fun e=>!isStar e)=true:=by rfl):jE X (.Call (.Name x p) (e :: es) [] pos) (tCB rc t):=⟨pe_fnTy hc.out hg hm hv ha.out hn hdb h1 h2⟩
theorem je_bm0 {name:Str} (pa:PlainAttrs T) (slot:Slot T name id) (hty:typeOf (.builtin id)=pure (.type "method_descriptor")) (hm:jMt X id rm) (ho:jE X o to)
    (hbase:attributeBase o name X.env (eval o X.env)=eval o X.env:=by rfl) (hline:(apos.endLine == cpos.line)=true:=by rfl):jE X (.Call (.Attribute o name apos) [] [] cpos) (tBM0 X.K T rm to):=⟨pe_bm0 pa slot hty hm.out ho.out hbase hline⟩
theorem je_bm {name:Str} (pa:PlainAttrs T) (slot:Slot T name id) (hty:typeOf (.builtin id)=pure (.type "method_descriptor")) (hm:jMt X id rm) (ho:jE X o to) (ha:jA X (e :: es) t)
    (hbase:attributeBase o name X.env (eval o X.env)=eval o X.env:=by rfl)
    (hfew:((backTo cpos (starEach (e :: es) X.env)).all (fun x=>!x.1) && (backToKw cpos (keywordEach [] X.env)).all (fun x=>x.1.isSome)
      && decide ((e :: es).length + ([]:List Keyword).length + (if ([]:List Keyword).isEmpty then 0 else 1) < 30))=true:=by rfl)
    (hline:(apos.endLine == cpos.line)=true:=by rfl) (h1:isStar e=false:=by rfl) (h2:es.all (fun e=>!isStar e)=true:=by rfl) :
    jE X (.Call (.Attribute o name apos) (e :: es) [] cpos) (tBM X.K T rm to t):=⟨pe_bm pa slot hty hm.out ho.out ha.out hbase hfew hline (star_cons h1) (star_any h2)⟩
variable {st:Stmt} {sts:List Stmt} {s1 s2:TS} {tg iter elt:Expr} {g:TG} {wi:TI} {tb1:TS} {ifs:List Expr} {tt:TT}
theorem jss_nil:jSs X [] tNext:=⟨pss_nil⟩
theorem jss_cons (h1:jS X st s1) (h2:jSs X sts s2):jSs X (st :: sts) (tSeq s1 s2):=⟨pss_cons h1.out h2.out⟩
theorem jss_one (h1:jS X st s1):jSs X [st] s1:=⟨pss_one h1.out⟩
theorem js_expr (he:jE X e te) (hs:swapsWith e none pos.line X.env=pure false:=by rfl):jS X (.Expr e pos) (tDrop te):=⟨ps_expr he.out hs⟩
theorem js_ret (he:jE X e te):jS X (.Return (some e) pos) (tRet te):=⟨ps_ret he.out⟩
theorem js_retN:jS X (.Return none pos) tRetN:=⟨ps_retN⟩
theorem js_if {A B:List Stmt} (hc:jT X c tA) (ha:jSs X A s1) (hb:jSs X B s2):jS X (.If c A B pos) (tIfS tA s1 s2):=⟨ps_if hc.out ha.out hb.out⟩
theorem js_set {i:Nat} {pos':Pos} (hN:X.N.Nodup) (hi:X.N[i]?=some x) (hx:Loc X.env.scope x) (he:jE X e te) (hs:swapsWith e (some (.Name x pos')) pos.line X.env=pure false:=by rfl)
    (hf:X.fn x=true\/X.env.scope.names.lookup x=some .local:=by first | exact .inl rfl | exact .inr rfl | assumption):jS X (.Assign [.Name x pos'] e pos) (tAsg te (gName i)):=⟨ps_set hN hi hx he.out hs hf⟩
theorem js_asg (he:jE X e te) (hg:jG X tg g) (hs:swapsWithSole [tg] e pos.line X.env=pure false:=by rfl) (hw:swappedStores [tg] e X.env=pure none:=by rfl) (h1:(assignEach [tg] X.env).map (·.2)=[assign tg X.env]:=by rfl):jS X (.Assign [tg] e pos) (tAsg te g):=⟨ps_asg he.out hg.out hs hw h1⟩
theorem jg_name {i:Nat} (hN:X.N.Nodup) (hi:X.N[i]?=some x) (hx:Loc X.env.scope x) (hf:X.fn x=true\/X.env.scope.names.lookup x=some .local:=by first | exact .inl rfl | exact .inr rfl | assumption):jG X (.Name x pos) (gName i):=⟨pg_name hN hi hx hf⟩
theorem jgs_nil:jGs X [] gNil:=⟨pgs_nil⟩
theorem jgs_cons {g:TG} {gs:TGs} (h1:jG X e g) (h2:jGs X es gs) (hs:(assignEach (e :: es) X.env).map (·.2)=assign e X.env :: (assignEach es X.env).map (·.2):=by rfl):jGs X (e :: es) (gCons g gs):=⟨pgs_cons h1.out h2.out hs⟩
theorem jg_tup {k:Nat} {gs:TGs} {n:Nat} (hc:X.calm=true) (h:jGs X es gs) (hn:(assignEach es X.env).length=n:=by rfl) (hst:(assignEach es X.env).findIdx? (·.1)=none:=by rfl):jG X (.Tuple es k pos) (gTup X.K n gs):=⟨pg_tup hc h.out hn hst⟩
theorem ji_list {l:Expr} {tl:TE} (hl:jE X l tl):jI X tg l (iList X.K tl):=⟨pi_list hl.out⟩
theorem ji_range1 (hg:Gl X "range") (hm:X.mg "range"=none) (ha:jA X [a] t) (h:isStar a=false:=by rfl):jI X tg (.Call (.Name "range" p) [a] [] pos) (iRng1 t):=⟨pi_range1 hg hm ha.out (star_cons h)⟩
theorem js_for (hp:PassesOwn (model X.prog X.w) X.A X.env X.xe) (hc:X.calm=true) (hi:jI X tg iter wi) (hg:jG X tg g) (hb:jSs X sts tb1) (hs:∀ x,foldedSetIterable iter X.env x=pure x:=by intro _; rfl):jS X (.For tg iter sts [] pos) (tFor wi g tb1):=⟨ps_for hp hc hi.out hg.out hb.out hs⟩
theorem js_while (hp:PassesOwn (model X.prog X.w) X.A X.env X.xe) (hc:jT X c tA) (hb:jSs X sts tb1):jS X (.While c sts [] pos) (tWhile tA tb1):=⟨ps_while hp hc.out hb.out⟩
theorem jts_nil:jTs X [] tYes:=⟨pts_nil⟩
theorem jts_one (h:jT X c tA):jTs X [c] tA:=⟨pts_one h.out⟩
theorem je_comp {scope:Scope} (M:List Str) (hc:X.calm=true) (hi:jI X tg iter wi) (hg:∀ C s H ex E,jG (cxLC X scope (clOf scope X.env) M C s H ex E) tg g) (ht:∀ C s H ex E,jTs (cxLC X scope (clOf scope X.env) M C s H ex E) ifs tt)
    (he:∀ C s H ex E,jE (cxLC X scope (clOf scope X.env) M C s H ex E) elt te) (hs:∀ x,foldedSetIterable iter X.env x=pure x:=by intro _; rfl)
    (h1:closureFor scope X.env=pure (clOf scope X.env):=by with_unfolding_all rfl) (h2:scope.kind=.function:=by rfl) (h3:scope.names.all (fun y=>y.2 != .cell)=true:=by rfl) (h4:scope.names.all (fun y=>y.2 != .local || scope.names.lookup y.1 == some .local)=true:=by rfl)
    (h5:X.N.all (fun y=>scope.names.lookup y != some .local)=true:=by rfl) (h6:scope.names.all (fun p=>p.2 != .free || (((clOf scope X.env).lookup p.1).isSome && (X.env.kindOf p.1 == some .cell || X.env.kindOf p.1 == some .free)))=true:=by rfl) :
    jE X (.ListComp elt [⟨tg,iter,ifs,0⟩] scope pos) (tLC wi g tt te M.length):=⟨pe_comp M hc hi.out (fun C s H ex E=>(hg C s H ex E).out) (fun C s H ex E=>(ht C s H ex E).out) (fun C s H ex E=>(he C s H ex E).out) hs h1 h2 h3 h4 h5 h6⟩
theorem js_comp {scope:Scope} (M:List Str) {i:Nat} {py spos:Pos} (hN:X.N.Nodup) (hi':X.N[i]?=some y) (hy:Loc X.env.scope y) (hc:X.calm=true) (hi:jI X tg iter wi) (hg:∀ C s H ex E,jG (cxLC X scope (clOf scope X.env) M C s H ex E) tg g)
    (ht:∀ C s H ex E,jTs (cxLC X scope (clOf scope X.env) M C s H ex E) ifs tt) (he:∀ C s H ex E,jE (cxLC X scope (clOf scope X.env) M C s H ex E) elt te) (hs:∀ x,foldedSetIterable iter X.env x=pure x:=by intro _; rfl)
    (hsw:swapsWith (.ListComp elt [⟨tg,iter,ifs,0⟩] scope pos) (some (.Name y py)) spos.line X.env=pure true:=by rfl)
    (hf:X.fn y=true\/X.env.scope.names.lookup y=some .local:=by first | exact .inl rfl | exact .inr rfl | assumption)
    (h1:closureFor scope X.env=pure (clOf scope X.env):=by with_unfolding_all rfl) (h2:scope.kind=.function:=by rfl) (h3:scope.names.all (fun y=>y.2 != .cell)=true:=by rfl) (h4:scope.names.all (fun y=>y.2 != .local || scope.names.lookup y.1 == some .local)=true:=by rfl)
    (h5:X.N.all (fun y=>scope.names.lookup y != some .local)=true:=by rfl) (h6:scope.names.all (fun p=>p.2 != .free || (((clOf scope X.env).lookup p.1).isSome && (X.env.kindOf p.1 == some .cell || X.env.kindOf p.1 == some .free)))=true:=by rfl) :
    jS X (.Assign [.Name y py] (.ListComp elt [⟨tg,iter,ifs,0⟩] scope pos) spos) (fun D σ H=>tLC wi g tt te M.length σ H fun v H1=>D.nx (σ.set i (some v)) H1) :=
  ⟨ps_comp M hN hi' hy hc hi.out (fun C s H ex E=>(hg C s H ex E).out) (fun C s H ex E=>(ht C s H ex E).out) (fun C s H ex E=>(he C s H ex E).out) hs hsw hf h1 h2 h3 h4 h5 h6⟩
theorem jo_add:jOp X (binaryOp .Add) (rI0 fun i j=>.int (i + j)):=⟨op_add⟩
theorem jo_sub:jOp X (binaryOp .Sub) (rI0 fun i j=>.int (i - j)):=⟨op_sub⟩
theorem jo_mul:jOp X (binaryOp .Mult) (rI CMul fun i j=>.int (i * j)):=⟨op_mul⟩
theorem jo_fdiv:jOp X (binaryOp .FloorDiv) (rI CDiv fun i j=>.int (i / j)):=⟨op_fdiv⟩
theorem jo_mod:jOp X (binaryOp .Mod) (rI (fun _ j=>0 < j) fun i j=>.int (i % j)):=⟨op_mod⟩
theorem jo_pow:jOp X (binaryOp .Pow) (rI CPow fun i j=>.int (i ^ j.toNat)):=⟨op_pow⟩
theorem jo_eq:jOp X (compareOp .Eq) rEq:=⟨op_eq⟩
theorem jo_ne:jOp X (compareOp .NotEq) rNe:=⟨op_ne⟩
theorem jo_lt:jOp X (compareOp .Lt) (rI0 fun i j=>.bl (decide (i < j))):=⟨op_lt⟩
theorem jo_le:jOp X (compareOp .LtE) (rI0 fun i j=>.bl (decide (i<=j))):=⟨op_le⟩
theorem jo_gt:jOp X (compareOp .Gt) (rI0 fun i j=>.bl (decide (j < i))):=⟨op_gt⟩
theorem jo_ge:jOp X (compareOp .GtE) (rI0 fun i j=>.bl (decide (j<=i))):=⟨op_ge⟩
theorem jo_in_seq:jOp X (compareOp .In) (rIn X.K false):=⟨op_in_seq⟩
theorem jo_cat:jOp X (binaryOp .Add) rCat:=⟨op_cat⟩
theorem jx_list:jIx X (rIxL X.K):=⟨ix_list⟩
theorem jx_tup:jIx X (rIxT X.K):=⟨ix_tup⟩
theorem jl_list:jSl X (rSlL X.K):=⟨sl_list⟩
theorem jm_append:jMt X "list.append" rAppend:=⟨mt_append⟩
theorem jm_pop:jMt X "list.pop" rPop:=⟨mt_pop⟩
theorem jm_extend:jMt X "list.extend" rExtend:=⟨mt_extend⟩
theorem jc_len_seq:jCa X (.builtin "len") (fun xs H Q=>∃ p ys,xs=[.ref p]/\(SqL X.K H p ys\/SqT X.K H p ys)/\Q (.int ys.length) H):=⟨call_len_seq⟩
theorem jc_all_bools (hc:X.calm=true):jCa X (.builtin "all") (fun xs H Q=>∃ (p:Addr) (bs:List Bool),xs=[.ref p]/\SqL X.K H p (bs.map V.bl)/\Q (.bl (bs.all _root_.id)) H):=⟨call_all_bools hc⟩
theorem jc_isinst:jCa X (.builtin "isinstance") (fun xs H Q=>∃ x t T b,xs=[x,.ty T]/\TyOf X.K H x t/\PySem.W.kitOne X.K t (.type T)=some b/\Q (.bl b) H):=⟨call_isinst⟩
theorem jc_list_of:jCa X (.type "list") (fun xs H Q=>∃ p ys,xs=[.ref p]/\(SqL X.K H p ys\/SqT X.K H p ys)/\∀ l,H l=none->Q (.ref l) (upd H l (.lst ys))):=⟨call_list_of⟩
end
section
variable {P:Program} {w:World} {K:PySem.W.Frag} {mg:Str->Option Value} {base:Heap}
theorem Fun.by {x qual:Str} {st:Stmt} {f:Addr} {fd:FuncData} {N ps:List Str} {k:Nat} {sp:Sp} (F:Fun K x qual st f fd) (S:FnScope N ps (defScope st)) (len:∀ vs H Q E,sp vs H Q E->vs.length=ps.length)
    (hbody:∀ (cdv:Value) (A:Around) (outer:List Env) (s:Shared) (H:Hp) (vs:List V) (Q:VK) (E:XK),Room k (A.deeper (envOfC qual (defScope st) s.heap.objs.size f cdv))->sp vs H Q E ->
      ∃ t,jSs (cxOf CX0 P w K mg base N qual (defScope st) f cdv A outer s H E).nox (defBody st) t/\t { nx:=fun _ H'=>Q .non H',rt:=Q } (start N vs) H):FnOk P w K mg base CX0 (k + 1) f fd ps sp :=
  F.ok S len fun cdv A outer s H vs Q E hr h=>let ⟨t,b,q⟩:=hbody cdv A outer s H vs Q E hr h; ⟨t,b.out,q⟩
end
end L2
namespace L2
open PySem
structure Mv (fs xs:List Addr) (h h':Heap):Prop where
  keep:∀ b o,h.get? b=some o->b ∉ fs->b ∉ xs->h'.get? b=some o
  slot:∀ b o,h.get? b=some o->b ∉ xs->∃ sl,h'.get? b=some { o with slots:=sl }
  there:∀ b o,h.get? b=some o->∃ o',h'.get? b=some o'
theorem Mv.refl {fs xs:List Addr} {h:Heap}:Mv fs xs h h:=⟨fun _ _ e _ _=>e,fun _ o e _=>⟨o.slots,e⟩,fun _ o e=>⟨o,e⟩⟩
theorem Mv.trans {fs xs:List Addr} {h h1 h2:Heap} (a:Mv fs xs h h1) (b:Mv fs xs h1 h2):Mv fs xs h h2 :=
  ⟨fun c o e f x=>b.keep c o (a.keep c o e f x) f x,fun c o e x=>let ⟨_,e1⟩:=a.slot c o e x; let ⟨sl,e2⟩:=b.slot c _ e1 x; ⟨sl,e2⟩,fun c o e=>let ⟨o1,e1⟩:=a.there c o e; b.there c o1 e1⟩
theorem Mv.mono {fs fs' xs xs':List Addr} {h h1:Heap} (a:Mv fs xs h h1) (hf:∀ b∈fs,b∈fs') (hx:∀ b∈xs,b∈xs'):Mv fs' xs' h h1 :=
  ⟨fun c o e f x=>a.keep c o e (fun z=>f (hf c z)) fun z=>x (hx c z),fun c o e x=>a.slot c o e fun z=>x (hx c z),a.there⟩
theorem Mv.of_keeps {fs xs:List Addr} {h h':Heap} (k:∀ b o,h.get? b=some o->h'.get? b=some o):Mv fs xs h h':=⟨fun b o e _ _=>k b o e,fun b o e _=>⟨o.slots,k b o e⟩,fun b o e=>⟨o,k b o e⟩⟩
structure Tr (h:Heap) (e:Addr) (C:Value) (dx:Option Addr) (T:Addr) (fl:Value):Prop where
  ex:∃ oe vs,h.get? e=some oe/\oe.cls=C/\oe.dict=dx/\oe.data=.fields vs/\vs[1]?=some (.ref T)/\vs[2]?=some .none
  tb:∃ ot ts,h.get? T=some ot/\ot.data=.fields ts/\ts[3]?=some fl
  ne:T≠e
theorem dict_mapFields (f:Array Value->Array Value) (o:Obj):(Obj.mapFields f o).dict=o.dict:=by
  unfold Obj.mapFields
  split <;> rfl
theorem frames_mem {h base:Heap} {l:List Env} (hl:h.FunFrames base l) {e:Addr} {oe:Obj} {vs:Array Value} (he:h.get? e=some oe) (hd:oe.data=.fields vs):e ∉ l.filterMap (·.frame):=fun z=>by
  obtain ⟨_,o,ho,nf⟩:=hl.mem z
  rw [he] at ho
  cases ho
  exact nf vs hd
section
variable {M:Model} {A:Around} {E:Value->Shared->Prop} {s:Shared} {base:Heap} {env:Env} {outer:List Env} {L e T:Addr} {C:Value} {dx:Option Addr} {Q:Unit->Shared->Prop}
theorem fly_entry {oe:Obj} {vs:Array Value} {head:Value} {had:Bool} (hfr:A.frames=some (env :: outer)) (hl:s.heap.FunFrames base (env :: outer)) (hf:env.frame=some L)
    (he:s.heap.get? e=some oe) (hd:oe.data=.fields vs) (hsz:1 < vs.size) (hz2:vs[2]?=some .none)
    (hq:∀ h' T,s.heap.objs.size<=T->Tr h' e oe.cls oe.dict T (rawInt L)->Mv ((env :: outer).filterMap (·.frame)) [e] s.heap h'->Q () { s with heap:=h' }) :
    wpAny M A (do let a <- frameOf env; let pl <- entryPlaceOf L had; let b <- EntryCells.newEntry head a .none (rawInt L) .none pl; setField (.ref e) 1 b) Q E s:=by
  have nf:=frames_mem hl he hd
  refine wpAny_bind (wpAny_frameOf_fun hfr hl hf fun h1 s1=>wpAny_bind (wpAny_entryPlaceOf fun pl hp=>?_))
  unfold EntryCells.newEntry newFields
  refine wpAny_bind (wpAny_newObj_type ?_ (by exact hp.sizeOk5 _ _ _ _ _))
  have e1:h1.get? e=some oe:=(s1.2.1 e nf).trans he
  have ne:h1.objs.size≠e:=Nat.ne_of_gt (Heap.lt_size e1)
  generalize ho:({ cls:=.type "traceback",dict:=none,data:=.fields ([head,.ref L,.none,rawInt L,.none] ++ (if pl.isEmpty then List.replicate 6 Value.none else pl)).toArray }:Obj)=ob
  have t3:∃ ts,ob.data=.fields ts/\ts[3]?=some (rawInt L):=by
    subst ho
    refine ⟨_,rfl,?_⟩
    simp
  have fr:ob.isFreed=false:=by
    obtain ⟨ts,q,_⟩:=t3
    exact Obj.isFreed_of_fields q
  have e2:=Heap.get?_push_of_some (h:=h1) ob e1
  refine wpAny_setField e2 hd hsz (hq _ h1.objs.size (Nat.le_of_eq s1.1.symm) ⟨?_,?_,ne⟩ ⟨fun b o q f x=>?_,fun b o q x=>?_,fun b o q=>?_⟩)
  · exact ⟨_,_,Heap.get?_update_self _ e2 (Obj.isFreed_of_fields (Obj.data_mapFields hd _)),Obj.cls_mapFields _ _,dict_mapFields _ _,Obj.data_mapFields hd _,by simp [hsz],by simp [hz2]⟩
  · obtain ⟨ts,q1,q2⟩:=t3
    exact ⟨ob,ts,(Heap.get?_update_other _ _ (Ne.symm ne)).trans (Heap.get?_push_size _ fr),q1,q2⟩
  · rw [Heap.get?_update_other _ _ (fun z=>x (by simp [z]))]
    exact Heap.get?_push_of_some _ ((s1.2.1 b f).trans q)
  · obtain ⟨sl,q1⟩:=s1.2.2 b o q
    exact ⟨sl,by rw [Heap.get?_update_other _ _ (fun z=>x (by simp [z]))]; exact Heap.get?_push_of_some _ q1⟩
  · obtain ⟨sl,q1⟩:=s1.2.2 b o q
    by_cases z:b=e
    · subst z
      exact ⟨_,Heap.get?_update_self _ e2 (Obj.isFreed_of_fields (Obj.data_mapFields hd _))⟩
    · exact ⟨_,by rw [Heap.get?_update_other _ _ (Ne.symm z)]; exact Heap.get?_push_of_some _ q1⟩
theorem fly_first {oe:Obj} {vs:Array Value} (hfr:A.frames=some (env :: outer)) (hl:s.heap.FunFrames base (env :: outer)) (hf:env.frame=some L)
    (he:s.heap.get? e=some oe) (hd:oe.data=.fields vs) (h1:vs[1]?=some .none) (hz2:vs[2]?=some .none)
    (hq:∀ h' T,s.heap.objs.size<=T->Tr h' e oe.cls oe.dict T (rawInt L)->Mv ((env :: outer).filterMap (·.frame)) [e] s.heap h'->Q () { s with heap:=h' }) :
    wpAny M A (noteFrame (.ref e) env) Q E s:=by
  unfold noteFrame
  simp only [hf]
  refine wpAny_bind (wpAny_field he hd h1 ?_)
  rw [if_neg (by decide:¬ ((Value.none != Value.none)=true))]
  exact fly_entry hfr hl hf he hd (Array.getElem?_eq_some_iff.mp h1).1 hz2 hq
theorem fly_set {fl:Value} {v:Option Addr} (t:Tr s.heap e C dx T fl) (hq:∀ h',Tr h' e C dx T (v.elim .none fun f=>rawInt f)->Mv [] [T] s.heap h'->Q () { s with heap:=h' }) :
    wpAny M A (setFlight (.ref e) v) Q E s:=by
  obtain ⟨⟨oe,vs,he,hc,hx,hd,h1,hz2⟩,⟨ot,ts,ht,hdt,h3⟩,ne⟩:=t
  unfold setFlight
  refine wpAny_bind (wpAny_field he hd h1 ?_)
  rw [if_pos (by simp:(Value.ref T != Value.none)=true)]
  have up:=Heap.get?_update_self (Obj.mapFields (·.setIfInBounds 3 (v.elim .none fun f=>rawInt f))) ht (Obj.isFreed_of_fields (Obj.data_mapFields hdt _))
  refine wpAny_setField ht hdt (Array.getElem?_eq_some_iff.mp h3).1 (hq _ ⟨⟨oe,vs,(Heap.get?_update_other _ _ ne).trans he,hc,hx,hd,h1,hz2⟩,⟨_,_,up,Obj.data_mapFields hdt _,?_⟩,ne⟩ ⟨fun b o q _ x=>?_,fun b o q x=>⟨o.slots,?_⟩,fun b o q=>?_⟩)
  · simp [(Array.getElem?_eq_some_iff.mp h3).1]
  · exact (Heap.get?_update_other _ _ (fun z=>x (by simp [z]))).trans q
  · exact (Heap.get?_update_other _ _ (fun z=>x (by simp [z]))).trans q
  · by_cases z:b=T
    · subst z
      exact ⟨_,up⟩
    · exact ⟨o,(Heap.get?_update_other _ _ (Ne.symm z)).trans q⟩
theorem fly_next (hfr:A.frames=some (env :: outer)) (hl:s.heap.FunFrames base (env :: outer)) (hf:env.frame=some L) (t:Tr s.heap e C dx T .none)
    (hq:∀ h' T',s.heap.objs.size<=T'->Tr h' e C dx T' (rawInt L)->Mv ((env :: outer).filterMap (·.frame)) [e,T] s.heap h'->Q () { s with heap:=h' }) :
    wpAny M A (noteFrame (.ref e) env) Q E s:=by
  obtain ⟨⟨oe,vs,he,hc,hx,hd,h1,hz2⟩,⟨ot,ts,ht,hdt,h3⟩,ne⟩:=t
  subst hc
  subst hx
  unfold noteFrame
  simp only [hf]
  refine wpAny_bind (wpAny_field he hd h1 ?_)
  rw [if_pos (by simp:(Value.ref T != Value.none)=true)]
  refine wpAny_bind (wpAny_field ht hdt h3 ?_)
  rw [if_neg (by simp [rawInt]:¬ ((Value.none == rawInt L)=true))]
  have up:=Heap.get?_update_self (Obj.mapFields (·.setIfInBounds 3 .none)) ht (Obj.isFreed_of_fields (Obj.data_mapFields hdt _))
  have k:∀ b o,b≠T->s.heap.get? b=some o->(s.heap.update T (Obj.mapFields (·.setIfInBounds 3 .none))).get? b=some o:=fun b o z q=>(Heap.get?_update_other _ _ (Ne.symm z)).trans q
  refine wpAny_bind (wpAny_setField ht hdt (Array.getElem?_eq_some_iff.mp h3).1 ?_)
  refine fly_entry (base:=base) hfr (hl.of_keeps fun b o q nf=>⟨o,k b o (fun z=>?_) q,rfl⟩) hf (k e oe (Ne.symm ne) he) hd (Array.getElem?_eq_some_iff.mp h1).1 hz2 fun h' T' hs t m=>hq h' T' ?_ t ⟨fun b o q f x=>?_,fun b o q x=>?_,fun b o q=>?_⟩
  · rw [z,ht] at q
    cases q
    exact nf ts hdt
  · rw [Heap.size_after_update] at hs
    exact hs
  · exact m.keep b o (k b o (fun z=>x (by simp [z])) q) f fun z=>x (by simp at z; simp [z])
  · exact m.slot b o (k b o (fun z=>x (by simp [z])) q) fun z=>x (by simp at z; simp [z])
  · by_cases z:b=T
    · subst z
      exact m.there b _ up
    · exact m.there b o (k b o z q)
end
end L2
namespace L2
open PySem PySem.Spec PyProof.Rows
theorem HOk.moved {P:Program} {w:World} {H:Hp} {h h':Heap} {fs xs:List Addr} (x:HOk P w H h) (m:Mv fs xs h h') (hf:∀ b∈fs,H b=none) (hx:∀ b∈xs,H b=none):HOk P w H h':=fun a o e =>
  (x a o e).stay (fun b u hb q=>m.keep b u q (fun z=>by
      have n:=hf b z
      rcases hb with r | r
      · rw [r,e] at n
        cases n
      · rw [r] at n
        cases n) fun z=>by
      have n:=hx b z
      rcases hb with r | r
      · rw [r,e] at n
        cases n
      · rw [r] at n
        cases n) (fun _ q=>q) fun _ _ q=>q
def CXf (P:Program) (w:World):CXT:=fun outer H s E u s'=>∃ (e T:Addr) (C:Value) (dx:Option Addr) (H':Hp),u=.ref e/\s'.os=s.os/\AllBare s'.gens/\Un (frs outer) [] H H' s.heap s'.heap/\HOk P w H' s'.heap /\
  Tr s'.heap e C dx T .none/\(s.heap.objs.size<=e/\s.heap.objs.size<=T)/\(H' e=none/\H' T=none)/\E C dx H'
def Fl (h:Heap) (H:Hp) (n:Nat) (e:Addr) (C:Value) (dx:Option Addr):Prop :=
  (∃ oe vs,h.get? e=some oe/\oe.cls=C/\oe.dict=dx/\oe.data=.fields vs/\vs[1]?=some .none/\vs[2]?=some .none)\/∃ T,Tr h e C dx T .none/\H T=none/\n<=T
def Air (X:Cx) (pins:List (Addr × Obj)) (σ:St) (E:XK) (u:Value) (s':Shared):Prop:=∃ (e:Addr) (C:Value) (dx:Option Addr) (H':Hp) (n:Nat),u=.ref e/\Inv X pins σ H' s'/\H' e=none/\X.s₀.heap.objs.size<=n/\n<=e/\(∀ p∈X.pn ++ pins,p.1 < n)/\Fl s'.heap H' n e C dx/\E C dx H'
section
variable {P:Program} {w:World} {K:PySem.W.Frag} {mg:Str->Option Value} {base:Heap} {N:List Str} {qual:Str} {scope:Scope} {f:Addr} {cd:Value} {A:Around} {outer:List Env} {s:Shared} {H:Hp} {E:XK}
theorem leave_air {pins:List (Addr × Obj)} {σ:St} {u:Value} {s':Shared} (h:Air (cxOf (CXf P w) P w K mg base N qual scope f cd A outer s H E) pins σ E u s'):(cxOf (CXf P w) P w K mg base N qual scope f cd A outer s H E).xe u s':=by
  obtain ⟨e,C,dx,H',n,rfl,I,ne,hn,he,hp,st,hE⟩:=h
  have fin:∀ (h2:Heap) (T:Addr) (xs:List Addr),Tr h2 e C dx T .none->Mv (frs (cxOf (CXf P w) P w K mg base N qual scope f cd A outer s H E).stack) xs s'.heap h2->(∀ b∈xs,H' b=none/\s.heap.objs.size<=b)->H' T=none->s.heap.objs.size<=T ->
      CXf P w outer H s E (.ref e) { s' with heap:=h2 }:=by
    intro h2 T xs t m hx nT sT
    have nst:∀ (b:Addr) (o:Obj),s.heap.get? b=some o->b ∉ frs outer->b ∉ frs (cxOf (CXf P w) P w K mg base N qual scope f cd A outer s H E).stack:=fun b o q nb z=>by
      rcases List.mem_cons.mp (I.stkSub b z) with r | r
      · exact absurd (show b=(cxOf (CXf P w) P w K mg base N qual scope f cd A outer s H E).env.locals from r) (Nat.ne_of_lt (Nat.lt_of_lt_of_le (Heap.lt_size q) I.ok.above))
      · exact nb r
    have nx:∀ (b:Addr) (o:Obj),s.heap.get? b=some o->b ∉ xs:=fun b o q z=>absurd (Nat.lt_of_lt_of_le (Heap.lt_size q) (hx b z).2) (Nat.lt_irrefl _)
    have B:Un (frs outer) [] H H' s.heap s'.heap:=I.base
    refine ⟨e,T,C,dx,H',rfl,I.os,I.bare,⟨fun b o q n hb hx=>?_,fun b o q n hb hx=>?_,B.free,fun b o q hx=>?_,B.tups,B.frzs,B.tbls⟩,I.hok.moved m I.stkFree fun b hb=>(hx b hb).1,t,⟨Nat.le_trans hn he,sT⟩,⟨ne,nT⟩,hE⟩
    · exact m.keep b o (B.keep b o q n hb hx) (nst b o q hb) (nx b o q)
    · obtain ⟨sl,q1⟩:=B.slot b o q n hb hx
      obtain ⟨sl2,q2⟩:=m.slot b _ q1 (nx b o q)
      exact ⟨sl2,q2⟩
    · obtain ⟨o1,q1⟩:=B.there b o q hx
      exact m.there b o1 q1
  show wpAny (model P w) _ (leaving _ (.ref e)) _ _ s'
  unfold leaving
  rcases st with ⟨oe,vs,h1,rfl,rfl,h4,h5,h6⟩ | ⟨T0,t0,n0,s0⟩
  · refine wpAny_bind (fly_first I.ok.frames I.stack rfl h1 h4 h5 h6 fun h' T hs t m=>fly_set t fun h2 t2 m2=>?_)
    refine fin h2 T [e,T] t2 ((m.mono (fun _ z=>z) fun b z=>?_).trans (m2.mono (fun b z=>nomatch z) fun b z=>?_)) (fun b hb=>?_) (I.hok.fresh hs) (Nat.le_trans I.sz hs)
    · simp at z
      simp [z]
    · simp at z
      simp [z]
    · rcases List.mem_cons.mp hb with r | hb
      · rw [r]
        exact ⟨ne,Nat.le_trans hn he⟩
      · rw [List.mem_singleton.mp hb]
        exact ⟨I.hok.fresh hs,Nat.le_trans I.sz hs⟩
  · refine wpAny_bind (fly_next I.ok.frames I.stack rfl t0 fun h' T hs t m=>fly_set t fun h2 t2 m2=>?_)
    refine fin h2 T [e,T0,T] t2 ((m.mono (fun _ z=>z) fun b z=>?_).trans (m2.mono (fun b z=>nomatch z) fun b z=>?_)) (fun b hb=>?_) (I.hok.fresh hs) (Nat.le_trans I.sz hs)
    · simp at z
      rcases z with z | z <;> simp [z]
    · simp at z
      simp [z]
    · rcases List.mem_cons.mp hb with r | hb
      · rw [r]
        exact ⟨ne,Nat.le_trans hn he⟩
      · rcases List.mem_cons.mp hb with r | hb
        · rw [r]
          exact ⟨n0,Nat.le_trans hn s0⟩
        · rw [List.mem_singleton.mp hb]
          exact ⟨I.hok.fresh hs,Nat.le_trans I.sz hs⟩
theorem air_of {X:Cx} {pins:List (Addr × Obj)} {σ:St} {H1:Hp} {s1 s2:Shared} {u:Value} {E':XK} (hP:X.prog=P) (hw:X.w=w) (I:Inv X pins σ H1 s1) (h:CXf P w X.stack H1 s1 E' u s2):Air X pins σ E' u s2:=by
  obtain ⟨e,T,C,dx,H',rfl,os,bare,un,hok,t,⟨se,sT⟩,⟨ne,nT⟩,hE⟩:=h
  have I2:Inv X pins σ H' s2:=I.call' (ch:=[]) os un (by rw [hP,hw]; exact hok) bare (fun b z=>absurd z (by simp))
  exact ⟨e,C,dx,H',s1.heap.objs.size,rfl,I2,ne,I.sz,se,fun p hp=>Heap.lt_size (I.pin p hp).1,.inr ⟨T,t,nT,sT⟩,hE⟩
theorem passx:Passes (CXf P w) (cxOf (CXf P w) P w K mg base N qual scope f cd A outer s H E) E:=fun pins σ H1 s1 u s2 I h=>leave_air (air_of rfl rfl I h)
theorem ownx:PassesOwn (model P w) (cxOf (CXf P w) P w K mg base N qual scope f cd A outer s H E).A (cxOf (CXf P w) P w K mg base N qual scope f cd A outer s H E).env (cxOf (CXf P w) P w K mg base N qual scope f cd A outer s H E).xe:=PassesOwn.leaving
theorem FnOk.upx {k:Nat} {fd:FuncData} {ps:List Str} {sp:Sp} {CX:CXT} (F:FnOk P w K mg base CX0 k f fd ps sp):FnOk P w K mg base CX k f fd ps sp :=
  ⟨F.len,fun A outer s H args us vs Q E hr he hb hv hs=>codeAny_mono (F.run A outer s H args us vs Q E hr he hb hv hs) fun r s' q=>by
    cases r with
    | error e=>exact False.elim q
    | ok fl =>
      cases fl with
      | ret u=>exact q
      | next=>exact False.elim q
      | brk=>exact False.elim q
      | cont=>exact False.elim q⟩
theorem Fun.byx {x:Str} {st:Stmt} {fd:FuncData} {ps:List Str} {k:Nat} {sp:Sp} (F:Fun K x qual st f fd) (S:FnScope N ps (defScope st)) (len:∀ vs H Q E,sp vs H Q E->vs.length=ps.length)
    (hbody:∀ (cdv:Value) (A:Around) (outer:List Env) (s:Shared) (H:Hp) (vs:List V) (Q:VK) (E:XK),Room k (A.deeper (envOfC qual (defScope st) s.heap.objs.size f cdv))->sp vs H Q E ->
      ∃ t,jSs (cxOf (CXf P w) P w K mg base N qual (defScope st) f cdv A outer s H E) (defBody st) t/\t { nx:=fun _ H'=>Q .non H',rt:=Q } (start N vs) H):FnOk P w K mg base (CXf P w) (k + 1) f fd ps sp:=by
  obtain ⟨oc,od,kV,doc,pm,an,cdv,ct,osl,rfl,lk,hcd⟩:=F.ex
  refine fn_of lk hcd S len fun A outer s H vs Q E hr hsp=>?_
  obtain ⟨t,h,q⟩:=hbody cdv A outer s H vs Q E hr hsp
  exact ⟨t,h.out,q⟩
end
end L2
namespace L2
open PySem
section
variable {M:Model} {A:Around} {E:Value->Shared->Prop} {env:Env} {nm q:Str} {C N:Addr} {bs bm:List Value} {hdct:Bool} {sn:List Str} {sub:List Value} {ab:Bool} {col:Option Bool} {dd:Option Addr} {k0 k1 k2 k3 k5:Option Value} {newId:String}
theorem rs_stmt {s:Shared} {x:Sem Value} {Q:Flow->Shared->Prop} (hb:bm.contains (.type "BaseException")=true) (hh:A.handled=none)
    (h:wpAny M A x (fun v s1=>∃ e oe vs,v=.ref e/\s1.heap.get? C=some (excClassObj nm q C N bs bm hdct sn sub ab col dd k0 k1 k2 k3 k5 newId)/\s1.heap.get? e=some oe/\oe.cls=.ref C/\oe.data=.fields vs/\vs[1]?=some .none/\E (.ref e) s1) E s) :
    wpAny M A (raiseStmt env (some x) none) Q E s:=by
  have cB:(Value.ref C :: bm).contains (.type "BaseException")=true:=by rw [List.contains_cons,hb,Bool.or_true]
  unfold raiseStmt
  refine wpAny_bind (wpAny_mono h (fun v s1 h1=>?_) fun _ _ x=>x)
  obtain ⟨e,⟨c,d0,dt,sl⟩,vs,rfl,hC,he,hc,hd,hv,hE⟩:=h1
  dsimp only at hc hd
  subst hc hd
  obtain ⟨hp,g,d,tk,os⟩:=s1
  repeat (first | (with_reducible refine wpAny_field he rfl hv ?_) | with_reducible refine wpAny_loadPart_at he ?_ | with_reducible refine wpAny_loadPart_at hC ?_ | (with_reducible refine wpAny_isSubtype_exc hC ?_; rw [cB]) | wp_step)
  exact wpAny_raiseNew_none hh hE
end
abbrev tupOf (rest:List Value):Obj:={ cls:=.type "tuple",data:=.seq rest.toArray }
abbrev excOf (C t:Addr):Obj:={ cls:=.ref C,data:=.fields #[.ref t,.none,.none,.none,.bool false,.none] }
section
variable {prog:Program} {w:World} {A:Around} {E:Value->Shared->Prop} {h:Heap} {g:Array GenState} {d:Drawn} {t:Nat} {os:OsState}
variable {nm q:Str} {C N f:Addr} {bs bm bmB:List Value} {hdct:Bool} {sn:List Str} {sub:List Value} {ab:Bool} {col:Option Bool} {dd:Option Addr} {k0 k1 k2 k3 k5:Option Value} {B Bn newId nid initId inN:String} {bmN:List Value}
theorem ex_init (F:ExcBaseFacts B nid initId bmB) (T:OwnTail h bmB bm) {e t0:Addr} {oe:Obj} {vs:Array Value} {rest:List Value} {Q:Value->Shared->Prop}
    (hC:h.get? C=some (excClassObj nm q C N bs bm hdct sn sub ab col dd k0 k1 k2 k3 k5 newId)) (he:h.get? e=some oe) (hc:oe.cls=.ref C) (hd:oe.data=.fields vs) (h0:vs[0]?=some (.ref t0)) (hrest:rest.length<=sizeLine)
    (hq:Q .none ⟨(h.push (tupOf rest)).update e (Obj.mapFields (·.setIfInBounds 0 (.ref h.objs.size))),g,d,t,os⟩) :
    wpAny (model prog w) A (call (.builtin initId) (.ref e :: rest)) Q E ⟨h,g,d,t,os⟩:=by
  refine wpAny_call (codeAny_call_builtin F.init.plain F.initEntry (wpAny_check_init_subU F T hC he hc ?_))
  unfold Builtin.«BaseException.__init__»
  dsimp only
  rw [if_neg (by simp:¬ ((!List.isEmpty ([]:List (Str × Value)))=true))]
  unfold newTuple Builtin.BaseException.bexcPut
  have e1:=Heap.get?_push_of_some (h:=h) (tupOf rest) he
  refine wpAny_bind (wpAny_newObj_type ?_ (by show rest.toArray.size<=sizeLine; rw [List.size_toArray]; exact hrest))
  refine wpAny_bind (wpAny_bind (wpAny_field e1 hd h0 (wpAny_bind (wpAny_setField e1 hd (Array.getElem?_eq_some_iff.mp h0).1 ?_))))
  exact wpAny_letGo (wpAny_pure hq)
end
end L2
namespace L2
open PySem PySem.W PySem.Calls PyProof.Rows Builtin Builtin.ObjectAttr
def bmV:List Value:=[.type "ValueError",.type "Exception",.type "BaseException",.type "object"]
def overV:List Value->Bool
  | []=>false
  | v :: r=>(v :: r) == bmV || (match v with
    | .ref _=>overV r
    | _=>false)
def overIn (K:Frag) (C:Addr):Bool:=(clsIn K C).any fun cd=>overV cd.mro
section
variable {prog:Program} {w:World} {A:Around} {E:Value->Shared->Prop} {K:Frag} {C e:Addr} {s:Shared} {ox:Obj} {od:Option Obj} {name:Str} {R:Result->Shared->Prop}
end
end L2
namespace L2
open PySem PySem.Spec PyProof.Rows
def XO (e C:Addr) (dx:Option Addr):HO:=.ext fun h=>∃ oe vs t0,h.get? e=some oe/\oe.cls=.ref C/\oe.dict=dx/\oe.data=.fields vs/\vs[0]?=some (.ref t0)/\vs[1]?=some .none/\vs[2]?=some .none
theorem XO.ok {P:Program} {w:World} {H:Hp} {h:Heap} {e C:Addr} {dx:Option Addr} (p:∃ oe vs t0,h.get? e=some oe/\oe.cls=.ref C/\oe.dict=dx/\oe.data=.fields vs/\vs[0]?=some (.ref t0)/\vs[1]?=some .none/\vs[2]?=some .none):ObjOk P w H h e (XO e C dx) :=
  ⟨p,let ⟨oe,_,_,q,_⟩:=p; ⟨oe,q⟩,fun _ _ ⟨oe,vs,t0,a,r⟩ k=>⟨oe,vs,t0,k oe a,r⟩⟩
theorem XO.get {P:Program} {w:World} {H:Hp} {h:Heap} {e C:Addr} {dx:Option Addr} (x:HOk P w H h) (q:H e=some (XO e C dx)):∃ oe vs t0,h.get? e=some oe/\oe.cls=.ref C/\oe.dict=dx/\oe.data=.fields vs/\vs[0]?=some (.ref t0)/\vs[1]?=some .none/\vs[2]?=some .none :=
  (show ObjOk P w H h e (.ext _) from x e _ q).1
def XD (d:Addr) (fs:List (Str × V)):HO:=.ext fun h=>∃ mA,h.Ns1 d mA/\(∀ f,RelO (fs.lookup f) (mA f))/\PySem.Within mA (fs.map (·.1))/\fs.length<=1000
theorem XD.ok {P:Program} {w:World} {H:Hp} {h:Heap} {d:Addr} {fs:List (Str × V)} (p:∃ mA,h.Ns1 d mA/\(∀ f,RelO (fs.lookup f) (mA f))/\PySem.Within mA (fs.map (·.1))/\fs.length<=1000):ObjOk P w H h d (XD d fs) :=
  ⟨p,let ⟨_,⟨o,_,_,q,_⟩,_⟩:=p; ⟨o,q⟩,fun _ _ ⟨mA,n,r⟩ k=>⟨mA,n.at k,r⟩⟩
theorem XD.get {P:Program} {w:World} {H:Hp} {h:Heap} {d:Addr} {fs:List (Str × V)} (x:HOk P w H h) (q:H d=some (XD d fs)):∃ mA,h.Ns1 d mA/\(∀ f,RelO (fs.lookup f) (mA f))/\PySem.Within mA (fs.map (·.1))/\fs.length<=1000 :=
  (show ObjOk P w H h d (.ext _) from x d _ q).1
def xIn (K:PySem.W.Frag) (C f:Addr):Bool:=match K.lookup C with
  | some ⟨.type "type",_,.cls cd,sl⟩=>(match cd.mro,sl.toList with
    | .ref C' :: bm,[_,_,_,_,some (.builtin n),_]=>C' == C && n == "ValueError.__new__" && !cd.hasDel && PySem.W.tailIn K bmV bm && PySem.W.nsOkIn K cd.ns && PySem.W.nsIn K cd.ns "__init__" == some (some (.ref f)) && bm.contains (.type "BaseException")
    | _,_=>false)
  | _=>false
structure XCl (K:PySem.W.Frag) (C f:Addr):Prop where
  cls:xIn K C f=true
  fn:PySem.W.typeIn K (.ref f)=some (.type "function")
  kp:PySem.W.keepIn K (.ref C)=true
  over:overIn K C=true
  sa:PySem.W.findIn K (.ref C) "__setattr__"=some (some (.builtin "object.__setattr__"))
  hd:(PySem.W.clsIn K C).any (·.hasDict)=true
  ga:PySem.W.findIn K (.ref C) "__getattribute__"=some (some (.builtin "BaseException.__getattribute__"))
  ha:PySem.W.findIn K (.ref C) "__getattr__"=some none
  sb:PySem.W.subIn K (.ref C) (.type "BaseException")=some true
theorem ns_some {K:PySem.W.Frag} {h:Heap} {N:Addr} {mg:Str->Option Value} {n:Str} {v:Value} (X:K.In h) (G:h.Ns N mg) (e:PySem.W.nsIn K N n=some (some v)):mg n=some v:=by
  obtain ⟨o,es,ep,ho,hd,_,hf⟩:=G
  unfold PySem.W.nsIn at e
  split at e
  · rename_i c d es' n' sl q
    have:=X _ _ q
    rw [ho] at this
    cases this
    cases hd
    split at e
    · rename_i en he
      cases e
      rw [<- hf]
      unfold nsFind findBy
      rw [<- Array.find?_toList,he]
      rfl
    · split at e <;> cases e
  · cases e
theorem XCl.at {K:PySem.W.Frag} {C f:Addr} (c:XCl K C f) {h:Heap} (X:K.In h):∃ nm q N bs bm hdct sn sub ab col dd k0 k1 k2 k3 k5 mN,h.get? C=some (excClassObj nm q C N bs bm hdct sn sub ab col dd k0 k1 k2 k3 k5 "ValueError.__new__") /\
    OwnTail h bmV bm/\h.Ns N mN/\mN "__init__"=some (.ref f)/\bm.contains (.type "BaseException")=true:=by
  have q:=c.cls
  unfold xIn at q
  split at q
  · rename_i dd cd sl ho
    split at q
    · rename_i C' bm k0 k1 k2 k3 n k5 hm hs
      simp only [Bool.and_eq_true,beq_iff_eq,Bool.not_eq_true'] at q
      obtain ⟨⟨⟨⟨⟨⟨rfl,rfl⟩,hdel⟩,ht⟩,hok⟩,hi⟩,hb⟩:=q
      obtain ⟨nm,bs,mro,ns,qn,hd,sn,sub,ab,col,del⟩:=cd
      dsimp only at hm hdel hok hi
      subst hm hdel
      have es:sl=#[k0,k1,k2,k3,some (.builtin "ValueError.__new__"),k5]:=by
        obtain ⟨l⟩:=sl
        simp only at hs
        rw [hs]
      subst es
      have nN:=PySem.Heap.Ns.of_isNs (PySem.W.isNs_of_in X hok)
      exact ⟨nm,qn,ns,bs,bm,hd,sn,sub,ab,col,dd,k0,k1,k2,k3,k5,_,X _ _ ho,PySem.W.tail_of_in X ht,nN,ns_some X nN hi,hb⟩
    · cases q
  · cases q
def drp (H:Hp) (e:Addr):Hp:=fun b=>if b=e then none else H b
theorem drp_same {H:Hp} {e:Addr}:drp H e e=none:=if_pos rfl
theorem drp_ne {H:Hp} {e b:Addr} (h:b≠e):drp H e b=H b:=if_neg h
theorem Inv.drop {X:Cx} {pins:List (Addr × Obj)} {σ:St} {H:Hp} {s:Shared} {e:Addr} {φ:Heap->Prop} (I:Inv X pins σ H s) (he:H e=some (.ext φ)):Inv X pins σ (drp H e) s:=by
  have no:∀ b,H b=none->drp H e b=none:=fun b h=>by
    by_cases q:b=e
    · rw [q]
      exact drp_same
    · rw [drp_ne q]
      exact h
  have nx:∀ (b:Addr) (o:HO),H b=some o->(∀ ψ,o≠.ext ψ)->drp H e b=some o:=fun b o h n=>by
    have q:b≠e:=fun z=>by
      rw [z,he] at h
      cases h
      exact n _ rfl
    rw [drp_ne q]
    exact h
  refine ⟨I.ok,I.os,I.bare,⟨I.base.keep,I.base.slot,fun b o q n x=>no b (I.base.free b o q n x),I.base.there,fun b xs q=>nx _ _ (I.base.tups b xs q) (by intro ψ z; cases z),fun b o u q=>nx _ _ (I.base.frzs b o u q) (by intro ψ z; cases z),fun b ps q=>?_⟩,I.loc,I.cell,no _ I.free,fun x c q=>no _ (I.freeC x c q),fun p hp=>?_,fun a o q=>?_,I.len⟩
  · obtain ⟨m,r⟩:=I.base.tbls b ps q
    exact ⟨m,nx _ _ r (by intro ψ z; cases z)⟩
  · obtain ⟨a,b,c⟩:=I.pin p hp
    exact ⟨a,no _ b,c⟩
  · have na:a≠e:=fun z=>by
      rw [z,drp_same] at q
      cases q
    rw [drp_ne na] at q
    exact (I.hok a o q).stay (fun _ _ _ z=>z) (fun b z=>nx b _ z (by intro ψ y; cases y)) fun b xs z=>nx b _ z (by intro ψ y; cases y)
def Throws (X:Cx) (E:XK):Prop:=∀ (pins:List (Addr × Obj)) (σ:St) (u:Value) (s':Shared),Air X pins σ E u s'->X.xe u s'
theorem throwx {P:Program} {w:World} {K:PySem.W.Frag} {mg:Str->Option Value} {base:Heap} {N:List Str} {qual:Str} {scope:Scope} {f:Addr} {cd:Value} {A:Around} {outer:List Env} {s:Shared} {H:Hp} {E:XK} :
    Throws (cxOf (CXf P w) P w K mg base N qual scope f cd A outer s H E) E:=fun _ _ _ _ h=>leave_air h
section
variable {X:Cx} {k:Nat} {f C:Addr} {fd:FuncData} {ps:List Str} {sp:Sp} {E:XK} {x:Str} {np cpos pos:Pos} {a:Expr} {as:List Expr} {t:TA}
end
structure XBase (K:PySem.W.Frag) (R:Addr):Prop where
  sp:PySem.W.specialIn K (.ref R) "__getattribute__"=some (some (.builtin "type.__getattribute__"))
  rd:PySem.W.readsIn K R (.type "type")=true
  fi:PySem.W.findCls K (.ref R) (.type "type") "__init__"=some (.val (.builtin "ValueError.__init__"))
section
variable {X:Cx} {f C R:Addr} {x m:Str} {np apos pos pos':Pos} {a o e value:Expr} {as:List Expr} {t:TA} {ta tv te:TE}
end
end L2
namespace L2
open PySem PySem.Spec PyProof.Rows
section
variable {X:Cx} {pins:List (Addr × Obj)} {σ:St} {H:Hp} {s:Shared} {h':Heap} {xs:List Addr}
theorem Inv.moved (I:Inv X pins σ H s) (m:Mv (frs X.stack) xs s.heap h')
    (hx:∀ b∈xs,H b=none/\(b∈X.ex\/X.s₀.heap.objs.size<=b)/\b≠X.env.locals/\(∀ x c,X.env.cells.lookup x=some c->c≠b)/\∀ p∈X.pn ++ pins,p.1≠b):Inv X pins σ H { s with heap:=h' } :=
  I.call (g':=s.gens) (d':=s.drawn) (t':=s.toks) (ch:=xs) ⟨fun b o q _ f x=>m.keep b o q f x,fun b o q _ _ x=>m.slot b o q x,fun _ _ _ n _=>n,fun b o q _=>m.there b o q,fun _ _ q=>q,fun _ _ _ q=>q,fun _ ps q=>⟨#[],by rw [q]; simp⟩⟩
    (I.hok.moved m I.stkFree fun b hb=>(hx b hb).1) I.bare fun b hb=>(hx b hb).2
theorem Inv.apart (I:Inv X pins σ H s) {b:Addr} {o:Obj} {vs:Array Value} (q:s.heap.get? b=some o) (d:o.data=.fields vs):b≠X.env.locals/\∀ x c,X.env.cells.lookup x=some c->c≠b:=by
  refine ⟨fun z=>?_,fun x c e z=>?_⟩
  · obtain ⟨m,⟨o',es,ep,ho,hd,_⟩,_⟩:=I.loc
    rw [z,ho] at q
    cases q
    rw [hd] at d
    cases d
  · obtain ⟨v,o',ho,hd⟩:=I.cell x c e
    rw [z,q] at ho
    cases ho
    rw [d] at hd
    cases hd
abbrev Cx.inEx (X:Cx) (u:Value) (p:List (Addr × Obj)):Cx:={ X with A:=X.A.mark (some u),calm:=false,pn:=p ++ X.pn,xe:=fun _ _=>False }
theorem Inv.inEx (I:Inv X pins σ H s) (u:Value) {p:List (Addr × Obj)} (hp:∀ q∈p,s.heap.get? q.1=some q.2/\H q.1=none/\q.1≠X.env.locals/\q.1 ∉ X.fs/\∀ v,q.2.data≠.cell v):Inv (X.inEx u p) pins σ H s :=
  ⟨⟨I.ok.mod,I.ok.kind,I.ok.glob,I.ok.blt,I.ok.above,I.ok.inj,I.ok.has,I.ok.cab,(fun z=>nomatch z),I.ok.frames,I.ok.stk,I.ok.exf,I.ok.bs,I.ok.bsz,I.ok.noex,I.ok.exfs,I.ok.funs,I.ok.frf⟩,I.os,I.bare,I.base,I.loc,I.cell,I.free,I.freeC,fun q hq=>by
    have hq':q∈(p ++ X.pn) ++ pins:=hq
    rw [List.append_assoc] at hq'
    rcases List.mem_append.mp hq' with z | z
    · exact hp q z
    · exact I.pin q z,I.hok,I.len⟩
theorem Inv.outEx {u:Value} {p:List (Addr × Obj)} (ok:X.Ok) (I:Inv (X.inEx u p) pins σ H s):Inv X pins σ H s :=
  ⟨ok,I.os,I.bare,I.base,I.loc,I.cell,I.free,I.freeC,fun q hq=>I.pin q (by
    show q∈(p ++ X.pn) ++ pins
    rw [List.append_assoc]
    exact List.mem_append_right _ hq),I.hok,I.len⟩
end
abbrev Ends.behind (D:Ends) (i:Nat):Ends:={ nx:=fun σ H=>D.nx (σ.set i none) H,rt:=D.rt,bk:=fun σ H=>D.bk (σ.set i none) H,ct:=fun σ H=>D.ct (σ.set i none) H }
section
variable {X:Cx} {Ch:Addr} {x n:Str} {i:Nat} {np hpos tpos:Pos} {b0:Stmt} {suite:List Stmt} {th:Addr->Obj->TS}
variable {k:Nat} {f:Addr} {fd:FuncData} {ps:List Str} {sp:Sp} {y:Str} {p cpos epos:Pos} {a:Expr} {as:List Expr} {t:TA}
end
end L2
namespace L2
open PySem PySem.Spec PyProof.Rows
section
variable {X:Cx} {pins:List (Addr × Obj)} {σ:St} {H:Hp} {s:Shared} {h':Heap}
theorem Inv.turns {t':Nat} {ch:List Addr} (I:Inv X pins σ H s) (k:∀ b o,b ∉ ch->s.heap.get? b=some o->h'.get? b=some o) (hf:∀ b∈ch,FpOk X pins H b):Inv X pins σ H { s with heap:=h',toks:=t' }:=by
  have nit:∀ b u,H b=some u->b ∉ ch:=fun b u e z=>by rw [(hf b z).1] at e; cases e
  refine I.call (g':=s.gens) (d':=s.drawn) (t':=t') (ch:=ch) ⟨fun b o q _ _ x=>k b o x q,fun b o q _ _ x=>⟨o.slots,k b o x q⟩,fun _ _ _ n _=>n,fun b o q x=>⟨o,k b o x q⟩,fun _ _ q=>q,fun _ _ _ q=>q,fun _ ps q=>⟨#[],by rw [q]; simp⟩⟩
    (fun b u e=>(I.hok b u e).stay (fun c v hc q=>k c v ?_ q) (fun _ q=>q) fun _ _ q=>q) I.bare fun b hb=>?_
  · rcases hc with z | z
    · rw [z]; exact nit b u e
    · exact nit c _ z
  · obtain ⟨f0,f1,f2,f3,f4,f5⟩:=hf b hb
    exact ⟨f3,f1,f4,f5⟩
theorem Inv.turnsLaid {t':Nat} {ch:List Addr} {a:Addr} {o:HO} (I:Inv X pins σ H s) (k:∀ b o,b ∉ ch->s.heap.get? b=some o->h'.get? b=some o) (hf:∀ b∈ch,FpOk X pins H b) (hp:s.heap.objs.size<=a) (new:ObjOk X.prog X.w (upd H a o) h' a o) :
    Inv X pins σ (upd H a o) { s with heap:=h',toks:=t' }:=by
  have hn:=I.hok.fresh hp
  have nit:∀ b u,H b=some u->b ∉ ch:=fun b u e z=>by rw [(hf b z).1] at e; cases e
  refine I.call (g':=s.gens) (d':=s.drawn) (t':=t') (ch:=ch) ⟨fun b o q _ _ x=>k b o x q,fun b o q _ _ x=>⟨o.slots,k b o x q⟩,fun b u q n _=>by rw [upd_ne (Nat.ne_of_lt (Nat.lt_of_lt_of_le (Heap.lt_size q) hp))]; exact n,fun b o q x=>⟨o,k b o x q⟩,
      fun b xs q=>by rw [upd_ne (ne_of_none q hn)]; exact q,fun b u xs q=>by rw [upd_ne (ne_of_none q hn)]; exact q,fun b ps q=>⟨#[],by rw [upd_ne (ne_of_none q hn),q]; simp⟩⟩
    (fun b u e=>?_) I.bare fun b hb=>?_
  · by_cases hb:b=a
    · subst hb
      rw [upd_same] at e
      cases e
      exact new
    · rw [upd_ne hb] at e
      refine (I.hok b u e).stay (fun c v hc q=>k c v ?_ q) (fun c q=>by rw [upd_ne (ne_of_none q hn)]; exact q) fun c xs q=>by rw [upd_ne (ne_of_none q hn)]; exact q
      rcases hc with z | z
      · rw [z]; exact nit b u e
      · exact nit c _ z
  · obtain ⟨f0,f1,f2,f3,f4,f5⟩:=hf b hb
    exact ⟨f3,f1,f4,f5⟩
end
section
variable {X:Cx} {elts:List Expr} {k:Nat} {tpos:Pos}
end
end L2
namespace L2
open PySem PySem.Spec PyProof.Rows Builtin Builtin.Str
section
variable {X:Cx}
def rEqE (K:PySem.W.Frag) (neg:Bool):R2:=fun x y H Q=>∃ p p' xs,x=.ref p/\y=.ref p'/\SqL K H p xs/\SqL K H p' []/\Q (.bl (if neg then !xs.isEmpty else xs.isEmpty)) H
theorem op_eqE (hu:X.A.units < cLine):OpR X (compareOp .Eq) (rEqE X.K false):=by
  intro pins s σ H x y v u Q I rx ry h
  obtain ⟨p,p',xs,rfl,rfl,h1,h2,q⟩:=h
  cases rx
  cases ry
  obtain ⟨its,r,pl,_⟩:=I.list h1
  obtain ⟨its',r',pl',_⟩:=I.list h2
  cases r'
  cases r with
  | nil=>exact SeqAt.eq_listAt (e:=fun _=>true) pl.isList pl'.isList rfl hu (fun j h=>absurd h (Nat.not_lt_zero _)) ⟨.bl true,H,I,rfl,q⟩
  | cons a b=>exact SeqAt.eq_list_lengthsAt pl.isList pl'.isList rfl hu ⟨.bl false,H,I,rfl,q⟩
theorem op_neE (hu:X.A.units < cLine):OpR X (compareOp .NotEq) (rEqE X.K true):=by
  intro pins s σ H x y v u Q I rx ry h
  obtain ⟨p,p',xs,rfl,rfl,h1,h2,q⟩:=h
  cases rx
  cases ry
  obtain ⟨its,r,pl,_⟩:=I.list h1
  obtain ⟨its',r',pl',_⟩:=I.list h2
  cases r'
  cases r with
  | nil=>exact SeqAt.RcNeAt.lists (e:=fun _=>true) pl.isList pl'.isList rfl hu (fun j h=>absurd h (Nat.not_lt_zero _)) _ _ _ _ ⟨.bl false,H,I,rfl,q⟩
  | cons a b=>exact SeqAt.RcNeAt.lists_lengths pl.isList pl'.isList rfl hu _ _ _ _ ⟨.bl true,H,I,rfl,q⟩
theorem jo_eqE {k:Nat} (hr:Room k X.A):jOp X (compareOp .Eq) (rEqE X.K false):=⟨op_eqE hr.units0⟩
theorem jo_neE {k:Nat} (hr:Room k X.A):jOp X (compareOp .NotEq) (rEqE X.K true):=⟨op_neE hr.units0⟩
end
end L2
namespace L2
open PySem PySem.Spec PyProof.Rows
def Sq (k:Bool) (h:Heap) (l:Addr) (xs:Array Value):Prop:=match k with
  | true=>h.IsList l xs
  | false=>h.IsTuple l xs
def SqI (k:Bool) (h:Heap) (j l:Addr) (n:Nat):Prop:=match k with
  | true=>h.IsListIter j l n
  | false=>h.IsTupleIter j l n
def SqN (k:Bool):String:=if k then "list_iterator" else "tuple_iterator"
theorem Sq.at {k:Bool} {h h':Heap} {l:Addr} {xs:Array Value} (x:Sq k h l xs) (e:∀ o,h.get? l=some o->h'.get? l=some o):Sq k h' l xs:=by
  cases k <;> obtain ⟨o,ho,r⟩:=x <;> exact ⟨o,e _ ho,r⟩
theorem SqI.at {k:Bool} {h h':Heap} {j l:Addr} {n:Nat} (x:SqI k h j l n) (e:∀ o,h.get? j=some o->h'.get? j=some o):SqI k h' j l n:=by
  cases k <;> obtain ⟨o,ho,r⟩:=x <;> exact ⟨o,e _ ho,r⟩
theorem SqI.ex {k:Bool} {h:Heap} {j l:Addr} {n:Nat} (x:SqI k h j l n):∃ o,h.get? j=some o/\o.cls=.type (SqN k)/\o.data=.fields #[.ref l,.int n 0]:=by
  cases k <;> exact x
theorem SqI.of {k:Bool} {h:Heap} {j l:Addr} {n:Nat} (x:∃ o,h.get? j=some o/\o.cls=.type (SqN k)/\o.data=.fields #[.ref l,.int n 0]):SqI k h j l n:=by
  cases k <;> exact x
section
variable {P:Program} {w:World} {A:Around} {E:Value->Shared->Prop} {s:Shared}
theorem tup_next {j l:Addr} {n:Nat} {xs:Array Value} {x:Value} {Q:Value->Shared->Prop} (hj:s.heap.IsTupleIter j l n) (hl:s.heap.IsTuple l xs) (hx:xs[n]?=some x)
    (q:∀ h',h'.IsTupleIter j l (n + 1)->Heap.SameBut j s.heap h'->Q x { s with heap:=h' }):wpAny (model P w) A (Builtin.SmallTypes.nextOf (.ref j)) Q E s:=by
  have ⟨oj,hoj,cj,dj⟩:=hj
  have ⟨ol,hol,_,m,dl⟩:=hl
  unfold Builtin.SmallTypes.nextOf
  refine wpAny_bind (wpAny_callSpecial?_slot hj.typeIs F.slot_tuple_iterator_next (wpAny_call_entry F.slot_tuple_iterator_next hj.typeIs F.entry_tuple_iterator_next ?_ (F.args_tuple_iterator_next_1 (.ref j))))
  refine wpAny_bind (m:=field (.ref j) 0) (wpAny_field hoj dj (x:=.ref l) rfl ?_)
  have nn:¬ ((Value.ref l == Value.none)=true):=Bool.false_ne_true
  show wpAny _ _ (ite ((Value.ref l == Value.none)=true) _ _) _ _ _
  rw [if_neg nn]
  refine wpAny_bind (m:=field (.ref j) 1) (wpAny_field hoj dj (x:=.int n 0) rfl ?_)
  refine wpAny_bind (m:=seqItems? (.ref l)) (wpAny_seqItems hol dl ?_)
  simp only [Int.toNat_natCast,hx]
  refine wpAny_bind (wpAny_setField hoj dj (by simp) (wpAny_pure ⟨x,rfl,wpAny_pure (q _ ⟨_,Heap.get?_update_self _ hoj (Obj.isFreed_of_fields (Obj.data_mapFields dj _)),(Obj.cls_mapFields ..).trans cj,?_⟩ (Heap.SameBut.update ..))⟩))
  rw [Obj.data_mapFields dj]
  simp [rawInt]
theorem tup_end {j l:Addr} {n:Nat} {xs:Array Value} {Q:Value->Shared->Prop} (hA:A.handled=none) (hj:s.heap.IsTupleIter j l n) (hl:s.heap.IsTuple l xs) (hx:xs[n]?=none)
    (q:∀ h' e,Heap.ExtBut j s.heap h'->(∃ o,h'.get? e=some o/\o.cls=.type "StopIteration")->E (.ref e) { s with heap:=h' }):wpAny (model P w) A (Builtin.SmallTypes.nextOf (.ref j)) Q E s:=by
  have ⟨oj,hoj,cj,dj⟩:=hj
  have ⟨ol,hol,_,m,dl⟩:=hl
  unfold Builtin.SmallTypes.nextOf
  refine wpAny_bind (wpAny_callSpecial?_slot hj.typeIs F.slot_tuple_iterator_next (wpAny_call_entry F.slot_tuple_iterator_next hj.typeIs F.entry_tuple_iterator_next ?_ (F.args_tuple_iterator_next_1 (.ref j))))
  refine wpAny_bind (m:=field (.ref j) 0) (wpAny_field hoj dj (x:=.ref l) rfl ?_)
  have nn:¬ ((Value.ref l == Value.none)=true):=Bool.false_ne_true
  show wpAny _ _ (ite ((Value.ref l == Value.none)=true) _ _) _ _ _
  rw [if_neg nn]
  refine wpAny_bind (m:=field (.ref j) 1) (wpAny_field hoj dj (x:=.int n 0) rfl ?_)
  refine wpAny_bind (m:=seqItems? (.ref l)) (wpAny_seqItems hol dl ?_)
  simp only [Int.toNat_natCast,hx]
  refine wpAny_bind (wpAny_rule (wpAny_bind (wpAny_setField hoj dj (by simp) ?_)))
  refine wpAny_bind (m:=newExc (.type "StopIteration") []) ?_
  unfold newExc newTuple
  refine wpAny_bind (wpAny_newObj_type (wpAny_bind (m:=firstArgMember _ _) (wpAny_of_eq (a:=Value.none) (by first | rfl | (simp only [firstArgMember]; rfl)) (wpAny_newObj_type ?_ (by size_fits)))) (by size_fits))
  unfold raiseNew
  refine wpAny_bind (wpAny_handled ?_)
  rw [show A.in1.handled=none from hA]
  exact wpAny_bind (wpAny_pure (wpAny_throw (q _ _ (((Heap.SameBut.update ..).extBut.push _).push _) ⟨_,Heap.get?_push_size _ rfl,rfl⟩)))
theorem sq_next {k:Bool} {j l:Addr} {n:Nat} {xs:Array Value} {x:Value} {Q:Value->Shared->Prop} (hj:SqI k s.heap j l n) (hl:Sq k s.heap l xs) (hx:xs[n]?=some x)
    (q:∀ h',SqI k h' j l (n + 1)->Heap.SameBut j s.heap h'->Q x { s with heap:=h' }):wpAny (model P w) A (Builtin.SmallTypes.nextOf (.ref j)) Q E s:=by
  cases k with
  | true=>exact wpAny_nextOf_list_item hj hl hx q
  | false=>exact tup_next hj hl hx q
theorem sq_end {k:Bool} {j l:Addr} {n:Nat} {xs:Array Value} {Q:Value->Shared->Prop} (hA:A.handled=none) (hj:SqI k s.heap j l n) (hl:Sq k s.heap l xs) (hx:xs[n]?=none)
    (q:∀ h' e,Heap.ExtBut j s.heap h'->(∃ o,h'.get? e=some o/\o.cls=.type "StopIteration")->E (.ref e) { s with heap:=h' }):wpAny (model P w) A (Builtin.SmallTypes.nextOf (.ref j)) Q E s:=by
  cases k with
  | true=>exact wpAny_nextOf_list_end hA hj hl hx q
  | false=>exact tup_end hA hj hl hx q
theorem sq_iter {k:Bool} {l:Addr} {xs:Array Value} {Q:Value->Shared->Prop} (hl:Sq k s.heap l xs) (q:Q (.ref s.heap.objs.size) { s with heap:=s.heap.push { cls:=.type (SqN k),data:=.fields #[.ref l,.int 0 0] } }) :
    wpAny (model P w) A (pyIter (.ref l)) Q E s:=by
  cases k with
  | true=>exact wpAny_pyIter_list hl q
  | false=>exact wpAny_pyIter_tuple hl q
end
abbrev za (k:Bool) (h:Heap) (l:Addr):Heap:=h.push { cls:=.type (SqN k),data:=.fields #[.ref l,.int 0 0] }
abbrev zb (k m:Bool) (h:Heap) (l r:Addr):Heap:=za m (za k h l) r
abbrev zc (k m:Bool) (h:Heap) (l r:Addr):Heap:=(zb k m h l r).push { cls:=.type "tuple",data:=.seq #[.ref h.objs.size,.ref (za k h l).objs.size] }
abbrev zd (k m:Bool) (h:Heap) (l r:Addr):Heap:=(zc k m h l r).push { cls:=.type "tuple",data:=.seq #[.none,.none] }
abbrev ze (k m:Bool) (h:Heap) (l r:Addr):Heap:=(zd k m h l r).push { cls:=.type "zip",data:=.fields #[.none,.bool false,.bool false,.ref (zb k m h l r).objs.size,.ref (zc k m h l r).objs.size] }
theorem zip_made (k m:Bool) (l r:Addr) (xs ys:Array Value):Meets (Builtin.«zip.__new__» ⟨[.type "zip",.ref l,.ref r],[]⟩)
    (fun _ R s=>Sq k s.heap l xs/\Sq m s.heap r ys/\R (.ok (.ret (.ref (zd k m s.heap l r).objs.size))) { s with heap:=ze k m s.heap l r }) :=
  .of_wp fun prog w A R s h=>by
    obtain ⟨hp,g,d,tk,os⟩:=s
    obtain ⟨h1,h2,h⟩:=h
    have hs:=sub_zip
    have q1:Sq k (Shared.heap ⟨hp,g,d,tk,os⟩) l xs:=h1
    have q2:Sq m (Shared.heap ⟨za k hp l,g,d,tk,os⟩) r ys:=h2.at fun o e=>Heap.get?_push_of_some _ e
    wp_walk using sq_iter q1,sq_iter q2
    exact ⟨_,rfl,h⟩
structure ZS (k m:Bool) (h:Heap) (B l r:Nat) (n:Nat) (f g:Value):Prop where
  z:h.get? (B + 4)=some { cls:=.type "zip",data:=.fields #[f,g,.bool false,.ref (B + 2),.ref (B + 3)] }
  ti:IsPair h (B + 2) (.ref B) (.ref (B + 1))
  to:∃ a b,IsPair h (B + 3) a b
  i:SqI k h B l n
  j:SqI m h (B + 1) r n
theorem ZS.at {k m:Bool} {h h':Heap} {B l r:Nat} {n:Nat} {f g:Value} (x:ZS k m h B l r n f g) (e:∀ (b:Nat) o,B<=b->b<=B + 4->h.get? b=some o->h'.get? b=some o):ZS k m h' B l r n f g where
  z:=e _ _ (by lia) (by lia) x.z
  ti:=e _ _ (by lia) (by lia) x.ti
  to:=let ⟨a,b,y⟩:=x.to; ⟨a,b,e _ _ (by lia) (by lia) y⟩
  i:=x.i.at fun o=>e _ o (by lia) (by lia)
  j:=x.j.at fun o=>e _ o (by lia) (by lia)
def KeptZ (B:Nat) (h h':Heap):Prop:=∀ (c:Nat) o,(c < B\/B + 4 < c)->h.get? c=some o->h'.get? c=some o
section
variable {P:Program} {w:World} {A:Around} {E:Value->Shared->Prop} {s:Shared} {k m:Bool} {B l r:Nat} {n:Nat} {xs ys:Array Value} {x y f g:Value}
theorem zip_call {Q:Value->Shared->Prop} (hl:Sq k s.heap l xs) (hr:Sq m s.heap r ys)
    (q:∀ h',ZS k m h' s.heap.objs.size l r 0 .none (.bool false)->h'.objs.size=s.heap.objs.size + 5->(∀ c o,s.heap.get? c=some o->h'.get? c=some o)->Q (.ref (s.heap.objs.size + 4)) { s with heap:=h' }) :
    wpAny (model P w) A (call (.type "zip") [.ref l,.ref r]) Q E s:=by
  apply callType_new F.called_zip (by decide) (F.typeCall_zip_2 _ _) (F.newCall_zip_2 _ _) (fun obj=>F.args_object_init_3 obj _ _) F.entry_zip_new (zip_made k m l r xs ys)
  refine ⟨hl,hr,?_⟩
  have s1:(za k s.heap l).objs.size=s.heap.objs.size + 1:=Heap.size_push ..
  have s2:(zb k m s.heap l r).objs.size=s.heap.objs.size + 2:=by rw [Heap.size_push,s1]
  have s3:(zc k m s.heap l r).objs.size=s.heap.objs.size + 3:=by rw [Heap.size_push,s2]
  have s4:(zd k m s.heap l r).objs.size=s.heap.objs.size + 4:=by rw [Heap.size_push,s3]
  have s5:(ze k m s.heap l r).objs.size=s.heap.objs.size + 5:=by rw [Heap.size_push,s4]
  have up:∀ {c o},(zd k m s.heap l r).get? c=some o->(ze k m s.heap l r).get? c=some o:=fun e=>Heap.get?_push_of_some _ e
  have p5:(ze k m s.heap l r).get? (zd k m s.heap l r).objs.size=some _:=Heap.get?_push_size _ rfl
  have p4:(ze k m s.heap l r).get? (zc k m s.heap l r).objs.size=some _:=up (Heap.get?_push_size _ rfl)
  have p3:(ze k m s.heap l r).get? (zb k m s.heap l r).objs.size=some _:=up (Heap.get?_push_of_some _ (Heap.get?_push_size _ rfl))
  have p2:(ze k m s.heap l r).get? (za k s.heap l).objs.size=some _:=up (Heap.get?_push_of_some _ (Heap.get?_push_of_some _ (Heap.get?_push_size _ rfl)))
  have p1:(ze k m s.heap l r).get? s.heap.objs.size=some _:=up (Heap.get?_push_of_some _ (Heap.get?_push_of_some _ (Heap.get?_push_of_some _ (Heap.get?_push_size _ rfl))))
  rw [s4,s2,s3] at p5
  rw [s3] at p4
  rw [s2,s1] at p3
  rw [s1] at p2
  show _/\_
  rw [s4]
  exact ⟨⟨_,p5,rfl⟩,q _ ⟨p5,p3,⟨_,_,p4⟩,.of ⟨_,p1,rfl,rfl⟩,.of ⟨_,p2,rfl,rfl⟩⟩ s5 fun c o e=>up (Heap.get?_push_of_some _ (Heap.get?_push_of_some _ (Heap.get?_push_of_some _ (Heap.get?_push_of_some _ e))))⟩
theorem zip_free {Q:Value->Shared->Prop} (Z:ZS k m s.heap B l r n .none g) (hl:Sq k s.heap l xs) (hr:Sq m s.heap r ys) (ll:l < B) (rl:r < B) (hx:xs[n]?=some x) (hy:ys[n]?=some y)
    (q:∀ h',ZS k m h' B l r (n + 1) (rawInt s.heap.objs.size) (.bool false)->IsPair h' s.heap.objs.size x y->h'.objs.size=s.heap.objs.size + 1->KeptZ B s.heap h'->Q (.ref s.heap.objs.size) { s with heap:=h' }) :
    wpAny (model P w) A (Builtin.«zip.__next__» ⟨[.ref (B + 4)],[]⟩) (fun fin s'=>∃ v,fin=.done (.ret v)/\Q v s') E s:=by
  obtain ⟨a,b,hto⟩:=Z.to
  refine wpAny_bind (m:=field (.ref (B + 4)) 2) (wpAny_field Z.z rfl (x:=.bool false) rfl ?_)
  refine wpAny_bind (m:=field (.ref (B + 4)) 3) (wpAny_field Z.z rfl (x:=.ref (B + 2)) rfl (wpAny_bind (wpAny_seqItems Z.ti rfl ?_)))
  refine wpAny_bind (m:=Builtin.SmallTypes.ownedTupleIsFree (.ref (B + 4))) ?_
  unfold Builtin.SmallTypes.ownedTupleIsFree
  refine wpAny_bind (wpAny_field Z.z rfl (x:=.none) rfl (wpAny_pure ?_))
  rw [if_pos rfl]
  refine wpAny_bind (wpAny_rule (wpAny_bind (wpAny_field Z.z rfl (x:=.ref (B + 3)) rfl (wpAny_bind (wpAny_setField_rec Z.z (by simp) fun h1 z1 u1=>wpAny_bind ?_)))))
  replace z1:h1.get? (B + 4)=some { cls:=.type "zip",data:=.fields #[.ellipsis,g,.bool false,.ref (B + 2),.ref (B + 3)] }:=z1
  have k1:∀ (c:Nat) o,c≠B + 4->s.heap.get? c=some o->h1.get? c=some o:=fun c o n e=>(u1.2 c n).trans e
  simp only [List.zipIdx_cons,List.zipIdx_nil,List.forIn_cons,List.forIn_nil]
  refine wpAny_bind (wpAny_bind (wpAny_onRaise (wpAny_bind (m:=Builtin.SmallTypes.nextOf (.ref B)) ?_)))
  refine sq_next (Z.i.at fun o=>k1 _ o (by lia)) (hl.at fun o=>k1 _ o (by lia)) hx fun h2 i2 u2=>wpAny_pure ?_
  have k2:∀ (c:Nat) o,c≠B->h1.get? c=some o->h2.get? c=some o:=fun c o n e=>(u2.2 c n).trans e
  have to2:IsPair h2 (B + 3) a b:=k2 _ _ (by lia) (k1 _ _ (by lia) hto)
  refine wpAny_bind (wpAny_seqItems to2 rfl (wpAny_bind (wpAny_updateSeq_pair to2 fun h3 to3 u3=>?_)))
  replace to3:IsPair h3 (B + 3) x b:=to3
  have k3:∀ (c:Nat) o,c≠B + 3->h2.get? c=some o->h3.get? c=some o:=fun c o n e=>(u3.2 c n).trans e
  refine wpAny_bind (wpAny_letGo (wpAny_pure (wpAny_bind (wpAny_bind (wpAny_onRaise (wpAny_bind (m:=Builtin.SmallTypes.nextOf (.ref (B + 1))) ?_))))))
  refine sq_next (Z.j.at fun o e=>k3 _ o (by lia) (k2 _ o (by lia) (k1 _ o (by lia) e))) (hr.at fun o e=>k3 _ o (by lia) (k2 _ o (by lia) (k1 _ o (by lia) e))) hy fun h4 i4 u4=>wpAny_pure ?_
  have k4:∀ (c:Nat) o,c≠B + 1->h3.get? c=some o->h4.get? c=some o:=fun c o n e=>(u4.2 c n).trans e
  have to4:IsPair h4 (B + 3) x b:=k4 _ _ (by lia) to3
  refine wpAny_bind (wpAny_seqItems to4 rfl (wpAny_bind (wpAny_updateSeq_pair to4 fun h5 to5 u5=>?_)))
  replace to5:IsPair h5 (B + 3) x y:=to5
  have k5:∀ (c:Nat) o,c≠B + 3->h4.get? c=some o->h5.get? c=some o:=fun c o n e=>(u5.2 c n).trans e
  refine wpAny_bind (wpAny_letGo (wpAny_pure (wpAny_pure (wpAny_bind (wpAny_seqItems to5 rfl (wpAny_bind (wpAny_newTuple ?_)))))))
  have sz:h5.objs.size=s.heap.objs.size:=by rw [u5.1,u4.1,u3.1,u2.1,u1.1]
  have z5:h5.get? (B + 4)=some { cls:=.type "zip",data:=.fields #[.ellipsis,g,.bool false,.ref (B + 2),.ref (B + 3)] }:=k5 _ _ (by lia) (k4 _ _ (by lia) (k3 _ _ (by lia) (k2 _ _ (by lia) z1)))
  have lt4:B + 4 < h5.objs.size:=Heap.lt_size z5
  refine wpAny_bind (m:=Builtin.SmallTypes.ownedTupleHandOut (.ref (B + 4)) (.ref h5.objs.size)) ?_
  unfold Builtin.SmallTypes.ownedTupleHandOut
  refine wpAny_bind (wpAny_setField_rec (Heap.get?_push_of_some { cls:=.type "tuple",data:=.seq #[x,y] } z5) (by simp) fun h7 z7 u7=>?_)
  refine wpAny_setField_rec z7 (by simp) fun h8 z8 u8=>wpAny_pure ⟨.ref h5.objs.size,rfl,?_⟩
  have k8:∀ (c:Nat) o,c≠B + 4->h5.get? c=some o->h8.get? c=some o:=fun c o n e=>(u8.2 c n).trans ((u7.2 c n).trans (Heap.get?_push_of_some _ e))
  have p8:IsPair h8 h5.objs.size x y:=(u8.2 _ (Nat.ne_of_gt lt4)).trans ((u7.2 _ (Nat.ne_of_gt lt4)).trans (Heap.get?_push_size _ rfl))
  have s8:h8.objs.size=h5.objs.size + 1:=by rw [u8.1,u7.1,Heap.size_push]
  rw [sz] at p8 s8 ⊢
  refine q h8 ⟨?_,k8 _ _ (by lia) (k5 _ _ (by lia) (k4 _ _ (by lia) (k3 _ _ (by lia) (k2 _ _ (by lia) (k1 _ _ (by lia) Z.ti))))),⟨x,y,k8 _ _ (by lia) to5⟩,
    i2.at fun o e=>k8 _ _ (by lia) (k5 _ _ (by lia) (k4 _ _ (by lia) (k3 _ _ (by lia) e))),i4.at fun o e=>k8 _ _ (by lia) (k5 _ _ (by lia) e)⟩ p8 s8
    fun c o hc e=>k8 _ _ (by lia) (k5 _ _ (by lia) (k4 _ _ (by lia) (k3 _ _ (by lia) (k2 _ _ (by lia) (k1 _ _ (by lia) e)))))
  rw [<- sz]
  exact z8
theorem if_alive {a:Addr} {o:Obj} {Q:Option Obj->Shared->Prop} (ho:s.heap.get? a=some o) (h:Q (some o) s):wpAny (model P w) A (loadIfAlive a) Q E s:=fun Γ p _=>by
  unfold loadIfAlive
  rw [Sem.wp_loadIfAlive,ho]
  simpa using h
theorem own_held {Q:Bool->Shared->Prop} {T:Nat} {ot:Obj} {c:Bool} (hz:s.heap.get? (B + 4)=some { cls:=.type "zip",data:=.fields #[rawInt T,.bool c,.bool false,.ref (B + 2),.ref (B + 3)] }) (hT:s.heap.get? T=some ot)
    (q:∀ h1,h1.get? (B + 4)=some { cls:=.type "zip",data:=.fields #[rawInt T,.bool true,.bool false,.ref (B + 2),.ref (B + 3)] }->h1.objs.size=s.heap.objs.size->(∀ (d:Nat) o,d≠B + 4->s.heap.get? d=some o->h1.get? d=some o)->Q false { s with heap:=h1 }) :
    wpAny (model P w) A (Builtin.SmallTypes.ownedTupleIsFree (.ref (B + 4))) Q E s:=by
  unfold Builtin.SmallTypes.ownedTupleIsFree
  refine wpAny_bind (wpAny_field hz rfl (x:=rawInt T) rfl ?_)
  refine wpAny_bind (m:=loadIfAlive ((T:Int).toNat)) (if_alive (o:=ot) (by rw [Int.toNat_natCast]; exact hT) ?_)
  rw [if_neg (by simp)]
  refine wpAny_bind (wpAny_field hz rfl (x:=.bool c) rfl ?_)
  cases c with
  | true =>
    rw [if_neg (by decide)]
    exact wpAny_pure (q _ hz rfl fun d o _ e=>e)
  | false =>
    rw [if_pos (by decide)]
    exact wpAny_bind (wpAny_setField_rec hz (by simp) fun h1 z1 u1=>wpAny_pure (q h1 z1 u1.1 fun d o n e=>(u1.2 d n).trans e))
theorem zip_out {Q:PySem.Fin->Shared->Prop} (hA:A.handled=none) (Z:ZS k m s.heap B l r n .none g) (hl:Sq k s.heap l xs) (hr:Sq m s.heap r ys) (ll:l < B) (rl:r < B) (hx:xs[n]?=none\/ys[n]?=none)
    (q:∀ h' e,KeptZ B s.heap h'->(∃ o,h'.get? e=some o/\o.cls=.type "StopIteration")->E (.ref e) { s with heap:=h' }):wpAny (model P w) A (Builtin.«zip.__next__» ⟨[.ref (B + 4)],[]⟩) Q E s:=by
  obtain ⟨a,b,hto⟩:=Z.to
  refine wpAny_bind (m:=field (.ref (B + 4)) 2) (wpAny_field Z.z rfl (x:=.bool false) rfl ?_)
  refine wpAny_bind (m:=field (.ref (B + 4)) 3) (wpAny_field Z.z rfl (x:=.ref (B + 2)) rfl (wpAny_bind (wpAny_seqItems Z.ti rfl ?_)))
  refine wpAny_bind (m:=Builtin.SmallTypes.ownedTupleIsFree (.ref (B + 4))) ?_
  unfold Builtin.SmallTypes.ownedTupleIsFree
  refine wpAny_bind (wpAny_field Z.z rfl (x:=.none) rfl (wpAny_pure ?_))
  rw [if_pos rfl]
  refine wpAny_bind (wpAny_rule (wpAny_bind (wpAny_field Z.z rfl (x:=.ref (B + 3)) rfl (wpAny_bind (wpAny_setField_rec Z.z (by simp) fun h1 z1 u1=>wpAny_bind ?_)))))
  replace z1:h1.get? (B + 4)=some { cls:=.type "zip",data:=.fields #[.ellipsis,g,.bool false,.ref (B + 2),.ref (B + 3)] }:=z1
  have k1:∀ (c:Nat) o,c≠B + 4->s.heap.get? c=some o->h1.get? c=some o:=fun c o n e=>(u1.2 c n).trans e
  have nz:∀ {h:Heap} {e:Nat} {v:Value} {o:Obj},h.get? (B + 4)=some { cls:=.type "zip",data:=.fields #[v,g,.bool false,.ref (B + 2),.ref (B + 3)] }->h.get? e=some o->o.cls=.type "StopIteration"->e≠B + 4:=fun h1 h2 h3 e=>by
    rw [e,h1] at h2
    cases h2
    simp at h3
  simp only [List.zipIdx_cons,List.zipIdx_nil,List.forIn_cons,List.forIn_nil]
  refine wpAny_bind (wpAny_bind (wpAny_onRaise (wpAny_bind (m:=Builtin.SmallTypes.nextOf (.ref B)) ?_)))
  cases e1:xs[n]? with
  | none =>
    refine sq_end hA (Z.i.at fun o=>k1 _ o (by lia)) (hl.at fun o=>k1 _ o (by lia)) e1 fun h2 e u2 he=>?_
    obtain ⟨oe,he,ce⟩:=he
    have k2:∀ (c:Nat) o,c≠B->h1.get? c=some o->h2.get? c=some o:=fun c o n e=>u2 c o n e
    have z2:=k2 _ _ (show B + 4≠B by lia) z1
    refine wpAny_setField_rec z2 (by simp) fun h3 z3 u3=>q h3 e (fun c o hc x=>(u3.2 c (show (c:Nat)≠B + 4 by lia)).trans (k2 _ _ (by lia) (k1 _ _ (by lia) x))) ⟨oe,(u3.2 e (nz z2 he ce)).trans he,ce⟩
  | some x =>
    have hy:ys[n]?=none:=hx.resolve_left (by rw [e1]; simp)
    refine sq_next (Z.i.at fun o=>k1 _ o (by lia)) (hl.at fun o=>k1 _ o (by lia)) e1 fun h2 i2 u2=>wpAny_pure ?_
    have k2:∀ (c:Nat) o,c≠B->h1.get? c=some o->h2.get? c=some o:=fun c o n e=>(u2.2 c n).trans e
    have to2:IsPair h2 (B + 3) a b:=k2 _ _ (by lia) (k1 _ _ (by lia) hto)
    refine wpAny_bind (wpAny_seqItems to2 rfl (wpAny_bind (wpAny_updateSeq_pair to2 fun h3 to3 u3=>?_)))
    have k3:∀ (c:Nat) o,c≠B + 3->h2.get? c=some o->h3.get? c=some o:=fun c o n e=>(u3.2 c n).trans e
    refine wpAny_bind (wpAny_letGo (wpAny_pure (wpAny_bind (wpAny_bind (wpAny_onRaise (wpAny_bind (m:=Builtin.SmallTypes.nextOf (.ref (B + 1))) ?_))))))
    refine sq_end hA (Z.j.at fun o e=>k3 _ o (by lia) (k2 _ o (by lia) (k1 _ o (by lia) e))) (hr.at fun o e=>k3 _ o (by lia) (k2 _ o (by lia) (k1 _ o (by lia) e))) hy fun h4 e u4 he=>?_
    obtain ⟨oe,he,ce⟩:=he
    have k4:∀ (c:Nat) o,c≠B + 1->h3.get? c=some o->h4.get? c=some o:=fun c o n e=>u4 c o n e
    have z4:=k4 _ _ (show B + 4≠B + 1 by lia) (k3 _ _ (by lia) (k2 _ _ (by lia) z1))
    refine wpAny_setField_rec z4 (by simp) fun h5 z5 u5=>q h5 e (fun c o hc x=>(u5.2 c (show (c:Nat)≠B + 4 by lia)).trans (k4 _ _ (by lia) (k3 _ _ (by lia) (k2 _ _ (by lia) (k1 _ _ (by lia) x))))) ⟨oe,(u5.2 e (nz z4 he ce)).trans he,ce⟩
theorem zip_out_held {Q:PySem.Fin->Shared->Prop} {T:Nat} {ot:Obj} {c:Bool} (hA:A.handled=none) (Z:ZS k m s.heap B l r n (rawInt T) (.bool c)) (hT:s.heap.get? T=some ot) (hl:Sq k s.heap l xs) (hr:Sq m s.heap r ys) (ll:l < B) (rl:r < B) (hx:xs[n]?=none\/ys[n]?=none)
    (q:∀ h' e,KeptZ B s.heap h'->(∃ o,h'.get? e=some o/\o.cls=.type "StopIteration")->E (.ref e) { s with heap:=h' }):wpAny (model P w) A (Builtin.«zip.__next__» ⟨[.ref (B + 4)],[]⟩) Q E s:=by
  refine wpAny_bind (m:=field (.ref (B + 4)) 2) (wpAny_field Z.z rfl (x:=.bool false) rfl ?_)
  refine wpAny_bind (m:=field (.ref (B + 4)) 3) (wpAny_field Z.z rfl (x:=.ref (B + 2)) rfl (wpAny_bind (wpAny_seqItems Z.ti rfl ?_)))
  refine wpAny_bind (m:=Builtin.SmallTypes.ownedTupleIsFree (.ref (B + 4))) (own_held Z.z hT fun h1 z1 s1 k1=>?_)
  rw [if_neg Bool.false_ne_true]
  refine wpAny_bind ?_
  rw [<- Array.forIn_toList]
  simp only [List.forIn_cons,List.forIn_nil]
  refine wpAny_bind (wpAny_bind (wpAny_holding (wpAny_bind (m:=Builtin.SmallTypes.nextOf (.ref B)) ?_)))
  cases e1:xs[n]? with
  | none=>exact sq_end hA (Z.i.at fun o=>k1 _ o (by lia)) (hl.at fun o=>k1 _ o (by lia)) e1 fun h2 e u2 he=>q h2 e (fun c o hc x=>u2 _ _ (show (c:Nat)≠B by lia) (k1 _ _ (by lia) x)) he
  | some x =>
    have hy:ys[n]?=none:=hx.resolve_left (by rw [e1]; simp)
    refine sq_next (Z.i.at fun o=>k1 _ o (by lia)) (hl.at fun o=>k1 _ o (by lia)) e1 fun h2 i2 u2=>wpAny_pure (wpAny_pure ?_)
    have k2:∀ (c:Nat) o,c≠B->h1.get? c=some o->h2.get? c=some o:=fun c o n e=>(u2.2 c n).trans e
    refine wpAny_bind (wpAny_bind (wpAny_holding (wpAny_bind (m:=Builtin.SmallTypes.nextOf (.ref (B + 1))) ?_)))
    exact sq_end hA (Z.j.at fun o e=>k2 _ o (by lia) (k1 _ o (by lia) e)) (hr.at fun o e=>k2 _ o (by lia) (k1 _ o (by lia) e)) hy fun h4 e u4 he=>q h4 e (fun c o hc x=>u4 _ _ (show (c:Nat)≠B + 1 by lia) (k2 _ _ (by lia) (k1 _ _ (by lia) x))) he
end
end L2
namespace L2
open PySem PySem.Spec PyProof.Rows
def ZF (B:Nat) (h:Heap) (f g:Value):Prop:=f=.none\/∃ (T:Nat) (c:Bool) (o:Obj),f=rawInt T/\g=.bool c/\h.get? T=some o/\B + 5 < T
section
variable {P:Program} {w:World} {A:Around} {E:Value->Shared->Prop} {s:Shared} {k m:Bool} {B l r:Nat} {n:Nat} {xs ys:Array Value} {x y f g:Value}
theorem zip_stop {Q:Option Value->Shared->Prop} (hA:A.handled=none) (Z:ZS k m s.heap B l r n f g) (hf:ZF B s.heap f g) (hl:Sq k s.heap l xs) (hr:Sq m s.heap r ys) (ll:l < B) (rl:r < B) (hx:xs[n]?=none\/ys[n]?=none)
    (q:∀ h',KeptZ B s.heap h'->Q none { s with heap:=h' }):wpAny (model P w) A (pyNext (.ref (B + 4))) Q E s:=by
  have ty:s.TypeIs (.ref (B + 4)) "zip":=⟨_,Z.z,rfl⟩
  unfold pyNext
  refine wpAny_bind (wpAny_attempt (wpAny_callSpecial?_slot ty F.slot_zip_next (wpAny_call_entry F.slot_zip_next ty F.entry_zip_next ?_ (F.args_zip_next_1 (.ref (B + 4))))))
  have fin:∀ h' e,KeptZ B s.heap h'->(∃ o,h'.get? e=some o/\o.cls=.type "StopIteration")->wpAny (model P w) A (do
      if <- isInstance (.ref e) (.type "StopIteration") then pure none else throw (.ref e)) Q E { s with heap:=h' }:=by
    intro h' e kz ⟨o,ho,hc⟩
    exact wpAny_bind (wpAny_isInstance (T:="StopIteration") (b:=true) ⟨o,ho,hc⟩ isSubtype_stop (wpAny_pure (q _ kz)))
  rcases hf with rfl | ⟨T,c,o,rfl,rfl,hT,lT⟩
  · exact zip_out hA Z hl hr ll rl hx fun h' e kz he=>fin h' e kz he
  · exact zip_out_held hA Z hT hl hr ll rl hx fun h' e kz he=>fin h' e kz he
end
structure ZL (k m:Bool) (h0 h:Heap) (B l r n:Nat) (xs ys acc:Array Value) (c:Nat) (f g:Value):Prop where
  zs:ZS k m h B l r n f g
  zf:ZF B h f g
  hl:Sq k h l xs
  hr:Sq m h r ys
  sz:h.objs.size=B + 6 + n
  lst:h.get? (B + 5)=some { cls:=.type "list",data:=.seq acc c }
  asz:acc.size=n
  par:∀ i x y,i < n->xs[i]?=some x->ys[i]?=some y->acc[i]?=some (.ref (B + 6 + i))/\IsPair h (B + 6 + i) x y
  old:∀ (b:Nat) o,b < B->h0.get? b=some o->h.get? b=some o
section
variable {P:Program} {w:World} {A:Around} {R:Result->Shared->Prop} {h0:Heap} {k m:Bool} {B l r N:Nat} {xs ys:Array Value} {res:Value}
end
end L2
namespace L2
open PySem PySem.Spec PyProof.Rows
section
variable {P:Program} {w:World} {A:Around} {E:Value->Shared->Prop} {s:Shared} {k m:Bool} {B l r N:Nat} {xs ys:Array Value}
end
section
variable {X:Cx} {a b:Expr} {ta:TA} {p1 p2 pos1 pos2:Pos}
end
end L2
namespace L2
open PySem PySem.Spec PyProof.Rows
def SqK (k:Bool) (K:PySem.W.Frag) (H:Hp) (a:Addr) (xs:List V):Prop:=match k with
  | true=>SqL K H a xs
  | false=>SqT K H a xs
theorem Inv.sqk {X:Cx} {pins:List (Addr × Obj)} {σ:St} {H:Hp} {s:Shared} {k:Bool} {a:Addr} {xs:List V} (I:Inv X pins σ H s) (h:SqK k X.K H a xs):∃ its:List Value,Vals xs its/\Sq k s.heap a its.toArray/\xs.length<=sizeLine/\(a:Nat) < s.heap.objs.size:=by
  cases k with
  | true =>
    obtain ⟨its,r,p,z⟩:=I.list h
    have ⟨o,n,e,_⟩:=p
    exact ⟨its,r,p.isList,z,Heap.lt_size e⟩
  | false =>
    obtain ⟨its,r,p,z⟩:=I.tuple h
    have ⟨o,e,_⟩:=p
    exact ⟨its,r,p,z,Heap.lt_size e⟩
theorem Inv.sqk_inj {X:Cx} {pins:List (Addr × Obj)} {σ:St} {H:Hp} {s:Shared} {k:Bool} {a:Addr} {xs ys:List V} (I:Inv X pins σ H s) (h:SqK k X.K H a xs) (h':SqK k X.K H a ys):xs=ys:=by
  cases k with
  | true=>exact I.list_inj h h'
  | false=>exact I.tuple_inj h h'
def Itz (K:PySem.W.Frag) (k m:Bool) (a b:Addr):It :=
  ⟨fun i H=>∃ xs ys x y,SqK k K H a xs/\SqK m K H b ys/\xs[i]?=some x/\ys[i]?=some y,
   fun i H v H'=>∃ T x y,v=.ref T/\H T=none/\H'=upd H T (.tup [x,y])/\(∀ xs,SqK k K H a xs->xs[i]?=some x)/\∀ ys,SqK m K H b ys->ys[i]?=some y,
   fun i H=>∃ xs ys,SqK k K H a xs/\SqK m K H b ys/\(xs.length<=i\/ys.length<=i)⟩
theorem KeptZ.of {B:Nat} {h h':Heap} (z:KeptZ B h h'):∀ (b:Nat) o,b ∉ [B,B + 1,B + 2,B + 3,B + 4]->h.get? b=some o->h'.get? b=some o:=fun b o n e=>z b o (by simp only [List.mem_cons,List.not_mem_nil,or_false,not_or] at n; lia) e
theorem zip_obj {k m:Bool} {h:Heap} {B l r n:Nat} {f g:Value} (Z:ZS k m h B l r n f g):∀ b∈[B,B + 1,B + 2,B + 3,B + 4],∃ o,h.get? b=some o/\∀ v,o.data≠.cell v:=by
  intro b hb
  simp only [List.mem_cons,List.not_mem_nil,or_false] at hb
  rcases hb with rfl | rfl | rfl | rfl | rfl
  · obtain ⟨o,e,_,d⟩:=Z.i.ex
    exact ⟨o,e,fun v z=>by rw [d] at z; cases z⟩
  · obtain ⟨o,e,_,d⟩:=Z.j.ex
    exact ⟨o,e,fun v z=>by rw [d] at z; cases z⟩
  · exact ⟨_,Z.ti,fun v z=>by cases z⟩
  · obtain ⟨x,y,e⟩:=Z.to
    exact ⟨_,e,fun v z=>by cases z⟩
  · exact ⟨_,Z.z,fun v z=>by cases z⟩
theorem turn_zip {P:Program} {w:World} {K:PySem.W.Frag} {elts:List Expr} {n:Nat} {pos:Pos} {k m:Bool} {a b:Addr} {B:Nat} (la:(a:Nat) < B) (lb:(b:Nat) < B) :
    Turn P w K (.Tuple elts n pos) (Itz K k m a b) [B,B + 1,B + 2,B + 3,B + 4] (B + 4) (fun i h=>ZS k m h B a b i .none (.bool false)) where
  mem:=by simp
  obj:=fun i h st=>zip_obj st
  keep:=fun i h h' st kp=>st.at fun c o h1 h2 e=>kp c (by
    have:c=B\/c=B + 1\/c=B + 2\/c=B + 3\/c=B + 4:=by lia
    simpa using this) o e
  item:=by
    intro X hP hw hK hc i pins s σ H E I hf st hg
    subst hP hw hK
    obtain ⟨xs,ys,x,y,h1,h2,hx,hy⟩:=hg
    obtain ⟨i1,v1,q1,z1,l1⟩:=I.sqk h1
    obtain ⟨i2,v2,q2,z2,l2⟩:=I.sqk h2
    obtain ⟨u,eu,ru⟩:=v1.get hx
    obtain ⟨v,ev,rv⟩:=v2.get hy
    have ty:s.TypeIs (.ref (B + 4)) "zip":=⟨_,st.z,rfl⟩
    unfold pyNext
    refine wpAny_bind (wpAny_attempt (wpAny_callSpecial?_slot ty F.slot_zip_next (wpAny_call_entry F.slot_zip_next ty F.entry_zip_next ?_ (F.args_zip_next_1 (.ref (B + 4))))))
    refine zip_free st q1 q2 la lb (by simpa using eu) (by simpa using ev) fun h' z p sz kz=>wpAny_pure ⟨_,rfl,?_⟩
    have new:ObjOk X.prog X.w (upd H s.heap.objs.size (.tup [x,y])) h' s.heap.objs.size (.tup [x,y]):=⟨by show 2<=sizeLine; decide,[u,v],.cons ru (.cons rv .nil),⟨_,p,rfl,rfl,_,rfl⟩⟩
    have I1:Inv X pins σ (upd H s.heap.objs.size (.tup [x,y])) { s with heap:=h' }:=I.turnsLaid (t':=s.toks) (ch:=[B,B + 1,B + 2,B + 3,B + 4]) kz.of hf (Nat.le_refl _) new
    have hn:∀ c∈[B,B + 1,B + 2,B + 3,B + 4],upd H s.heap.objs.size (.tup [x,y]) c=none:=fun c hc=>by
      obtain ⟨o,e,_⟩:=zip_obj st c hc
      rw [upd_ne (Nat.ne_of_lt (Heap.lt_size e))]
      exact (hf c hc).1
    have hf1:∀ c∈[B,B + 1,B + 2,B + 3,B + 4],FpOk X pins (upd H s.heap.objs.size (.tup [x,y])) c:=fun c hc=>⟨hn c hc,(hf c hc).2⟩
    refine wpAny_letOwnedTupleGo_zip z.z fun h3 z2 u2=>?_
    have I2:Inv X pins σ (upd H s.heap.objs.size (.tup [x,y])) { s with heap:=h3 }:=Inv.turns (s:={ s with heap:=h' }) (t':=s.toks) (ch:=[B,B + 1,B + 2,B + 3,B + 4]) I1 (fun c o hc e=>(u2.2 c fun z=>hc (by simp [z])).trans e) hf1
    refine ⟨.ref s.heap.objs.size,_,I2,rfl,⟨_,x,y,rfl,I.fresh,rfl,fun zs hz=>by rw [I.sqk_inj hz h1]; exact hx,fun zs hz=>by rw [I.sqk_inj hz h2]; exact hy⟩,?_,hn⟩
    have up:∀ (c:Nat) o,c≠B + 4->h'.get? c=some o->h3.get? c=some o:=fun c o n e=>(u2.2 c n).trans e
    exact ⟨z2,up _ _ (by lia) z.ti,let ⟨c,d,e⟩:=z.to; ⟨c,d,up _ _ (by lia) e⟩,z.i.at fun o e=>up _ _ (by lia) e,z.j.at fun o e=>up _ _ (by lia) e⟩
  done:=by
    intro X hP hw hK hc i pins s σ H E I hf st hg
    subst hP hw hK
    obtain ⟨xs,ys,h1,h2,hl⟩:=hg
    obtain ⟨i1,v1,q1,z1,l1⟩:=I.sqk h1
    obtain ⟨i2,v2,q2,z2,l2⟩:=I.sqk h2
    have n1:=v1.length
    have n2:=v2.length
    refine zip_stop (I.ok.hd hc) st (.inl rfl) q1 q2 la lb ?_ fun h' kz=>⟨rfl,I.turns (t':=s.toks) (ch:=[B,B + 1,B + 2,B + 3,B + 4]) kz.of hf⟩
    rcases hl with hl | hl
    · exact .inl (by simp; lia)
    · exact .inr (by simp; lia)
  self:=fun _ _ _ _ _ st h=>by
    have ty:Shared.TypeIs _ (.ref (B + 4)) "zip":=⟨_,st.z,rfl⟩
    exact wpAny_pyIter_slot ty F.slot_zip_iter (wpAny_call_entry F.slot_zip_iter ty F.entry_zip_iter (wpAny_pure ⟨_,rfl,"zip",_,ty,F.slot_zip_next.lookup,h⟩) (F.args_zip_iter_1 (.ref (B + 4))))
section
variable {X:Cx} {elts:List Expr} {n:Nat} {tpos:Pos}
def iZip (K:PySem.W.Frag) (ta:TA):TI:=fun σ H R=>ta σ H fun vs H1=>∃ a b k m xs ys,vs=[.ref a,.ref b]/\SqK k K H1 a xs/\SqK m K H1 b ys/\R (Itz K k m a b) H1
theorem pi_zip {a b:Expr} {ta:TA} {p pos:Pos} (hg:Gl X "zip") (hm:X.mg "zip"=none) (ha:PA X [a,b] ta) (h1:starEach [a,b] X.env=[(false,eval a X.env),(false,eval b X.env)]:=by rfl) (h2:starEach [b] X.env=[(false,eval b X.env)]:=by rfl) :
    PI X (.Tuple elts n tpos) (.Call (.Name "zip" p) [a,b] [] pos) (iZip X.K ta):=by
  intro pins s σ H R I h
  refine Call_ (ld_blt I hg hm boot_zip (PyProof.Rows.callWith_type1 (thn (ha pos pins s σ H _ I h) fun us s1 g=>?_) (by rw [h1,h2]) (by rw [h2]; rfl)))
  obtain ⟨vs,H1,I1,r1,a1,b1,k,m,xs,ys,rfl,g1,g2,q⟩:=g
  obtain ⟨u,u',rfl,e1,e2⟩:=vals2 r1
  cases e1
  cases e2
  obtain ⟨i1,v1,q1,z1,l1⟩:=I1.sqk g1
  obtain ⟨i2,v2,q2,z2,l2⟩:=I1.sqk g2
  refine zip_call q1 q2 fun h' Z sz kp=>?_
  have tz:=turn_zip (P:=X.prog) (w:=X.w) (K:=X.K) (elts:=elts) (n:=n) (pos:=tpos) (k:=k) (m:=m) l1 l2
  refine tz.self X.A 0 { s1 with heap:=h' } _ _ Z ⟨s1.heap.objs.size + 4,_,_,_,H1,rfl,I1.kept (t':=s1.toks) kp,tz,Z,fun c hc=>?_,q⟩
  have hc':c=s1.heap.objs.size\/c=s1.heap.objs.size + 1\/c=s1.heap.objs.size + 2\/c=s1.heap.objs.size + 3\/c=s1.heap.objs.size + 4:=by simpa using hc
  have le:s1.heap.objs.size<=c:=by
    rcases hc' with e | e | e | e | e <;> rw [e] <;> first | exact Nat.le_refl _ | exact Nat.le_add_right _ _
  exact I1.fpOk le (I1.hok.fresh le)
theorem ji_zip {a b:Expr} {t:TA} {p pos:Pos} (hg:Gl X "zip") (hm:X.mg "zip"=none) (ha:jA X [a,b] t) (h1:isStar a=false:=by rfl) (h2:isStar b=false:=by rfl):jI X (.Tuple elts n tpos) (.Call (.Name "zip" p) [a,b] [] pos) (iZip X.K t) :=
  ⟨pi_zip hg hm ha.out (by rw [star_cons h1,star_cons h2]; rfl) (by rw [star_cons h2]; rfl)⟩
end
end L2
namespace L2
open PySem PySem.Spec PyProof.Rows
structure Ca (P:Program) (w:World) (K:PySem.W.Frag) (mg:Str->Option Value) (base:Heap) (CX:CXT) (k:Nat) (x:Str) (ps:List Str) (sp:Sp):Prop where
  ex:∃ f fd,FnOk P w K mg base CX k f fd ps sp/\Binds K fd ps []/\PySem.W.keepIn K (.ref f)=true/\mg x=some (.ref f)
structure Me (P:Program) (w:World) (K:PySem.W.Frag) (mg:Str->Option Value) (base:Heap) (CX:CXT) (k:Nat) (C:Addr) (m:Str) (ps:List Str) (sp:Sp):Prop where
  ex:∃ f fd,FnOk P w K mg base CX k f fd ps sp/\Binds K fd ps []/\Meth K C m f
structure Ma (P:Program) (w:World) (K:PySem.W.Frag) (mg:Str->Option Value) (base:Heap) (CX:CXT) (k:Nat) (x:Str) (C:Addr) (ps:List Str) (sp:Sp):Prop where
  ex:∃ f fd,Mk K C f/\FnOk P w K mg base CX k f fd ps sp/\Binds K fd ps []/\mg x=some (.ref C)
structure Xa (P:Program) (w:World) (K:PySem.W.Frag) (mg:Str->Option Value) (base:Heap) (k:Nat) (x:Str) (C:Addr) (ps:List Str) (sp:Sp):Prop where
  ex:∃ f fd,XCl K C f/\FnOk P w K mg base CX0 k f fd ps sp/\Binds K fd ps []/\mg x=some (.ref C)
section
variable {P:Program} {w:World} {K:PySem.W.Frag} {mg:Str->Option Value} {base:Heap} {CX:CXT} {k j:Nat} {x m:Str} {C:Addr} {ps:List Str} {sp sp':Sp}
theorem Ca.mono (h:Ca P w K mg base CX j x ps sp) (l:j<=k):Ca P w K mg base CX k x ps sp:=let ⟨f,fd,a,r⟩:=h.ex; ⟨f,fd,a.mono l,r⟩
theorem Me.mono (h:Me P w K mg base CX j C m ps sp) (l:j<=k):Me P w K mg base CX k C m ps sp:=let ⟨f,fd,a,r⟩:=h.ex; ⟨f,fd,a.mono l,r⟩
theorem Ca.upx (h:Ca P w K mg base CX0 k x ps sp):Ca P w K mg base CX k x ps sp:=let ⟨f,fd,a,r⟩:=h.ex; ⟨f,fd,a.upx,r⟩
theorem Me.upx (h:Me P w K mg base CX0 k C m ps sp):Me P w K mg base CX k C m ps sp:=let ⟨f,fd,a,r⟩:=h.ex; ⟨f,fd,a.upx,r⟩
end
section
variable {X:Cx} {CX:CXT} {k i:Nat} {C:Addr} {ps:List Str} {sp:Sp} {E:XK} {x m n f:Str} {p pos apos cpos np pos' epos hpos tpos:Pos} {e o a value:Expr} {es as:List Expr} {ta te tv to t1 t2:TE} {t:TA}
theorem je_ca (F:Ca X.prog X.w X.K X.mg X.base CX k x ps sp) (hr:Room k X.A) (hg:Gl X x) (hx:Passes CX X E) (ha:jA X (e :: es) t) (hdb:(x == ("__debug__":Str))=false:=by decide) (h1:isStar e=false:=by rfl) (h2:es.all (fun e=>!isStar e)=true:=by rfl) :
    jE X (.Call (.Name x p) (e :: es) [] pos) (tCall sp [] E t):=let ⟨_,_,G,b,kp,mg⟩:=F.ex; je_fn G hr hg mg kp b .nil hx ha hdb h1 h2
theorem je_me {pl:Sem Bool} (he:jE X o ta) (c:Cls X.K C) (F:Me X.prog X.w X.K X.mg X.base CX k C m ps sp) (hr:Room k X.A) (hx:Passes CX X E) (ha:jA X (e :: es) t) (h1:isStar e=false:=by rfl) (h2:es.all (fun e=>!isStar e)=true:=by rfl)
    (ht:eval (.Call (.Attribute o m apos) (e :: es) [] pos) X.env=(do
      let ov <- eval o X.env
      standAt apos.atName
      let (f,first) <- holding [ov] (getMethod ov m pl)
      callWith pos f first (backTo pos (starEach (e :: es) X.env)) (backToKw pos (keywordEach [] X.env))):=by rfl) :
    jE X (.Call (.Attribute o m apos) (e :: es) [] pos) (tMeth C m sp [] E ta t):=let ⟨_,_,G,b,mt⟩:=F.ex; ⟨pe_meth he.out c mt G hr b .nil hx ha.out (star_cons h1) (star_any h2) ht⟩
theorem je_me0 {pl:Sem Bool} (he:jE X o ta) (c:Cls X.K C) (F:Me X.prog X.w X.K X.mg X.base CX k C m ps sp) (hr:Room k X.A) (hx:Passes CX X E)
    (ht:eval (.Call (.Attribute o m apos) [] [] pos) X.env=(do
      let ov <- eval o X.env
      standAt apos.atName
      let (f,first) <- holding [ov] (getMethod ov m pl)
      callWith pos f first (backTo pos (starEach [] X.env)) (backToKw pos (keywordEach [] X.env))):=by rfl) :
    jE X (.Call (.Attribute o m apos) [] [] pos) (tMeth C m sp [] E ta tNil):=let ⟨_,_,G,b,mt⟩:=F.ex; ⟨pe_meth0 he.out c mt G hr b .nil hx ht⟩
theorem je_ma (F:Ma X.prog X.w X.K X.mg X.base CX k x C ps sp) (hr:Room (k + 1) X.A) (hg:Gl X x) (hx:Passes CX X E) (ha:jA X (e :: es) t) (hdb:(x == ("__debug__":Str))=false:=by decide) (h1:isStar e=false:=by rfl) (h2:es.all (fun e=>!isStar e)=true:=by rfl) :
    jE X (.Call (.Name x p) (e :: es) [] pos) (tMake C sp [] E t):=let ⟨_,_,M,G,b,mg⟩:=F.ex; ⟨pe_make M G hr hg mg b .nil hx ha.out hdb (star_cons h1) (star_any h2)⟩
theorem je_fld (he:jE X e ta) (hb:attributeBase e f X.env (eval e X.env)=eval e X.env:=by rfl):jE X (.Attribute e f pos) (tFld X.K ta f):=⟨pe_fld he.out hb⟩
theorem js_fld (ha:jE X o ta) (hv:jE X value tv) (hs:swapsWith value (some (.Attribute o f pos')) pos.line X.env=pure false:=by rfl):jS X (.Assign [.Attribute o f pos'] value pos) (sFld X.K ta tv f):=⟨ps_fld ha.out hv.out hs⟩
theorem je_isN {j pos'} (ha:jE X a ta):jE X (.Compare a [.Is] [.Constant .none j pos'] pos) (tIsN ta):=⟨pe_cmp (pc_isN ha.out)⟩
theorem jt_isN {j pos'} (ha:jE X a ta):jT X (.Compare a [.Is] [.Constant .none j pos'] pos) (tB (tIsN ta)):=⟨pt_cmp (pc_isN ha.out)⟩
theorem jt_notN {j pos'} (ha:jE X a ta):jT X (.Compare a [.IsNot] [.Constant .none j pos'] pos) (tB (tNotN ta)):=⟨pt_cmp (pc_notN ha.out)⟩
end
theorem FnOk.no {P:Program} {w:World} {K:PySem.W.Frag} {mg:Str->Option Value} {base:Heap} {CX:CXT} {k:Nat} {f:Addr} {fd:FuncData} {ps:List Str}:FnOk P w K mg base CX k f fd ps (fun _ _ _ _=>False) :=
  ⟨fun _ _ _ _ h=>h.elim,fun _ _ _ _ _ _ _ _ _ _ _ _ _ h=>h.elim⟩
end L2
namespace L2
open PySem PySem.Spec PySem.Calls PyProof.Rows
section
variable {P:Program} {w:World} {A:Around} {E:Value->Shared->Prop} {s:Shared} {K:PySem.W.Frag}
end
section
variable {X:Cx} {e C:Addr} {oe:Obj} {ex:Expr} {te:TE} {name:Str} {pos:Pos} {f:Addr}
end
section
variable {X:Cx} {Ch:Addr} {x n:Str} {i k:Nat} {np hpos tpos:Pos} {b0:Stmt} {suite:List Stmt} {th:Addr->Obj->TS} {ps:List Str} {sp:Sp} {y:Str} {p cpos epos:Pos} {a:Expr} {as:List Expr} {t:TA}
end
end L2
namespace L2
open PySem PySem.Spec PyProof.Rows
section
variable {P:Program} {w:World} {A:Around} {E:Value->Shared->Prop}
theorem draws {j l:Addr} {xs:Array Value} (ne:l≠j):∀ (k i:Nat) (s:Shared) (Q:List Value->Shared->Prop),s.heap.IsListIter j l i->s.heap.IsList l xs->i + k<=xs.size ->
    (∀ h',h'.IsListIter j l (i + k)->Heap.SameBut j s.heap h'->Q ((xs.toList.drop i).take k) { s with heap:=h' })->wpAny (model P w) A (draw (.ref j) k) Q E s
  | 0,i,s,Q,hj,_,_,q=>wpAny_pure (by simpa using q s.heap hj (Heap.SameBut.refl ..))
  | k + 1,i,s,Q,hj,hl,le,q=>by
    have lt:i < xs.size:=by lia
    refine wpAny_bind (m:=pyNext (.ref j)) (wpAny_pyNext_list_item hj hl (Array.getElem?_eq_getElem lt) fun h1 j1 u1=>?_)
    refine wpAny_bind (wpAny_holding (draws ne k (i + 1) _ _ j1 (hl.extBut u1.extBut ne) (by lia) fun h2 j2 u2=>wpAny_pure ?_))
    have e:xs.toList.drop i=xs[i] :: xs.toList.drop (i + 1):=by simp [List.drop_eq_getElem_cons,lt]
    have r:=q h2 (by rw [show i + (k + 1)=i + 1 + k by lia]; exact j2) (u1.trans u2)
    rw [e,List.take_succ_cons] at r
    exact r
theorem unpacks {s:Shared} {l:Addr} {xs:Array Value} {ts:List (Bool × (Value->Sem Unit))} {Q:Unit->Shared->Prop} (hA:A.handled=none) (hl:s.heap.IsList l xs) (hn:ts.length=xs.size) (hs:ts.findIdx? (·.1)=none)
    (q:∀ h',Heap.ExtBut s.heap.objs.size s.heap h'->wpAny (model P w) A (assignInOrder (ts.map (·.2)) xs.toList) Q E { s with heap:=h' }):wpAny (model P w) A (unpack (.ref l) ts) Q E s:=by
  have ne:l≠s.heap.objs.size:=by
    obtain ⟨o,ho,_⟩:=hl
    exact Nat.ne_of_lt (Heap.lt_size ho)
  unfold unpack
  rw [hn,hs]
  refine wpAny_bind (wpAny_holding ?_)
  unfold unpackItems
  refine wpAny_bind ?_
  unfold notIterableAtAll
  refine wpAny_bind (wpAny_specialOf hl.typeIs slot_list_iter.lookup (wpAny_pure ?_))
  simp only [Bool.false_eq_true,if_false]
  refine wpAny_bind (wpAny_holding (wpAny_pyIter_list hl ?_))
  refine wpAny_bind (wpAny_holding (draws ne xs.size 0 _ _ ⟨_,Heap.get?_push_size _ rfl,rfl,rfl⟩ (hl.push _) (by lia) fun h1 j1 u1=>?_))
  have all:List.take xs.size (List.drop 0 xs.toList)=xs.toList:=by rw [List.drop_zero]; exact List.take_of_length_le (by simp)
  rw [all,if_neg (by simp)]
  refine wpAny_bind (wpAny_holding (wpAny_pyNext_list_end hA j1 ((hl.push _).extBut u1.extBut ne) (by simp) fun h2 e2=>?_))
  simp only [Option.isSome_none,Bool.false_eq_true,if_false]
  exact wpAny_pure (q h2 fun b o hb e=>e2 b o hb (u1.extBut b o hb (Heap.get?_push_of_some _ e)))
end
section
variable {X:Cx} {pos:Pos}
def gLst (K:PySem.W.Frag) (n:Nat) (t:TGs):TG:=fun v σ H Q=>∃ a xs,v=.ref a/\SqL K H a xs/\xs.length=n/\t xs σ H Q
theorem pg_lst {es:List Expr} {k:Nat} {t:TGs} {n:Nat} (hc:X.calm=true) (h:PGs X es t)
    (hn:(assignEach es X.env).length=n:=by rfl) (hst:(assignEach es X.env).findIdx? (·.1)=none:=by rfl):PG X (.Tuple es k pos) (gLst X.K n t):=by
  intro pins s σ H v u Q I r g
  obtain ⟨a,xs,rfl,hq,hl,g⟩:=g
  cases r
  obtain ⟨its,rv,p,hz⟩:=I.list hq
  rw [assign_Tuple]
  refine wpAny_bind (wpAny_standAt (unpacks (I.ok.hd hc) p.isList (by simp [hn,<- hl,rv.length]) hst fun h' hx=>?_))
  have I1:Inv X pins σ H { s with heap:=h' }:=I.kept (t':=s.toks) fun b o e=>hx b o (Nat.ne_of_lt (Heap.lt_size e)) e
  exact h pins _ σ H xs _ Q I1 (by simpa using rv) g
theorem jg_lst {es:List Expr} {k:Nat} {gs:TGs} {n:Nat} (hc:X.calm=true) (h:jGs X es gs) (hn:(assignEach es X.env).length=n:=by rfl) (hst:(assignEach es X.env).findIdx? (·.1)=none:=by rfl):jG X (.Tuple es k pos) (gLst X.K n gs):=⟨pg_lst hc h.out hn hst⟩
end
end L2
namespace L2
open PySem
theorem line0:sizeLine=16777216:=by decide
def FnIn (K:PySem.W.Frag) (x qual:Str) (st:Stmt) (f:Addr):Prop:=∃ (oc:Value) (od:Option Addr) (kV doc pm:Value) (an:Option Addr) (cdv ct:Value) (osl:Array (Option Value)),K.lookup f=some ⟨oc,od,.func (PySem.W.fnOf x qual (defArgs st) (defBody st) (defScope st) .none kV doc pm an cdv ct),osl⟩/\PySem.W.codeIn K cdv qual=true/\PySem.W.keepIn K (.ref f)=true
theorem FnIn.fn {K:PySem.W.Frag} {x qual:Str} {st:Stmt} {f:Addr} (h:FnIn K x qual st f):∃ fd,Fun K x qual st f fd/\PySem.W.keepIn K (.ref f)=true:=by
  obtain ⟨_,_,_,_,_,_,_,_,_,l,c,k⟩:=h
  exact ⟨_,fun_mk l c k,k⟩
def DfIn (K:PySem.W.Frag) (x:Str) (st:Stmt):Prop:=∃ f,PySem.W.nsIn K mainGlobals x=some (some (.ref f))/\FnIn K x x st f
def MeIn (K:PySem.W.Frag) (C:Addr) (x qual:Str) (st:Stmt):Prop:=∃ f,PySem.W.findIn K (.ref C) x=some (some (.ref f))/\PySem.W.isFn K (.ref f)=true/\FnIn K x qual st f
def TpIn (K:PySem.W.Frag) (x:Str) (l:List Str):Prop:=∃ (a:Addr) (d:Option Addr) (it:Array Value) (n:Nat) (sl:Array (Option Value)),PySem.W.nsIn K mainGlobals x=some (some (.ref a))/\K.lookup a=some ⟨.type "tuple",d,.seq it n,sl⟩/\it.toList.map absV=l.map fun x=>some (.str x)
theorem MeIn.me {P:Program} {w:World} {K:PySem.W.Frag} {mg:Str->Option Value} {base:Heap} {CX:CXT} {k:Nat} {C:Addr} {x qual:Str} {st:Stmt} {ps:List Str} {sp:Sp} (h:MeIn K C x qual st) (hb:∀ (kV doc pm:Value) (an:Option Addr) (cdv ct:Value) (us:List Value),us.length=ps.length->bindArgs (PySem.W.fnOf x qual (defArgs st) (defBody st) (defScope st) .none kV doc pm an cdv ct) ⟨us,[]⟩=pure (ps.zip us))
    (ok:∀ f fd,Fun K x qual st f fd->FnOk P w K mg base CX k f fd ps sp):Me P w K mg base CX k C x ps sp:=by
  obtain ⟨f,a,n,g⟩:=h
  obtain ⟨fd,F,kp⟩:=g.fn
  exact ⟨f,fd,ok f fd F,F.binds hb,a,n,kp⟩
theorem MeIn.ma {P:Program} {w:World} {K:PySem.W.Frag} {mg:Str->Option Value} {base:Heap} {CX:CXT} {k:Nat} {C:Addr} {x qual:Str} {st:Stmt} {ps:List Str} {sp:Sp} (h:MeIn K C "__init__" qual st) (hb:∀ (kV doc pm:Value) (an:Option Addr) (cdv ct:Value) (us:List Value),us.length=ps.length->bindArgs (PySem.W.fnOf "__init__" qual (defArgs st) (defBody st) (defScope st) .none kV doc pm an cdv ct) ⟨us,[]⟩=pure (ps.zip us))
    (mk:PySem.W.makesIn K C=true) (kp:PySem.W.keepIn K (.ref C)=true) (hm:mg x=some (.ref C)) (ok:∀ f fd,Fun K "__init__" qual st f fd->FnOk P w K mg base CX k f fd ps sp):Ma P w K mg base CX k x C ps sp:=by
  obtain ⟨f,a,n,g⟩:=h
  obtain ⟨fd,F,_⟩:=g.fn
  exact ⟨f,fd,⟨mk,a,n,kp⟩,ok f fd F,F.binds hb,hm⟩
theorem DfIn.ca {P:Program} {w:World} {K:PySem.W.Frag} {mg:Str->Option Value} {base h:Heap} {CX:CXT} {k:Nat} {x:Str} {st:Stmt} {ps:List Str} {sp:Sp} (X:K.In h) (G:h.Ns mainGlobals mg) (d:DfIn K x st) (hb:∀ (kV doc pm:Value) (an:Option Addr) (cdv ct:Value) (us:List Value),us.length=ps.length->bindArgs (PySem.W.fnOf x x (defArgs st) (defBody st) (defScope st) .none kV doc pm an cdv ct) ⟨us,[]⟩=pure (ps.zip us))
    (ok:∀ f fd,Fun K x x st f fd->FnOk P w K mg base CX k f fd ps sp):Ca P w K mg base CX k x ps sp:=by
  obtain ⟨f,a,g⟩:=d
  obtain ⟨fd,F,kp⟩:=g.fn
  exact ⟨f,fd,ok f fd F,F.binds hb,kp,PySem.W.mg_of X G a⟩
theorem DfIn.mk {K:PySem.W.Frag} {x:Str} {st:Stmt} {f:Addr} {oc:Value} {od:Option Addr} {kV doc pm:Value} {an:Option Addr} {cdv ct:Value} {osl:Array (Option Value)} (a:PySem.W.nsIn K mainGlobals x=some (some (.ref f))) (l:K.lookup f=some ⟨oc,od,.func (PySem.W.fnOf x x (defArgs st) (defBody st) (defScope st) .none kV doc pm an cdv ct),osl⟩) (c:PySem.W.codeIn K cdv x=true) (k:PySem.W.keepIn K (.ref f)=true):DfIn K x st:=⟨f,a,oc,od,kV,doc,pm,an,cdv,ct,osl,l,c,k⟩
theorem MeIn.mk {K:PySem.W.Frag} {C:Addr} {x qual:Str} {st:Stmt} {f:Addr} {oc:Value} {od:Option Addr} {kV doc pm:Value} {an:Option Addr} {cdv ct:Value} {osl:Array (Option Value)} (a:PySem.W.findIn K (.ref C) x=some (some (.ref f))) (l:K.lookup f=some ⟨oc,od,.func (PySem.W.fnOf x qual (defArgs st) (defBody st) (defScope st) .none kV doc pm an cdv ct),osl⟩) (c:PySem.W.codeIn K cdv qual=true) (k:PySem.W.keepIn K (.ref f)=true) (n:PySem.W.isFn K (.ref f)=true):MeIn K C x qual st:=⟨f,a,n,oc,od,kV,doc,pm,an,cdv,ct,osl,l,c,k⟩
theorem TpIn.mk {K:PySem.W.Frag} {x:Str} {l:List Str} {b:Addr} {d:Option Addr} {it:Array Value} {n:Nat} {sl:Array (Option Value)} (a:PySem.W.nsIn K mainGlobals x=some (some (.ref b))) (k:K.lookup b=some ⟨.type "tuple",d,.seq it n,sl⟩) (v:it.toList.map absV=l.map fun x=>some (.str x)):TpIn K x l:=⟨b,d,it,n,sl,a,k,v⟩
theorem GlIn.mk {K:PySem.W.Frag} {x:Str} {z:Str} {v:Value} {t:Tok} (a:PySem.W.nsIn K mainGlobals x=some (some v)) (e:v=.str z t):∃ t,PySem.W.nsIn K mainGlobals x=some (some (.str z t)):=⟨t,by rw [a,e]⟩
theorem GiIn.mk {K:PySem.W.Frag} {x:Str} {i:Int} {v:Value} {t:Tok} (a:PySem.W.nsIn K mainGlobals x=some (some v)) (e:v=.int i t):∃ t,PySem.W.nsIn K mainGlobals x=some (some (.int i t)):=⟨t,by rw [a,e]⟩
theorem XcIn.mk {K:PySem.W.Frag} {C f:Addr} (a:PySem.W.findIn K (.ref C) "__init__"=some (some (.ref f))) (b:xIn K C f=true) (c:PySem.W.typeIn K (.ref f)=some (.type "function")):∃ f,PySem.W.findIn K (.ref C) "__init__"=some (some (.ref f))/\xIn K C f=true/\PySem.W.typeIn K (.ref f)=some (.type "function"):=⟨f,a,b,c⟩
structure OwnIn (K:PySem.W.Frag) (x:Str) (C:Addr):Prop where
  n:PySem.W.nsIn K mainGlobals x=some (some (.ref C))
  pg:PySem.W.plainGet K C Str.empty=true
  hd:PySem.W.hasDictIn K C=true
  po:PySem.W.plainOver K C=true
  sa:PySem.W.findIn K (.ref C) "__setattr__"=some (some (.builtin "object.__setattr__"))
  mks:PySem.W.makesIn K C=true
  kp:PySem.W.keepIn K (.ref C)=true
theorem OwnIn.cls {K:PySem.W.Frag} {x:Str} {C:Addr} (o:OwnIn K x C):Cls K C:=⟨o.pg,o.hd,o.po,o.sa⟩
def spTop (K:PySem.W.Frag):Sp:=fun vs H Q _=>∃ (a:Addr) (ns:List Int),vs=[.ref a]/\SqL K H a (ns.map V.int)/\ns.length<=63/\∀ H',Q (.bl true) H'
theorem law_in {l:PySem.W.OpenLaw} {w:World} {K:PySem.W.Frag} {h:Heap} {mg:Str->Option Value} {fa:Addr} {st:Stmt} {k:Nat} (d:DfIn K "law" st) (X:K.In h) (G:h.Ns mainGlobals mg) (hfa:mg "law"=some (.ref fa))
    (hb:∀ (kV doc pm:Value) (an:Option Addr) (cdv ct:Value) (s:Shared) (u:Value),BindsTo s (PySem.W.fnOf "law" "law" (defArgs st) (defBody st) (defScope st) .none kV doc pm an cdv ct) ⟨[u],[]⟩ [("_law_script",u)])
    (ok:∀ (base:Heap) (fd:FuncData),Fun K "law" "law" st fa fd->FnOk l.prog w K mg base CX0 k fa fd ["_law_script"] (spTop K)) :
    ∃ fd:FuncData,(∀ (s:Shared) (u:Value),BindsTo s fd ⟨[u],[]⟩ [("_law_script",u)])/\∀ base:Heap,K.In base->base.Ns mainGlobals mg->FnOk l.prog w K mg base CX0 k fa fd ["_law_script"] (spTop K):=by
  obtain ⟨fl,al,oc,od,kV,doc,pm,an,cdv,ct,osl,lk,cc,kk⟩:=d
  have e:fl=fa:=by
    have:=PySem.W.mg_of X G al
    rw [hfa] at this
    injection this with this
    injection this with this
    exact this.symm
  subst e
  exact ⟨_,fun s v=>hb _ _ _ _ _ _ s v,fun base _ _=>ok base _ (fun_mk (st:=st) lk cc kk)⟩
theorem walk1 {l:PySem.W.OpenLaw} {q:Program} {loose:List Str} {XP:(Str->Option Value)->Heap->Prop} {YP:World->Heap->Prop} {d:DefRec} {K:Params->PySem.W.Frag} {k:Nat} (hn:l.most=some 63) (hr:Room k callerA) (hdf:d.params.defaults=[]) (hnm:d.name="law")
    (hY:∀ (w:World) (h:Heap),YP w h->(K w.params).In h)
    (F:∀ (w:World) (mg:Str->Option Value) (fa:Addr) (h:Heap),(K w.params).In h->h.Ns mainGlobals mg->mg "law"=some (.ref fa)->∃ fd:FuncData,(∀ (s:Shared) (u:Value),BindsTo s fd ⟨[u],[]⟩ [("_law_script",u)])/\∀ base:Heap,(K w.params).In base->base.Ns mainGlobals mg->FnOk l.prog w (K w.params) mg base CX0 k fa fd ["_law_script"] (spTop (K w.params))) :
    PySem.W.WalkO q loose XP YP l.row.toRowW d [] (fun f vs=>PySem.call f vs) :=
  L2.walk_of (n:=63) (k:=k) (x:="_law_script") (CX:=fun _=>CX0) (sp:=fun w=>spTop (K w.params)) hn (by decide) hdf hr hY (fun w mg fa h X G hm=>F w mg fa h X G (by rw [hnm] at hm; exact hm)) (fun _ _ a ns hl _ hS=>⟨a,ns,rfl,hS,hl,fun _=>rfl⟩) fun _ _ _ _ _ z=>z
end L2
namespace L2
open PySem
theorem usS {n:Nat} {p:List Value->Prop} (h:∀ a us,us.length=n->p (a :: us)):∀ us:List Value,us.length=n + 1->p us:=fun us=>by
  cases us with
  | nil=>exact fun e=>by cases e
  | cons a r=>exact fun e=>h a r (Nat.succ.inj e)
theorem us1 {p:List Value->Prop} (h:∀ a,p [a]):∀ us:List Value,us.length=1->p us:=usS fun a us e=>by rw [List.length_eq_zero_iff.mp e]; exact h a
theorem us2 {p:List Value->Prop} (h:∀ a b,p [a,b]):∀ us:List Value,us.length=2->p us:=usS fun a=>us1 (p:=fun l=>p (a :: l)) (h a)
theorem us3 {p:List Value->Prop} (h:∀ a b c,p [a,b,c]):∀ us:List Value,us.length=3->p us:=usS fun a=>us2 (p:=fun l=>p (a :: l)) (h a)
theorem us4 {p:List Value->Prop} (h:∀ a b c d,p [a,b,c,d]):∀ us:List Value,us.length=4->p us:=usS fun a=>us3 (p:=fun l=>p (a :: l)) (h a)
end L2
namespace L2
open PySem
theorem ex2q {α:Type} {a b:α->Prop} {w:α} (h:a w) (k:b w):∃ x,a x/\b x:=⟨w,h,k⟩
end L2
namespace L2
theorem ex4q {α β:Type} {a:α->Prop} {b:β->Prop} {c:α->β->Prop} {w:α} {v:β} (h:a w) (i:b v) (k:c w v):∃ x y,a x/\b y/\c x y:=⟨w,v,h,i,k⟩
end L2
namespace Hv
open PySem L2
def top (i:Nat):Stmt:=PySem.Challenge.pw_reusewise_k78_whole_counts_are_holders.main.body.getD i (.Pass ⟨0,0,0,0⟩)
abbrev sBox:Stmt:=inClass (top 5) 0
abbrev sRis:Stmt:=inClass (top 6) 0
abbrev sPlaceOf:Stmt:=inClass (top 6) 1
abbrev sAdd:Stmt:=inClass (top 6) 2
abbrev sDiscard:Stmt:=inClass (top 6) 3
abbrev sIsBox:Stmt:=top 7
abbrev sHInit:Stmt:=inClass (top 8) 0
abbrev sMake:Stmt:=inClass (top 8) 1
abbrev sPlace:Stmt:=inClass (top 8) 2
abbrev sRoom:Stmt:=inClass (top 8) 3
abbrev sHold:Stmt:=inClass (top 8) 4
abbrev sLetGo:Stmt:=inClass (top 8) 5
abbrev sThere:Stmt:=inClass (top 8) 6
abbrev sLess:Stmt:=inClass (top 8) 7
abbrev sParts:Stmt:=inClass (top 8) 8
abbrev sLoose:Stmt:=inClass (top 8) 9
abbrev sLook:Stmt:=inClass (top 8) 10
abbrev sTake:Stmt:=inClass (top 8) 11
abbrev sTaken:Stmt:=inClass (top 8) 12
abbrev sWork:Stmt:=inClass (top 8) 13
abbrev sFirst:Stmt:=inClass (top 8) 14
abbrev sBoxes:Stmt:=inClass (top 8) 15
abbrev sKeeping:Stmt:=inClass (top 8) 16
abbrev sWaits:Stmt:=inClass (top 8) 17
abbrev sSInit:Stmt:=inClass (top 11) 0
abbrev sSParts:Stmt:=inClass (top 11) 1
abbrev sSFirst:Stmt:=inClass (top 11) 2
abbrev sCut:Stmt:=inClass (top 11) 3
abbrev sSWaits:Stmt:=inClass (top 11) 4
abbrev s_alike:Stmt:=top 13
abbrev s_cell_at:Stmt:=top 14
abbrev s_some:Stmt:=top 15
abbrev s_reached:Stmt:=top 16
abbrev s_counted:Stmt:=top 17
abbrev s_state:Stmt:=top 18
abbrev s_make:Stmt:=top 19
abbrev s_worked:Stmt:=top 20
abbrev s_take:Stmt:=top 21
abbrev s_done:Stmt:=top 22
abbrev s_law:Stmt:=top 23
end Hv
namespace L2
open PySem PySem.Spec PyProof.Rows
end L2
namespace L2
open PySem PySem.Spec PyProof.Rows
section
variable (P:Program) (w:World)
end
section
variable {P:Program} {w:World} {H H':Hp} {h h':Heap} {a:Addr} {o:HO}
end
section
variable {P:Program} {w:World} {H:Hp} {h h':Heap} {x e:Addr} {o':HO}
end
section
variable {fs fs' ex ex':List Addr} {H H1 H2:Hp} {h h1 h2 h':Heap} {a x e:Addr} {o:HO}
end
end L2
namespace L2
open PySem PySem.Spec PyProof.Rows
section
variable {X:Cx} {pins:List (Addr × Obj)} {σ:List (Option V)} {H H':Hp} {s:Shared} {h':Heap}
end
end L2
namespace L2
open PySem PySem.Spec PyProof.Rows
section
variable {X:Cx}
variable {a b:Expr} {ta tb:TE} {pos:Pos}
variable {tA tB':TT} {rest:List Expr}
end
end L2
namespace L2
open PySem PySem.Spec PyProof.Rows
section
variable {X:Cx} {pins:List (Addr × Obj)} {σ:St} {H:Hp} {s:Shared} {a:Addr} {xs ys:List V}
end
section
variable {X:Cx} {pins:List (Addr × Obj)} {σ:St} {H:Hp} {s:Shared} {E:Value->Shared->Prop}
end
section
variable {X:Cx} {st:Stmt} {rest:List Stmt} {t u:TS} {e:Expr} {te:TE} {pos:Pos}
end
section
variable {X:Cx} {pos:Pos}
end
section
variable {X:Cx} {pos:Pos}
end
end L2
namespace L2
open PySem PySem.Spec PyProof.Rows
section
variable {X:Cx} {tg:Expr}
end
end L2
namespace L2
open PySem PySem.Spec PyProof.Rows
section
variable {X:Cx} {a b c:Expr} {ta tb tc:TE} {pos:Pos}
end
section
variable {X:Cx} {a b c:Expr} {ta tb tc:TE} {pos:Pos}
end
end L2
namespace L2
open PySem PySem.Spec PyProof.Rows
section
variable {prog:Program} {w:World} {A:Around} {E:Value->Shared->Prop} {s:Shared} {K:PySem.W.Frag} {x dx C f:Addr} {mA:Str->Option Value} {name:Str} {v:Value}
end
section
variable {P:Program} {w:World} {H H':Hp} {h h':Heap} {a C dx:Addr} {fs fs':List (Str × V)}
end
section
variable {X:Cx} {pins:List (Addr × Obj)} {σ:St} {H:Hp} {s:Shared} {a C dx:Addr} {fs:List (Str × V)} {f:Str} {v:V} {A:Around} {E:Value->Shared->Prop}
end
section
variable {X:Cx} {o e value:Expr} {f:Str} {pos pos' tpos:Pos} {ta tv:TE}
end
section
variable {X:Cx} {pins:List (Addr × Obj)} {σ:St} {H:Hp} {s:Shared} {A:Around} {E:Value->Shared->Prop} {Q:Value->Shared->Prop} {c:Value} {b:Bool}
end
end L2
namespace L2
open PySem PySem.Spec PyProof.Rows
section
variable {X:Cx} {e:Expr} {es:List Expr} {te:TE} {t:TA} {pos:Pos}
end
section
variable {X:Cx} {pins:List (Addr × Obj)} {σ:St} {H:Hp} {s s':Shared}
end
section
variable {X:Cx} {CX:CXT} {k:Nat} {f C:Addr} {fd:FuncData} {ps:List Str} {sp:Sp} {dvs:List V} {ds:List Value} {E:XK} {x m:Str} {p pos apos:Pos} {e o:Expr} {es:List Expr} {ta:TE} {t:TA}
end
section
variable {X:Cx} {CX:CXT} {k:Nat} {f C:Addr} {fd:FuncData} {ps ks:List Str} {sp:Sp} {E:XK} {x m:Str} {p pos apos kpos:Pos} {e o:Expr} {es:List Expr} {kws:List Keyword} {te ta:TE} {t tk:TA} {nm:Option Str}
variable {g:List Value->List Value->List Value} {gV:List V->List V->List V}
end
end L2
namespace L2
open PySem PySem.Spec PyProof.Rows
section
variable {X:Cx} {x:Str} {p pos:Pos} {e:Expr} {es:List Expr} {t:TA} {id T:String} {r:List V->Hp->VK->Prop}
end
end L2
namespace L2
open PySem PySem.Spec PyProof.Rows
section
variable {κ:Type} [DecidableEq κ]
def valV (kvs:List (κ × V)) (k:κ):Option V:=(kvs.find? fun kv=>decide (kv.1=k)).map (·.2)
def putK (kvs:List (κ × V)) (k:κ) (v:V):List (κ × V) :=
  if (kvs.any fun kv=>decide (kv.1=k))=true then kvs.map (fun kv=>if kv.1=k then (kv.1,v) else kv) else kvs ++ [(k,v)]
def dropK (kvs:List (κ × V)) (k:κ):List (κ × V):=kvs.filter fun kv=>decide (kv.1≠k)
theorem valV_pos {p:κ × V} {r:List (κ × V)} {k:κ} (e:p.1=k):valV (p :: r) k=some p.2:=by simp [valV,List.find?_cons,e]
theorem valV_neg {p:κ × V} {r:List (κ × V)} {k:κ} (e:¬ p.1=k):valV (p :: r) k=valV r k:=by simp [valV,List.find?_cons,e]
theorem valV_any (k:κ):∀ kvs:List (κ × V),(kvs.any fun kv=>decide (kv.1=k))=(valV kvs k).isSome
  | []=>rfl
  | p :: r=>by
    rw [List.any_cons]
    by_cases e:p.1=k
    · simp only [valV_pos e,decide_eq_true e,Bool.true_or,Option.isSome_some]
    · rw [valV_neg e,decide_eq_false e,Bool.false_or]; exact valV_any k r
theorem valV_map (k j:κ) (y:V):∀ kvs:List (κ × V),valV (kvs.map fun kv=>if kv.1=k then (kv.1,y) else kv) j=(valV kvs j).map fun x=>if j=k then y else x
  | []=>rfl
  | p :: r=>by
    have ih:=valV_map k j y r
    rw [List.map_cons]
    by_cases h:p.1=k
    · rw [if_pos h]
      by_cases e:p.1=j
      · rw [valV_pos (p:=(p.1,y)) e,valV_pos e,Option.map_some,if_pos (e.symm.trans h)]
      · rw [valV_neg (p:=(p.1,y)) e,valV_neg e,ih]
    · rw [if_neg h]
      by_cases e:p.1=j
      · rw [valV_pos (p:=p) e,valV_pos e,Option.map_some,if_neg (fun z=>h (e.trans z))]
      · rw [valV_neg (p:=p) e,valV_neg e,ih]
theorem valV_snoc (k j:κ) (y:V):∀ kvs:List (κ × V),valV kvs k=none->valV (kvs ++ [(k,y)]) j=if j=k then some y else valV kvs j
  | [],_=>by
    by_cases e:k=j
    · rw [if_pos e.symm]; exact valV_pos (p:=(k,y)) e
    · rw [if_neg (fun z=>e z.symm)]; exact valV_neg (p:=(k,y)) e
  | p :: r,hn=>by
    rw [List.cons_append]
    have hk:¬ p.1=k:=fun z=>by rw [valV_pos z] at hn; cases hn
    rw [valV_neg hk] at hn
    have ih:=valV_snoc k j y r hn
    by_cases e:p.1=j
    · rw [valV_pos e,valV_pos e,if_neg (fun z=>hk (e.trans z))]
    · rw [valV_neg e,valV_neg e,ih]
theorem valV_put (kvs:List (κ × V)) (k j:κ) (y:V):valV (putK kvs k y) j=if j=k then some y else valV kvs j:=by
  unfold putK
  by_cases a:(kvs.any fun kv=>decide (kv.1=k))=true
  · rw [if_pos a,valV_map]
    rw [valV_any] at a
    by_cases e:j=k
    · obtain ⟨x,hx⟩:=Option.isSome_iff_exists.mp a
      rw [if_pos e,e,hx,Option.map_some,if_pos rfl]
    · rw [if_neg e]
      cases valV kvs j with
      | none=>rfl
      | some x=>rw [Option.map_some,if_neg e]
  · rw [if_neg a]
    refine valV_snoc k j y kvs ?_
    rw [valV_any] at a
    cases q:valV kvs k with
    | none=>rfl
    | some x=>rw [q] at a; exact (a rfl).elim
theorem length_putK (kvs:List (κ × V)) (k:κ) (v:V):(putK kvs k v).length<=kvs.length + 1:=by
  unfold putK
  split
  · rw [List.length_map]; lia
  · rw [List.length_append,List.length_cons,List.length_nil]; lia
theorem putK_new {kvs:List (κ × V)} {k:κ} (v:V) (h:valV kvs k=none):putK kvs k v=kvs ++ [(k,v)]:=by
  unfold putK
  rw [valV_any,h]
  exact if_neg (by decide)
theorem RelO.isSome_eq {o:Option V} {u:Option Value} (r:RelO o u):o.isSome=u.isSome:=by
  cases o with
  | none=>cases u with
    | none=>rfl
    | some _=>exact (show False from r).elim
  | some _=>cases u with
    | none=>exact (show False from r).elim
    | some _=>rfl
theorem RelO.getD {o:Option V} {u:Option Value} {d:V} {d':Value} (r:RelO o u) (rd:RelV d d'):RelV (o.getD d) (u.getD d'):=by
  cases o with
  | none=>cases u with
    | none=>exact rd
    | some _=>exact (show False from r).elim
  | some _=>cases u with
    | none=>exact (show False from r).elim
    | some _=>exact r
theorem KV.val {kvs:List (κ × V)} {vs:List (κ × Value)} (r:KV kvs vs) (k:κ):RelO (valV kvs k) (valueAt vs k):=by
  unfold KV at r
  induction r with
  | nil=>exact True.intro
  | @cons p q ps qs h t ih =>
    obtain ⟨h1,h2⟩:=h
    by_cases e:p.1=k
    · have e':q.1=k:=h1.symm.trans e
      have b:valueAt (q :: qs) k=some q.2:=by simp [valueAt,List.find?_cons,e']
      rw [valV_pos e,b]; exact h2
    · have e':¬ q.1=k:=fun z=>e (h1.trans z)
      have b:valueAt (q :: qs) k=valueAt qs k:=by simp [valueAt,List.find?_cons,e']
      rw [valV_neg e,b]; exact ih
theorem KV.any {kvs:List (κ × V)} {vs:List (κ × Value)} (r:KV kvs vs) (k:κ):(kvs.any fun kv=>decide (kv.1=k))=vs.any fun kv=>decide (kv.1=k):=by
  unfold KV at r
  induction r with
  | nil=>rfl
  | cons h t ih=>rw [List.any_cons,List.any_cons,ih,h.1]
theorem KV.repl {kvs:List (κ × V)} {vs:List (κ × Value)} (r:KV kvs vs) (k:κ) {y:V} {u:Value} (ry:RelV y u) :
    KV (kvs.map fun kv=>if kv.1=k then (kv.1,y) else kv) (vs.map fun kv=>if kv.1=k then (kv.1,u) else kv):=by
  unfold KV at r ⊢
  induction r with
  | nil=>exact .nil
  | @cons p q ps qs h t ih =>
    rw [List.map_cons,List.map_cons]
    refine .cons ?_ ih
    obtain ⟨h1,h2⟩:=h
    by_cases e:p.1=k
    · rw [if_pos e,if_pos (h1.symm.trans e)]; exact ⟨h1,ry⟩
    · rw [if_neg e,if_neg (fun z=>e (h1.trans z))]; exact ⟨h1,h2⟩
theorem KV.put {kvs:List (κ × V)} {vs:List (κ × Value)} (r:KV kvs vs) (k:κ) {y:V} {u:Value} (ry:RelV y u):KV (putK kvs k y) (stored vs k u):=by
  unfold putK stored
  rw [r.any k]
  by_cases e:(vs.any fun kv=>decide (kv.1=k))=true
  · rw [if_pos e,if_pos e]; exact r.repl k ry
  · rw [if_neg e,if_neg e]; exact Paired.snoc r ⟨rfl,ry⟩
theorem KV.drop {kvs:List (κ × V)} {vs:List (κ × Value)} (r:KV kvs vs) (k:κ):KV (dropK kvs k) (without vs k):=by
  unfold KV at r ⊢
  unfold dropK without
  induction r with
  | nil=>exact .nil
  | @cons p q ps qs h t ih =>
    obtain ⟨h1,h2⟩:=h
    rw [List.filter_cons,List.filter_cons]
    by_cases e:p.1=k
    · have a:¬ decide (p.1≠k)=true:=by simp [e]
      have b:¬ decide (q.1≠k)=true:=by simp [h1.symm.trans e]
      rw [if_neg a,if_neg b]; exact ih
    · have e':¬ q.1=k:=fun z=>e (h1.trans z)
      have a:decide (p.1≠k)=true:=by simp [e]
      have b:decide (q.1≠k)=true:=by simp [e']
      rw [if_pos a,if_pos b]; exact .cons ⟨h1,h2⟩ ih
theorem KV.keys {kvs:List (κ × V)} {vs:List (κ × Value)} (r:KV kvs vs):kvs.map (·.1)=vs.map (·.1):=by
  unfold KV at r
  induction r with
  | nil=>rfl
  | cons h t ih=>rw [List.map_cons,List.map_cons,ih,h.1]
theorem KV.length {kvs:List (κ × V)} {vs:List (κ × Value)} (r:KV kvs vs):kvs.length=vs.length:=Paired.length r
theorem dropK_le (kvs:List (κ × V)) (k:κ):(dropK kvs k).length<=kvs.length:=List.length_filter_le _ _
end
theorem kV_is {P:Program} {w:World} {k:Key} {u:Value} (r:RelV (kV k) u):(mixKind P w).is k u=true:=by
  cases k with
  | inl i=>obtain ⟨t,e⟩:=(show ∃ t,u=Value.int i t from r); subst e; exact mixKind_int P w i t
  | inr x=>obtain ⟨t,e⟩:=(show ∃ t,u=Value.str x t from r); subst e; exact mixKind_str P w x t
theorem items_are {P:Program} {w:World}:∀ {ks:List Key} {us:List Value},Vals (ks.map kV) us->ItemsAre (mixKind P w) ks us
  | [],_,r=>by rw [List.map_nil] at r; cases r; exact .nil
  | k :: ks,_,r=>by
    rw [List.map_cons] at r
    cases r with
    | cons h t=>exact .cons (kV_is h) (items_are t)
abbrev KT (H:Hp):List (List Key × V)->List (List Key × Addr × Value)->Prop:=Paired fun p q=>p.1=q.1/\H q.2.1=some (.tup (p.1.map kV))/\RelV p.2 q.2.2
theorem KT.val {H:Hp} {kvs:List (List Key × V)} {xs:List (List Key × Addr × Value)} (r:KT H kvs xs) (k:List Key):RelO (valV kvs k) ((atKey xs k).map (·.2)):=by
  induction r with
  | nil=>exact True.intro
  | @cons p q ps qs h t ih =>
    obtain ⟨h1,_,h2⟩:=h
    by_cases e:p.1=k
    · have e':q.1=k:=h1.symm.trans e
      have b:atKey (q :: qs) k=some q.2:=by simp [atKey,List.find?_cons,e']
      rw [valV_pos e,b]; exact h2
    · have e':¬ q.1=k:=fun z=>e (h1.trans z)
      have b:atKey (q :: qs) k=atKey qs k:=by simp [atKey,List.find?_cons,e']
      rw [valV_neg e,b]; exact ih
theorem KT.repl {H:Hp} {kvs:List (List Key × V)} {xs:List (List Key × Addr × Value)} (r:KT H kvs xs) (k:List Key) {y:V} {u:Value} (ry:RelV y u) :
    KT H (kvs.map fun kv=>if kv.1=k then (kv.1,y) else kv) (xs.map (putAt k u)):=by
  induction r with
  | nil=>exact .nil
  | @cons p q ps qs h t ih =>
    rw [List.map_cons,List.map_cons]
    refine .cons ?_ ih
    obtain ⟨h1,h2,h3⟩:=h
    unfold putAt
    by_cases e:p.1=k
    · rw [if_pos e,if_pos (h1.symm.trans e)]; exact ⟨h1,h2,ry⟩
    · rw [if_neg e,if_neg (fun z=>e (h1.trans z))]; exact ⟨h1,h2,h3⟩
theorem KT.put {H:Hp} {kvs:List (List Key × V)} {xs:List (List Key × Addr × Value)} (r:KT H kvs xs) (k:List Key) {b:Addr} {y:V} {u:Value} (hb:H b=some (.tup (k.map kV))) (ry:RelV y u) :
    KT H (putK kvs k y) (storedH xs k b u):=by
  have e:(kvs.any fun kv=>decide (kv.1=k))=(atKey xs k).isSome:=by
    rw [valV_any,(r.val k).isSome_eq,Option.isSome_map]
  unfold putK storedH
  rw [e]
  by_cases q:(atKey xs k).isSome=true
  · rw [if_pos q,if_pos q]; exact r.repl k ry
  · rw [if_neg q,if_neg q]; exact Paired.snoc r ⟨rfl,hb,ry⟩
theorem KT.keeps {H H':Hp} {kvs:List (List Key × V)} {xs:List (List Key × Addr × Value)} (r:KT H kvs xs) (ht:∀ b ys,H b=some (.tup ys)->H' b=some (.tup ys)):KT H' kvs xs :=
  Paired.mapP r fun _ _ z=>⟨z.1,ht _ _ z.2.1,z.2.2⟩
section
variable {P:Program} {w:World} {H:Hp} {h:Heap} {a:Addr}
theorem rd_of {u:HO} (ok:HOk P w H h) (e:Rd H a u):ObjOk P w H h a u:=e.ok ok
theorem dk_rd {kvs:List (Key × V)} (ok:HOk P w H h) (e:Rd H a (.dK kvs)):kvs.length<=sizeLine/\(a == sysModules)=false/\∃ vs,KV kvs vs/\h.DictOf (mixKind P w) a vs :=
  show ObjOk P w H h a (.dK kvs) from rd_of ok e
theorem dk_of {kvs:List (Key × V)} (ok:HOk P w H h) (e:H a=some (.dK kvs)):kvs.length<=sizeLine/\(a == sysModules)=false/\∃ vs,KV kvs vs/\h.DictOf (mixKind P w) a vs:=dk_rd ok (.inl e)
theorem key_of {ks:List Key} (ok:HOk P w H h) (e:H a=some (.tup (ks.map kV))):(tupleKind (mixKind P w)).is h ks a:=by
  obtain ⟨_,its,r,o,h1,h2,_,n,h3⟩:=(show ObjOk P w H h a (.tup (ks.map kV)) from ok a _ e)
  exact ⟨o,its.toArray,n,h1,h2,h3,by simpa using items_are r⟩
theorem dt_rd {kvs:List (List Key × V)} (ok:HOk P w H h) (e:Rd H a (.dT kvs)):kvs.length<=sizeLine/\(a == sysModules)=false /\
    ∃ xs,KT H kvs xs/\h.DictOfH (tupleKind (mixKind P w)) a xs:=by
  obtain ⟨z,y,xs,r,o,es,ep,h1,h2,h3,h4,h5⟩:=(show ObjOk P w H h a (.dT kvs) from rd_of ok e)
  refine ⟨z,y,xs,r,o,es,ep,h1,h2,h3,h4,fun x hx=>?_,h5⟩
  have all:∀ {l:List (List Key × V)} {m:List (List Key × Addr × Value)},KT H l m->∀ x∈m,(tupleKind (mixKind P w)).is h x.1 x.2.1:=by
    intro l m q
    induction q with
    | nil=>intro x hx; exact nomatch hx
    | @cons p q ps qs hq t ih =>
      intro x hx
      rcases List.mem_cons.mp hx with e | hx
      · subst e
        exact key_of ok (by rw [<- hq.1]; exact hq.2.1)
      · exact ih x hx
  exact all r x hx
theorem dt_of {kvs:List (List Key × V)} (ok:HOk P w H h) (e:H a=some (.dT kvs)):kvs.length<=sizeLine/\(a == sysModules)=false /\
    ∃ xs,KT H kvs xs/\h.DictOfH (tupleKind (mixKind P w)) a xs:=dt_rd ok (.inl e)
end
def DGet (H:Hp) (a:Addr) (y:V) (r:Option V):Prop :=
  (∃ kvs k,Rd H a (.dK kvs)/\y=kV k/\r=valV kvs k)\/∃ kvs k b,Rd H a (.dT kvs)/\y=.ref b/\H b=some (.tup (k.map kV))/\r=valV kvs k
def DPut (H:Hp) (a:Addr) (y v:V) (H':Hp):Prop :=
  (∃ kvs k,H a=some (.dK kvs)/\y=kV k/\kvs.length < sizeLine/\H'=upd H a (.dK (putK kvs k v))) \/
  ∃ kvs k b,H a=some (.dT kvs)/\y=.ref b/\H b=some (.tup (k.map kV))/\kvs.length < sizeLine/\H'=upd H a (.dT (putK kvs k v))
theorem DGet.k {H:Hp} {a:Addr} {kvs:List (Key × V)} {k:Key} (e:H a=some (.dK kvs)):DGet H a (kV k) (valV kvs k):=.inl ⟨kvs,k,.inl e,rfl,rfl⟩
theorem DGet.t {H:Hp} {a b:Addr} {kvs:List (List Key × V)} {k:List Key} (e:H a=some (.dT kvs)) (eb:H b=some (.tup (k.map kV))):DGet H a (.ref b) (valV kvs k):=.inr ⟨kvs,k,b,.inl e,rfl,eb,rfl⟩
theorem DPut.k {H:Hp} {a:Addr} {kvs:List (Key × V)} {k:Key} {v:V} (e:H a=some (.dK kvs)) (hl:kvs.length < sizeLine):DPut H a (kV k) v (upd H a (.dK (putK kvs k v))):=.inl ⟨kvs,k,e,rfl,hl,rfl⟩
theorem DPut.t {H:Hp} {a b:Addr} {kvs:List (List Key × V)} {k:List Key} {v:V} (e:H a=some (.dT kvs)) (eb:H b=some (.tup (k.map kV))) (hl:kvs.length < sizeLine) :
    DPut H a (.ref b) v (upd H a (.dT (putK kvs k v))):=.inr ⟨kvs,k,b,e,rfl,eb,hl,rfl⟩
section
variable {X:Cx} {pins:List (Addr × Obj)} {σ:St} {H:Hp} {s:Shared} {a:Addr} {y v:V} {u r:Value} {o:Option V} {A:Around} {E:Value->Shared->Prop}
theorem Inv.big (I:Inv X pins σ H s):sysModules < s.heap.objs.size:=by
  have h:mainGlobals < s.heap.objs.size:=(I.mod.glob.keeps I.bk).lt
  exact Nat.lt_trans (by decide) h
theorem d_getItem {Q:Value->Shared->Prop} (hu:A.units + 1 < cLine) (I:Inv X pins σ H s) (g:DGet H a y (some v)) (ry:RelV y u) (h:∀ w' s',Inv X pins σ H s'->RelV v w'->Q w' s') :
    wpAny (model X.prog X.w) A (getItem (.ref a) u) Q E s:=by
  rcases g with ⟨kvs,k,e,ey,l⟩ | ⟨kvs,k,b,e,ey,eb,l⟩
  · subst ey
    obtain ⟨z,hd,vs,rel,dd⟩:=dk_rd I.hok e
    obtain ⟨w',hw,rw'⟩:=RelO.some_of (v:=v) (o:=valueAt vs k) (by rw [l]; exact rel.val k)
    exact wpAny_getItem_of (kV_is ry) dd.mapOf hw (h w' _ (I.tok _) rw')
  · subst ey
    cases (show u=Value.ref b from ry)
    obtain ⟨z,hd,xs,rel,dd⟩:=dt_rd I.hok e
    obtain ⟨w',hw,rw'⟩:=RelO.some_of (v:=v) (o:=(atKey xs k).map (·.2)) (by rw [l]; exact rel.val k)
    obtain ⟨p,hp,hp2⟩:=Option.map_eq_some_iff.mp hw
    refine wpAny_getItem_heap (tupleKind_room_in1 hu) (key_of I.hok eb) dd hp ?_
    rw [hp2]
    exact h w' _ (I.tok _) rw'
theorem d_notIn {Q:Value->Shared->Prop} (hu:A.units + 1 < cLine) (I:Inv X pins σ H s) (g:DGet H a y o) (ry:RelV y u) (h:∀ s',Inv X pins σ H s'->Q (.bool (!o.isSome)) s') :
    wpAny (model X.prog X.w) A (compareOp .NotIn u (.ref a)) Q E s:=by
  rcases g with ⟨kvs,k,e,ey,l⟩ | ⟨kvs,k,b,e,ey,eb,l⟩
  · subst ey
    obtain ⟨z,hd,vs,rel,dd⟩:=dk_rd I.hok e
    refine wpAny_notIn_of (kV_is ry) hd dd.mapOf ?_
    rw [<- (rel.val k).isSome_eq,<- l]
    exact h _ (I.tok _)
  · subst ey
    cases (show u=Value.ref b from ry)
    obtain ⟨z,hd,xs,rel,dd⟩:=dt_rd I.hok e
    refine wpAny_notIn_heap (tupleKind_room_in1 hu) (key_of I.hok eb) hd dd ?_
    have q:=(rel.val k).isSome_eq
    rw [Option.isSome_map] at q
    rw [<- q,<- l]
    exact h _ (I.tok _)
theorem d_write {h':Heap} {t':Nat} {ob:HO} (I:Inv X pins σ H s) (mu:Mut (H a)) (hs:Heap.SameBut a s.heap h') (he:∃ q,h'.get? a=some q) (new:ObjOk X.prog X.w (upd H a ob) h' a ob) :
    Inv X pins σ (upd H a ob) { s with heap:=h',toks:=t' } :=
  I.write (x:=a) (e:=a) mu (.inl rfl) (fun b q hb z=>(hs.2 b hb).trans z) he new
theorem dk_new {P:Program} {w:World} {H':Hp} {h':Heap} {kvs:List (Key × V)} {vs:List (Key × Value)} (z:kvs.length<=sizeLine) (hd:(a == sysModules)=false) (rel:KV kvs vs) (dd:h'.DictOf (mixKind P w) a vs) :
    ObjOk P w H' h' a (.dK kvs):=⟨z,hd,vs,rel,dd⟩
theorem d_setItem {H':Hp} {Q:Unit->Shared->Prop} (hu:A.units + 1 < cLine) (I:Inv X pins σ H s) (g:DPut H a y v H') (ry:RelV y u) (rv:RelV v r) (h:∀ s',Inv X pins σ H' s'->Q () s') :
    wpAny (model X.prog X.w) A (setItem (.ref a) u r) Q E s:=by
  rcases g with ⟨kvs,k,e,ey,l,eH⟩ | ⟨kvs,k,b,e,ey,eb,l,eH⟩
  · subst ey eH
    obtain ⟨z,hd,vs,rel,dd⟩:=dk_of I.hok e
    have hz:vs.length<=sizeLine:=by rw [<- rel.length]; exact z
    have hl:(putK kvs k v).length<=sizeLine:=by have:=length_putK kvs k v; lia
    refine wpAny_setItem_pairs (hsz:=hz) (kV_is ry) dd fun h' dd' hs=>h _ ?_
    have he:∃ q,h'.get? a=some q:=let ⟨q,_,_,hq,_⟩:=dd'; ⟨q,hq⟩
    exact d_write I (by rw [e]; exact True.intro) hs he (dk_new hl hd (rel.put k rv) dd')
  · subst ey eH
    cases (show u=Value.ref b from ry)
    obtain ⟨z,hd,xs,rel,dd⟩:=dt_of I.hok e
    have hz:xs.length<=sizeLine:=by rw [<- Paired.length rel]; exact z
    have hl:(putK kvs k v).length<=sizeLine:=by have:=length_putK kvs k v; lia
    refine wpAny_setItem_heap (hsz:=hz) (tupleKind_room_in1 hu) (key_of I.hok eb) dd fun h' dd' hs=>h _ ?_
    obtain ⟨q,es,ep,hq,h2,h3,h4,_,h5⟩:=dd'
    refine d_write I (by rw [e]; exact True.intro) hs ⟨q,hq⟩ ⟨hl,hd,_,(rel.put k eb rv).keeps fun c ys ec=>?_,q,es,ep,hq,h2,h3,h4,h5⟩
    rw [upd_ne (ne_of ec e (fun z=>nomatch z))]
    exact ec
end
section
variable {X:Cx} {pins:List (Addr × Obj)} {σ:St} {H:Hp} {s:Shared} {a:Addr} {kvs:List (Key × V)} {k:Key} {u:Value} {A:Around} {E:Value->Shared->Prop}
theorem d_pop {v:V} {more:List Value} {Q:Value->Shared->Prop} (I:Inv X pins σ H s) (e:H a=some (.dK kvs)) (ry:RelV (kV k) u) (l:valV kvs k=some v) (hm:more=[]\/∃ x,more=[x])
    (h:∀ w' s',Inv X pins σ (upd H a (.dK (dropK kvs k))) s'->RelV v w'->Q w' s'):wpAny (model X.prog X.w) A (call (.builtin "dict.pop") (.ref a :: u :: more)) Q E s:=by
  obtain ⟨z,hd,vs,rel,dd⟩:=dk_of I.hok e
  obtain ⟨w',hw,rw'⟩:=RelO.some_of (v:=v) (o:=valueAt vs k) (by rw [<- l]; exact rel.val k)
  have hp:(keyPart u).isSome=true:=by
    cases k with
    | inl i=>obtain ⟨t,q⟩:=(show ∃ t,u=Value.int i t from ry); subst q; rfl
    | inr x=>obtain ⟨t,q⟩:=(show ∃ t,u=Value.str x t from ry); subst q; rfl
  have ha:argsOk "dict.pop" ⟨.ref a :: u :: more,[]⟩:=by
    rcases hm with q | ⟨x,q⟩
    · subst q; exact PySem.F.args_dict_pop_2 _ _
    · subst q; exact PySem.F.args_dict_pop_3 _ _ _
  refine call_meetsIn PySem.F.slot_dict_pop dd.typeIs PySem.F.entry_dict_pop ha (meets_dict_pop_there (mixKind X.prog X.w) a (kV_is ry) more hm hp)
    ⟨vs,w',dd,by rw [<- rel.length]; exact z,hw,fun h' dd' hs=>h w' _ ?_ rw'⟩
  have he:∃ q,h'.get? a=some q:=let ⟨q,_,_,hq,_⟩:=dd'; ⟨q,hq⟩
  exact d_write I (by rw [e]; exact True.intro) hs he (dk_new (Nat.le_trans (dropK_le kvs k) z) hd (rel.drop k) dd')
theorem d_popD {r:Value} {Q:Value->Shared->Prop} (I:Inv X pins σ H s) (e:H a=some (.dK kvs)) (ry:RelV (kV k) u) (l:valV kvs k=none) (h:∀ s',Inv X pins σ H s'->Q r s') :
    wpAny (model X.prog X.w) A (call (.builtin "dict.pop") [.ref a,u,r]) Q E s:=by
  obtain ⟨z,hd,vs,rel,dd⟩:=dk_of I.hok e
  have hn:valueAt vs k=none:=RelO.none_of (by rw [<- l]; exact rel.val k)
  have hp:(keyPart u).isSome=true:=by
    cases k with
    | inl i=>obtain ⟨t,q⟩:=(show ∃ t,u=Value.int i t from ry); subst q; rfl
    | inr x=>obtain ⟨t,q⟩:=(show ∃ t,u=Value.str x t from ry); subst q; rfl
  exact call_meetsIn PySem.F.slot_dict_pop dd.typeIs PySem.F.entry_dict_pop (PySem.F.args_dict_pop_3 _ _ _) (meets_dict_pop_default (mixKind X.prog X.w) a (kV_is ry) hd hp r) ⟨vs,dd,hn,h _ (I.tok _)⟩
theorem d_len {Q:Value->Shared->Prop} (I:Inv X pins σ H s) (e:Rd H a (.dK kvs)) (h:∀ t s',Inv X pins σ H s'->Q (.int kvs.length t) s'):wpAny (model X.prog X.w) A (call (.builtin "len") [.ref a]) Q E s:=by
  obtain ⟨z,hd,vs,rel,dd⟩:=dk_rd I.hok e
  refine call_len_dict hd dd (by rw [<- rel.length]; rw [sizeLine_eq] at z; lia) ?_
  rw [<- rel.length]
  exact h _ _ (I.tok _)
end
def NoSl (i:Expr):Prop:=∀ ov iv,subscripted i false ov iv=operate [ov,iv] (getItem ov iv)
theorem subD_of {prog:Program} {w:World} {A:Around} {E:Value->Shared->Prop} {s:Shared} {env:Env} {value slice:Expr} {pos:Pos} {T id:String} {Q:Value->Shared->Prop}
    (hl:typeLookup (.type T) "__getitem__"=pure (some (.builtin id))) (hs:NoSl slice)
    (h:wpAny (model prog w) A (eval value env) (fun o s₁=>wpAny (model prog w) A (eval slice env) (fun i s₂=>s₂.TypeIs o T/\wpAny (model prog w) A (getItem o i) Q E s₂) E s₁) E s) :
    wpAny (model prog w) A (eval (.Subscript value slice pos) env) Q E s:=by
  refine Subscript_ (wpAny_mono h (fun o s₁ h₁=>wpAny_mono h₁ (fun i s₂ h₂=>?_) fun _ _ x=>x) fun _ _ x=>x)
  obtain ⟨hT,h₂⟩:=h₂
  unfold subscriptTail
  refine wpAny_bind ?_
  rw [getitemInPython_of_ne hT.not_modules]
  refine wpAny_bind (wpAny_specialOf hT hl ?_)
  have fin:wpAny (model prog w) A (subscripted slice false o i) (fun r s₃=>wpAny (model prog w) A (letTemporaryGo value o r >>= fun _=>pure r) Q E s₃) E s₂:=by
    rw [hs o i]
    exact wpAny_operating (wpAny_mono h₂ (fun r s₃ h₃=>wpAny_bind (wpAny_letTemporaryGo (wpAny_pure h₃))) fun _ _ x=>x)
  first
    | exact wpAny_pure (wpAny_bind fin)
    | exact wpAny_bind (wpAny_pure (wpAny_bind fin))
    | exact wpAny_bind fin
theorem dict_typeIs {X:Cx} {pins:List (Addr × Obj)} {σ:St} {H:Hp} {s:Shared} {a:Addr} {y:V} {o:Option V} (I:Inv X pins σ H s) (g:DGet H a y o):s.TypeIs (.ref a) "dict":=by
  rcases g with ⟨kvs,k,e,_,_⟩ | ⟨kvs,k,b,e,_,_,_⟩
  · obtain ⟨_,_,vs,_,dd⟩:=dk_rd I.hok e
    exact dd.typeIs
  · obtain ⟨_,_,xs,_,dd⟩:=dt_rd I.hok e
    exact dd.typeIs
def tDGet (td ty:TE):TE:=fun σ H Q=>td σ H fun x H1=>ty σ H1 fun y H2=>∃ a v,x=.ref a/\DGet H2 a y (some v)/\Q v H2
def tDNotIn (ty td:TE):TE:=fun σ H Q=>ty σ H fun y H1=>td σ H1 fun x H2=>∃ a o,x=.ref a/\DGet H2 a y o/\Q (.bl (!o.isSome)) H2
def sDPut (td ty tv:TE):TS:=fun D σ H=>tv σ H fun v H1=>td σ H1 fun x H2=>ty σ H2 fun y H3=>∃ a H4,x=.ref a/\DPut H3 a y v H4/\D.nx σ H4
section
variable {X:Cx} {o i e value:Expr} {pos pos' tpos:Pos} {td ty tv:TE}
theorem pe_dget (hu:X.A.units + 1 < cLine) (ho:PE X o td) (hi:PE X i ty) (hs:NoSl i):PE X (.Subscript o i pos) (tDGet td ty):=by
  intro pins s σ H Q I h
  refine subD_of PySem.F.slot_dict_getitem.lookup hs (thn (ho pins s σ H _ I h) fun u s1 ⟨x,H1,I1,rx,q1⟩=>thn (hi pins s1 σ H1 _ I1 q1) fun iv s2 ⟨y,H2,I2,ry,a,v,ex,g,q2⟩=>?_)
  subst ex
  obtain rfl:u=Value.ref a:=rx
  exact ⟨dict_typeIs I2 g,d_getItem hu I2 g ry fun w' s3 I3 rw'=>⟨v,H2,I3,rw',q2⟩⟩
theorem pc_dnotin (hu:X.A.units + 1 < cLine) (hi:PE X i ty) (ho:PE X o td):PC X .NotIn i o (tDNotIn ty td):=by
  intro pins s σ H Q I h
  refine thn (hi pins s σ H _ I h) fun iv s1 ⟨y,H1,I1,ry,q1⟩=>thn (ho pins s1 σ H1 _ I1 q1) fun u s2 ⟨x,H2,I2,rx,a,ov,ex,g,q2⟩=>?_
  subst ex
  obtain rfl:u=Value.ref a:=rx
  exact d_notIn hu I2 g ry fun s3 I3=>⟨.bl (!ov.isSome),H2,I3,rfl,q2⟩
theorem ps_dput (hu:X.A.units + 1 < cLine) (ho:PE X o td) (hi:PE X i ty) (hv:PE X value tv) (hs:swapsWith value (some (.Subscript o i pos')) pos.line X.env=pure false) :
    PS X (.Assign [.Subscript o i pos'] value pos) (sDPut td ty tv):=by
  intro pins s σ H D I h
  refine wpAny_Assign_Subscript (thn (hv pins s σ H _ I h) fun r s1 ⟨v,H1,I1,rv,q1⟩=>thn (ho pins s1 σ H1 _ I1 q1) fun u s2 ⟨x,H2,I2,rx,q2⟩=>thn (hi pins s2 σ H2 _ I2 q2) fun iv s3 ⟨y,H3,I3,ry,a,H4,ex,g,q3⟩=>?_) hs
  subst ex
  obtain rfl:u=Value.ref a:=rx
  exact d_setItem hu I3 g ry rv fun s4 I4=>⟨σ,H4,I4,q3⟩
end
theorem dk_empty {P:Program} {w:World} {H:Hp} (h:Heap) (hb:sysModules < h.objs.size):ObjOk P w H (h.push { cls:=.type "dict",data:=.dict #[] }) h.objs.size (.dK []) :=
  ⟨Nat.zero_le _,beq_eq_false_iff_ne.mpr (Ne.symm (Nat.ne_of_lt hb)),[],.nil,Heap.DictOf.new h⟩
def tDNewK:TE:=fun _ H Q=>∀ p,H p=none->Q (.ref p) (upd H p (.dK []))
section
variable {X:Cx} {pos:Pos}
theorem pe_dnewK:PE X (.Dict [] [] pos) tDNewK:=fun pins s σ H Q I h =>
  wpAny_Dict_empty ⟨.ref s.heap.objs.size,_,I.laid (a:=s.heap.objs.size) (o:=.dK []) (t':=s.toks) (fun _ _ q=>Heap.get?_push_of_some _ q) (Nat.le_refl _) (dk_empty s.heap I.big),rfl,h _ (I.hok.fresh (Nat.le_refl _))⟩
end
structure M1 (X:Cx) (o:Expr) (m:Str) (apos:Pos) (e:Expr) (cpos:Pos):Prop where
  base:attributeBase o m X.env (eval o X.env)=eval o X.env
  few:((backTo cpos (starEach [e] X.env)).all (fun x=>!x.1) && (backToKw cpos (keywordEach [] X.env)).all (fun x=>x.1.isSome)
    && decide (([e]:List Expr).length + ([]:List Keyword).length + (if ([]:List Keyword).isEmpty then 0 else 1) < 30))=true
  line:(apos.endLine == cpos.line)=true
  trees:backTo cpos (starEach [e] X.env)=[(false,eval e X.env)]
structure M2 (X:Cx) (o:Expr) (m:Str) (apos:Pos) (e f:Expr) (cpos:Pos):Prop where
  base:attributeBase o m X.env (eval o X.env)=eval o X.env
  few:((backTo cpos (starEach [e,f] X.env)).all (fun x=>!x.1) && (backToKw cpos (keywordEach [] X.env)).all (fun x=>x.1.isSome)
    && decide (([e,f]:List Expr).length + ([]:List Keyword).length + (if ([]:List Keyword).isEmpty then 0 else 1) < 30))=true
  line:(apos.endLine == cpos.line)=true
  trees:backTo cpos (starEach [e,f] X.env)=[(false,eval e X.env),(false,eval f X.env)]
def IsD (H:Hp) (a:Addr):Prop:=(∃ kvs,Rd H a (.dK kvs))\/∃ kvs,Rd H a (.dT kvs)
theorem isD_at {X:Cx} {pins:List (Addr × Obj)} {σ:St} {H:Hp} {s:Shared} {a:Addr} (I:Inv X pins σ H s) (d:IsD H a) :
    s.TypeIs (.ref a) "dict"/\(∀ b,Value.ref a=.ref b->∃ ob,s.heap.get? b=some ob/\ob.dict=none)/\(a == sysModules)=false:=by
  rcases d with ⟨kvs,e⟩ | ⟨kvs,e⟩
  · obtain ⟨_,hd,vs,_,dd⟩:=dk_rd I.hok e
    refine ⟨dd.typeIs,fun b q=>?_,hd⟩
    cases q
    obtain ⟨ob,_,_,h1,h2,_⟩:=dd
    exact ⟨ob,h1,h2.2.1⟩
  · obtain ⟨_,hd,xs,_,dd⟩:=dt_rd I.hok e
    refine ⟨dd.typeIs,fun b q=>?_,hd⟩
    cases q
    obtain ⟨ob,_,_,h1,h2,_⟩:=dd
    exact ⟨ob,h1,h2.2.1⟩
section
variable {X:Cx} {pins:List (Addr × Obj)} {σ:St} {H:Hp} {s:Shared} {a:Addr} {y d:V} {u r:Value} {o:Option V} {A:Around} {E:Value->Shared->Prop}
theorem d_get1 {Q:Value->Shared->Prop} (hu:A.units + 1 < cLine) (I:Inv X pins σ H s) (g:DGet H a y o) (ry:RelV y u) (h:∀ w' s',Inv X pins σ H s'->RelV (o.getD .non) w'->Q w' s') :
    wpAny (model X.prog X.w) A (call (.builtin "dict.get") [.ref a,u]) Q E s:=by
  rcases g with ⟨kvs,k,e,ey,l⟩ | ⟨kvs,k,b,e,ey,eb,l⟩
  · subst ey
    obtain ⟨z,hd,vs,rel,dd⟩:=dk_rd I.hok e
    refine call_meetsIn PySem.F.slot_dict_get dd.typeIs PySem.F.entry_dict_get (PySem.F.args_dict_get_2 _ _) (meets_dict_get (mixKind X.prog X.w) a (kV_is ry) hd) ⟨_,dd.mapOf,h _ _ (I.tok _) ?_⟩
    rw [l]
    exact (rel.val k).getD rfl
  · subst ey
    cases (show u=Value.ref b from ry)
    obtain ⟨z,hd,xs,rel,dd⟩:=dt_rd I.hok e
    refine call_meetsIn PySem.F.slot_dict_get dd.typeIs PySem.F.entry_dict_get (PySem.F.args_dict_get_2 _ _) (meetsH_dict_get (tupleKind (mixKind X.prog X.w)) a b hd) ⟨tupleKind_room_in1 hu,k,xs,key_of I.hok eb,dd,h _ _ (I.tok _) ?_⟩
    rw [l]
    exact (rel.val k).getD rfl
theorem d_get2 {Q:Value->Shared->Prop} (hu:A.units + 1 < cLine) (I:Inv X pins σ H s) (g:DGet H a y o) (ry:RelV y u) (rd:RelV d r) (h:∀ w' s',Inv X pins σ H s'->RelV (o.getD d) w'->Q w' s') :
    wpAny (model X.prog X.w) A (call (.builtin "dict.get") [.ref a,u,r]) Q E s:=by
  rcases g with ⟨kvs,k,e,ey,l⟩ | ⟨kvs,k,b,e,ey,eb,l⟩
  · subst ey
    obtain ⟨z,hd,vs,rel,dd⟩:=dk_rd I.hok e
    refine call_meetsIn PySem.F.slot_dict_get dd.typeIs PySem.F.entry_dict_get (PySem.F.args_dict_get_3 _ _ _) (meets_dict_get_default (mixKind X.prog X.w) a (kV_is ry) hd r) ⟨_,dd.mapOf,h _ _ (I.tok _) ?_⟩
    rw [l]
    exact (rel.val k).getD rd
  · subst ey
    cases (show u=Value.ref b from ry)
    obtain ⟨z,hd,xs,rel,dd⟩:=dt_rd I.hok e
    refine call_meetsIn PySem.F.slot_dict_get dd.typeIs PySem.F.entry_dict_get (PySem.F.args_dict_get_3 _ _ _) (meetsH_dict_get_default (tupleKind (mixKind X.prog X.w)) a b hd r) ⟨tupleKind_room_in1 hu,k,xs,key_of I.hok eb,dd,h _ _ (I.tok _) ?_⟩
    rw [l]
    exact (rel.val k).getD rd
end
def tDGet1 (td ty:TE):TE:=fun σ H Q=>td σ H fun x H1=>∃ a,x=.ref a/\IsD H1 a/\ty σ H1 fun y H2=>∃ o,DGet H2 a y o/\Q (o.getD .non) H2
def tDGet2 (td ty tx:TE):TE:=fun σ H Q=>td σ H fun x H1=>∃ a,x=.ref a/\IsD H1 a/\ty σ H1 fun y H2=>tx σ H2 fun z H3=>∃ o,DGet H3 a y o/\Q (o.getD z) H3
def tDPop1 (td ty:TE):TE:=fun σ H Q=>td σ H fun x H1=>∃ a,x=.ref a/\IsD H1 a/\ty σ H1 fun y H2=>∃ kvs k v,H2 a=some (.dK kvs)/\y=kV k/\valV kvs k=some v/\Q v (upd H2 a (.dK (dropK kvs k)))
def tDPop2 (td ty tx:TE):TE:=fun σ H Q=>td σ H fun x H1=>∃ a,x=.ref a/\IsD H1 a/\ty σ H1 fun y H2=>tx σ H2 fun z H3=>∃ kvs k,H3 a=some (.dK kvs)/\y=kV k /\
  (∀ v,valV kvs k=some v->Q v (upd H3 a (.dK (dropK kvs k))))/\(valV kvs k=none->Q z H3)
section
variable {X:Cx} {o e f:Expr} {apos cpos:Pos} {td ty tx:TE}
theorem pe_dget1 (hu:X.A.units + 1 < cLine) (ho:PE X o td) (he:PE X e ty) (m:M1 X o "get" apos e cpos):PE X (.Call (.Attribute o "get" apos) [e] [] cpos) (tDGet1 td ty):=by
  intro pins s σ H Q I h
  refine wpAny_Call_method m.base m.few m.line PySem.F.plainAttrs_dict PySem.F.slot_dict_get PySem.F.type_dict_get (thn (ho pins s σ H _ I h) fun u s1 ⟨x,H1,I1,rx,a,ex,d,q1⟩=>?_)
  subst ex
  obtain rfl:u=Value.ref a:=rx
  obtain ⟨t1,t2,_⟩:=isD_at I1 d
  refine ⟨t1,t2,?_⟩
  rw [m.trees]
  refine Calls.callWith_builtin rfl (Calls.evalArgs_plain (Calls.spliced_cons (thn (he pins s1 σ H1 _ I1 q1) fun iv s2 ⟨y,H2,I2,ry,ov,g,q2⟩=>Calls.spliced_nil ?_)))
  exact d_get1 hu I2 g ry fun w' s3 I3 rw'=>⟨_,H2,I3,rw',q2⟩
theorem pe_dget2 (hu:X.A.units + 1 < cLine) (ho:PE X o td) (he:PE X e ty) (hf:PE X f tx) (m:M2 X o "get" apos e f cpos):PE X (.Call (.Attribute o "get" apos) [e,f] [] cpos) (tDGet2 td ty tx):=by
  intro pins s σ H Q I h
  refine wpAny_Call_method m.base m.few m.line PySem.F.plainAttrs_dict PySem.F.slot_dict_get PySem.F.type_dict_get (thn (ho pins s σ H _ I h) fun u s1 ⟨x,H1,I1,rx,a,ex,d,q1⟩=>?_)
  subst ex
  obtain rfl:u=Value.ref a:=rx
  obtain ⟨t1,t2,_⟩:=isD_at I1 d
  refine ⟨t1,t2,?_⟩
  rw [m.trees]
  refine Calls.callWith_builtin rfl (Calls.evalArgs_plain (Calls.spliced_cons (thn (he pins s1 σ H1 _ I1 q1) fun iv s2 ⟨y,H2,I2,ry,q2⟩ =>
    Calls.spliced_cons (thn (hf pins s2 σ H2 _ I2 q2) fun fv s3 ⟨z,H3,I3,rz,ov,g,q3⟩=>Calls.spliced_nil ?_))))
  exact d_get2 hu I3 g ry rz fun w' s4 I4 rw'=>⟨_,H3,I4,rw',q3⟩
theorem pe_dpop1 (ho:PE X o td) (he:PE X e ty) (m:M1 X o "pop" apos e cpos):PE X (.Call (.Attribute o "pop" apos) [e] [] cpos) (tDPop1 td ty):=by
  intro pins s σ H Q I h
  refine wpAny_Call_method m.base m.few m.line PySem.F.plainAttrs_dict PySem.F.slot_dict_pop PySem.F.type_dict_pop (thn (ho pins s σ H _ I h) fun u s1 ⟨x,H1,I1,rx,a,ex,d,q1⟩=>?_)
  subst ex
  obtain rfl:u=Value.ref a:=rx
  obtain ⟨t1,t2,_⟩:=isD_at I1 d
  refine ⟨t1,t2,?_⟩
  rw [m.trees]
  refine Calls.callWith_builtin rfl (Calls.evalArgs_plain (Calls.spliced_cons (thn (he pins s1 σ H1 _ I1 q1) fun iv s2 ⟨y,H2,I2,ry,kvs,k,v,ea,ey,l,q2⟩=>Calls.spliced_nil ?_)))
  subst ey
  exact d_pop I2 ea ry l (.inl rfl) fun w' s3 I3 rw'=>⟨v,_,I3,rw',q2⟩
theorem pe_dpop2 (ho:PE X o td) (he:PE X e ty) (hf:PE X f tx) (m:M2 X o "pop" apos e f cpos):PE X (.Call (.Attribute o "pop" apos) [e,f] [] cpos) (tDPop2 td ty tx):=by
  intro pins s σ H Q I h
  refine wpAny_Call_method m.base m.few m.line PySem.F.plainAttrs_dict PySem.F.slot_dict_pop PySem.F.type_dict_pop (thn (ho pins s σ H _ I h) fun u s1 ⟨x,H1,I1,rx,a,ex,d,q1⟩=>?_)
  subst ex
  obtain rfl:u=Value.ref a:=rx
  obtain ⟨t1,t2,_⟩:=isD_at I1 d
  refine ⟨t1,t2,?_⟩
  rw [m.trees]
  refine Calls.callWith_builtin rfl (Calls.evalArgs_plain (Calls.spliced_cons (thn (he pins s1 σ H1 _ I1 q1) fun iv s2 ⟨y,H2,I2,ry,q2⟩ =>
    Calls.spliced_cons (thn (hf pins s2 σ H2 _ I2 q2) fun fv s3 ⟨z,H3,I3,rz,kvs,k,ea,ey,q3,q4⟩=>Calls.spliced_nil ?_))))
  subst ey
  cases l:valV kvs k with
  | some v=>exact d_pop I3 ea ry l (.inr ⟨fv,rfl⟩) fun w' s4 I4 rw'=>⟨v,_,I4,rw',q3 v l⟩
  | none=>exact d_popD I3 ea ry l fun s4 I4=>⟨z,H3,I4,rz,q4 l⟩
end
section
variable {X:Cx} {pins:List (Addr × Obj)} {σ:St} {H:Hp} {s:Shared} {a:Addr} {kvs:List (Key × V)} {A:Around} {E:Value->Shared->Prop}
end
section
variable {X:Cx} {pins:List (Addr × Obj)} {σ:St} {H:Hp} {s:Shared} {a:Addr} {y:V} {u:Value} {A:Around} {E:Value->Shared->Prop}
end
end L2
namespace Att
open PySem PySem.W PySem.Calls PyProof.Rows
section
variable {prog:Program} {w:World} {A:Around} {E:Value->Shared->Prop} {s:Shared} {K:Frag}
end
end Att
namespace L2
open PySem PySem.Spec PyProof.Rows
end L2
namespace L2
open PySem PySem.Spec PyProof.Rows
end L2
namespace L2
open PySem PySem.Spec PyProof.Rows
section
variable {P:Program} {w:World} {K:PySem.W.Frag} {mg:Str->Option Value} {base:Heap}
end
section
variable {X:Cx}
theorem call_lenD:CallR X (.builtin "len") (fun xs H Q=>∃ a kvs,xs=[V.ref a]/\H a=some (.dK kvs)/\Q (.int kvs.length) H):=by
  intro pins s σ H xs us Q I r h
  obtain ⟨a,kvs,rfl,ha,q⟩:=h
  obtain ⟨u,rfl,ru⟩:=vals1 r
  cases ru
  exact d_len I (.inl ha) fun t s' I'=>⟨.int kvs.length,H,I',⟨t,rfl⟩,q⟩
end
section
variable {κ:Type} [DecidableEq κ]
theorem dropK_pos {p:κ × V} {r:List (κ × V)} {k:κ} (e:p.1=k):dropK (p :: r) k=dropK r k:=by
  unfold dropK
  rw [List.filter_cons,if_neg (by simp [e])]
theorem dropK_neg {p:κ × V} {r:List (κ × V)} {k:κ} (e:¬ p.1=k):dropK (p :: r) k=p :: dropK r k:=by
  unfold dropK
  rw [List.filter_cons,if_pos (by simp [e])]
end
end L2
namespace HM
open PySem L2
structure Bx where
  n:Nat
  tag:Str
  parts:List V
  count:Int
  b:Addr
  pl:Addr
def kvB (l:List Bx):List (Key × V):=l.map fun x=>(.inl (x.n:Int),.ref x.b)
theorem kvB_len (l:List Bx):(kvB l).length=l.length:=List.length_map ..
theorem key_ne {a b:Nat} (h:a≠b):¬ (Sum.inl (a:Int):Key)=.inl (b:Int):=fun z=>by injection z with z; lia
theorem kvB_val:∀ (l:List Bx) (n:Nat),valV (kvB l) (.inl (n:Int))=(l.find? fun x=>x.n == n).map fun x=>V.ref x.b
  | [],_=>rfl
  | x :: r,n=>by
    by_cases c:x.n=n
    · subst c
      rw [List.find?_cons_of_pos (by simp)]
      exact valV_pos rfl
    · rw [List.find?_cons_of_neg (by simpa using c)]
      exact (valV_neg (key_ne c)).trans (kvB_val r n)
theorem kvB_put {l:List Bx} {x:Bx} (h:∀ y∈l,y.n≠x.n):putK (kvB l) (.inl (x.n:Int)) (.ref x.b)=kvB (l ++ [x]):=by
  rw [putK_new]
  · unfold kvB
    rw [List.map_append]
    rfl
  · rw [kvB_val,List.find?_eq_none.mpr fun y hy=>by have:=h y hy; simp; lia]
    rfl
theorem kvB_drop (l:List Bx) (n:Nat):dropK (kvB l) (.inl (n:Int))=kvB (l.filter fun x=>x.n != n):=by
  induction l with
  | nil=>rfl
  | cons x r ih =>
    by_cases c:x.n=n
    · subst c
      rw [List.filter_cons_of_neg (by simp)]
      exact (dropK_pos rfl).trans ih
    · rw [List.filter_cons_of_pos (by simpa using c)]
      show dropK (_ :: kvB r) _=_ :: kvB (r.filter fun x=>x.n != n)
      rw [dropK_neg (key_ne c),ih]
theorem kvB_keys (l:List Bx):((kvB l).map fun kv=>kV kv.1)=(l.map fun x=>(x.n:Int)).map V.int:=by
  unfold kvB
  rw [List.map_map,List.map_map]
  rfl
def Rise (l:List Bx):Prop:=l.Pairwise fun x y=>x.n≠y.n
theorem Rise.ints {l:List Bx} (h:Rise l):(l.map fun x=>(x.n:Int)).Pairwise (·≠·):=List.pairwise_map.mpr (h.imp fun h=>by lia)
theorem Rise.filter {l:List Bx} (h:Rise l) (p:Bx->Bool):Rise (l.filter p):=List.Pairwise.filter p h
theorem Rise.snoc {l:List Bx} (h:Rise l) {x:Bx} (g:∀ y∈l,y.n≠x.n):Rise (l ++ [x]):=List.pairwise_append.mpr ⟨h,List.pairwise_singleton _ _,fun a ha b hb=>by rw [List.mem_singleton.mp hb]; exact g a ha⟩
end HM
namespace L2
open PySem PySem.Spec PyProof.Rows
section
variable {X:Cx} {tg:Expr}
end
section
variable {g:TG} {tt:TT} {te:TE} {Q:VK} {σ:St} {H:Hp}
end
theorem old {H:Hp} {p q:Addr} {o u:HO} (hp:H p=none) (h:H q=some u):upd H p o q=some u:=by rw [upd_ne (ne_of_none h hp)]; exact h
theorem Same.new {H H1:Hp} {p:Addr} {o:HO} (s:Same H H1) (hp:H1 p=none):Same H (upd H1 p o):=fun b u q=>old hp (s b u q)
theorem Same.put {H H1:Hp} {p:Addr} {o:HO} (s:Same H H1) (hp:H p=none):Same H (upd H1 p o):=fun b u q=>by rw [upd_ne (ne_of_none q hp)]; exact s b u q
end L2
namespace HM
open PySem L2
def KpS (S:Addr->Prop) (H H':Hp):Prop:=∀ b o,¬ S b->H b=some o->H' b=some o
theorem KpS.refl {S:Addr->Prop} {H:Hp}:KpS S H H:=fun _ _ _ h=>h
theorem KpS.trans {S:Addr->Prop} {H H1 H2:Hp} (a:KpS S H H1) (b:KpS S H1 H2):KpS S H H2:=fun c o n h=>b c o n (a c o n h)
theorem KpS.mono {S S':Addr->Prop} {H H1:Hp} (a:KpS S H H1) (h:∀ b,S b->S' b):KpS S' H H1:=fun c o n q=>a c o (fun z=>n (h c z)) q
theorem KpS.of {S:Addr->Prop} {H H':Hp} (h:Same H H'):KpS S H H':=fun b o _ q=>h b o q
theorem KpS.put {S:Addr->Prop} {H H1:Hp} {a:Addr} {o:HO} (k:KpS S H H1) (h:S a):KpS S H (upd H1 a o):=fun b u n q=>by
  have e:b≠a:=fun z=>n (by rw [z]; exact h)
  rw [upd_ne e]
  exact k b u n q
theorem KpS.putN {S:Addr->Prop} {H H1:Hp} {a:Addr} {o:HO} (k:KpS S H H1) (h:H a=none):KpS S H (upd H1 a o):=fun b u n q=>by
  rw [upd_ne (ne_of_none q h)]
  exact k b u n q
theorem KpS.new {S:Addr->Prop} {H H1:Hp} {a:Addr} {o:HO} (k:KpS S H H1) (h:H1 a=none):KpS S H (upd H1 a o):=fun b u n q=>by
  have z:=k b u n q
  rw [upd_ne (ne_of_none z h)]
  exact z
theorem none_of {H H1:Hp} {a:Addr} (s:Same H H1) (h:H1 a=none):H a=none:=by
  cases e:H a with
  | none=>rfl
  | some o=>have:=s a o e; rw [h] at this; cases this
structure Adr where
  cB:Addr
  cR:Addr
  cH:Addr
def ExtOk (x:List (Str × V)):Prop:=x.length<=2/\∀ n:Str,(n == "waiting")=false->(n == "first")=false->x.lookup n=none
theorem ExtOk.nil:ExtOk []:=⟨Nat.zero_le _,fun _ _ _=>rfl⟩
abbrev WH (A:Adr) (dx:Addr) (sz fresh anew peak:Int) (d r:Addr) (x:List (Str × V)):HO:=.ins A.cH dx (("size",.int sz) :: ("fresh",.int fresh) :: ("anew",.int anew) :: ("peak",.int peak) :: ("by_number",.ref d) :: ("kept_places",.ref r) :: x)
abbrev WB (A:Adr) (dx:Addr) (tag:Str) (pl:Addr) (c:Int):HO:=.ins A.cB dx [("tag",.str tag),("parts",.ref pl),("count",.int c)]
def BoxAt (A:Adr) (H:Hp) (x:Bx):Prop:=∃ dx,H x.b=some (WB A dx x.tag x.pl x.count)/\H x.pl=some (.lst x.parts)
structure Nm where
  sz:Int
  fresh:Nat
  anew:Int
  peak:Int
  kept:List Int
  ext:List (Str × V)
structure HpB (A:Adr) (H:Hp) (hp d nl:Addr) (m:Nm) (L:List Bx):Prop where
  ex:∃ (dx r dr:Addr),H hp=some (WH A dx m.sz m.fresh m.anew m.peak d r m.ext)/\H r=some (.ins A.cR dr [("numbers",.ref nl)])/\H nl=some (.lst (m.kept.map V.int))/\H d=some (.dK (kvB L))
  rise:Rise L
  less:∀ x∈L,x.n < m.fresh
  box:∀ x∈L,BoxAt A H x
  nlp:∀ x∈L,x.pl≠nl
  bnd:∀ x∈L,∀ y∈L,x.b=y.b->x.n=y.n
  xt:ExtOk m.ext
theorem HpB.keptG {A:Adr} {H H':Hp} {hp d nl:Addr} {m:Nm} {L:List Bx} (h:HpB A H hp d nl m L) (k1:∀ o,H hp=some o->H' hp=some o) (k2:∀ o,H d=some o->H' d=some o) (k3:∀ xs,∀ a,(a=nl\/∃ x∈L,a=x.pl)->H a=some (.lst xs)->H' a=some (.lst xs))
    (k4:∀ a C dx fs,C=A.cR\/C=A.cB->H a=some (.ins C dx fs)->H' a=some (.ins C dx fs)):HpB A H' hp d nl m L:=by
  obtain ⟨dx,r,dr,h1,h2,h3,h4⟩:=h.ex
  refine ⟨⟨dx,r,dr,k1 _ h1,k4 _ _ _ _ (.inl rfl) h2,k3 _ _ (.inl rfl) h3,k2 _ h4⟩,h.rise,h.less,fun x hx=>?_,h.nlp,h.bnd,h.xt⟩
  obtain ⟨db,g1,g2⟩:=h.box x hx
  exact ⟨db,k4 _ _ _ _ (.inr rfl) g1,k3 _ _ (.inr ⟨x,hx,rfl⟩) g2⟩
theorem HpB.same {A:Adr} {H H':Hp} {hp d nl:Addr} {m:Nm} {L:List Bx} (h:HpB A H hp d nl m L) (k:Same H H'):HpB A H' hp d nl m L :=
  h.keptG (fun o e=>k _ _ e) (fun o e=>k _ _ e) (fun xs a _ e=>k _ _ e) (fun a C dx fs _ e=>k _ _ e)
theorem HpB.list {A:Adr} {H:Hp} {hp d nl l:Addr} {m:Nm} {L:List Bx} {xs ys:List V} (h:HpB A H hp d nl m L) (hl:H l=some (.lst xs)) (n1:l≠nl) (n2:∀ x∈L,l≠x.pl):HpB A (upd H l (.lst ys)) hp d nl m L:=by
  obtain ⟨dx,r,dr,h1,h2,h3,h4⟩:=h.ex
  refine h.keptG (fun o e=>?_) (fun o e=>?_) (fun zs a c e=>?_) (fun a C dx fs c e=>?_)
  · rw [upd_ne (ne_of h1 hl (by intro z; cases z))]; exact e
  · rw [upd_ne (ne_of h4 hl (by intro z; cases z))]; exact e
  · have na:a≠l:=fun z=>c.elim (fun c=>n1 (z.symm.trans c)) (fun ⟨x,hx,c⟩=>n2 x hx (z.symm.trans c))
    rw [upd_ne na]
    exact e
  · rw [upd_ne (ne_of e hl (by intro z; cases z))]; exact e
theorem HpB.fresh {A:Adr} {H:Hp} {hp d nl l:Addr} {m:Nm} {L:List Bx} (h:HpB A H hp d nl m L) (hl:H l=none):l≠nl/\∀ x∈L,l≠x.pl:=by
  obtain ⟨dx,r,dr,h1,h2,h3,h4⟩:=h.ex
  refine ⟨(fun z=>by rw [z,h3] at hl; cases hl),fun x hx z=>?_⟩
  obtain ⟨db,g1,g2⟩:=h.box x hx
  rw [<- z,hl] at g2
  cases g2
def setC (L:List Bx) (n:Nat) (c:Int):List Bx:=L.map fun y=>if y.n=n then { y with count:=c } else y
theorem kvB_setC (L:List Bx) (n:Nat) (c:Int):kvB (setC L n c)=kvB L:=by
  unfold kvB setC
  rw [List.map_map]
  refine List.map_congr_left fun x _=>?_
  show (Sum.inl (((if x.n=n then { x with count:=c } else x:Bx).n:Nat):Int),V.ref (if x.n=n then { x with count:=c } else x:Bx).b)=_
  split <;> rfl
theorem setC_mem {L:List Bx} {n:Nat} {c:Int} {y:Bx} (h:y∈setC L n c):∃ x∈L,y.n=x.n/\y.b=x.b/\y.pl=x.pl/\y.tag=x.tag/\y.parts=x.parts/\y.count=if x.n=n then c else x.count:=by
  obtain ⟨x,hx,rfl⟩:=List.mem_map.mp h
  refine ⟨x,hx,?_⟩
  by_cases z:x.n=n <;> simp [z]
theorem rise_setC {L:List Bx} {n:Nat} {c:Int} (h:Rise L):Rise (setC L n c):=by
  refine List.pairwise_map.mpr (h.imp fun {x y} g=>?_)
  have e:∀ z:Bx,(if z.n=n then { z with count:=c } else z:Bx).n=z.n:=fun z=>by split <;> rfl
  rw [e,e]
  exact g
theorem HpB.setCount {A:Adr} {H:Hp} {hp d nl:Addr} {m:Nm} {L:List Bx} {x:Bx} {dx:Addr} {c:Int} (h:HpB A H hp d nl m L) (hx:x∈L) (hb:H x.b=some (WB A dx x.tag x.pl x.count)) (nB:A.cB≠A.cH) (nR:A.cB≠A.cR):HpB A (upd H x.b (WB A dx x.tag x.pl c)) hp d nl m (setC L x.n c):=by
  obtain ⟨dh,r,dr,h1,h2,h3,h4⟩:=h.ex
  have u:∀ {a:Addr} {o:HO},H a=some o->(∀ dy fs,o≠.ins A.cB dy fs)->upd H x.b (WB A dx x.tag x.pl c) a=some o:=fun e z=>by
    rw [upd_ne (ne_of e hb (z _ _))]
    exact e
  refine ⟨⟨dh,r,dr,u h1 (fun _ _ z=>by injection z with z; exact nB z.symm),u h2 (fun _ _ z=>by injection z with z; exact nR z.symm),u h3 (fun _ _ z=>nomatch z),by rw [kvB_setC]; exact u h4 (fun _ _ z=>nomatch z)⟩,rise_setC h.rise,fun y hy=>?_,fun y hy=>?_,fun y hy=>?_,fun y hy y' hy' e=>?_,h.xt⟩
  · obtain ⟨z,hz,e1,_⟩:=setC_mem hy
    rw [e1]
    exact h.less z hz
  · obtain ⟨z,hz,e1,e2,e3,e4,e5,e6⟩:=setC_mem hy
    obtain ⟨dz,g1,g2⟩:=h.box z hz
    by_cases en:z.n=x.n
    · by_cases eb:z.b=x.b
      · rw [eb] at g1
        rw [hb] at g1
        injection g1 with g1
        injection g1 with _ _ g1
        injection g1 with ga g1
        injection g1 with gb g1
        injection ga with _ ga
        injection ga with ga
        injection gb with _ gb
        injection gb with gb
        refine ⟨dx,?_,by rw [e3,e5]; exact u g2 (fun _ _ z=>nomatch z)⟩
        rw [e2,eb,upd_same,e3,e4,e6,if_pos en,ga,gb]
      · exfalso
        have:z=x:=by
          obtain ⟨i,hi,rfl⟩:=List.getElem_of_mem hz
          obtain ⟨j,hj,rfl⟩:=List.getElem_of_mem hx
          rcases Nat.lt_trichotomy i j with q | q | q
          · have:=List.pairwise_iff_getElem.mp h.rise i j hi hj q
            lia
          · subst q; rfl
          · have:=List.pairwise_iff_getElem.mp h.rise j i hj hi q
            lia
        exact eb (by rw [this])
    · have nb:z.b≠x.b:=fun q=>en (h.bnd z hz x hx q)
      refine ⟨dz,?_,by rw [e3,e5]; exact u g2 (fun _ _ z=>nomatch z)⟩
      rw [e2,upd_ne nb,e3,e4,e6,if_neg en]
      exact g1
  · obtain ⟨z,hz,_,_,e3,_⟩:=setC_mem hy
    rw [e3]
    exact h.nlp z hz
  · obtain ⟨z,hz,e1,e2,_⟩:=setC_mem hy
    obtain ⟨z',hz',e1',e2',_⟩:=setC_mem hy'
    rw [e1,e1']
    exact h.bnd z hz z' hz' (by rw [<- e2,<- e2',e])
theorem HpB.drop {A:Adr} {H:Hp} {hp d nl:Addr} {m:Nm} {L:List Bx} (h:HpB A H hp d nl m L) (n:Nat):HpB A (upd H d (.dK (dropK (kvB L) (.inl (n:Int))))) hp d nl m (L.filter fun x=>x.n != n):=by
  obtain ⟨dh,r,dr,h1,h2,h3,h4⟩:=h.ex
  have u:∀ {a:Addr} {o:HO},H a=some o->(∀ kvs,o≠.dK kvs)->upd H d (.dK (dropK (kvB L) (.inl (n:Int)))) a=some o:=fun e z=>by
    rw [upd_ne (ne_of e h4 (z _))]
    exact e
  have mem:∀ {x:Bx},x∈(L.filter fun x=>x.n != n)->x∈L:=fun h=>(List.mem_filter.mp h).1
  refine ⟨⟨dh,r,dr,u h1 (fun _ z=>nomatch z),u h2 (fun _ z=>nomatch z),u h3 (fun _ z=>nomatch z),by rw [upd_same,kvB_drop]⟩,h.rise.filter _,fun x hx=>h.less x (mem hx),fun x hx=>?_,fun x hx=>h.nlp x (mem hx),fun x hx y hy=>h.bnd x (mem hx) y (mem hy),h.xt⟩
  obtain ⟨dz,g1,g2⟩:=h.box x (mem hx)
  exact ⟨dz,u g1 (fun _ z=>nomatch z),u g2 (fun _ z=>nomatch z)⟩
end HM
namespace L2
open PySem PySem.Spec PyProof.Rows
theorem eqV_self {x:V} (h:flatV x=true):eqV x x=true:=by
  cases x <;> first
    | rfl
    | (show ((_:Bool) == _)=true; simp)
    | (show ((_:Int) == _)=true; simp)
    | (show ((_:Str) == _)=true; simp)
    | (cases h)
section
variable {X:Cx}
theorem eq_items {A:Around} {s:Shared} {xs:List V} {us us':List Value} (r:Vals xs us) (r':Vals xs us') (f:xs.all flatV=true) (j:Nat) (h1:j < us.toArray.size) (h2:j < us'.toArray.size):SeqAt.EqAt A s us.toArray[j] us'.toArray[j] true:=by
  have l1:=r.length
  have l2:=r'.length
  simp at h1 h2
  have hx:xs[j]?=some (xs[j]'(by lia)):=List.getElem?_eq_getElem _
  obtain ⟨u,e1,rx⟩:=r.get hx
  obtain ⟨u',e2,rx'⟩:=r'.get hx
  have g1:us.toArray[j]=u:=by
    have:=List.getElem?_eq_some_iff.mp e1
    simpa using this.2
  have g2:us'.toArray[j]=u':=by
    have:=List.getElem?_eq_some_iff.mp e2
    simpa using this.2
  rw [g1,g2]
  have fx:flatV (xs[j]'(by lia))=true:=List.all_eq_true.mp f _ (List.getElem_mem _)
  have k:=eqAt_V (A:=A) (s:=s) rx rx' fx fx
  rw [eqV_self fx] at k
  exact k
def rSameL (K:PySem.W.Frag) (b:Bool):R2:=fun x y H Q=>∃ p p' xs,x=.ref p/\y=.ref p'/\SqL K H p xs/\SqL K H p' xs/\xs.all flatV=true/\Q (.bl b) H
theorem op_neS (hu:X.A.units < cLine):OpR X (compareOp .NotEq) (rSameL X.K false):=by
  intro pins s σ H x y v u Q I rx ry h
  obtain ⟨p,p',xs,rfl,rfl,h1,h2,f,q⟩:=h
  cases rx
  cases ry
  obtain ⟨its,r,pl,_⟩:=I.list h1
  obtain ⟨its',r',pl',_⟩:=I.list h2
  have l1:=r.length
  have l2:=r'.length
  refine SeqAt.RcNeAt.lists (e:=fun _=>true) pl.isList pl'.isList (by simp; lia) hu (fun j a b=>eq_items r r' f j a b) _ _ _ _ ?_
  rw [show ((List.range its.toArray.size).all fun _=>true)=true from List.all_eq_true.mpr fun _ _=>rfl]
  exact ⟨.bl false,H,I,rfl,q⟩
theorem jo_neS {k:Nat} (hr:Room k X.A):jOp X (compareOp .NotEq) (rSameL X.K false):=⟨op_neS hr.units0⟩
theorem jm_clear:jMt X "list.clear" rClear:=⟨mt_clear⟩
end
section
variable {X:Cx}
def rInsert:V->List V->Hp->VK->Prop:=fun x vs H Q=>∃ l xs k kk y,x=.ref l/\vs=[.int kk,y]/\kk=((k:Nat):Int)/\H l=some (.lst xs)/\xs.length < sizeLine/\k<=xs.length/\Q .non (upd H l (.lst (xs.take k ++ y :: xs.drop k)))
theorem mt_insert:MtM X "list.insert" rInsert:=by
  intro pins s σ H x vs v us Q I rx rv h
  obtain ⟨l,xs,k,kk,y,rfl,rfl,hkk,hH,hz,hk,q⟩:=h
  cases rx
  obtain ⟨u,u',rfl,ru,ru'⟩:=rv.two
  obtain ⟨t,rfl⟩:=ru
  obtain ⟨z,its,n,r,hl,e⟩:=I.lstM hH
  have sl:sizeLine=16777216:=by unfold sizeLine; rfl
  have hz2:its.toArray.size<=sizeLine:=by rw [List.size_toArray]; lia
  have hf:Builtin.List.listFitsIndex kk=true:=by
    unfold Builtin.List.listFitsIndex
    simp
    lia
  have h0:¬(!Builtin.List.listFitsIndex kk)=true:=by rw [hf]; decide
  have g:=PySem.AutoSeq1.list_insert_list_int_val_1 l its.toArray n kk t u' h0 hz2
  refine call_meets F.slot_list_insert ⟨_,e,rfl⟩ F.entry_list_insert (F.args_list_insert_3 _ _ _) g ⟨e,?_⟩
  refine ⟨.non,_,I.lset (its':=its.take k ++ u' :: its.drop k) hH e ?_ ((r.take k).append (.cons ru' (r.drop k))) ?_,rfl,q⟩
  · have e1:(if kk < 0 then (kk + ((its.toArray.size:Nat):Int)).toNat else min kk.toNat its.toArray.size)=k:=by
      rw [if_neg (by lia),List.size_toArray]
      lia
    show (its.toArray.extract 0 (if kk < 0 then (kk + ((its.toArray.size:Nat):Int)).toNat else min kk.toNat its.toArray.size)).push u' ++ its.toArray.extract (if kk < 0 then (kk + ((its.toArray.size:Nat):Int)).toNat else min kk.toNat its.toArray.size)=_
    rw [e1]
    apply Array.toList_inj.mp
    simp [Array.toList_extract,List.extract,List.take_of_length_le]
  · rw [List.length_append,List.length_cons,List.length_take,List.length_drop]
    lia
theorem jm_insert:jMt X "list.insert" rInsert:=⟨mt_insert⟩
end
end L2
namespace L2
open PySem PySem.Spec PyProof.Rows
section
variable {X:Cx} {pos:Pos}
theorem je_dnewK:jE X (.Dict [] [] pos) tDNewK:=⟨pe_dnewK⟩
end
theorem SqK.l {K:PySem.W.Frag} {H:Hp} {a:Addr} {xs:List V} (h:H a=some (.lst xs)):SqK true K H a xs:=SqL.of h
theorem SqK.t {K:PySem.W.Frag} {H:Hp} {a:Addr} {xs:List V} (h:H a=some (.tup xs)):SqK false K H a xs:=SqT.of h
end L2
namespace L2
open PySem PySem.Spec PyProof.Rows
section
variable {X:Cx} {pins:List (Addr × Obj)} {σ:St} {H:Hp} {s:Shared} {h':Heap}
end
theorem kV_of {P:Program} {w:World} {k:Key} {u:Value} (h:(mixKind P w).is k u=true):RelV (kV k) u:=by
  rw [mixKind_is] at h
  rcases keyIs_shape h with ⟨i,t,rfl,rfl⟩ | ⟨x,t,rfl,rfl⟩
  · exact ⟨t,rfl⟩
  · exact ⟨t,rfl⟩
section
variable {X:Cx}
theorem js_dput {o i value:Expr} {td ty tv:TE} {pos pos':Pos} {k:Nat} (hr:Room k X.A) (ho:jE X o td) (hi:jE X i ty) (hv:jE X value tv) (hs:swapsWith value (some (.Subscript o i pos')) pos.line X.env=pure false:=by rfl) :
    jS X (.Assign [.Subscript o i pos'] value pos) (sDPut td ty tv):=⟨ps_dput (by have:=hr.units; lia) ho.out hi.out hv.out hs⟩
theorem KV.get {kvs:List (Key × V)} {ws:List (Key × Value)} (r:KV kvs ws) {j:Nat} {k:Key} {x:Value} (h:ws[j]?=some (k,x)):∃ y,kvs[j]?=some (k,y)/\RelV y x:=by
  unfold KV at r
  induction r generalizing j with
  | nil=>simp at h
  | @cons p q ps qs hh t ih =>
    cases j with
    | zero =>
      simp at h
      subst h
      obtain ⟨p1,p2⟩:=p
      have e:p1=k:=hh.1
      subst e
      exact ⟨p2,rfl,hh.2⟩
    | succ j =>
      obtain ⟨y,h1,h2⟩:=ih (j:=j) (by simpa using h)
      exact ⟨y,by simpa using h1,h2⟩
end
end L2
namespace L2
open PySem PySem.Spec PyProof.Rows
theorem vals_all:∀ {xs:List V} {us:List Value},xs.length=us.length->(∀ (j:Nat) x u,xs[j]?=some x->us[j]?=some u->RelV x u)->Vals xs us
  | [],[],_,_=>.nil
  | [],_ :: _,h,_=>by simp at h
  | _ :: _,[],h,_=>by simp at h
  | x :: xs,u :: us,h,g=>.cons (g 0 x u rfl rfl) (vals_all (by simpa using h) fun j a b h1 h2=>g (j + 1) a b (by simpa using h1) (by simpa using h2))
section
variable {X:Cx}
end
end L2
namespace L2
open PySem PySem.Spec PyProof.Rows
def BMn (mg:Str->Option Value) (h:Heap):Prop:=∃ bm ob,mg "__builtins__"=some (.ref bm)/\bm≠builtinsNs/\h.get? bm=some ob/\ob.cls=.type "module"/\ob.dict=some builtinsNs/\ob.data=.plain
theorem BMn.at {mg:Str->Option Value} {h:Heap} {P:Addr} {ps:Array Value} (B:BMn mg h) (g:h.Ns mainGlobals mg) (hP:h.get? P=some { cls:=.none,data:=.fields ps }):h.BuiltinsAt mg P/\mainGlobals≠P:=by
  obtain ⟨bm,ob,b1,b2,b3,b4,b5,b6⟩:=B
  refine ⟨⟨bm,ob,b1,b2,fun q=>?_,fun q=>?_,b3,b4,b5,b6⟩,fun q=>?_⟩
  · obtain ⟨o,es,ep,e,hd,_⟩:=g
    rw [q,e] at b3; cases b3; rw [hd] at b6; cases b6
  · rw [q,hP] at b3; cases b3; cases b4
  · obtain ⟨o,es,ep,e,hd,_⟩:=g
    rw [q,hP] at e; cases e; cases hd
theorem BMn.keeps {mg:Str->Option Value} {h h':Heap} (B:BMn mg h) (k:∀ b o,h.get? b=some o->h'.get? b=some o):BMn mg h' :=
  let ⟨bm,ob,b1,b2,b3,r⟩:=B; ⟨bm,ob,b1,b2,k _ _ b3,r⟩
end L2
namespace L2
open PySem PySem.Spec PyProof.Rows
structure CaD (P:Program) (w:World) (K:PySem.W.Frag) (mg:Str->Option Value) (base:Heap) (CX:CXT) (k:Nat) (x:Str) (ps:List Str) (dvs:List V) (sp:Sp):Prop where
  ex:∃ f fd,FnOk P w K mg base CX k f fd ps sp/\Binds K fd ps []/\(∃ ds,Binds K fd ps ds/\Vals dvs ds)/\PySem.W.keepIn K (.ref f)=true/\mg x=some (.ref f)
section
variable {X:Cx} {CX:CXT} {k:Nat} {x:Str} {ps:List Str} {sp:Sp} {dvs:List V} {E:XK} {p pos:Pos} {e:Expr} {es:List Expr} {t:TA}
end
def DdIn (K:PySem.W.Frag) (x:Str) (st:Stmt) (c D:Addr):Prop:=∃ f,PySem.W.nsIn K mainGlobals x=some (some (.ref f))/\∃ (oc:Value) (od:Option Addr) (kV doc pm:Value) (an:Option Addr) (ct:Value) (osl:Array (Option Value)),K.lookup f=some ⟨oc,od,.func (PySem.W.fnOf x x (defArgs st) (defBody st) (defScope st) (.ref D) kV doc pm an (.ref c) ct),osl⟩/\PySem.W.codeIn K (.ref c) x=true/\PySem.W.keepIn K (.ref f)=true
theorem DdIn.mk {K:PySem.W.Frag} {x:Str} {st:Stmt} {f c D:Addr} {oc:Value} {od:Option Addr} {kV doc pm:Value} {an:Option Addr} {ct:Value} {osl:Array (Option Value)} (a:PySem.W.nsIn K mainGlobals x=some (some (.ref f))) (l:K.lookup f=some ⟨oc,od,.func (PySem.W.fnOf x x (defArgs st) (defBody st) (defScope st) (.ref D) kV doc pm an (.ref c) ct),osl⟩) (cc:PySem.W.codeIn K (.ref c) x=true) (k:PySem.W.keepIn K (.ref f)=true):DdIn K x st c D:=⟨f,a,oc,od,kV,doc,pm,an,ct,osl,l,cc,k⟩
structure FunD (K:PySem.W.Frag) (x:Str) (st:Stmt) (c D f:Addr) (fd:FuncData):Prop where
  ex:∃ (oc:Value) (od:Option Addr) (kV doc pm:Value) (an:Option Addr) (ct:Value) (osl:Array (Option Value)),fd=PySem.W.fnOf x x (defArgs st) (defBody st) (defScope st) (.ref D) kV doc pm an (.ref c) ct/\K.lookup f=some ⟨oc,od,.func fd,osl⟩/\PySem.W.codeIn K (.ref c) x=true
theorem FunD.by {P:Program} {w:World} {K:PySem.W.Frag} {mg:Str->Option Value} {base:Heap} {x:Str} {st:Stmt} {f c D:Addr} {fd:FuncData} {N ps:List Str} {k:Nat} {sp:Sp} (F:FunD K x st c D f fd) (S:FnScope N ps (defScope st)) (len:∀ vs H Q E,sp vs H Q E->vs.length=ps.length)
    (hbody:∀ (A:Around) (outer:List Env) (s:Shared) (H:Hp) (vs:List V) (Q:VK) (E:XK),Room k (A.deeper (envOfC x (defScope st) s.heap.objs.size f (.ref c)))->sp vs H Q E ->
      ∃ t,jSs (cxOf CX0 P w K mg base N x (defScope st) f (.ref c) A outer s H E).nox (defBody st) t/\t { nx:=fun _ H'=>Q .non H',rt:=Q } (start N vs) H):FnOk P w K mg base CX0 (k + 1) f fd ps sp:=by
  obtain ⟨oc,od,kV,doc,pm,an,ct,osl,rfl,lk,hcd⟩:=F.ex
  refine fn_of lk hcd S len fun A outer s H vs Q E hr hsp=>?_
  obtain ⟨t,h,q⟩:=hbody A outer s H vs Q E hr hsp
  exact ⟨t,h.out.nox,q⟩
def DtIn (K:PySem.W.Frag) (D:Addr) (i:Int):Prop:=∃ (d:Option Addr) (t:Tok) (n:Nat) (sl:Array (Option Value)),K.lookup D=some ⟨.type "tuple",d,.seq #[.int i t] n,sl⟩
theorem DtIn.mk {K:PySem.W.Frag} {D:Addr} {i:Int} {d:Option Addr} {t:Tok} {n:Nat} {sl:Array (Option Value)} (a:K.lookup D=some ⟨.type "tuple",d,.seq #[.int i t] n,sl⟩):DtIn K D i:=⟨d,t,n,sl,a⟩
theorem DdIn.ca {P:Program} {w:World} {K:PySem.W.Frag} {mg:Str->Option Value} {base h:Heap} {k:Nat} {x:Str} {st:Stmt} {c D:Addr} {ps:List Str} {dvs:List V} {sp:Sp} (X:K.In h) (G:h.Ns mainGlobals mg) (d:DdIn K x st c D)
    (hb:∀ (kV doc pm:Value) (an:Option Addr) (ct:Value),Binds K (PySem.W.fnOf x x (defArgs st) (defBody st) (defScope st) (.ref D) kV doc pm an (.ref c) ct) ps [])
    (hd:∀ (kV doc pm:Value) (an:Option Addr) (ct:Value),∃ ds,Binds K (PySem.W.fnOf x x (defArgs st) (defBody st) (defScope st) (.ref D) kV doc pm an (.ref c) ct) ps ds/\Vals dvs ds)
    (ok:∀ f fd,FunD K x st c D f fd->FnOk P w K mg base CX0 k f fd ps sp):CaD P w K mg base CX0 k x ps dvs sp:=by
  obtain ⟨f,a,oc,od,kV,doc,pm,an,ct,osl,l,cc,kp⟩:=d
  exact ⟨f,_,ok f _ ⟨oc,od,kV,doc,pm,an,ct,osl,rfl,l,cc⟩,hb kV doc pm an ct,hd kV doc pm an ct,kp,PySem.W.mg_of X G a⟩
end L2
namespace L2
open PySem PySem.Spec PyProof.Rows
section
variable {prog:Program} {w:World} {A:Around} {E:Value->Shared->Prop}
theorem isi_nested_tup {P:Shared->Prop} (hP:∀ s tk,P s->P { s with toks:=tk }) {x:Value} {Tx:String} {tp:Addr} {cs:List Value} {vs:List Bool} {tk:Tok} {s:Shared} {Q:Fin->Shared->Prop} {od:Option Addr} {n:Nat} {osl:Array (Option Value)}
    (hx:s.TypeIs x Tx) (htp:s.heap.get? tp=some ⟨.type "tuple",od,.seq cs.toArray n,osl⟩) (ha:AnswersAll P x cs vs) (hs:P s)
    (hq:∀ tk',Q (.done (.ret (.bool (vs.any id)))) { s with toks:=tk' }):wpAny (model prog w) A (Builtin.«isinstance.nested» ⟨[x,.ref tp,.int 0 tk],[]⟩) Q E s:=by
  obtain ⟨h,g,d,t,os⟩:=s
  have hT2:(⟨h,g,d,t,os⟩:Shared).TypeIs (.ref tp) "tuple":=⟨_,htp,rfl⟩
  have f1:=F.isi_sub_tuple
  repeat (any_goals (first | assumption | wp_step))
  refine wpAny_arrayLoop ?_
  simp only [Option.getD_some,List.toList_toArray]
  refine isinstance_items (dep:=0) hP cs vs _ _ ha hs fun tk'=>?_
  cases hv:vs.any id with
  | true =>
    simp only [if_true]
    repeat (any_goals (first | assumption | wp_step))
    exact hv ▸ hq tk'
  | false =>
    simp only [Bool.false_eq_true,if_false]
    repeat (any_goals (first | assumption | wp_step))
    exact hv ▸ hq tk'
theorem isi_tup {x:Value} {Tx:String} {tp:Addr} {cs:List Value} {vs:List Bool} (ha:AnswersAll (fun s=>s.TypeIs x Tx) x cs vs) :
    Meets (Builtin.«isinstance» ⟨[x,.ref tp],[]⟩)
      (fun _ R s=>s.TypeIs x Tx/\IsTup s.heap tp cs.toArray/\∀ tk,R (.ok (.ret (.bool (vs.any id)))) { s with toks:=tk }) :=
  fun _ _ _ _ s hs=>by
    obtain ⟨h1,⟨o,e,hc,n,hd⟩,h3⟩:=hs
    obtain ⟨c,od,dat,sl⟩:=o
    cases hc
    cases hd
    exact isinstance_outer (isi_nested_tup (fun _ tk h=>h.toks tk) h1 e ha h1 h3) (Shared.TypeIs.not_mainsLoader h1)
end
inductive TyN (H:Hp):V->Bool->Prop where
  | int (i:Int):TyN H (.int i) false
  | str (z:Str):TyN H (.str z) false
  | bl (b:Bool):TyN H (.bl b) false
  | non:TyN H .non false
  | lst {a:Addr} {xs:List V} (e:H a=some (.lst xs)):TyN H (.ref a) true
  | tup {a:Addr} {xs:List V} (e:H a=some (.tup xs)):TyN H (.ref a) true
section
variable {X:Cx}
def rIsLT:List V->Hp->VK->Prop:=fun xs H Q=>∃ x tp b,xs=[x,.ref tp]/\H tp=some (.tup [.ty "list",.ty "tuple"])/\TyN H x b/\Q (.bl b) H
theorem call_isLT:CallR X (.builtin "isinstance") rIsLT:=by
  intro pins s σ H xs us Q I r h
  obtain ⟨x,tp,b,rfl,ht,ty,q⟩:=h
  obtain ⟨u,u',rfl,rx,ru⟩:=vals2 r
  cases ru
  obtain ⟨z,its,rt,pt⟩:=I.hok tp _ ht
  obtain ⟨v1,v2,rfl,r1,r2⟩:=vals2 rt
  cases r1
  cases r2
  have go:∀ {Tx:String} {b1 b2:Bool},Answers (fun s=>s.TypeIs u Tx) u (.type "list") b1->Answers (fun s=>s.TypeIs u Tx) u (.type "tuple") b2->s.TypeIs u Tx->(b1 || b2)=b ->
      wpAny (model X.prog X.w) X.A (call (.builtin "isinstance") [u,.ref tp]) (EP X pins σ Q) X.xe s:=by
    intro Tx b1 b2 a1 a2 hx e
    refine call_isinstance (isi_tup (cs:=[.type "list",.type "tuple"]) (vs:=[b1,b2]) (show AnswersAll _ _ (_ :: _ :: []) (_ :: _ :: []) from ⟨a1,a2,trivial⟩)) ⟨hx,pt.is,fun tk=>?_⟩
    refine ⟨.bl b,H,I.tok tk,?_,q⟩
    rw [<- e]
    show Value.bool _=Value.bool _
    cases b1 <;> cases b2 <;> rfl
  cases ty with
  | int i =>
    obtain ⟨t,rfl⟩:=rx
    exact go (Answers.of_false_int (by decide +kernel) F.isi_meta_list F.sub_int_list) (Answers.of_false_int (by decide +kernel) F.isi_meta_tuple F.sub_int_tuple) rfl rfl
  | str z =>
    obtain ⟨t,rfl⟩:=rx
    exact go (Answers.of_false_str (by decide +kernel) F.isi_meta_list F.sub_str_list) (Answers.of_false_str (by decide +kernel) F.isi_meta_tuple F.sub_str_tuple) rfl rfl
  | non =>
    cases rx
    exact go (Answers.of_false_none (by decide +kernel) F.isi_meta_list F.sub_NoneType_list) (Answers.of_false_none (by decide +kernel) F.isi_meta_tuple F.sub_NoneType_tuple) rfl rfl
  | bl z =>
    cases rx
    exact go (Answers.of_false_bool (by decide +kernel) F.isi_meta_list F.sub_bool_list) (Answers.of_false_bool (by decide +kernel) F.isi_meta_tuple F.sub_bool_tuple) rfl rfl
  | lst e =>
    cases rx
    obtain ⟨_,its,n,_,p⟩:=I.hok _ _ e
    exact go (Answers.of_true F.isi_meta_list F.sub_list_list) (Answers.of_false_list (by decide +kernel) F.isi_meta_tuple F.sub_list_tuple) ⟨_,p,rfl⟩ rfl
  | tup e =>
    cases rx
    obtain ⟨_,its,_,o,p,hc,_⟩:=I.hok _ _ e
    exact go (Answers.of_false_tuple (by decide +kernel) F.isi_meta_list F.sub_tuple_list) (Answers.of_true F.isi_meta_tuple F.sub_tuple_tuple) ⟨_,p,hc⟩ rfl
theorem jc_isLT:jCa X (.builtin "isinstance") rIsLT:=⟨call_isLT⟩
theorem ints_of:∀ {ns:List Int} {us:List Value},Vals (ns.map V.int) us->IntsAre us ns
  | [],_,.nil=>.nil
  | n :: ns,_,.cons ⟨t,e⟩ r=>by subst e; exact .cons n t (ints_of r)
def rSortD:List V->Hp->VK->Prop:=fun xs H Q=>∃ d kvs,∃ ns:List Int,xs=[.ref d]/\H d=some (.dK kvs)/\(kvs.map fun kv=>kV kv.1)=ns.map V.int/\ns.length < 64/\∀ l (ns':List Int),H l=none->ns'.Perm ns->ns'.Pairwise (·<=·)->Q (.ref l) (upd H l (.lst (ns'.map V.int)))
theorem call_sortD (hc:X.calm=true):CallR X (.builtin "sorted") rSortD:=by
  intro pins s σ H xs us Q I r h
  obtain ⟨d,kvs,ns,rfl,hd,hk0,h64,q⟩:=h
  obtain ⟨u,rfl,rx⟩:=vals1 r
  cases rx
  obtain ⟨z,hs,ws,rel,dd⟩:=dk_of I.hok hd
  obtain ⟨ep,da⟩:=dd.dictAt
  have wl:=rel.length
  have nl:kvs.length=ns.length:=by
    have e:=congrArg List.length hk0
    rw [List.length_map,List.length_map] at e
    exact e
  refine Calls.call_function_entry kind_sorted plain_sorted entry_sorted (args_sorted1 _) ?_
  unfold Builtin.«sorted»
  refine wpAny_bind (m:=checkCount "sorted" 1 1 _) (wpAny_pure ?_)
  refine wpAny_bind (PySem.W.kdu_collect (A:=X.A.in1) (PySem.W.kdl_dict (knd:=mixKind X.prog X.w) (kvs:=ws) (ep:=ep) hs) (I.ok.hd hc) da (by lia) fun h' tk acc hk hacc=>?_)
  obtain ⟨a1,a2⟩:=hacc
  have al:acc.toList.length=acc.size:=Array.length_toList
  have hI:IntsAre acc.toList ns:=ints_of (by
    rw [<- hk0]
    refine vals_all (by rw [List.length_map,al]; lia) fun j x v h1 h2=>?_
    obtain ⟨k,y,e1,e2⟩:=a2 j v (by rw [<- Array.getElem?_toList]; exact h2)
    obtain ⟨y',e3,_⟩:=rel.get e1
    rw [List.getElem?_map,e3] at h1
    cases h1
    exact kV_of e2)
  refine wpAny_bind (wpAny_newList ?_ (by lia))
  have hoL:(h'.push (seqObj "list" acc.toList.toArray 0)).get? h'.objs.size=some (seqObj "list" acc.toList.toArray 0):=Heap.get?_push_size _ rfl
  have I':Inv X pins σ H { s with heap:=h',toks:=tk }:=I.un (Un.kept hk) (I.hok.kept hk)
  refine wpAny_bind (wpAny_holding (wpAny_call_entry slot_list_sort ⟨_,hoL,rfl⟩ entry_list_sort (list_sort_tree hoL hI (by lia) fun out ns' b1 b2 b3=>⟨_,rfl,?_⟩) (args_list_sort _)))
  refine wpAny_pure ⟨_,rfl,?_⟩
  obtain ⟨e,he⟩:=sortedHeap_at (out:=out) hoL
  have b4:=b2.length_eq
  refine ⟨.ref h'.objs.size,_,I'.laid (t':=tk) (a:=h'.objs.size) (o:=.lst (ns'.map V.int)) (fun b u hb'=>?_) (Nat.le_refl _) ?_,rfl,q _ ns' (I'.hok.fresh (Nat.le_refl _)) b2 b3⟩
  · rw [sortedHeap_old (Nat.ne_of_lt (Heap.lt_size hb')) (by rw [size_push']; exact Nat.lt_succ_of_lt (Heap.lt_size hb')),Heap.get?_push_ne _ _ _ (Nat.ne_of_lt (Heap.lt_size hb'))]
    exact hb'
  · refine ⟨by rw [List.length_map]; have:=line0; lia,out.toList,e,vals_ints b1,?_⟩
    rw [Array.toArray_toList]
    exact he
theorem jc_sortD (hc:X.calm=true):jCa X (.builtin "sorted") rSortD:=⟨call_sortD hc⟩
variable {CX:CXT} {k:Nat} {C:Addr} {ps:List Str} {sp:Sp} {E:XK} {x m:Str} {p pos apos:Pos} {e o:Expr} {es:List Expr} {ta:TE} {t:TA}
theorem je_ma0 (F:Ma X.prog X.w X.K X.mg X.base CX k x C ps sp) (hr:Room (k + 1) X.A) (hg:Gl X x) (hx:Passes CX X E) (hdb:(x == ("__debug__":Str))=false:=by decide) :
    jE X (.Call (.Name x p) [] [] pos) (tMake C sp [] E tNil):=let ⟨_,_,M,G,b,mg⟩:=F.ex; ⟨pe_make0 M G hr hg mg b .nil hx hdb⟩
structure MeD (P:Program) (w:World) (K:PySem.W.Frag) (mg:Str->Option Value) (base:Heap) (CX:CXT) (k:Nat) (C:Addr) (m:Str) (ps:List Str) (dvs:List V) (sp:Sp):Prop where
  ex:∃ f fd,FnOk P w K mg base CX k f fd ps sp/\Binds K fd ps []/\(∃ ds,Binds K fd ps ds/\Vals dvs ds)/\Meth K C m f
theorem je_dget {o i:Expr} {td ty:TE} {pos:Pos} (hr:Room k X.A) (ho:jE X o td) (hi:jE X i ty) (hs:NoSl i:=by intro _ _; rfl):jE X (.Subscript o i pos) (tDGet td ty):=⟨pe_dget (hu_of hr) ho.out hi.out hs⟩
theorem je_dget2 {o e f:Expr} {td ty tx:TE} {apos cpos:Pos} (hr:Room k X.A) (ho:jE X o td) (he:jE X e ty) (hf:jE X f tx) (m:M2 X o "get" apos e f cpos:=by exact ⟨rfl,rfl,rfl,rfl⟩):jE X (.Call (.Attribute o "get" apos) [e,f] [] cpos) (tDGet2 td ty tx):=⟨pe_dget2 (hu_of hr) ho.out he.out hf.out m⟩
theorem jc_lenD:jCa X (.builtin "len") (fun xs H Q=>∃ a kvs,xs=[V.ref a]/\H a=some (.dK kvs)/\Q (.int kvs.length) H):=⟨call_lenD⟩
end
section
variable {g:TG} {tt:TT} {te:TE} {Q:VK} {σ:St} {H:Hp}
theorem lc_zip {K:PySem.W.Frag} {k m:Bool} {a b:Addr} {xs ys:List V} (hlen:xs.length=ys.length) (Pv:Nat->St->List V->Hp->Prop) (h0:Pv 0 σ [] H) (hl:∀ i τ zs H,i<=xs.length->Pv i τ zs H->SqK k K H a xs/\SqK m K H b ys)
    (hs:∀ i x y T τ zs H,xs[i]?=some x->ys[i]?=some y->H T=none->Pv i τ zs H->g (.ref T) τ (upd H T (.tup [x,y])) fun τ2 H2=>tt τ2 H2 fun b H3=>if b=true then te τ2 H3 fun y H4=>zs.length < sizeLine/\Pv (i + 1) τ2 (zs ++ [y]) H4 else Pv (i + 1) τ2 zs H3)
    (hd:∀ τ zs H,Pv xs.length τ zs H->∀ p,H p=none->Q (.ref p) (upd H p (.lst zs))):∃ W,(∃ m,W 0 m σ [] H)/\lcBy (Itz K k m a b) g tt te Q W:=by
  refine ⟨fun i m τ zs H=>m=xs.length - i/\i<=xs.length/\Pv i τ zs H,⟨xs.length,by simp,Nat.zero_le _,h0⟩,?_⟩
  rintro i n τ zs H ⟨rfl,hi,p⟩
  obtain ⟨q1,q2⟩:=hl i τ zs H hi p
  by_cases hlt:i < xs.length
  · refine .inr ⟨⟨xs,ys,xs[i],ys[i]'(by lia),q1,q2,by simp [hlt],by simp [<- hlen,hlt]⟩,Pv (i + 1),fun τ' zs' H' p'=>⟨xs.length - (i + 1),by lia,rfl,hlt,p'⟩,fun x H' y=>?_⟩
    obtain ⟨T,x,y,rfl,hT,rfl,e1,e2⟩:=y
    exact hs i x y T τ zs H (e1 xs q1) (e2 ys q2) hT p
  · have e:i=xs.length:=by lia
    subst e
    exact .inl ⟨⟨xs,ys,q1,q2,.inl (Nat.le_refl _)⟩,hd τ zs H p⟩
end
structure FunM (K:PySem.W.Frag) (x qual:Str) (st:Stmt) (D f:Addr) (fd:FuncData):Prop where
  ex:∃ (oc:Value) (od:Option Addr) (kV doc pm:Value) (an:Option Addr) (cdv ct:Value) (osl:Array (Option Value)),fd=PySem.W.fnOf x qual (defArgs st) (defBody st) (defScope st) (.ref D) kV doc pm an cdv ct/\K.lookup f=some ⟨oc,od,.func fd,osl⟩/\PySem.W.codeIn K cdv qual=true
theorem FunM.by {P:Program} {w:World} {K:PySem.W.Frag} {mg:Str->Option Value} {base:Heap} {x qual:Str} {st:Stmt} {f D:Addr} {fd:FuncData} {N ps:List Str} {k:Nat} {sp:Sp} (F:FunM K x qual st D f fd) (S:FnScope N ps (defScope st)) (len:∀ vs H Q E,sp vs H Q E->vs.length=ps.length)
    (hbody:∀ (cdv:Value) (A:Around) (outer:List Env) (s:Shared) (H:Hp) (vs:List V) (Q:VK) (E:XK),Room k (A.deeper (envOfC qual (defScope st) s.heap.objs.size f cdv))->sp vs H Q E ->
      ∃ t,jSs (cxOf CX0 P w K mg base N qual (defScope st) f cdv A outer s H E).nox (defBody st) t/\t { nx:=fun _ H'=>Q .non H',rt:=Q } (start N vs) H):FnOk P w K mg base CX0 (k + 1) f fd ps sp:=by
  obtain ⟨oc,od,kV,doc,pm,an,cdv,ct,osl,rfl,lk,hcd⟩:=F.ex
  refine fn_of lk hcd S len fun A outer s H vs Q E hr hsp=>?_
  obtain ⟨t,h,q⟩:=hbody cdv A outer s H vs Q E hr hsp
  exact ⟨t,h.out.nox,q⟩
def MdIn (K:PySem.W.Frag) (C:Addr) (x qual:Str) (st:Stmt) (D:Addr):Prop:=∃ f,PySem.W.findIn K (.ref C) x=some (some (.ref f))/\PySem.W.isFn K (.ref f)=true/\∃ (oc:Value) (od:Option Addr) (kV doc pm:Value) (an:Option Addr) (cdv ct:Value) (osl:Array (Option Value)),K.lookup f=some ⟨oc,od,.func (PySem.W.fnOf x qual (defArgs st) (defBody st) (defScope st) (.ref D) kV doc pm an cdv ct),osl⟩/\PySem.W.codeIn K cdv qual=true/\PySem.W.keepIn K (.ref f)=true
theorem MdIn.mk {K:PySem.W.Frag} {C:Addr} {x qual:Str} {st:Stmt} {f D:Addr} {oc:Value} {od:Option Addr} {kV doc pm:Value} {an:Option Addr} {cdv ct:Value} {osl:Array (Option Value)} (a:PySem.W.findIn K (.ref C) x=some (some (.ref f))) (l:K.lookup f=some ⟨oc,od,.func (PySem.W.fnOf x qual (defArgs st) (defBody st) (defScope st) (.ref D) kV doc pm an cdv ct),osl⟩) (c:PySem.W.codeIn K cdv qual=true) (k:PySem.W.keepIn K (.ref f)=true) (n:PySem.W.isFn K (.ref f)=true):MdIn K C x qual st D:=⟨f,a,n,oc,od,kV,doc,pm,an,cdv,ct,osl,l,c,k⟩
def DnIn (K:PySem.W.Frag) (D:Addr):Prop:=∃ (d:Option Addr) (n:Nat) (sl:Array (Option Value)),K.lookup D=some ⟨.type "tuple",d,.seq #[.none] n,sl⟩
theorem DnIn.mk {K:PySem.W.Frag} {D:Addr} {d:Option Addr} {n:Nat} {sl:Array (Option Value)} (a:K.lookup D=some ⟨.type "tuple",d,.seq #[.none] n,sl⟩):DnIn K D:=⟨d,n,sl,a⟩
theorem MdIn.me {P:Program} {w:World} {K:PySem.W.Frag} {mg:Str->Option Value} {base:Heap} {k:Nat} {C:Addr} {x qual:Str} {st:Stmt} {D:Addr} {ps:List Str} {dvs:List V} {sp:Sp} (d:MdIn K C x qual st D)
    (hb:∀ (kV doc pm:Value) (an:Option Addr) (cdv ct:Value),Binds K (PySem.W.fnOf x qual (defArgs st) (defBody st) (defScope st) (.ref D) kV doc pm an cdv ct) ps [])
    (hd:∀ (kV doc pm:Value) (an:Option Addr) (cdv ct:Value),∃ ds,Binds K (PySem.W.fnOf x qual (defArgs st) (defBody st) (defScope st) (.ref D) kV doc pm an cdv ct) ps ds/\Vals dvs ds)
    (ok:∀ f fd,FunM K x qual st D f fd->FnOk P w K mg base CX0 k f fd ps sp):MeD P w K mg base CX0 k C x ps dvs sp:=by
  obtain ⟨f,a,n,oc,od,kV,doc,pm,an,cdv,ct,osl,l,cc,kp⟩:=d
  exact ⟨f,_,ok f _ ⟨oc,od,kV,doc,pm,an,cdv,ct,osl,rfl,l,cc⟩,hb kV doc pm an cdv ct,hd kV doc pm an cdv ct,a,n,kp⟩
end L2
namespace L2
open PySem PySem.Spec PyProof.Rows
section
variable {X:Cx} {k:Nat} {o e f i:Expr} {td ty tx:TE} {apos cpos pos:Pos}
theorem je_dpop1 (ho:jE X o td) (he:jE X e ty) (m:M1 X o "pop" apos e cpos:=by exact ⟨rfl,rfl,rfl,rfl⟩):jE X (.Call (.Attribute o "pop" apos) [e] [] cpos) (tDPop1 td ty):=⟨pe_dpop1 ho.out he.out m⟩
theorem je_dget1 (hr:Room k X.A) (ho:jE X o td) (he:jE X e ty) (m:M1 X o "get" apos e cpos:=by exact ⟨rfl,rfl,rfl,rfl⟩):jE X (.Call (.Attribute o "get" apos) [e] [] cpos) (tDGet1 td ty):=⟨pe_dget1 (hu_of hr) ho.out he.out m⟩
theorem jt_dnotin (hr:Room k X.A) (hi:jE X i ty) (ho:jE X o td) (h1:behindInMarks .NotIn o=false:=by rfl):jT X (.Compare i [.NotIn] [o] pos) (tB (tDNotIn ty td)):=⟨pt_cmp (pc_dnotin (hu_of hr) hi.out ho.out) (h1:=h1)⟩
end
end L2
namespace L2
open PySem PySem.Spec PyProof.Rows
section
variable {X:Cx}
end
end L2
namespace L2
open PySem PySem.Spec PyProof.Rows
section
variable {prog:Program} {w:World} {A:Around} {s:Shared} {E:Value->Shared->Prop}
end
def HandP (X:Cx):Prop:=∃ (eh:Addr) (oe:Obj) (ve:Array Value),X.A.handled=some (.ref eh)/\X.s₀.heap.get? eh=some oe/\X.H₀ eh=none/\eh ∉ X.fs/\eh ∉ X.ex/\oe.data=.fields ve/\ve[2]?=some .none
theorem HandP.now {X:Cx} {pins:List (Addr × Obj)} {σ:St} {H:Hp} {s:Shared} (h:HandP X) (I:Inv X pins σ H s):∃ (eh:Addr) (oe:Obj) (ve:Array Value),X.A.handled=some (.ref eh)/\s.heap.get? eh=some oe/\H eh=none/\eh ∉ X.fs/\eh < X.s₀.heap.objs.size/\eh ∉ X.ex/\oe.data=.fields ve/\ve[2]?=some .none:=by
  obtain ⟨eh,oe,ve,a1,a2,a3,a4,a5,a6,a7⟩:=h
  exact ⟨eh,oe,ve,a1,I.base.keep eh oe a2 a3 a4 a5,I.base.free eh oe a2 a3 a5,a4,Heap.lt_size a2,a5,a6,a7⟩
theorem HandP.lc {X:Cx} {pins:List (Addr × Obj)} {σ:St} {H:Hp} {s:Shared} {scope:Scope} {cl:List (Str × Addr)} {M:List Str} {C:Addr} {fp:List Addr} {E:Value->Shared->Prop} (h:HandP X) (I:Inv X pins σ H s) (hf:∀ b∈fp,FpOk X pins H b):HandP (cxLC X scope cl M C s H fp E):=by
  obtain ⟨eh,oe,ve,a1,a2,a3,a4,a5,a6,a7,a8⟩:=h.now I
  refine ⟨eh,oe,ve,a1,a2,a3,fun z=>?_,fun z=>?_,a7,a8⟩
  · rcases List.mem_cons.mp (I.stkSub eh z) with q | q
    · exact (I.apart a2 a7).1 q
    · exact a4 q
  · rcases (hf eh z).2.2.2.1 with q | q
    · exact a6 q
    · exact absurd (Nat.lt_of_lt_of_le a5 q) (Nat.lt_irrefl _)
structure TurnC (Cn:Cx->Prop) (P:Program) (w:World) (K:PySem.W.Frag) (tg:Expr) (J:It) (fp:List Addr) (it:Addr) (tn:Nat->Heap->Prop):Prop where
  mem:it∈fp
  obj:∀ i h,tn i h->∀ b∈fp,∃ o,h.get? b=some o/\∀ v,o.data≠.cell v
  keep:∀ i h h',tn i h->(∀ b∈fp,∀ o,h.get? b=some o->h'.get? b=some o)->tn i h'
  item:∀ (X:Cx),X.prog=P->X.w=w->X.K=K->Cn X->∀ (i:Nat) (pins:List (Addr × Obj)) (s:Shared) (σ:St) (H:Hp) (E:Value->Shared->Prop),Inv X pins σ H s->(∀ b∈fp,FpOk X pins H b)->tn i s.heap->J.go i H ->
    wpAny (model P w) X.A (pyNext (.ref it)) (fun r s1=>∃ u,r=some u /\
      wpAny (model P w) X.A (letOwnedTupleGo tg (.ref it) u) (fun _ s2=>∃ x H',Inv X pins σ H' s2/\RelV x u/\J.yld i H x H'/\tn (i + 1) s2.heap/\∀ b∈fp,H' b=none) E s1) E s
  done:∀ (X:Cx),X.prog=P->X.w=w->X.K=K->Cn X->∀ (i:Nat) (pins:List (Addr × Obj)) (s:Shared) (σ:St) (H:Hp) (E:Value->Shared->Prop),Inv X pins σ H s->(∀ b∈fp,FpOk X pins H b)->tn i s.heap->J.stop i H ->
    wpAny (model P w) X.A (pyNext (.ref it)) (fun r s1=>r=none/\Inv X pins σ H s1) E s
  self:∀ (A:Around) (i:Nat) (s:Shared) (Q:Value->Shared->Prop) (E:Value->Shared->Prop),tn i s.heap->Q (.ref it) s->wpAny (model P w) A (pyIter (.ref it)) Q E s
end L2
namespace L2
open PySem PySem.Spec PyProof.Rows
section
variable {X:Cx} {scope:Scope} {cl:List (Str × Addr)} {S:List Nat} {pins:List (Addr × Obj)} {σ:St} {H:Hp} {s:Shared} {ex:List Addr} {M:List Str} {C:Addr}
variable {tg elt iter:Expr} {ifs:List Expr} {pos:Pos} {wi:TI} {g:TG} {tt:TT} {te:TE}
end
section
variable {X:Cx} {scope:Scope} {M:List Str} {tg elt l:Expr} {ifs:List Expr} {pos:Pos} {tl:TE} {g:TG} {tt:TT} {te:TE}
end
structure RoomH (k:Nat) (A:Around):Prop where
  dp:A.depth + 3 * k + 5 < recursionLimit
  un:A.units + 16 * k + 200 < cLine
theorem RoomH.deeper {k:Nat} {A:Around} (r:RoomH (k + 1) A) (env:Env):RoomH k (A.deeper env) :=
  ⟨by have:=r.dp; show A.depth + 1 + 3 * k + 5 < _; lia,by have:=r.un; show A.units + 3 + 16 * k + 200 < _; lia⟩
theorem Room.h {k:Nat} {A:Around} (r:Room k A) (u:Option Value):RoomH k (A.mark u):=⟨r.dp,r.un⟩
structure Hnd (A:Around) (outer:List Env) (s:Shared) (H:Hp) (e:Addr) (oe:Obj):Prop where
  h:A.handled=some (.ref e)
  g:s.heap.get? e=some oe
  n:H e=none
  f:e ∉ frs outer
  d:∃ ve:Array Value,oe.data=.fields ve/\ve[2]?=some .none
structure FnOkH (P:Program) (w:World) (K:PySem.W.Frag) (mg:Str->Option Value) (base:Heap) (k:Nat) (f:Addr) (fd:FuncData) (ps:List Str) (sp:Addr->Obj->Sp):Prop where
  len:∀ e oe vs H Q E,sp e oe vs H Q E->vs.length=ps.length
  run:∀ (A:Around) (outer:List Env) (s:Shared) (H:Hp) (args:Args) (us:List Value) (vs:List V) (Q:VK) (e:Addr) (oe:Obj),RoomH k A->Env0 P w K mg base A outer s H->Hnd A outer s H e oe->BindsTo s fd args (ps.zip us)->Vals vs us->sp e oe vs H Q E0 ->
    codeAny (model P w) A (.call (.ref f) args) (CR CX0 outer P w H s Q E0) s
abbrev cxOfH (P:Program) (w:World) (K:PySem.W.Frag) (mg:Str->Option Value) (base:Heap) (N:List Str) (qual:Str) (scope:Scope) (f:Addr) (cd:Value) (A:Around) (outer:List Env) (s:Shared) (H:Hp):Cx :=
  { cxOf CX0 P w K mg base N qual scope f cd A outer s H E0 with calm:=false,xe:=fun _ _=>False }
theorem Hnd.p {P:Program} {w:World} {K:PySem.W.Frag} {mg:Str->Option Value} {base:Heap} {N:List Str} {qual:Str} {scope:Scope} {f:Addr} {cd:Value} {A:Around} {outer:List Env} {s:Shared} {H:Hp} {e:Addr} {oe:Obj} (h:Hnd A outer s H e oe):HandP (cxOfH P w K mg base N qual scope f cd A outer s H) :=
  let ⟨ve,d1,d2⟩:=h.d; ⟨e,oe,ve,h.h,h.g,h.n,h.f,(fun z=>absurd (show e∈([]:List Addr) from z) (by simp)),d1,d2⟩
structure CaH (P:Program) (w:World) (K:PySem.W.Frag) (mg:Str->Option Value) (base:Heap) (k:Nat) (x:Str) (ps:List Str) (sp:Addr->Obj->Sp):Prop where
  ex:∃ f fd,FnOkH P w K mg base k f fd ps sp/\Binds K fd ps []/\PySem.W.keepIn K (.ref f)=true/\mg x=some (.ref f)
end L2
namespace PySem.W
open PySem PySem.Spec PySem.Calls PyProof.Rows
section
variable {prog:Program} {w:World} {A:Around} {E:Value->Shared->Prop} {s:Shared} {K:Frag} {e C:Addr} {ox od:Obj}
end
structure XIs (K:Frag) (C:Addr):Prop where
  ga:findIn K (.ref C) "__getattribute__"=some (some (.builtin "BaseException.__getattribute__"))
  ha:findIn K (.ref C) "__getattr__"=some none
  sb:subIn K (.ref C) (.type "BaseException")=some true
  hd:hasDictIn K C=true
  cl:findIn K (.ref C) "__class__"=some (some (.builtin "object.__class__"))
  gs:specialIn K (.builtin "object.__class__") "__get__"=some (some (.builtin "getset_descriptor.__get__"))
  tk:takesIn K (.builtin "object.__class__")=some true
  mo:mroIn K C (.type "object")=some true
end PySem.W
namespace L2
open PySem PySem.Spec PyProof.Rows
end L2
namespace L2
open PySem PySem.Spec PyProof.Rows
section
variable {X:Cx}
theorem jc_int1:jCa X (.type "int") (fun xs H Q=>(∃ i,xs=[.int i]/\Q (.int i) H)\/∃ k,xs=[.bl k]/\Q (.int (if k then 1 else 0)) H):=⟨call_int1⟩
theorem js_never {st:Stmt}:jS X st (fun _ _ _=>False):=⟨fun _ _ _ _ _ _ h=>h.elim⟩
end
section
variable {X:Cx} {Ch:Addr} {x n z:Str} {i j k:Nat} {np hpos tpos pz spos:Pos} {b0:Stmt} {suite:List Stmt} {th:Addr->Obj->TS} {ps:List Str} {sp:Sp} {y:Str} {p cpos:Pos} {a:Expr} {as:List Expr} {t:TA}
end
end L2
namespace L2
open PySem PySem.Spec PyProof.Rows
section
variable {prog:Program} {w:World} {A:Around} {E:Value->Shared->Prop} {h:Heap} {g:Array GenState} {d:Drawn} {t:Nat} {os:OsState}
variable {nm q:Str} {C N:Addr} {bs bm bmB:List Value} {hdct:Bool} {sn:List Str} {sub:List Value} {ab:Bool} {col:Option Bool} {dd:Option Addr} {k0 k1 k2 k3 k5:Option Value} {B Bn newId nid initId inN:String} {bmN:List Value}
abbrev bareX (h:Heap) (C:Addr):Heap:=(((h.push (tupOf [])).push (excOf C h.objs.size)).push (tupOf [])).update (h.objs.size + 1) (Obj.mapFields (·.setIfInBounds 0 (.ref ((h.push (tupOf [])).push (excOf C h.objs.size)).objs.size)))
theorem ex_typeCall0 (Fn:ExcBaseFacts Bn newId inN bmN) (hBn:bmB.contains (.type Bn)=true) (F:ExcBaseFacts B nid initId bmB) (T:OwnTail h bmB bm) {mN:Str->Option Value} {Q:Fin->Shared->Prop}
    (hC:h.get? C=some (excClassObj nm q C N bs bm hdct sn sub ab col dd k0 k1 k2 k3 k5 newId)) (hn:h.Ns N mN) (hi:mN "__init__"=none)
    (hq:Q (.done (.ret (.ref (h.objs.size + 1)))) ⟨bareX h C,g,d,t,os⟩) :
    wpAny (model prog w) A (Builtin.«type.__call__» ⟨[.ref C],[]⟩) Q E ⟨h,g,d,t,os⟩:=by
  repeat (first | with_reducible refine wpAny_madeBy_exc hC ?_ | with_reducible refine wpAny_loadPart_at hC ?_ | wp_step)
  refine codeAny_call_builtin_code (Code.quiet_builtin _ Fn.quiet) (wpAny_check_new_subU Fn hBn T hC (codeAny_exc_new_subU Fn hBn F T hC ?_ (Nat.zero_le _)))
  show wpAny _ _ _ _ _ _
  have k:∀ b o,h.get? b=some o->((h.push (tupOf [])).push (excOf C h.objs.size)).get? b=some o:=fun b o e=>Heap.get?_push_of_some _ (Heap.get?_push_of_some _ e)
  have C1:=k _ _ hC
  have e1:((h.push (tupOf [])).push (excOf C h.objs.size)).get? (h.objs.size + 1)=some (excOf C h.objs.size):=Heap.get?_push_at (by simp only [Heap.size_push]) rfl
  have cC:(Value.ref C :: bm).contains (.ref C)=true:=by simp
  unfold isInstance
  repeat (first | with_reducible refine wpAny_loadPart_at e1 ?_ | (with_reducible refine wpAny_isSubtype_exc C1 ?_; rw [cC]) | wp_step)
  show wpAny _ _ (typeLookup (.ref C) _) _ _ _
  refine wpAny_typeLookup_tail C1 (hn.keeps k) (T.keeps k) F.mroIs F.init.lookup ?_
  rw [hi]
  refine wpAny_holding (wpAny_bind (wpAny_of_eq (F.init.bind _) ?_))
  refine wpAny_bind (ex_init F (T.keeps k) C1 e1 rfl rfl rfl (Nat.zero_le _) ?_)
  exact wpAny_pure (wpAny_pure hq)
theorem ex_call0 (Fn:ExcBaseFacts Bn newId inN bmN) (hBn:bmB.contains (.type Bn)=true) (F:ExcBaseFacts B nid initId bmB) (T:OwnTail h bmB bm) {mN:Str->Option Value} {Q:Value->Shared->Prop}
    (hC:h.get? C=some (excClassObj nm q C N bs bm hdct sn sub ab col dd k0 k1 k2 k3 k5 newId)) (hn:h.Ns N mN) (hi:mN "__init__"=none)
    (hq:Q (.ref (h.objs.size + 1)) ⟨bareX h C,g,d,t,os⟩):wpAny (model prog w) A (call (.ref C) []) Q E ⟨h,g,d,t,os⟩:=by
  have f1:=tc_lookup
  have f2:=tc_bind (.ref C)
  have hT:(⟨h,g,d,t,os⟩:Shared).TypeIs (.ref C) "type":=⟨_,hC,rfl⟩
  refine wpAny_call (codeAny_of_tree ?_)
  show wpAny _ _ (callAny (.ref C) ⟨[],[]⟩) _ _ _
  repeat (any_goals (first | assumption | (with_reducible refine wpAny_loadPart_at hC ?_) | wp_step))
  refine ⟨rfl,codeAny_call_builtin_at (Code.quiet_builtin _ (by decide +kernel)) entry_typeCall (wpAny_check_type_call_sub hC ?_)⟩
  exact ex_typeCall0 Fn hBn F T hC hn hi hq
end
theorem ns_none {K:PySem.W.Frag} {h:Heap} {N:Addr} {mg:Str->Option Value} {n:Str} (X:K.In h) (G:h.Ns N mg) (e:PySem.W.nsIn K N n=some none):mg n=none:=by
  obtain ⟨o,es,ep,ho,hd,_,hf⟩:=G
  unfold PySem.W.nsIn at e
  split at e
  · rename_i c d es' n' sl q
    have:=X _ _ q
    rw [ho] at this
    cases this
    cases hd
    split at e
    · cases e
    · rename_i he
      rw [<- hf]
      unfold nsFind findBy
      rw [<- Array.find?_toList,he]
      rfl
  · cases e
def xIn0 (K:PySem.W.Frag) (C:Addr):Bool:=match K.lookup C with
  | some ⟨.type "type",_,.cls cd,sl⟩=>(match cd.mro,sl.toList with
    | .ref C' :: bm,[_,_,_,_,some (.builtin n),_]=>C' == C && n == "ValueError.__new__" && !cd.hasDel && PySem.W.tailIn K bmV bm && PySem.W.nsOkIn K cd.ns && PySem.W.nsIn K cd.ns "__init__" == some none && bm.contains (.type "BaseException")
    | _,_=>false)
  | _=>false
structure XCl0 (K:PySem.W.Frag) (C:Addr):Prop where
  cls:xIn0 K C=true
  kp:PySem.W.keepIn K (.ref C)=true
theorem XCl0.at {K:PySem.W.Frag} {C:Addr} (c:XCl0 K C) {h:Heap} (X:K.In h):∃ nm q N bs bm hdct sn sub ab col dd k0 k1 k2 k3 k5 mN,h.get? C=some (excClassObj nm q C N bs bm hdct sn sub ab col dd k0 k1 k2 k3 k5 "ValueError.__new__") /\
    OwnTail h bmV bm/\h.Ns N mN/\mN "__init__"=none/\bm.contains (.type "BaseException")=true:=by
  have q:=c.cls
  unfold xIn0 at q
  split at q
  · rename_i dd cd sl ho
    split at q
    · rename_i C' bm k0 k1 k2 k3 n k5 hm hs
      simp only [Bool.and_eq_true,beq_iff_eq,Bool.not_eq_true'] at q
      obtain ⟨⟨⟨⟨⟨⟨rfl,rfl⟩,hdel⟩,ht⟩,hok⟩,hi⟩,hb⟩:=q
      obtain ⟨nm,bs,mro,ns,qn,hd,sn,sub,ab,col,del⟩:=cd
      dsimp only at hm hdel hok hi
      subst hm hdel
      have es:sl=#[k0,k1,k2,k3,some (.builtin "ValueError.__new__"),k5]:=by
        obtain ⟨l⟩:=sl
        simp only at hs
        rw [hs]
      subst es
      have nN:=PySem.Heap.Ns.of_isNs (PySem.W.isNs_of_in X hok)
      exact ⟨nm,qn,ns,bs,bm,hd,sn,sub,ab,col,dd,k0,k1,k2,k3,k5,_,X _ _ ho,PySem.W.tail_of_in X ht,nN,ns_none X nN hi,hb⟩
    · cases q
  · cases q
def tRaise0 (C:Addr) (E:XK):TS:=fun _ _ H=>E (.ref C) none H
section
variable {X:Cx} {k:Nat} {C:Addr} {E:XK} {x:Str} {np cpos pos:Pos}
theorem ps_raise0 (M:XCl0 X.K C) (hr:Room k X.A) (hg:Gl X x) (hm:X.mg x=some (.ref C)) (hx:Throws X E) (hdb:(x == ("__debug__":Str))=false:=by decide) :
    PS X (.Raise (some (.Call (.Name x np) [] [] cpos)) none pos) (tRaise0 C E):=by
  intro pins s σ H D I h
  obtain ⟨nm,q,N,bs,bm,hdct,sn,sub,ab,col,dd,k0,k1,k2,k3,k5,mN,hC0,T0,n0,i0,hB⟩:=M.at I.mod.kin
  rw [arm_exec_Raise]
  simp only [evalOpt,Option.map]
  refine wpAny_bind (wpAny_standAt (rs_stmt (C:=C) (nm:=nm) (q:=q) (N:=N) (bs:=bs) (hdct:=hdct) (sn:=sn) (sub:=sub) (ab:=ab) (col:=col) (dd:=dd) (k0:=k0) (k1:=k1) (k2:=k2) (k3:=k3) (k5:=k5) (newId:="ValueError.__new__") hB hr.hd (wpAny_bind ?_)))
  refine wpAny_Call_Name_kw (ld_glob I hg hm ?_ hdb)
  refine PySem.W.callWith_K0 I.kIn M.kp ?_
  obtain ⟨hh,g,d,tk,os⟩:=s
  have kb:∀ b o,X.base.get? b=some o->hh.get? b=some o:=I.bk
  refine ex_call0 PySem.F.excBase_ValueError (by decide +kernel) PySem.F.excBase_ValueError (T0.keeps kb) (kb _ _ hC0) (n0.keeps kb) i0 ?_
  have e1:(((hh.push (tupOf [])).push (excOf C hh.objs.size)).push (tupOf [])).get? (hh.objs.size + 1)=some (excOf C hh.objs.size):=Heap.get?_push_of_some _ (Heap.get?_push_at (by simp only [Heap.size_push]) rfl)
  have ge:=Heap.get?_update_self (Obj.mapFields (·.setIfInBounds 0 (.ref ((hh.push (tupOf [])).push (excOf C hh.objs.size)).objs.size))) e1 rfl
  have kk:∀ b o,hh.get? b=some o->(bareX hh C).get? b=some o:=fun b o e=>by
    rw [Heap.get?_update_other _ _ (Nat.ne_of_gt (Nat.lt_succ_of_lt (Heap.lt_size e)))]
    exact Heap.get?_push_of_some _ (Heap.get?_push_of_some _ (Heap.get?_push_of_some _ e))
  have I2:Inv X pins σ H ⟨bareX hh C,g,d,tk,os⟩:=I.un (Un.kept kk) (I.hok.kept kk)
  have he:hh.objs.size<=hh.objs.size + 1:=Nat.le_succ _
  refine wpAny_bind (wpAny_standAt (wpAny_pure ⟨_,_,_,rfl,I2.bk _ _ hC0,ge,rfl,rfl,rfl,hx pins σ _ _ ⟨_,.ref C,none,H,hh.objs.size,rfl,I2,I.hok.fresh he,I.sz,he,fun p hp=>Heap.lt_size (I.pin p hp).1,.inl ⟨_,_,ge,rfl,rfl,rfl,rfl,rfl⟩,h⟩⟩))
theorem js_raise0 (M:XCl0 X.K C) (hr:Room k X.A) (hg:Gl X x) (hm:X.mg x=some (.ref C)) (hx:Throws X E) (hdb:(x == ("__debug__":Str))=false:=by decide) :
    jS X (.Raise (some (.Call (.Name x np) [] [] cpos)) none pos) (tRaise0 C E):=⟨ps_raise0 M hr hg hm hx hdb⟩
end
end L2
namespace L2
open PySem PySem.Spec PyProof.Rows
section
variable {X:Cx} {Ch:Addr} {x:Str} {np hpos tpos:Pos} {b0:Stmt} {suite body:List Stmt} {th:Addr->Obj->TS} {tb:XK->TS}
theorem Inv.few {pins pins':List (Addr × Obj)} {σ:St} {H:Hp} {s:Shared} (I:Inv X (pins ++ pins') σ H s):Inv X pins σ H s :=
  ⟨I.ok,I.os,I.bare,I.base,I.loc,I.cell,I.free,I.freeC,fun q hq=>I.pin q (by rw [<- List.append_assoc]; exact List.mem_append_left _ hq),I.hok,I.len⟩
end
end L2
namespace K11
open PySem
end K11
namespace Hv
open PySem L2 K11 HM
theorem same_new {H:Hp} {p:Addr} (h:H p=none) (o:HO):Same H (upd H p o):=(Same.refl H).new h
structure KL (n d:Addr) (H H':Hp):Prop where
  l:∀ a xs,a≠n->H a=some (.lst xs)->H' a=some (.lst xs)
  t:∀ a xs,H a=some (.tup xs)->H' a=some (.tup xs)
  f:∀ a o u,H a=some (.frz o u)->H' a=some (.frz o u)
  k:∀ a kvs,a≠d->H a=some (.dK kvs)->H' a=some (.dK kvs)
theorem KL.refl {n d:Addr} {H:Hp}:KL n d H H:=⟨fun _ _ _ h=>h,fun _ _ h=>h,fun _ _ _ h=>h,fun _ _ _ h=>h⟩
theorem KL.trans {n d:Addr} {H H1 H2:Hp} (a:KL n d H H1) (b:KL n d H1 H2):KL n d H H2:=⟨fun c xs q h=>b.1 c xs q (a.1 c xs q h),fun c xs h=>b.2 c xs (a.2 c xs h),fun c o u h=>b.3 c o u (a.3 c o u h),fun c xs q h=>b.4 c xs q (a.4 c xs q h)⟩
theorem KL.of {n d:Addr} {H H':Hp} (h:Same H H'):KL n d H H':=⟨fun _ _ _ q=>h _ _ q,fun _ _ q=>h _ _ q,fun _ _ _ q=>h _ _ q,fun _ _ _ q=>h _ _ q⟩
theorem KL.ins {n d:Addr} {H H1:Hp} {a C dx:Addr} {fs:List (Str × V)} {o:HO} (k:KL n d H H1) (h:H1 a=some (.ins C dx fs)):KL n d H (upd H1 a o) :=
  ⟨fun b xs q e=>by have z:=k.1 b xs q e; rw [upd_ne (ne_of z h (by intro z; cases z))]; exact z,fun b xs e=>by have z:=k.2 b xs e; rw [upd_ne (ne_of z h (by intro z; cases z))]; exact z,fun b o u e=>by have z:=k.3 b o u e; rw [upd_ne (ne_of z h (by intro z; cases z))]; exact z,fun b xs q e=>by have z:=k.4 b xs q e; rw [upd_ne (ne_of z h (by intro z; cases z))]; exact z⟩
theorem KL.dict {n d:Addr} {H H1:Hp} {kvs:List (Key × V)} {o:HO} (k:KL n d H H1) (h:H1 d=some (.dK kvs)):KL n d H (upd H1 d o) :=
  ⟨fun b xs q e=>by have z:=k.1 b xs q e; rw [upd_ne (ne_of z h (by intro z; cases z))]; exact z,fun b xs e=>by have z:=k.2 b xs e; rw [upd_ne (ne_of z h (by intro z; cases z))]; exact z,fun b o u e=>by have z:=k.3 b o u e; rw [upd_ne (ne_of z h (by intro z; cases z))]; exact z,fun b xs q e=>by rw [upd_ne q]; exact k.4 b xs q e⟩
theorem KL.new {n d:Addr} {H H1:Hp} {a:Addr} {o:HO} (k:KL n d H H1) (h:H1 a=none):KL n d H (upd H1 a o):=k.trans (.of (same_new h o))
theorem sq_same {K:PySem.W.Frag} {a:Addr} {H H':Hp} {xs:List V} (h:SqL K H a xs) (k:Same H H'):SqL K H' a xs:=by
  rcases h with (h | ⟨o,h⟩) | h
  · exact .inl (.inl (k _ _ h))
  · exact .inl (.inr ⟨o,k _ _ h⟩)
  · exact .inr h
structure Txt (K:PySem.W.Frag) (mg:Str->Option Value) (A:Adr) (G:Addr):Prop where
  clB:Cls K A.cB
  clR:Cls K A.cR
  clH:Cls K A.cH
  nTag:NoAttr K A.cB "tag"
  nParts:NoAttr K A.cB "parts"
  nCount:NoAttr K A.cB "count"
  nNumbers:NoAttr K A.cR "numbers"
  nSize:NoAttr K A.cH "size"
  nFresh:NoAttr K A.cH "fresh"
  nAnew:NoAttr K A.cH "anew"
  nPeak:NoAttr K A.cH "peak"
  nBy:NoAttr K A.cH "by_number"
  nKept:NoAttr K A.cH "kept_places"
  neR:A.cR≠A.cH
  neB:A.cB≠A.cH
  neBR:A.cB≠A.cR
  len:mg "len"=none
  list:mg "list"=none
  tuple:mg "tuple"=none
  isi:mg "isinstance"=none
  max:mg "max"=none
  sorted:mg "sorted"=none
  str:mg "str"=none
  gone:mg "Gone"=some (.ref G)
  xG:XCl0 K G
section
variable {P:Program} {w:World} {K:PySem.W.Frag} {mg:Str->Option Value} {base:Heap} {f:Addr} {fd:FuncData} {A:Adr} {G:Addr}
def spBox (A:Adr):Sp:=fun vs H Q _=>∃ (b dx pl:Addr) (tag:Str) (ps:List V),vs=[.ref b,.str tag,.ref pl]/\H b=some (.ins A.cB dx [])/\H pl=some (.lst ps)/\∀ H' l,KpS (·=b) H H'->H l=none->H' b=some (WB A dx tag l 1)->H' l=some (.lst ps)->Q .non H'
theorem scBox:FnScope ["self","tag","parts"] ["self","tag","parts"] (defScope sBox):=⟨rfl,rfl,rfl,by decide +kernel,rfl,by decide +kernel,by decide +kernel⟩
theorem ok_box (F:Fun K "__init__" "Box.__init__" sBox f fd) (T:Txt K mg A G):FnOk P w K mg base CX0 1 f fd ["self","tag","parts"] (spBox A):=by
  refine F.by scBox (fun vs H Q E h=>?_) (fun cdv A' outer s H vs Q E hr h=>?_)
  · obtain ⟨b,dx,pl,tag,ps,rfl,_⟩:=h
    rfl
  obtain ⟨b,dx,pl,tag,ps,rfl,hb,hl,q⟩:=h
  refine ⟨_,jss_cons (js_fld (jv 0) (jv 1)) (jss_cons (js_fld (jv 0) (je_fnTy jc_list_of rfl T.list PyProof.Rows.boot_list (ja_c (jv 2) ja_nil))) (jss_one (js_fld (jv 0) je_int))),?_⟩
  have nbl:pl≠b:=ne_of hl hb (by intro z; cases z)
  refine (ex2q rfl (ex2q rfl ⟨b,A.cB,dx,(ex2q rfl ⟨hb,T.clB,T.nTag,by show 0 < 1000; decide,?_⟩)⟩))
  have hl1:upd H b (.ins A.cB dx (putF "tag" (.str tag) [])) pl=some (.lst ps):=by rw [upd_ne nbl]; exact hl
  refine (ex2q rfl ⟨pl,ps,rfl,.inl (SqL.of hl1),fun l hl2=>?_⟩)
  have nlb:l≠b:=fun z=>by rw [z,upd_same] at hl2; cases hl2
  have hl0:H l=none:=by rw [upd_ne nlb] at hl2; exact hl2
  refine (ex2q rfl ⟨b,A.cB,dx,(ex2q rfl ⟨by rw [upd_ne (Ne.symm nlb)]; exact upd_same,T.clB,T.nParts,by show 1 < 1000; decide,?_⟩)⟩)
  refine (ex2q rfl ⟨b,A.cB,dx,(ex2q rfl ⟨upd_same,T.clB,T.nCount,by show 2 < 1000; decide,?_⟩)⟩)
  refine q _ l ((((((KpS.refl (S:=(·=b))).put rfl).putN hl0).put rfl)).put rfl) hl0 upd_same ?_
  rw [upd_ne nlb,upd_ne nlb]
  exact upd_same
def spRis (A:Adr):Sp:=fun vs H Q _=>∃ (b dx:Addr),vs=[.ref b]/\H b=some (.ins A.cR dx [])/\∀ H' nl,KpS (·=b) H H'->H nl=none->H' b=some (.ins A.cR dx [("numbers",.ref nl)])->H' nl=some (.lst [])->Q .non H'
theorem scRis:FnScope ["self"] ["self"] (defScope sRis):=⟨rfl,rfl,rfl,by decide +kernel,rfl,by decide +kernel,by decide +kernel⟩
theorem ok_ris (F:Fun K "__init__" "Rising.__init__" sRis f fd) (T:Txt K mg A G):FnOk P w K mg base CX0 1 f fd ["self"] (spRis A):=by
  refine F.by scRis (fun vs H Q E h=>?_) (fun cdv A' outer s H vs Q E hr h=>?_)
  · obtain ⟨b,dx,rfl,_⟩:=h
    rfl
  obtain ⟨b,dx,rfl,hb,q⟩:=h
  refine ⟨_,jss_one (js_fld (jv 0) (je_lst ja_nil)),?_⟩
  refine ⟨by show 0<=sizeLine; exact Nat.zero_le _,fun l hl=>?_⟩
  have nbl:b≠l:=ne_of_none hb hl
  refine (ex2q rfl ⟨b,A.cR,dx,(ex2q rfl ⟨by rw [upd_ne nbl]; exact hb,T.clR,T.nNumbers,by show 0 < 1000; decide,?_⟩)⟩)
  refine q _ l (((KpS.refl (S:=(·=b))).new hl).put rfl) hl upd_same ?_
  rw [upd_ne (Ne.symm nbl)]
  exact upd_same
def spHInit (A:Adr):Sp:=fun vs H Q _=>∃ (b dx:Addr) (sz:Int),vs=[.ref b,.int sz]/\H b=some (.ins A.cH dx [])/\∀ H' d nl,KpS (·=b) H H'->H d=none->H nl=none->HpB A H' b d nl ⟨sz,0,0,0,[],[]⟩ []->Q .non H'
theorem scHInit:FnScope ["self","size"] ["self","size"] (defScope sHInit):=⟨rfl,rfl,rfl,by decide +kernel,rfl,by decide +kernel,by decide +kernel⟩
theorem ok_hinit (F:Fun K "__init__" "Heap.__init__" sHInit f fd) (T:Txt K mg A G) (GR:Ma P w K mg base CX0 1 "Rising" A.cR ["self"] (spRis A)):FnOk P w K mg base CX0 3 f fd ["self","size"] (spHInit A):=by
  refine F.by scHInit (fun vs H Q E h=>?_) (fun cdv A' outer s H vs Q E hr h=>?_)
  · obtain ⟨b,dx,sz,rfl,_⟩:=h
    rfl
  obtain ⟨b,dx,sz,rfl,hb,q⟩:=h
  refine ⟨_,jss_cons (js_fld (jv 0) (jv 1)) (jss_cons (js_fld (jv 0) je_int) (jss_cons (js_fld (jv 0) je_int) (jss_cons (js_fld (jv 0) je_int) (jss_cons (js_fld (jv 0) je_dnewK) (jss_one (js_fld (jv 0) (je_ma0 GR hr rfl pass0))))))),?_⟩
  refine (ex2q rfl (ex2q rfl ⟨b,A.cH,dx,(ex2q rfl ⟨hb,T.clH,T.nSize,by show 0 < 1000; decide,?_⟩)⟩))
  refine (ex2q rfl ⟨b,A.cH,dx,(ex2q rfl ⟨upd_same,T.clH,T.nFresh,by show 1 < 1000; decide,?_⟩)⟩)
  refine (ex2q rfl ⟨b,A.cH,dx,(ex2q rfl ⟨upd_same,T.clH,T.nAnew,by show 2 < 1000; decide,?_⟩)⟩)
  refine (ex2q rfl ⟨b,A.cH,dx,(ex2q rfl ⟨upd_same,T.clH,T.nPeak,by show 3 < 1000; decide,?_⟩)⟩)
  refine fun d hd=>?_
  have ndb:d≠b:=fun z=>by rw [z,upd_same] at hd; cases hd
  have hd0:H d=none:=by simpa [upd_ne ndb] using hd
  refine (ex2q rfl ⟨b,A.cH,dx,(ex2q rfl ⟨by rw [upd_ne (Ne.symm ndb)]; exact upd_same,T.clH,T.nBy,by show 4 < 1000; decide,?_⟩)⟩)
  obtain ⟨H5,e5⟩:∃ H5,H5=upd (upd (upd (upd (upd (upd H b (.ins A.cH dx (putF "size" (.int sz) []))) b (.ins A.cH dx (putF "fresh" (.int 0) (putF "size" (.int sz) [])))) b (.ins A.cH dx (putF "anew" (.int 0) (putF "fresh" (.int 0) (putF "size" (.int sz) []))))) b (.ins A.cH dx (putF "peak" (.int 0) (putF "anew" (.int 0) (putF "fresh" (.int 0) (putF "size" (.int sz) [])))))) d (.dK [])) b (.ins A.cH dx (putF "by_number" (.ref d) (putF "peak" (.int 0) (putF "anew" (.int 0) (putF "fresh" (.int 0) (putF "size" (.int sz) [])))))):=⟨_,rfl⟩
  rw [<- e5]
  have k5:KpS (·=b) H H5:=by rw [e5]; exact (((((((KpS.refl (S:=(·=b))).put rfl).put rfl).put rfl).put rfl).putN hd0).put rfl)
  have hb5:H5 b=some (.ins A.cH dx [("size",.int sz),("fresh",.int 0),("anew",.int 0),("peak",.int 0),("by_number",.ref d)]):=by rw [e5]; exact upd_same
  have hd5:H5 d=some (.dK []):=by rw [e5,upd_ne ndb]; exact upd_same
  refine fun r dr hr1 hr2 hne=>?_
  have nrb:r≠b:=fun z=>by rw [z,hb5] at hr1; cases hr1
  refine ⟨r,dr,rfl,upd_same,fun H6 nl k6 gn g1 g2=>⟨rfl,?_⟩⟩
  have k56:Same H5 H6:=fun a o e=>k6 a o (fun z=>by rw [z,hr1] at e; cases e) (by rw [upd_ne (ne_of_none e hr1),upd_ne (ne_of_none e hr2)]; exact e)
  have hb6:=k56 _ _ hb5
  refine (ex2q rfl ⟨b,A.cH,dx,(ex2q rfl ⟨hb6,T.clH,T.nKept,by show 5 < 1000; decide,?_⟩)⟩)
  have hn5:H5 nl=none:=by
    have nnr:nl≠r:=fun z=>by rw [z,upd_same] at gn; cases gn
    have nnd:nl≠dr:=fun z=>by rw [upd_ne nnr,z,upd_same] at gn; cases gn
    rw [upd_ne nnr,upd_ne nnd] at gn
    exact gn
  have hn0:H nl=none:=by
    cases e:H nl with
    | none=>rfl
    | some o =>
      have nnb:nl≠b:=fun z=>by rw [z,hb5] at hn5; cases hn5
      have z:=k5 nl o nnb e
      rw [hn5] at z
      cases z
  refine q _ d nl ((k5.trans (.of k56)).put rfl) hd0 hn0 ⟨⟨dx,r,dr,upd_same,?_,?_,?_⟩,.nil,fun x h=>(by cases h),fun x h=>(by cases h),fun x h=>(by cases h),fun x h=>(by cases h),.nil⟩
  · rw [upd_ne nrb]; exact g1
  · rw [upd_ne (ne_of g2 hb6 (by intro z; cases z))]; exact g2
  · rw [upd_ne ndb]; exact k56 _ _ hd5
end
end Hv
namespace HM
open PySem L2
theorem rise_eq {L:List Bx} (h:Rise L) {x y:Bx} (hx:x∈L) (hy:y∈L) (e:x.n=y.n):x=y:=by
  obtain ⟨i,hi,rfl⟩:=List.getElem_of_mem hx
  obtain ⟨j,hj,rfl⟩:=List.getElem_of_mem hy
  rcases Nat.lt_trichotomy i j with q | q | q
  · have:=List.pairwise_iff_getElem.mp h i j hi hj q
    lia
  · subst q; rfl
  · have:=List.pairwise_iff_getElem.mp h j i hj hi q
    lia
theorem kvB_at {L:List Bx} (h:Rise L) {x:Bx} (hx:x∈L):valV (kvB L) (.inl (x.n:Int))=some (.ref x.b):=by
  rw [kvB_val]
  cases e:L.find? fun y=>y.n == x.n with
  | none=>exact absurd (List.find?_eq_none.mp e x hx) (by simp)
  | some y =>
    have m:=List.mem_of_find?_eq_some e
    have p:=List.find?_some e
    rw [rise_eq h m hx (by simpa using p)]
    rfl
theorem kvB_no {L:List Bx} {n:Nat} (h:∀ x∈L,x.n≠n):valV (kvB L) (.inl (n:Int))=none:=by
  rw [kvB_val,List.find?_eq_none.mpr fun y hy=>by have:=h y hy; simpa using this]
  rfl
theorem setC_of {L:List Bx} {n:Nat} {c:Int} {x:Bx} (h:x∈L):(if x.n=n then { x with count:=c } else x)∈setC L n c:=List.mem_map.mpr ⟨x,h,rfl⟩
theorem setC_len (L:List Bx) (n:Nat) (c:Int):(setC L n c).length=L.length:=List.length_map ..
theorem HpB.add {A:Adr} {H H':Hp} {hp d nl:Addr} {m m':Nm} {L:List Bx} {x:Bx} (h:HpB A H hp d nl m L) (hk:∀ a o,a≠hp->a≠d->H a=some o->H' a=some o)
    (e:∀ dx r,H hp=some (WH A dx m.sz m.fresh m.anew m.peak d r m.ext)->H' hp=some (WH A dx m'.sz m'.fresh m'.anew m'.peak d r m'.ext)) (hd:H' d=some (.dK (kvB (L ++ [x])))) (hb:BoxAt A H' x) (hn:∀ y∈L,y.n≠x.n) (hf:m.fresh<=m'.fresh) (hx:x.n < m'.fresh) (ek:m'.kept=m.kept) (ex:m'.ext=m.ext)
    (hpl:H x.pl=none) (hbn:H x.b=none) (nR:A.cR≠A.cH) (nB:A.cB≠A.cH):HpB A H' hp d nl m' (L ++ [x]):=by
  obtain ⟨dx,r,dr,h1,h2,h3,h4⟩:=h.ex
  have kI:∀ {a C dy:Addr} {fs:List (Str × V)},H a=some (.ins C dy fs)->C≠A.cH->H' a=some (.ins C dy fs):=fun e n=>hk _ _ (ne_of e h1 (by intro z; injection z with z; exact n z)) (ne_of e h4 (by intro z; cases z)) e
  have kL:∀ {a:Addr} {xs:List V},H a=some (.lst xs)->H' a=some (.lst xs):=fun e=>hk _ _ (ne_of e h1 (by intro z; cases z)) (ne_of e h4 (by intro z; cases z)) e
  have mem:∀ {y:Bx},y∈L ++ [x]->y∈L\/y=x:=fun h=>(List.mem_append.mp h).imp_right fun h=>List.mem_singleton.mp h
  refine ⟨⟨dx,r,dr,e _ _ h1,kI h2 nR,by rw [ek]; exact kL h3,hd⟩,h.rise.snoc hn,fun y hy=>?_,fun y hy=>?_,fun y hy=>?_,fun y hy z hz q=>?_,by rw [ex]; exact h.xt⟩
  · rcases mem hy with c | c
    · exact Nat.lt_of_lt_of_le (h.less y c) hf
    · rw [c]; exact hx
  · rcases mem hy with c | c
    · obtain ⟨dz,g1,g2⟩:=h.box y c
      exact ⟨dz,kI g1 nB,kL g2⟩
    · rw [c]; exact hb
  · rcases mem hy with c | c
    · exact h.nlp y c
    · rw [c]
      intro z
      rw [z,h3] at hpl
      cases hpl
  · have ob:∀ {y:Bx},y∈L->y.b≠x.b:=fun hy q=>by
      obtain ⟨dz,g1,g2⟩:=h.box _ hy
      rw [q,hbn] at g1
      cases g1
    rcases mem hy with c | c <;> rcases mem hz with c' | c'
    · exact h.bnd y c z c' q
    · rw [c'] at q; exact absurd q (ob c)
    · rw [c] at q; exact absurd q.symm (ob c')
    · rw [c,c']
theorem rise_same:∀ {l l':List Int},l.Pairwise (· < ·)->l'.Pairwise (· < ·)->(∀ x,x∈l↔x∈l')->l=l'
  | [],[],_,_,_=>rfl
  | [],b :: l',_,_,h=>absurd ((h b).mpr List.mem_cons_self) (by simp)
  | a :: l,[],_,_,h=>absurd ((h a).mp List.mem_cons_self) (by simp)
  | a :: l,b :: l',p,p',h=>by
    have q:=List.pairwise_cons.mp p
    have q':=List.pairwise_cons.mp p'
    have e:a=b:=by
      rcases List.mem_cons.mp ((h a).mp List.mem_cons_self) with e | e
      · exact e
      · rcases List.mem_cons.mp ((h b).mpr List.mem_cons_self) with e2 | e2
        · exact e2.symm
        · have:=q'.1 a e
          have:=q.1 b e2
          lia
    subst e
    rw [rise_same q.2 q'.2 fun x=>?_]
    constructor
    · intro hx
      rcases List.mem_cons.mp ((h x).mp (List.mem_cons_of_mem _ hx)) with e | e
      · have:=q.1 x hx; lia
      · exact e
    · intro hx
      rcases List.mem_cons.mp ((h x).mpr (List.mem_cons_of_mem _ hx)) with e | e
      · have:=q'.1 x hx; lia
      · exact e
end HM
namespace HM
end HM
namespace Hv
open PySem L2 K11 HM
section
variable {X:Cx}
theorem jc_max2 (hc:X.calm=true):jCa X (.builtin "max") (fun xs H Q=>∃ i j,xs=[.int i,.int j]/\Q (.int (if j > i then j else i)) H):=⟨call_max2 hc⟩
end
theorem kit_st (K:PySem.W.Frag):PySem.W.kitOne K (.type "str") (.type "tuple")=some false:=by rfl
theorem kit_it (K:PySem.W.Frag):PySem.W.kitOne K (.type "int") (.type "tuple")=some false:=by rfl
theorem kit_tt (K:PySem.W.Frag):PySem.W.kitOne K (.type "tuple") (.type "tuple")=some true:=by rfl
theorem kit_ss (K:PySem.W.Frag):PySem.W.kitOne K (.type "str") (.type "str")=some true:=by rfl
def Flat (v:V):Prop:=(∃ z,v=.str z)\/∃ i,v=.int i
section
variable {P:Program} {w:World} {K:PySem.W.Frag} {mg:Str->Option Value} {base:Heap} {f:Addr} {fd:FuncData} {A:Adr} {G:Addr}
def spIsBox:Sp:=fun vs H Q _=>∃ v b,vs=[v]/\((Flat v/\b=false)\/∃ p xs,v=.ref p/\H p=some (.tup xs)/\b=true)/\Q (.bl b) H
theorem scIsBox:FnScope ["value"] ["value"] (defScope sIsBox):=⟨rfl,rfl,rfl,by decide +kernel,rfl,by decide +kernel,by decide +kernel⟩
theorem ok_isbox (F:Fun K "is_box" "is_box" sIsBox f fd) (T:Txt K mg A G):FnOk P w K mg base CX0 1 f fd ["value"] spIsBox:=by
  refine F.by scIsBox (fun vs H Q E h=>?_) (fun cdv A' outer s H vs Q E hr h=>?_)
  · obtain ⟨v,b,rfl,_⟩:=h
    rfl
  obtain ⟨v,b,rfl,hv,q⟩:=h
  refine ⟨_,(jss_one (js_ret (je_fnB jc_isinst rfl T.isi PyProof.Rows.boot_isinstance (ja_c (jv 0) (ja_c (je_bltn (v:=.ty "tuple") rfl T.tuple PyProof.Rows.boot_tuple rfl) ja_nil))))),?_⟩
  rcases hv with ⟨⟨z,rfl⟩ | ⟨z,rfl⟩,rfl⟩ | ⟨p,xs,rfl,hp,rfl⟩
  · exact (ex2q rfl ⟨_,_,_,_,rfl,.str z,kit_st _,q⟩)
  · exact (ex2q rfl ⟨_,_,_,_,rfl,.int z,kit_it _,q⟩)
  · exact (ex2q rfl ⟨_,_,_,_,rfl,.tup hp,kit_tt _,q⟩)
theorem scPlace:FnScope ["self","kept"] ["self","kept"] (defScope sPlace):=⟨rfl,rfl,rfl,by decide +kernel,rfl,by decide +kernel,by decide +kernel⟩
abbrev BX (i:Nat):HO:=.tup [.str "box",.int i]
def Nm.made (m:Nm) (n:Nat):Nm:={ m with fresh:=m.fresh + 1,peak:=if ((n + 1:Nat):Int) > m.peak then ((n + 1:Nat):Int) else m.peak }
theorem scMake:FnScope ["self","tag","parts","kept","at"] ["self","tag","parts","kept"] (defScope sMake):=⟨rfl,rfl,rfl,by decide +kernel,rfl,by decide +kernel,by decide +kernel⟩
theorem bd_make4 {D:Addr} (dt:DnIn K D) (kV doc pm:Value) (an:Option Addr) (cdv ct:Value):Binds K (PySem.W.fnOf "make" "Heap.make" (defArgs sMake) (defBody sMake) (defScope sMake) (.ref D) kV doc pm an cdv ct) ["self","tag","parts","kept"] []:=fun s us X hl=>by
  obtain ⟨d,n,sl,lk⟩:=dt
  have hl':us.length=4:=by simp at hl; lia
  match us,hl' with
  | [_,_,_,_],_=>exact PySem.W.binds_K X rfl lk rfl rfl rfl
theorem bd_make3 {D:Addr} (dt:DnIn K D) (kV doc pm:Value) (an:Option Addr) (cdv ct:Value):∃ ds,Binds K (PySem.W.fnOf "make" "Heap.make" (defArgs sMake) (defBody sMake) (defScope sMake) (.ref D) kV doc pm an cdv ct) ["self","tag","parts","kept"] ds/\Vals [.non] ds:=by
  obtain ⟨d,n,sl,lk⟩:=dt
  refine ⟨[.none],fun s us X hl=>?_,.cons rfl .nil⟩
  have hl':us.length=3:=by simp at hl; lia
  match us,hl' with
  | [_,_,_],_=>exact PySem.W.binds_K X rfl lk rfl rfl rfl
end
end Hv
namespace Hv
open PySem L2 K11 HM
theorem jt_never {X:Cx} {e:Expr}:jT X e (fun _ _ _=>False):=⟨fun _ _ _ _ _ _ h=>h.elim⟩
section
variable {P:Program} {w:World} {K:PySem.W.Frag} {mg:Str->Option Value} {base:Heap} {f:Addr} {fd:FuncData} {A:Adr} {G:Addr}
theorem passF {P:Program} {w:World} {X:Cx}:Passes (CXf P w) X (fun _ _ _=>False):=fun _ _ _ _ _ _ _ h=>by
  obtain ⟨_,_,_,_,_,_,_,_,_,_,_,_,_,h⟩:=h
  exact h.elim
def Gon (L:List Bx) (i:Nat):Prop:=∀ x∈L,x.n=i->x.count=0
def spThere (A:Adr) (G:Addr):Sp:=fun vs H Q E=>∃ (hp d nl p:Addr) (m:Nm) (L:List Bx) (i:Nat),vs=[.ref hp,.ref p]/\HpB A H hp d nl m L/\H p=some (BX i)/\((∃ x∈L,x.n=i/\x.count≠0/\Q (.ref x.b) H)\/(Gon L i/\E (.ref G) none H))
theorem scThere:FnScope ["self","value","box"] ["self","value"] (defScope sThere):=⟨rfl,rfl,rfl,by decide +kernel,rfl,by decide +kernel,by decide +kernel⟩
theorem ok_there (F:Fun K "there" "Heap.there" sThere f fd) (T:Txt K mg A G):FnOk P w K mg base (CXf P w) 1 f fd ["self","value"] (spThere A G):=by
  refine F.byx scThere (fun vs H Q E h=>?_) (fun cdv A' outer s H vs Q E hr h=>?_)
  · obtain ⟨hp,d,nl,p,m,L,i,rfl,_⟩:=h
    rfl
  obtain ⟨hp,d,nl,p,m,L,i,rfl,ha,hp1,hc⟩:=h
  refine ⟨_,jss_cons (js_set (i:=2) scThere.nd rfl (Or.inl rfl) (je_dget2 hr (je_fld (jv 0)) (je_ix jx_tup (jv 1) je_int (fun _ _=>rfl)) je_non))
    (jss_cons (js_if (jW.pt (jw_or (jt_isN (jv 2)) (jw_or1 (jt_cmpR jo_eq (je_fld (jv 2)) je_int (by with_unfolding_all rfl))))) (jss_one (js_raise0 T.xG hr rfl T.gone throwx)) jss_nil)
    (jss_one (js_ret (jv 2)))),?_⟩
  obtain ⟨dx,r,dr,h1,h2,h3,h4⟩:=ha.ex
  have get:∀ {o:Option V},valV (kvB L) (.inl (i:Int))=o->DGet H d (.int i) o:=fun e=>by
    rw [<- e]
    exact DGet.k (k:=.inl ((i:Nat):Int)) h4
  have at1:∀ x∈L,x.n=i->DGet H d (.int i) (some (.ref x.b)):=fun x hx e=>get (by rw [<- e]; exact kvB_at ha.rise hx)
  by_cases hx:∃ x∈L,x.n=i
  · obtain ⟨x,hx,ei⟩:=hx
    obtain ⟨db,u1,u2⟩:=ha.box x hx
    refine (ex2q rfl ⟨hp,_,_,_,_,rfl,h1,T.clH,T.nBy,rfl,d,rfl,.inl ⟨_,.of h4⟩,(ex2q rfl ⟨p,_,_,_,rfl,rfl,SqT.of hp1,atI_nat (j:=1) rfl,_,at1 x hx ei,?_⟩)⟩)
    refine (ex2q rfl ?_)
    refine (ex2q rfl (iteF ?_))
    refine (ex2q rfl ⟨x.b,_,_,_,_,rfl,u1,T.clB,T.nCount,rfl,rfl,(ex2q rfl ?_)⟩)
    refine ite2 (fun c=>?_) (fun c=>?_)
    · rcases hc with ⟨y,hy,ey,hn,q⟩ | ⟨_,q⟩
      · exfalso
        rw [rise_eq ha.rise hx hy (by rw [ei,ey])] at c
        rw [decide_eq_true_eq] at c
        injection c with c
        exact hn c
      · exact q
    · rcases hc with ⟨y,hy,ey,hn,q⟩ | ⟨g,_⟩
      · rw [<- rise_eq ha.rise hx hy (by rw [ei,ey])] at q
        exact (ex2q rfl (q))
      · exact absurd (decide_eq_true (by rw [g x hx ei])) c
  · refine (ex2q rfl ⟨hp,_,_,_,_,rfl,h1,T.clH,T.nBy,rfl,d,rfl,.inl ⟨_,.of h4⟩,(ex2q rfl ⟨p,_,_,_,rfl,rfl,SqT.of hp1,atI_nat (j:=1) rfl,_,get (kvB_no fun x h e=>hx ⟨x,h,e⟩),?_⟩)⟩)
    refine (ex2q rfl ?_)
    refine (ex2q rfl (iteT (iteT ?_)))
    rcases hc with ⟨y,hy,ey,hn,q⟩ | ⟨_,q⟩
    · exact absurd ⟨y,hy,ey⟩ hx
    · exact q
def spHold (A:Adr) (G:Addr):Sp:=fun vs H Q E=>∃ (hp d nl:Addr) (v:V) (m:Nm) (L:List Bx),vs=[.ref hp,v]/\HpB A H hp d nl m L/\((Flat v/\Q .non H)\/∃ p i,v=.ref p/\H p=some (BX i) /\
  ((∃ x∈L,x.n=i/\x.count≠0/\∀ H',KL nl d H H'->HpB A H' hp d nl m (setC L i (x.count + 1))->Q .non H')\/(Gon L i/\E (.ref G) none H)))
theorem scHold:FnScope ["self","value","box"] ["self","value"] (defScope sHold):=⟨rfl,rfl,rfl,by decide +kernel,rfl,by decide +kernel,by decide +kernel⟩
theorem ok_hold (F:Fun K "hold" "Heap.hold" sHold f fd) (T:Txt K mg A G) (GI:Ca P w K mg base CX0 1 "is_box" ["value"] spIsBox) (GT:Me P w K mg base (CXf P w) 1 A.cH "there" ["self","value"] (spThere A G)):FnOk P w K mg base (CXf P w) 2 f fd ["self","value"] (spHold A G):=by
  refine F.byx scHold (fun vs H Q E h=>?_) (fun cdv A' outer s H vs Q E hr h=>?_)
  · obtain ⟨hp,d,nl,v,m,L,rfl,_⟩:=h
    rfl
  obtain ⟨hp,d,nl,v,m,L,rfl,ha,hv⟩:=h
  refine ⟨_,jss_one (js_if (jt_val (je_ca GI.upx hr rfl passx (ja_c (jv 1) ja_nil))) (jss_cons (js_set (i:=2) scHold.nd rfl (Or.inl rfl) (je_me (jv 0) T.clH GT hr passx (ja_c (jv 1) ja_nil)))
      (jss_one (js_fld (jv 2) (je_op jo_add (je_fld (jv 2)) je_int)))) jss_nil),?_⟩
  obtain ⟨dx,r,dr,h1,h2,h3,h4⟩:=ha.ex
  rcases hv with ⟨hf,q⟩ | ⟨p,i,rfl,hp1,hc⟩
  · exact (ex2q rfl ⟨_,_,rfl,.inl ⟨hf,rfl⟩,(ex2q rfl (iteF q))⟩)
  · refine (ex2q rfl ⟨_,_,rfl,.inr ⟨p,(ex2q rfl ⟨hp1,rfl⟩)⟩,(ex2q rfl (iteT ?_))⟩)
    refine (ex2q rfl ⟨hp,dx,(ex2q rfl ⟨h1,ha.xt.2 _ (by decide) (by decide),(ex2q rfl ⟨hp,d,nl,p,m,L,i,rfl,ha,hp1,?_⟩)⟩)⟩)
    rcases hc with ⟨x,hx,rfl,hn,q⟩ | ⟨g,q⟩
    · obtain ⟨db,u1,u2⟩:=ha.box x hx
      refine .inl ⟨x,hx,rfl,hn,?_⟩
      refine (ex2q rfl ⟨x.b,_,_,_,_,rfl,u1,T.clB,T.nCount,rfl,(ex4q rfl rfl (ex2q rfl ⟨x.b,_,_,_,rfl,u1,T.clB,T.nCount,by show 3 < 1000; decide,?_⟩))⟩)
      exact q _ (KL.refl.ins u1) (ha.setCount (c:=x.count + 1) hx u1 T.neB T.neBR)
    · exact .inr ⟨g,q⟩
def spLess (A:Adr) (G:Addr):Sp:=fun vs H Q E=>∃ (hp d nl p:Addr) (m:Nm) (L:List Bx) (i:Nat),vs=[.ref hp,.ref p]/\HpB A H hp d nl m L/\H p=some (BX i) /\
  ((∃ x∈L,x.n=i/\x.count≠0/\∀ H',KL nl d H H'->HpB A H' hp d nl m (setC L i (x.count - 1))->Q (.int (x.count - 1)) H')\/(Gon L i/\E (.ref G) none H))
theorem scLess:FnScope ["self","value","box"] ["self","value"] (defScope sLess):=⟨rfl,rfl,rfl,by decide +kernel,rfl,by decide +kernel,by decide +kernel⟩
theorem ok_less (F:Fun K "lessened" "Heap.lessened" sLess f fd) (T:Txt K mg A G) (GT:Me P w K mg base (CXf P w) 1 A.cH "there" ["self","value"] (spThere A G)):FnOk P w K mg base (CXf P w) 2 f fd ["self","value"] (spLess A G):=by
  refine F.byx scLess (fun vs H Q E h=>?_) (fun cdv A' outer s H vs Q E hr h=>?_)
  · obtain ⟨hp,d,nl,p,m,L,i,rfl,_⟩:=h
    rfl
  obtain ⟨hp,d,nl,p,m,L,i,rfl,ha,hp1,hc⟩:=h
  refine ⟨_,jss_cons (js_set (i:=2) scLess.nd rfl (Or.inl rfl) (je_me (jv 0) T.clH GT hr passx (ja_c (jv 1) ja_nil)))
      (jss_cons (js_fld (jv 2) (je_op jo_sub (je_fld (jv 2)) je_int)) (jss_one (js_ret (je_fld (jv 2))))),?_⟩
  obtain ⟨dx,r,dr,h1,h2,h3,h4⟩:=ha.ex
  refine (ex2q rfl ⟨hp,dx,(ex2q rfl ⟨h1,ha.xt.2 _ (by decide) (by decide),(ex2q rfl ⟨hp,d,nl,p,m,L,i,rfl,ha,hp1,?_⟩)⟩)⟩)
  rcases hc with ⟨x,hx,rfl,hn,q⟩ | ⟨g,q⟩
  · obtain ⟨db,u1,u2⟩:=ha.box x hx
    refine .inl ⟨x,hx,rfl,hn,?_⟩
    refine (ex2q rfl ⟨x.b,_,_,_,_,rfl,u1,T.clB,T.nCount,rfl,(ex4q rfl rfl (ex2q rfl ⟨x.b,_,_,_,rfl,u1,T.clB,T.nCount,by show 3 < 1000; decide,?_⟩))⟩)
    refine (ex2q rfl ⟨x.b,_,_,_,_,rfl,upd_same,T.clB,T.nCount,rfl,?_⟩)
    exact q _ (KL.refl.ins u1) (ha.setCount (c:=x.count - 1) hx u1 T.neB T.neBR)
  · exact .inr ⟨g,q⟩
theorem scParts:FnScope ["self","at","left","box","part"] ["self","at"] (defScope sParts):=⟨rfl,rfl,rfl,by decide +kernel,rfl,by decide +kernel,by decide +kernel⟩
theorem scLetGo:FnScope ["self","value"] ["self","value"] (defScope sLetGo):=⟨rfl,rfl,rfl,by decide +kernel,rfl,by decide +kernel,by decide +kernel⟩
end
end Hv
namespace L2
open PySem PySem.Spec PyProof.Rows
theorem FunM.byx {P:Program} {w:World} {K:PySem.W.Frag} {mg:Str->Option Value} {base:Heap} {x qual:Str} {st:Stmt} {f D:Addr} {fd:FuncData} {N ps:List Str} {k:Nat} {sp:Sp} (F:FunM K x qual st D f fd) (S:FnScope N ps (defScope st)) (len:∀ vs H Q E,sp vs H Q E->vs.length=ps.length)
    (hbody:∀ (cdv:Value) (A:Around) (outer:List Env) (s:Shared) (H:Hp) (vs:List V) (Q:VK) (E:XK),Room k (A.deeper (envOfC qual (defScope st) s.heap.objs.size f cdv))->sp vs H Q E ->
      ∃ t,jSs (cxOf (CXf P w) P w K mg base N qual (defScope st) f cdv A outer s H E) (defBody st) t/\t { nx:=fun _ H'=>Q .non H',rt:=Q } (start N vs) H):FnOk P w K mg base (CXf P w) (k + 1) f fd ps sp:=by
  obtain ⟨oc,od,kV,doc,pm,an,cdv,ct,osl,rfl,lk,hcd⟩:=F.ex
  refine fn_of lk hcd S len fun A outer s H vs Q E hr hsp=>?_
  obtain ⟨t,h,q⟩:=hbody cdv A outer s H vs Q E hr hsp
  exact ⟨t,h.out,q⟩
theorem MdIn.meX {P:Program} {w:World} {K:PySem.W.Frag} {mg:Str->Option Value} {base:Heap} {CX:CXT} {k:Nat} {C:Addr} {x qual:Str} {st:Stmt} {D:Addr} {ps:List Str} {dvs:List V} {sp:Sp} (d:MdIn K C x qual st D)
    (hb:∀ (kV doc pm:Value) (an:Option Addr) (cdv ct:Value),Binds K (PySem.W.fnOf x qual (defArgs st) (defBody st) (defScope st) (.ref D) kV doc pm an cdv ct) ps [])
    (hd:∀ (kV doc pm:Value) (an:Option Addr) (cdv ct:Value),∃ ds,Binds K (PySem.W.fnOf x qual (defArgs st) (defBody st) (defScope st) (.ref D) kV doc pm an cdv ct) ps ds/\Vals dvs ds)
    (ok:∀ f fd,FunM K x qual st D f fd->FnOk P w K mg base CX k f fd ps sp):MeD P w K mg base CX k C x ps dvs sp:=by
  obtain ⟨f,a,n,oc,od,kV,doc,pm,an,cdv,ct,osl,l,cc,kp⟩:=d
  exact ⟨f,_,ok f _ ⟨oc,od,kV,doc,pm,an,cdv,ct,osl,rfl,l,cc⟩,hb kV doc pm an cdv ct,hd kV doc pm an cdv ct,a,n,kp⟩
def DbIn (K:PySem.W.Frag) (D:Addr):Prop:=∃ (d:Option Addr) (n:Nat) (sl:Array (Option Value)),K.lookup D=some ⟨.type "tuple",d,.seq #[.bool false] n,sl⟩
theorem DbIn.mk {K:PySem.W.Frag} {D:Addr} {d:Option Addr} {n:Nat} {sl:Array (Option Value)} (a:K.lookup D=some ⟨.type "tuple",d,.seq #[.bool false] n,sl⟩):DbIn K D:=⟨d,n,sl,a⟩
end L2
namespace Hv
open PySem L2 K11 HM
theorem kit_is (K:PySem.W.Frag):PySem.W.kitOne K (.type "int") (.type "str")=some false:=by rfl
section
variable {P:Program} {w:World} {K:PySem.W.Frag} {mg:Str->Option Value} {base:Heap} {f:Addr} {fd:FuncData} {A:Adr} {G:Addr}
theorem scTake:FnScope ["self","value","keep","box","part"] ["self","value","keep"] (defScope sTake):=⟨rfl,rfl,rfl,by decide +kernel,rfl,by decide +kernel,by decide +kernel⟩
theorem bd_take3 {D:Addr} (dt:DbIn K D) (kV doc pm:Value) (an:Option Addr) (cdv ct:Value):Binds K (PySem.W.fnOf "take" "Heap.take" (defArgs sTake) (defBody sTake) (defScope sTake) (.ref D) kV doc pm an cdv ct) ["self","value","keep"] []:=fun s us X hl=>by
  obtain ⟨d,n,sl,lk⟩:=dt
  have hl':us.length=3:=by simp at hl; lia
  match us,hl' with
  | [_,_,_],_=>exact PySem.W.binds_K X rfl lk rfl rfl rfl
theorem bd_take2 {D:Addr} (dt:DbIn K D) (kV doc pm:Value) (an:Option Addr) (cdv ct:Value):∃ ds,Binds K (PySem.W.fnOf "take" "Heap.take" (defArgs sTake) (defBody sTake) (defScope sTake) (.ref D) kV doc pm an cdv ct) ["self","value","keep"] ds/\Vals [.bl false] ds:=by
  obtain ⟨d,n,sl,lk⟩:=dt
  refine ⟨[.bool false],fun s us X hl=>?_,.cons rfl .nil⟩
  have hl':us.length=2:=by simp at hl; lia
  match us,hl' with
  | [_,_],_=>exact PySem.W.binds_K X rfl lk rfl rfl rfl
structure Rws (H':Hp) (l:Addr) (ts qs:List Addr) (L:List Bx):Prop where
  tl:ts.length=L.length
  ql:qs.length=L.length
  ne:l ∉ qs
  row:∀ (i:Nat) t q x,ts[i]?=some t->qs[i]?=some q->L[i]?=some x->H' t=some (.tup [.int x.n,.str x.tag,.ref q,.int x.count])/\H' q=some (.lst x.parts)
def SrtB (L:List Bx):Prop:=L.Pairwise fun x y=>x.n < y.n
theorem perm_map {β:Type} {f:Bx->β}:∀ {ns:List β} {L:List Bx},ns.Perm (L.map f)->∃ L':List Bx,L'.Perm L/\ns=L'.map f
  | [],L,h=>by
    have:=h.length_eq
    rw [List.length_map] at this
    have e:L=[]:=List.eq_nil_of_length_eq_zero this.symm
    subst e
    exact ⟨[],.refl _,rfl⟩
  | a :: r,L,h=>by
    obtain ⟨x,hx,rfl⟩:=List.mem_map.mp (h.mem_iff.mp List.mem_cons_self)
    obtain ⟨l1,l2,rfl⟩:=List.append_of_mem hx
    have p:(l1 ++ x :: l2).Perm (x :: (l1 ++ l2)):=List.perm_middle
    have q:r.Perm ((l1 ++ l2).map f):=List.Perm.cons_inv (h.trans (p.map f))
    obtain ⟨L',p',e'⟩:=perm_map q
    exact ⟨x :: L',(p'.cons x).trans p.symm,by rw [e']; rfl⟩
theorem srt_eq {L L1 L2:List Bx} (h:Rise L) (p1:L1.Perm L) (p2:L2.Perm L) (s1:SrtB L1) (s2:SrtB L2):L1=L2:=by
  have e:(L1.map fun x=>(x.n:Int))=L2.map fun x=>(x.n:Int):=rise_same (List.pairwise_map.mpr (s1.imp fun h=>by lia)) (List.pairwise_map.mpr (s2.imp fun h=>by lia)) fun x=>((p1.map fun (x:Bx)=>(x.n:Int)).trans (p2.map _).symm).mem_iff
  have l:=congrArg List.length e
  rw [List.length_map,List.length_map] at l
  refine List.ext_getElem l fun i a b=>?_
  have g:(L1.map fun x=>(x.n:Int))[i]?=(L2.map fun x=>(x.n:Int))[i]?:=by rw [e]
  rw [List.getElem?_map,List.getElem?_map,List.getElem?_eq_getElem a,List.getElem?_eq_getElem b] at g
  have g':((L1[i].n:Nat):Int)=((L2[i].n:Nat):Int):=by injection g
  exact rise_eq h (p1.mem_iff.mp (List.getElem_mem a)) (p2.mem_iff.mp (List.getElem_mem b)) (by lia)
def spBoxes (A:Adr):Sp:=fun vs H Q _=>∃ (hp d nl:Addr) (m:Nm) (L:List Bx),vs=[.ref hp]/\HpB A H hp d nl m L/\L.length < 64/\∀ H' l ts qs (L':List Bx),L'.Perm L->SrtB L'->Same H H'->H l=none->H' l=some (.lst (ts.map V.ref))->Rws H' l ts qs L'->(∀ q∈qs,H q=none)->Q (.ref l) H'
theorem scBoxes:FnScope ["self","found","at","box"] ["self"] (defScope sBoxes):=⟨rfl,rfl,rfl,by decide +kernel,rfl,by decide +kernel,by decide +kernel⟩
theorem ok_boxes (F:Fun K "boxes" "Heap.boxes" sBoxes f fd) (T:Txt K mg A G):FnOk P w K mg base CX0 1 f fd ["self"] (spBoxes A):=by
  refine F.by scBoxes (fun vs H Q E h=>?_) (fun cdv A' outer s H vs Q E hr h=>?_)
  · obtain ⟨hp,d,nl,m,L,rfl,_⟩:=h
    rfl
  obtain ⟨hp,d,nl,m,L,rfl,ha,hL,q⟩:=h
  refine ⟨_,jss_cons (js_set (i:=1) scBoxes.nd rfl (Or.inl rfl) (je_lst ja_nil))
    (jss_cons (js_for PassesOwn.never rfl (ji_list (je_fnB (jc_sortD rfl) rfl T.sorted PyProof.Rows.boot_sorted (ja_c (je_fld (jv 0)) ja_nil))) (jg_name (i:=2) scBoxes.nd rfl (Or.inl rfl))
      (jss_cons (js_set (i:=3) scBoxes.nd rfl (Or.inl rfl) (je_dget hr (je_fld (jv 0)) (jv 2)))
      (jss_one (js_expr (je_bm PySem.F.plainAttrs_list PySem.F.slot_list_append PySem.F.type_list_append jm_append (jv 1) (ja_c (je_tup (ja_c (jv 2) (ja_c (je_fld (jv 3)) (ja_c (je_fnTy jc_list_of rfl T.list PyProof.Rows.boot_list (ja_c (je_fld (jv 3)) ja_nil)) (ja_c (je_fld (jv 3)) ja_nil))))) ja_nil))))))
    (jss_one (js_ret (jv 1)))),?_⟩
  have sl:=line0
  obtain ⟨dx,r,dr,h1,h2,h3,h4⟩:=ha.ex
  refine ⟨by show 0<=sizeLine; lia,fun l hl=>?_⟩
  have s1:Same H (upd H l (.lst [])):=same_new hl _
  refine (ex2q rfl ⟨hp,_,_,_,_,rfl,s1 _ _ h1,T.clH,T.nBy,rfl,d,_,L.map (fun x=>(x.n:Int)),rfl,s1 _ _ h4,kvB_keys L,by rw [List.length_map]; lia,fun k ns' hk pm ps=>?_⟩)
  obtain ⟨L',pL,rfl⟩:=perm_map pm
  have rL:Rise L':=(pL.pairwise_iff (R:=fun x y:Bx=>x.n≠y.n) (fun h=>Ne.symm h)).mpr ha.rise
  have sL:SrtB L':=by
    have:=(List.pairwise_map.mp ps).and rL
    exact this.imp fun h=>by obtain ⟨a,b⟩:=h; lia
  have lL:=pL.length_eq
  refine ⟨k,rfl,⟨_,SqL.of upd_same⟩,for_list (K:=K) (xs:=(L'.map (fun x=>(x.n:Int))).map V.int) (fun i σ H'=>∃ ts qs va vb,σ=[some (.ref hp),some (.ref l),va,vb]/\Same H H'/\H' k=some (.lst ((L'.map (fun x=>(x.n:Int))).map V.int))/\H' l=some (.lst (ts.map V.ref))/\Rws H' l ts qs (L'.take i)/\∀ q∈qs,H q=none) ?_ ?_ ?_ ?_⟩
  · exact ⟨[],[],none,none,rfl,s1.new hk,upd_same,old hk upd_same,⟨rfl,rfl,by simp,by simp⟩,fun q h=>nomatch h⟩
  · rintro i σ H' hi ⟨ts,qs,va,vb,_,_,hk',_⟩
    exact SqL.of hk'
  · rintro i v σ H' hv ⟨ts,qs,va,vb,rfl,sm,hk',hl',R,hN⟩
    rw [List.getElem?_map,List.getElem?_map] at hv
    obtain ⟨x,hx,rfl⟩:∃ x,L'[i]?=some x/\V.int (x.n:Int)=v:=by
      cases e:L'[i]? with
      | none=>rw [e] at hv; cases hv
      | some x=>rw [e] at hv; exact ⟨x,rfl,by injection hv⟩
    have hLi:i < L'.length:=(List.getElem?_eq_some_iff.mp hx).1
    have hxm:=pL.mem_iff.mp (List.mem_of_getElem? hx)
    obtain ⟨db,u1,u2⟩:=ha.box x hxm
    have g:DGet H' d (.int (x.n:Int)) (some (.ref x.b)):=by
      rw [<- kvB_at ha.rise hxm]
      exact DGet.k (k:=.inl ((x.n:Nat):Int)) (sm _ _ h4)
    refine (ex2q rfl ⟨hp,_,_,_,_,rfl,sm _ _ h1,T.clH,T.nBy,rfl,(ex2q rfl ⟨d,(ex2q rfl ⟨g,?_⟩)⟩)⟩)
    have tl:=R.tl
    have ql:=R.ql
    rw [List.length_take,Nat.min_eq_left (by lia)] at tl ql
    refine (ex2q rfl ⟨.inl ⟨rfl,_,SqL.of hl'⟩,(ex2q rfl (ex2q rfl ⟨x.b,_,_,_,_,rfl,sm _ _ u1,T.clB,T.nTag,rfl,(ex2q rfl ⟨x.b,_,_,_,_,rfl,sm _ _ u1,T.clB,T.nParts,rfl,_,_,rfl,.inl (SqL.of (sm _ _ u2)),fun q' hq'=>?_⟩)⟩))⟩)
    refine (ex2q rfl ⟨x.b,_,_,_,_,rfl,old hq' (sm _ _ u1),T.clB,T.nCount,rfl,by show 4<=sizeLine; lia,fun t ht=>?_⟩)
    have nl':l≠q':=ne_of_none hl' hq'
    have hl2:=old (o:=.tup [.int ((x.n:Nat):Int),.str x.tag,.ref q',.int x.count]) ht (old (o:=.lst x.parts) hq' hl')
    refine ⟨l,(ex4q rfl rfl ⟨hl2,by rw [List.length_map]; lia,?_⟩)⟩
    have nlk:l≠k:=ne_of_none (upd_same (H:=H) (a:=l) (o:=.lst [])) hk
    have st1:∀ a o,a≠l->H' a=some o->upd (upd (upd H' q' (.lst x.parts)) t (.tup [.int ((x.n:Nat):Int),.str x.tag,.ref q',.int x.count])) l (.lst (ts.map V.ref ++ [.ref t])) a=some o:=fun a o n e=>by
      rw [upd_ne n]
      exact old ht (old hq' e)
    have hq2:upd H' q' (.lst x.parts) q'=some (.lst x.parts):=upd_same
    have ntl:t≠l:=fun z=>by rw [z] at ht; rw [old hq' hl'] at ht; cases ht
    have ntq:q'≠t:=ne_of_none hq2 ht
    refine ⟨ts ++ [t],qs ++ [q'],_,_,rfl,fun a o e=>st1 a o (ne_of_none e hl) (sm a o e),st1 _ _ (Ne.symm nlk) hk',?_,?_,fun q hm=>(List.mem_append.mp hm).elim (hN q) (fun c=>by rw [List.mem_singleton.mp c]; exact none_of sm hq')⟩
    · rw [upd_same,List.map_append]
      rfl
    refine ⟨by rw [List.length_append,List.length_take,Nat.min_eq_left (by lia)]; show ts.length + 1=_; lia,by rw [List.length_append,List.length_take,Nat.min_eq_left (by lia)]; show qs.length + 1=_; lia,?_,?_⟩
    · intro hm
      rcases List.mem_append.mp hm with c | c
      · exact R.ne c
      · rw [List.mem_singleton] at c
        exact nl' c
    · intro j t' q y i1 i2 i3
      rcases Nat.lt_or_ge j i with c | c
      · rw [List.getElem?_append_left (by lia)] at i1 i2
        rw [List.getElem?_take_of_lt (by lia)] at i3
        obtain ⟨v1,v2⟩:=R.row j t' q y i1 i2 (by rw [List.getElem?_take_of_lt c]; exact i3)
        refine ⟨st1 _ _ (ne_of v1 hl' (by intro z; cases z)) v1,st1 _ _ (fun z=>R.ne ?_) v2⟩
        rw [<- z]
        exact List.mem_of_getElem? i2
      · rw [List.getElem?_append_right (by lia)] at i1 i2
        have ej:j=i:=by
          rcases Nat.lt_or_ge i j with z | z
          · rw [List.getElem?_eq_none (by show 1<=_; lia)] at i1
            cases i1
          · lia
        subst ej
        rw [tl,Nat.sub_self] at i1
        rw [ql,Nat.sub_self] at i2
        cases i1
        cases i2
        rw [List.getElem?_take_of_lt (by lia),hx] at i3
        cases i3
        exact ⟨by rw [upd_ne ntl]; exact upd_same,by rw [upd_ne (Ne.symm nl')]; exact old ht upd_same⟩
  · rintro σ H' ⟨ts,qs,va,vb,rfl,sm,hk',hl',R,hN⟩
    rw [List.take_of_length_le (by rw [List.length_map,List.length_map]; lia)] at R
    exact (ex2q rfl (q _ l ts qs L' pL sL sm hl hl' R hN))
end
end Hv
namespace L2
open PySem PySem.Spec PyProof.Rows
section
variable {X:Cx} {pos:Pos}
theorem jx_tupK (K:PySem.W.Frag) (h:X.K=K:=by rfl):jIx X (rIxT K):=h ▸ jx_tup
theorem jg_tupK (K:PySem.W.Frag) {es:List Expr} {k:Nat} {gs:TGs} {n:Nat} (hc:X.calm=true) (g:jGs X es gs) (h:X.K=K:=by rfl) (hn:(assignEach es X.env).length=n:=by rfl) (hst:(assignEach es X.env).findIdx? (·.1)=none:=by rfl):jG X (.Tuple es k pos) (gTup K n gs):=h ▸ jg_tup hc g hn hst
end
end L2
namespace Hv
open PySem L2 K11 HM
theorem kit_ni (K:PySem.W.Frag):PySem.W.kitOne K (.type "NoneType") (.type "int")=some false:=by rfl
theorem kit_nb (K:PySem.W.Frag):PySem.W.kitOne K (.type "NoneType") (.type "bool")=some false:=by rfl
theorem kit_ns (K:PySem.W.Frag):PySem.W.kitOne K (.type "NoneType") (.type "str")=some false:=by rfl
theorem kit_sl (K:PySem.W.Frag):PySem.W.kitOne K (.type "str") (.type "int")=some false:=by rfl
theorem kit_sb (K:PySem.W.Frag):PySem.W.kitOne K (.type "str") (.type "bool")=some false:=by rfl
theorem kit_ii (K:PySem.W.Frag):PySem.W.kitOne K (.type "int") (.type "int")=some true:=by rfl
theorem kit_ib (K:PySem.W.Frag):PySem.W.kitOne K (.type "int") (.type "bool")=some false:=by rfl
theorem kit_ll (K:PySem.W.Frag):PySem.W.kitOne K (.type "list") (.type "list")=some true:=by rfl
theorem kit_lt (K:PySem.W.Frag):PySem.W.kitOne K (.type "list") (.type "tuple")=some false:=by rfl
theorem kit_tl (K:PySem.W.Frag):PySem.W.kitOne K (.type "tuple") (.type "list")=some false:=by rfl
def Alk:Nat->Hp->V->V->Prop
  | 0,_,_,_=>False
  | n + 1,H,x,y=>(x=.non/\y=.non)\/(∃ i,x=.int i/\y=.int i)\/(∃ z,x=.str z/\y=.str z)\/∃ a b xs ys,x=.ref a/\y=.ref b/\((H a=some (.lst xs)/\H b=some (.lst ys))\/(H a=some (.tup xs)/\H b=some (.tup ys)))/\xs.length=ys.length/\xs.length<=1000 /\
      ∀ (i:Nat) u v,xs[i]?=some u->ys[i]?=some v->Alk n H u v
theorem Alk.same:∀ {n:Nat} {H H':Hp} {x y:V},Alk n H x y->Same H H'->Alk n H' x y
  | 0,_,_,_,_,h,_=>h.elim
  | n + 1,H,H',x,y,h,s=>by
    rcases h with ⟨a,b⟩ | ⟨i,a,b⟩ | ⟨z,a,b⟩ | ⟨a,b,xs,ys,e1,e2,h,l1,l2,r⟩
    · exact .inl ⟨a,b⟩
    · exact .inr (.inl ⟨i,a,b⟩)
    · exact .inr (.inr (.inl ⟨z,a,b⟩))
    · exact .inr (.inr (.inr ⟨a,b,xs,ys,e1,e2,h.elim (fun c=>.inl ⟨s _ _ c.1,s _ _ c.2⟩) (fun c=>.inr ⟨s _ _ c.1,s _ _ c.2⟩),l1,l2,fun i u v h1 h2=>(r i u v h1 h2).same s⟩))
inductive A2 (R:V->V->Prop):List V->List V->Prop where
  | nil:A2 R [] []
  | cons {x y:V} {xs ys:List V} (h:R x y) (t:A2 R xs ys):A2 R (x :: xs) (y :: ys)
theorem A2.len {R:V->V->Prop}:∀ {xs ys:List V},A2 R xs ys->xs.length=ys.length
  | _,_,.nil=>rfl
  | _,_,.cons _ t=>by rw [List.length_cons,List.length_cons,t.len]
theorem A2.get {R:V->V->Prop}:∀ {xs ys:List V},A2 R xs ys->∀ (i:Nat) u v,xs[i]?=some u->ys[i]?=some v->R u v
  | _,_,.nil,_,_,_,h,_=>by simp at h
  | _,_,.cons h t,0,_,_,h1,h2=>by cases h1; cases h2; exact h
  | _,_,.cons _ t,i + 1,u,v,h1,h2=>t.get i u v h1 h2
theorem A2.refl {R:V->V->Prop}:∀ {xs:List V},(∀ x∈xs,R x x)->A2 R xs xs
  | [],_=>.nil
  | x :: xs,h=>.cons (h x List.mem_cons_self) (A2.refl fun y hy=>h y (List.mem_cons_of_mem _ hy))
theorem Alk.non {n:Nat} {H:Hp}:Alk (n + 1) H .non .non:=.inl ⟨rfl,rfl⟩
theorem Alk.int {n:Nat} {H:Hp} (i:Int):Alk (n + 1) H (.int i) (.int i):=.inr (.inl ⟨i,rfl,rfl⟩)
theorem Alk.str {n:Nat} {H:Hp} (z:Str):Alk (n + 1) H (.str z) (.str z):=.inr (.inr (.inl ⟨z,rfl,rfl⟩))
theorem Alk.lst {n:Nat} {H:Hp} {a b:Addr} {xs ys:List V} (ha:H a=some (.lst xs)) (hb:H b=some (.lst ys)) (h:A2 (Alk n H) xs ys) (hl:xs.length<=1000):Alk (n + 1) H (.ref a) (.ref b):=.inr (.inr (.inr ⟨a,b,xs,ys,rfl,rfl,.inl ⟨ha,hb⟩,h.len,hl,h.get⟩))
theorem Alk.tup {n:Nat} {H:Hp} {a b:Addr} {xs ys:List V} (ha:H a=some (.tup xs)) (hb:H b=some (.tup ys)) (h:A2 (Alk n H) xs ys) (hl:xs.length<=1000):Alk (n + 1) H (.ref a) (.ref b):=.inr (.inr (.inr ⟨a,b,xs,ys,rfl,rfl,.inr ⟨ha,hb⟩,h.len,hl,h.get⟩))
def spAlike (n:Nat):Sp:=fun vs H Q _=>∃ x y,vs=[x,y]/\Alk n H x y/\∀ H',Same H H'->Q (.bl true) H'
section
variable {P:Program} {w:World} {K:PySem.W.Frag} {mg:Str->Option Value} {base:Heap} {f:Addr} {fd:FuncData} {A:Adr} {G:Addr}
theorem scAlike:FnScope ["_law_found","_law_due"] ["_law_found","_law_due"] (defScope s_alike):=⟨rfl,rfl,rfl,by decide +kernel,rfl,by decide +kernel,by decide +kernel⟩
theorem ndAlike:(["_law_found","_law_due","_law_one","_law_other"]:List Str).Nodup:=by decide +kernel
theorem ok_alike {n:Nat} (F:Fun K "_law_alike" "_law_alike" s_alike f fd) (T:Txt K mg A G) (m_int:mg "int"=none) (m_bool:mg "bool"=none) (m_all:mg "all"=none) (m_zip:mg "zip"=none) (GA:Ca P w K mg base CX0 n "_law_alike" ["_law_found","_law_due"] (spAlike n)):FnOk P w K mg base CX0 (n + 1) f fd ["_law_found","_law_due"] (spAlike (n + 1)):=by
  refine F.by scAlike (fun vs H Q E h=>?_) (fun cdv A' outer s H vs Q E hr h=>?_)
  · obtain ⟨x,y,rfl,_⟩:=h
    rfl
  obtain ⟨x,y,rfl,ha,q⟩:=h
  refine ⟨_,
    (jss_cons (js_if (jt_val (je_fnB jc_isLT rfl T.isi PyProof.Rows.boot_isinstance (ja_c (jv 1) (ja_c (je_tup (ja_c (je_bltn (v:=.ty "list") rfl T.list PyProof.Rows.boot_list rfl) (ja_c (je_bltn (v:=.ty "tuple") rfl T.tuple PyProof.Rows.boot_tuple rfl) ja_nil))) ja_nil)))) 
      (jss_cons (js_if (jW.pt (jw_or (jt_cmpR jo_ne (je_fnB jc_isinst rfl T.isi PyProof.Rows.boot_isinstance (ja_c (jv 0) (ja_c (je_bltn (v:=.ty "list") rfl T.list PyProof.Rows.boot_list rfl) ja_nil))) (je_fnB jc_isinst rfl T.isi PyProof.Rows.boot_isinstance (ja_c (jv 1) (ja_c (je_bltn (v:=.ty "list") rfl T.list PyProof.Rows.boot_list rfl) ja_nil))) (by with_unfolding_all rfl)) (jw_or1 (jt_cmpR jo_ne (je_fnB jc_isinst rfl T.isi PyProof.Rows.boot_isinstance (ja_c (jv 0) (ja_c (je_bltn (v:=.ty "tuple") rfl T.tuple PyProof.Rows.boot_tuple rfl) ja_nil))) (je_fnB jc_isinst rfl T.isi PyProof.Rows.boot_isinstance (ja_c (jv 1) (ja_c (je_bltn (v:=.ty "tuple") rfl T.tuple PyProof.Rows.boot_tuple rfl) ja_nil))) (by with_unfolding_all rfl))))) 
        (jss_one (js_ret je_bl))  jss_nil)
      (jss_one (js_ret (je_and (je_cmpR jo_eq (je_fnB jc_len_seq rfl T.len PySem.boot_len (ja_c (jv 0) ja_nil)) (je_fnB jc_len_seq rfl T.len PySem.boot_len (ja_c (jv 1) ja_nil)) (by with_unfolding_all rfl)) (je_one (je_fnB (jc_all_bools rfl) rfl m_all PyProof.Rows.boot_all (ja_c (je_comp ["_law_one","_law_other"] rfl (ji_zip rfl m_zip (ja_c (jv 0) (ja_c (jv 1) ja_nil))) (fun _ _ _ _ _=>(jg_tupK K (n:=2) rfl (jgs_cons (jg_name (i:=2) ndAlike rfl (Or.inl rfl)) (jgs_cons (jg_name (i:=3) ndAlike rfl (Or.inl rfl)) jgs_nil)))) (fun _ _ _ _ _=>jts_nil) (fun _ _ _ _ _=>(je_ca GA hr rfl pass0 (ja_c (jv 2) (ja_c (jv 3) ja_nil))))) ja_nil)))))))  jss_nil)
    (jss_cons (js_if (jW.pt (jw_or (jt_cmpR jo_ne (je_fnB jc_isinst rfl T.isi PyProof.Rows.boot_isinstance (ja_c (jv 0) (ja_c (je_bltn (v:=.ty "int") rfl m_int PyProof.Rows.boot_int rfl) ja_nil))) (je_fnB jc_isinst rfl T.isi PyProof.Rows.boot_isinstance (ja_c (jv 1) (ja_c (je_bltn (v:=.ty "int") rfl m_int PyProof.Rows.boot_int rfl) ja_nil))) (by with_unfolding_all rfl)) (jw_or1 (jt_cmpR jo_ne (je_fnB jc_isinst rfl T.isi PyProof.Rows.boot_isinstance (ja_c (jv 0) (ja_c (je_bltn (v:=.ty "bool") rfl m_bool PyProof.Rows.boot_bool rfl) ja_nil))) (je_fnB jc_isinst rfl T.isi PyProof.Rows.boot_isinstance (ja_c (jv 1) (ja_c (je_bltn (v:=.ty "bool") rfl m_bool PyProof.Rows.boot_bool rfl) ja_nil))) (by with_unfolding_all rfl))))) 
      (jss_one (js_ret je_bl))  jss_nil)
    (jss_one (js_ret (je_and (je_cmpR jo_eq (je_fnB jc_isinst rfl T.isi PyProof.Rows.boot_isinstance (ja_c (jv 0) (ja_c (je_bltn (v:=.ty "str") rfl T.str PyProof.Rows.boot_str rfl) ja_nil))) (je_fnB jc_isinst rfl T.isi PyProof.Rows.boot_isinstance (ja_c (jv 1) (ja_c (je_bltn (v:=.ty "str") rfl T.str PyProof.Rows.boot_str rfl) ja_nil))) (by with_unfolding_all rfl)) (je_one (je_cmpR jo_eq (jv 0) (jv 1) (by with_unfolding_all rfl)))))))),?_⟩
  have sl:=line0
  refine (ex2q rfl ⟨by show 2<=sizeLine; lia,fun tp htp=>?_⟩)
  have s1:=same_new htp (.tup [.ty "list",.ty "tuple"])
  rcases ha with ⟨rfl,rfl⟩ | ⟨i,rfl,rfl⟩ | ⟨z,rfl,rfl⟩ | ⟨a,b,xs,ys,rfl,rfl,hab,hlen,h1000,r⟩
  · refine ⟨_,tp,(ex2q rfl ⟨upd_same,.non,(ex2q rfl (iteF ?_))⟩)⟩
    refine (ex2q rfl ⟨_,_,_,_,rfl,.non,kit_ni _,(ex2q rfl ⟨_,_,_,_,rfl,.non,kit_ni _,rfl,(ex2q rfl (iteF ?_))⟩)⟩)
    refine (ex2q rfl ⟨_,_,_,_,rfl,.non,kit_nb _,(ex2q rfl ⟨_,_,_,_,rfl,.non,kit_nb _,rfl,(ex2q rfl (iteF ?_))⟩)⟩)
    refine (ex2q rfl ⟨_,_,_,_,rfl,.non,kit_ns _,(ex2q rfl ⟨_,_,_,_,rfl,.non,kit_ns _,rfl,(ex2q rfl (iteT ?_))⟩)⟩)
    refine (ex2q rfl (ex2q rfl ⟨by simp [scal],?_⟩))
    have:=q _ s1
    simpa using this
  · refine ⟨_,tp,(ex2q rfl ⟨upd_same,.int i,(ex2q rfl (iteF ?_))⟩)⟩
    refine (ex2q rfl ⟨_,_,_,_,rfl,.int i,kit_ii _,(ex2q rfl ⟨_,_,_,_,rfl,.int i,kit_ii _,rfl,(ex2q rfl (iteF ?_))⟩)⟩)
    refine (ex2q rfl ⟨_,_,_,_,rfl,.int i,kit_ib _,(ex2q rfl ⟨_,_,_,_,rfl,.int i,kit_ib _,rfl,(ex2q rfl (iteF ?_))⟩)⟩)
    refine (ex2q rfl ⟨_,_,_,_,rfl,.int i,kit_is _,(ex2q rfl ⟨_,_,_,_,rfl,.int i,kit_is _,rfl,(ex2q rfl (iteT ?_))⟩)⟩)
    refine (ex2q rfl (ex2q rfl ⟨by simp [scal],?_⟩))
    have:=q _ s1
    simpa using this
  · refine ⟨_,tp,(ex2q rfl ⟨upd_same,.str z,(ex2q rfl (iteF ?_))⟩)⟩
    refine (ex2q rfl ⟨_,_,_,_,rfl,.str z,kit_sl _,(ex2q rfl ⟨_,_,_,_,rfl,.str z,kit_sl _,rfl,(ex2q rfl (iteF ?_))⟩)⟩)
    refine (ex2q rfl ⟨_,_,_,_,rfl,.str z,kit_sb _,(ex2q rfl ⟨_,_,_,_,rfl,.str z,kit_sb _,rfl,(ex2q rfl (iteF ?_))⟩)⟩)
    refine (ex2q rfl ⟨_,_,_,_,rfl,.str z,kit_ss _,(ex2q rfl ⟨_,_,_,_,rfl,.str z,kit_ss _,rfl,(ex2q rfl (iteT ?_))⟩)⟩)
    refine (ex2q rfl (ex2q rfl ⟨by simp [scal],?_⟩))
    have:=q _ s1
    simpa using this
  · rcases hab with ⟨h1,h2⟩ | ⟨h1,h2⟩
    · refine ⟨_,tp,(ex2q rfl ⟨upd_same,.lst (s1 _ _ h2),(ex2q rfl (iteT ?_))⟩)⟩
      refine (ex2q rfl ⟨_,_,_,_,rfl,.lst (s1 _ _ h1),kit_ll _,(ex2q rfl ⟨_,_,_,_,rfl,.lst (s1 _ _ h2),kit_ll _,rfl,(ex2q rfl (iteF ?_))⟩)⟩)
      refine (ex2q rfl ⟨_,_,_,_,rfl,.lst (s1 _ _ h1),kit_lt _,(ex2q rfl ⟨_,_,_,_,rfl,.lst (s1 _ _ h2),kit_lt _,rfl,(ex2q rfl (iteF ?_))⟩)⟩)
      refine (ex2q rfl ⟨a,xs,rfl,.inl (SqL.of (s1 _ _ h1)),(ex2q rfl ⟨b,ys,rfl,.inl (SqL.of (s1 _ _ h2)),rfl,(ex2q rfl ?_)⟩)⟩)
      refine ite2 (fun _=>?_) (fun c=>absurd (by rw [hlen]; exact decide_eq_true rfl) c)
      refine (ex2q rfl (ex2q rfl ⟨a,b,true,true,xs,ys,rfl,SqK.l (s1 _ _ h1),SqK.l (s1 _ _ h2),lc_zip (xs:=xs) (ys:=ys) hlen (fun i τ zs H'=>(∃ va vb,τ=[some (.ref a),some (.ref b),va,vb])/\Same H H'/\zs=List.replicate i (V.bl true)) ⟨⟨_,_,rfl⟩,s1,rfl⟩ ?_ ?_ ?_⟩))
      · rintro i τ zs H' hi ⟨_,sm,_⟩
        exact ⟨SqK.l (sm _ _ h1),SqK.l (sm _ _ h2)⟩
      · rintro i x y T' τ zs H' hx hy hT ⟨⟨va,vb,rfl⟩,sm,rfl⟩
        refine ⟨T',[x,y],rfl,SqT.of upd_same,rfl,?_⟩
        refine ⟨x,[y],rfl,y,[],rfl,rfl,(ex2q rfl (ex2q rfl ⟨x,y,rfl,(r i x y hx hy).same (sm.new hT),fun H2 s2=>⟨?_,⟨_,_,rfl⟩,(sm.new hT).trans s2,?_⟩⟩))⟩
        · rw [List.length_replicate]
          have:=(List.getElem?_eq_some_iff.mp hx).1
          lia
        · rw [List.replicate_succ']
      · rintro τ zs H' ⟨_,sm,rfl⟩ p hp
        refine ⟨p,List.replicate xs.length true,rfl,SqL.of (by rw [upd_same,List.map_replicate]),?_⟩
        rw [show (List.replicate xs.length true).all _root_.id=true by simp]
        exact q _ (sm.new hp)
    · refine ⟨_,tp,(ex2q rfl ⟨upd_same,.tup (s1 _ _ h2),(ex2q rfl (iteT ?_))⟩)⟩
      refine (ex2q rfl ⟨_,_,_,_,rfl,.tup (s1 _ _ h1),kit_tl _,(ex2q rfl ⟨_,_,_,_,rfl,.tup (s1 _ _ h2),kit_tl _,rfl,(ex2q rfl (iteF ?_))⟩)⟩)
      refine (ex2q rfl ⟨_,_,_,_,rfl,.tup (s1 _ _ h1),kit_tt _,(ex2q rfl ⟨_,_,_,_,rfl,.tup (s1 _ _ h2),kit_tt _,rfl,(ex2q rfl (iteF ?_))⟩)⟩)
      refine (ex2q rfl ⟨a,xs,rfl,.inr (SqT.of (s1 _ _ h1)),(ex2q rfl ⟨b,ys,rfl,.inr (SqT.of (s1 _ _ h2)),rfl,(ex2q rfl ?_)⟩)⟩)
      refine ite2 (fun _=>?_) (fun c=>absurd (by rw [hlen]; exact decide_eq_true rfl) c)
      refine (ex2q rfl (ex2q rfl ⟨a,b,false,false,xs,ys,rfl,SqK.t (s1 _ _ h1),SqK.t (s1 _ _ h2),lc_zip (xs:=xs) (ys:=ys) hlen (fun i τ zs H'=>(∃ va vb,τ=[some (.ref a),some (.ref b),va,vb])/\Same H H'/\zs=List.replicate i (V.bl true)) ⟨⟨_,_,rfl⟩,s1,rfl⟩ ?_ ?_ ?_⟩))
      · rintro i τ zs H' hi ⟨_,sm,_⟩
        exact ⟨SqK.t (sm _ _ h1),SqK.t (sm _ _ h2)⟩
      · rintro i x y T' τ zs H' hx hy hT ⟨⟨va,vb,rfl⟩,sm,rfl⟩
        refine ⟨T',[x,y],rfl,SqT.of upd_same,rfl,?_⟩
        refine ⟨x,[y],rfl,y,[],rfl,rfl,(ex2q rfl (ex2q rfl ⟨x,y,rfl,(r i x y hx hy).same (sm.new hT),fun H2 s2=>⟨?_,⟨_,_,rfl⟩,(sm.new hT).trans s2,?_⟩⟩))⟩
        · rw [List.length_replicate]
          have:=(List.getElem?_eq_some_iff.mp hx).1
          lia
        · rw [List.replicate_succ']
      · rintro τ zs H' ⟨_,sm,rfl⟩ p hp
        refine ⟨p,List.replicate xs.length true,rfl,SqL.of (by rw [upd_same,List.map_replicate]),?_⟩
        rw [show (List.replicate xs.length true).all _root_.id=true by simp]
        exact q _ (sm.new hp)
end
end Hv
namespace L2
open PySem PySem.Spec PyProof.Rows
section
variable {X:Cx}
def isPr (H:Hp) (k:Int):V->Bool
  | .ref a=>match H a with
    | some (.tup [_,.int j])=>j == k
    | _=>false
  | _=>false
end
end L2
namespace HM
open PySem L2
theorem HpB.keep {A:Adr} {H:Hp} {hp d nl:Addr} {m:Nm} {L:List Bx} (h:HpB A H hp d nl m L) (ks:List Int):HpB A (upd H nl (.lst (ks.map V.int))) hp d nl { m with kept:=ks } L:=by
  obtain ⟨dx,r,dr,h1,h2,h3,h4⟩:=h.ex
  have u:∀ {a:Addr} {o:HO},H a=some o->(∀ xs,o≠.lst xs)->upd H nl (.lst (ks.map V.int)) a=some o:=fun e z=>by
    rw [upd_ne (ne_of e h3 (z _))]
    exact e
  refine ⟨⟨dx,r,dr,u h1 (fun _ z=>nomatch z),u h2 (fun _ z=>nomatch z),upd_same,u h4 (fun _ z=>nomatch z)⟩,h.rise,h.less,fun x hx=>?_,h.nlp,h.bnd,h.xt⟩
  obtain ⟨dz,g1,g2⟩:=h.box x hx
  exact ⟨dz,u g1 (fun _ z=>nomatch z),by rw [upd_ne (h.nlp x hx)]; exact g2⟩
def addC (H:Hp) (ps:List V) (L:List Bx):List Bx:=L.map fun y=>{ y with count:=y.count + ((ps.countP (isPr H (y.n:Int)):Nat):Int) }
theorem addC_nil (H:Hp) (L:List Bx):addC H [] L=L:=by
  unfold addC
  conv=>rhs; rw [<- List.map_id L]
  refine List.map_congr_left fun y _=>?_
  show ({ y with count:=y.count + (0:Int) }:Bx)=y
  rw [Int.add_zero]
theorem addC_mem {H:Hp} {ps:List V} {L:List Bx} {y:Bx} (h:y∈addC H ps L):∃ x∈L,y.n=x.n/\y.b=x.b/\y.pl=x.pl/\y.tag=x.tag/\y.parts=x.parts/\y.count=x.count + ((ps.countP (isPr H (x.n:Int)):Nat):Int):=by
  obtain ⟨x,hx,rfl⟩:=List.mem_map.mp h
  exact ⟨x,hx,rfl,rfl,rfl,rfl,rfl,rfl⟩
theorem addC_of {H:Hp} {ps:List V} {L:List Bx} {x:Bx} (h:x∈L):({ x with count:=x.count + ((ps.countP (isPr H (x.n:Int)):Nat):Int) }:Bx)∈addC H ps L:=List.mem_map.mpr ⟨x,h,rfl⟩
theorem addC_flat {H:Hp} {ps:List V} {L:List Bx} {v:V} (h:∀ k,isPr H k v=false):addC H (ps ++ [v]) L=addC H ps L:=by
  unfold addC
  refine List.map_congr_left fun y _=>?_
  rw [List.countP_append,List.countP_cons,List.countP_nil,h]
  rfl
theorem addC_box {H:Hp} {ps:List V} {L:List Bx} {y:Bx} {a:Addr} {z:Str} (R:Rise L) (hy:y∈L) (ha:H a=some (.tup [.str z,.int (y.n:Int)])):setC (addC H ps L) y.n (y.count + ((ps.countP (isPr H (y.n:Int)):Nat):Int) + 1)=addC H (ps ++ [.ref a]) L:=by
  unfold setC addC
  rw [List.map_map]
  refine List.map_congr_left fun x hx=>?_
  have e1:isPr H (x.n:Int) (.ref a)=((y.n:Int) == (x.n:Int)):=by
    show (match H a with | some (.tup [_,.int j])=>j == (x.n:Int) | _=>false)=_
    rw [ha]
  rw [List.countP_append,List.countP_cons,List.countP_nil,e1]
  show (if x.n=y.n then _ else _)=_
  by_cases c:x.n=y.n
  · have:x=y:=rise_eq R hx hy c
    subst this
    rw [if_pos rfl,beq_self_eq_true]
    show ({ x with count:=_ }:Bx)={ x with count:=_ }
    congr 1
    show _=x.count + ((_ + (0 + 1):Nat):Int)
    lia
  · have:((y.n:Int) == (x.n:Int))=false:=by
      rw [beq_eq_false_iff_ne]
      lia
    rw [if_neg c,this]
    rfl
end HM
namespace Hv
open PySem L2 K11 HM
section
variable {P:Program} {w:World} {K:PySem.W.Frag} {mg:Str->Option Value} {base:Heap} {f:Addr} {fd:FuncData} {A:Adr} {G:Addr}
def plc (ks:List Int) (n:Int):Nat:=(ks.filter fun k=>decide (k < n)).length
def insK (ks:List Int) (n:Int):List Int:=ks.take (plc ks n) ++ n :: ks.drop (plc ks n)
theorem plc_of {ks:List Int} {n:Int} {i:Nat} (hi:i<=ks.length) (h1:∀ (j:Nat) k,j < i->ks[j]?=some k->k < n) (h2:∀ (j:Nat) k,i<=j->ks[j]?=some k->n<=k):plc ks n=i:=by
  unfold plc
  rw [<- List.take_append_drop i ks,List.filter_append,List.filter_eq_self.mpr,List.filter_eq_nil_iff.mpr,List.append_nil,List.length_take,Nat.min_eq_left hi]
  · intro k hk
    obtain ⟨j,hj⟩:=List.getElem?_of_mem hk
    rw [List.getElem?_drop] at hj
    have:=h2 (i + j) k (by lia) hj
    simp
    lia
  · intro k hk
    obtain ⟨j,hj⟩:=List.getElem?_of_mem hk
    have hlt:j < i:=by
      rcases Nat.lt_or_ge j i with c | c
      · exact c
      · rw [List.getElem?_eq_none (by rw [List.length_take]; lia)] at hj; cases hj
    rw [List.getElem?_take_of_lt hlt] at hj
    have:=h1 j k hlt hj
    simpa using this
def KSrt (ks:List Int):Prop:=ks.Pairwise (· < ·)
theorem KSrt.lt {ks:List Int} (h:KSrt ks) {i j:Nat} {a b:Int} (hi:ks[i]?=some a) (hj:ks[j]?=some b) (l:i < j):a < b:=by
  obtain ⟨i1,i2⟩:=List.getElem?_eq_some_iff.mp hi
  obtain ⟨j1,j2⟩:=List.getElem?_eq_some_iff.mp hj
  rw [<- i2,<- j2]
  exact List.pairwise_iff_getElem.mp h i j i1 j1 l
theorem plc_le (ks:List Int) (n:Int):plc ks n<=ks.length:=List.length_filter_le ..
def spPlaceOf (A:Adr):Sp:=fun vs H Q _=>∃ (r dr nl:Addr) (n:Int) (ks:List Int),vs=[.ref r,.int n]/\H r=some (.ins A.cR dr [("numbers",.ref nl)])/\H nl=some (.lst (ks.map V.int))/\KSrt ks/\ks.length < 1000/\Q (.int (plc ks n:Nat)) H
theorem scPlaceOf:FnScope ["self","number","low","high","middle"] ["self","number"] (defScope sPlaceOf):=⟨rfl,rfl,rfl,by decide +kernel,rfl,by decide +kernel,by decide +kernel⟩
theorem ok_placeof (F:Fun K "place_of" "Rising.place_of" sPlaceOf f fd) (T:Txt K mg A G):FnOk P w K mg base CX0 1 f fd ["self","number"] (spPlaceOf A):=by
  refine F.by scPlaceOf (fun vs H Q E h=>?_) (fun cdv A' outer s H vs Q E hr h=>?_)
  · obtain ⟨r,dr,nl,n,ks,rfl,_⟩:=h
    rfl
  obtain ⟨r,dr,nl,n,ks,rfl,h1,h2,hs,hk,q⟩:=h
  refine ⟨_,
    (jss_cons (js_set (i:=2) scPlaceOf.nd rfl (Or.inl rfl) je_int)
    (jss_cons (js_set (i:=3) scPlaceOf.nd rfl (Or.inl rfl) (je_fnB jc_len_seq rfl T.len PySem.boot_len (ja_c (je_fld (jv 0)) ja_nil)))
    (jss_cons (js_while PassesOwn.never (jt_cmpR jo_lt (jv 2) (jv 3) (by with_unfolding_all rfl))
      (jss_cons (js_set (i:=4) scPlaceOf.nd rfl (Or.inl rfl) (je_op jo_fdiv (je_op jo_add (jv 2) (jv 3)) je_int))
      (jss_one (js_if (jt_cmpR jo_lt (je_ix jx_list (je_fld (jv 0)) (jv 4) (fun _ _=>rfl)) (jv 1) (by with_unfolding_all rfl)) 
        (jss_one (js_set (i:=2) scPlaceOf.nd rfl (Or.inl rfl) (je_op jo_add (jv 4) je_int))) 
        (jss_one (js_set (i:=3) scPlaceOf.nd rfl (Or.inl rfl) (jv 4)))))))
    (jss_one (js_ret (jv 2)))))),?_⟩
  refine ⟨_,rfl,r,_,_,_,_,rfl,h1,T.clR,T.nNumbers,rfl,nl,_,rfl,.inl (SqL.of h2),?_⟩
  rw [List.length_map]
  refine ⟨fun i σ' H'=>∃ (lo hi:Nat) (vm:Option V),i=hi - lo/\σ'=[some (.ref r),some (.int n),some (.int (lo:Int)),some (.int (hi:Int)),vm]/\H'=H/\lo<=hi/\hi<=ks.length/\(∀ (j:Nat) k,j < lo->ks[j]?=some k->k < n)/\∀ (j:Nat) k,hi<=j->ks[j]?=some k->n<=k,⟨_,0,ks.length,none,rfl,rfl,rfl,Nat.zero_le _,Nat.le_refl _,fun j k z=>absurd z (Nat.not_lt_zero _),fun j k z e=>(by rw [List.getElem?_eq_none z] at e; cases e)⟩,?_⟩
  rintro i σ' H' ⟨lo,hi,vm,rfl,rfl,rfl,hlh,hhl,c1,c2⟩
  refine ⟨_,rfl,_,rfl,_,_,rfl,rfl,_,rfl,ite2 (fun c=>?_) (fun c=>?_)⟩
  · have hlt:lo < hi:=by rw [decide_eq_true_eq] at c; lia
    obtain ⟨mi,em⟩:∃ mi:Nat,((lo:Int) + (hi:Int)) / 2=(mi:Int):=⟨(lo + hi) / 2,by lia⟩
    have hm1:lo<=mi:=by lia
    have hm2:mi < hi:=by lia
    obtain ⟨k,ek⟩:∃ k,ks[mi]?=some k:=⟨_,List.getElem?_eq_getElem (by lia)⟩
    refine ⟨fun σ' H1=>∃ (lo' hi':Nat) (vm:Option V),hi' - lo' < hi - lo/\σ'=[some (.ref r),some (.int n),some (.int (lo':Int)),some (.int (hi':Int)),vm]/\H1=H'/\lo'<=hi'/\hi'<=ks.length/\(∀ (j:Nat) k,j < lo'->ks[j]?=some k->k < n)/\∀ (j:Nat) k,hi'<=j->ks[j]?=some k->n<=k,fun σ' H1 ⟨lo',hi',vm,a1,a2⟩=>⟨hi' - lo',a1,lo',hi',vm,rfl,a2⟩,?_⟩
    refine ⟨_,rfl,_,rfl,_,_,rfl,rfl,_,_,rfl,rfl,⟨by decide,by decide⟩,?_⟩
    dsimp only
    rw [em]
    refine ⟨_,rfl,r,_,_,_,_,rfl,h1,T.clR,T.nNumbers,rfl,_,rfl,nl,_,_,_,rfl,rfl,SqL.of h2,atI_nat (j:=mi) (by rw [List.getElem?_map,ek]; rfl),_,rfl,_,_,rfl,rfl,_,rfl,ite2 (fun c=>?_) (fun c=>?_)⟩
    · have hkn:k < n:=by rw [decide_eq_true_eq] at c; exact c
      refine ⟨_,rfl,_,_,rfl,rfl,mi + 1,hi,_,by lia,rfl,rfl,by lia,hhl,fun j k' hj e=>?_,c2⟩
      rcases Nat.lt_or_ge j mi with z | z
      · have:=hs.lt e ek z
        lia
      · have ej:j=mi:=by lia
        rw [ej,ek] at e
        cases e
        exact hkn
    · have hkn:n<=k:=by
        rw [decide_eq_true_eq] at c
        lia
      refine ⟨_,rfl,lo,mi,_,by lia,rfl,rfl,hm1,by lia,c1,fun j k' hj e=>?_⟩
      rcases Nat.lt_or_ge mi j with z | z
      · have:=hs.lt ek e z
        lia
      · have ej:j=mi:=by lia
        rw [ej,ek] at e
        cases e
        exact hkn
  · have e:lo=hi:=by
      rw [decide_eq_true_eq] at c
      lia
    subst e
    rw [plc_of hhl c1 c2] at q
    exact ⟨_,rfl,q⟩
def spAdd (A:Adr):Sp:=fun vs H Q _=>∃ (r dr nl:Addr) (n:Int) (ks:List Int),vs=[.ref r,.int n]/\H r=some (.ins A.cR dr [("numbers",.ref nl)])/\H nl=some (.lst (ks.map V.int))/\KSrt ks/\ks.length < 1000/\Q .non (upd H nl (.lst ((insK ks n).map V.int)))
theorem scAdd:FnScope ["self","number"] ["self","number"] (defScope sAdd):=⟨rfl,rfl,rfl,by decide +kernel,rfl,by decide +kernel,by decide +kernel⟩
theorem ok_add (F:Fun K "add" "Rising.add" sAdd f fd) (T:Txt K mg A G) (GP:Me P w K mg base CX0 1 A.cR "place_of" ["self","number"] (spPlaceOf A)):FnOk P w K mg base CX0 2 f fd ["self","number"] (spAdd A):=by
  refine F.by scAdd (fun vs H Q E h=>?_) (fun cdv A' outer s H vs Q E hr h=>?_)
  · obtain ⟨r,dr,nl,n,ks,rfl,_⟩:=h
    rfl
  obtain ⟨r,dr,nl,n,ks,rfl,h1,h2,hs,hk,q⟩:=h
  refine ⟨_,jss_one (js_expr (je_bm PySem.F.plainAttrs_list PySem.F.slot_list_insert PySem.F.type_list_insert jm_insert (je_fld (jv 0)) (ja_c (je_me (jv 0) T.clR GP hr pass0 (ja_c (jv 1) ja_nil)) (ja_c (jv 1) ja_nil)))),?_⟩
  have sl:=line0
  refine ⟨_,rfl,r,_,_,_,_,rfl,h1,T.clR,T.nNumbers,rfl,.inl ⟨rfl,_,SqL.of h2⟩,_,rfl,r,_,_,rfl,h1,rfl,_,rfl,r,dr,nl,n,ks,rfl,h1,h2,hs,hk,_,rfl,nl,_,plc ks n,_,_,rfl,rfl,rfl,h2,by rw [List.length_map]; lia,by rw [List.length_map]; exact plc_le _ _,?_⟩
  unfold insK at q
  rw [List.map_append,List.map_cons,List.map_take,List.map_drop] at q
  exact q
def spTaken (A:Adr):Sp:=fun vs H Q _=>∃ (hp d nl:Addr) (m:Nm) (L:List Bx) (x:Bx) (k:Bool),vs=[.ref hp,.int x.n,.bl k]/\HpB A H hp d nl m L/\x∈L/\(k=true->KSrt m.kept/\m.kept.length < 1000) /\
  ∀ H',KL nl d H H'->HpB A H' hp d nl (if k then { m with kept:=insK m.kept (x.n:Int) } else m) (L.filter fun y=>y.n != x.n)->Q (if k then .int x.n else .non) H'
theorem scTaken:FnScope ["self","at","keep"] ["self","at","keep"] (defScope sTaken):=⟨rfl,rfl,rfl,by decide +kernel,rfl,by decide +kernel,by decide +kernel⟩
theorem ok_taken (F:Fun K "taken_place" "Heap.taken_place" sTaken f fd) (T:Txt K mg A G) (GD:Me P w K mg base CX0 2 A.cR "add" ["self","number"] (spAdd A)):FnOk P w K mg base CX0 3 f fd ["self","at","keep"] (spTaken A):=by
  refine F.by scTaken (fun vs H Q E h=>?_) (fun cdv A' outer s H vs Q E hr h=>?_)
  · obtain ⟨hp,d,nl,m,L,x,k,rfl,_⟩:=h
    rfl
  obtain ⟨hp,d,nl,m,L,x,k,rfl,ha,hx,hk,q⟩:=h
  refine ⟨_,jss_cons (js_expr (je_dpop1 (je_fld (jv 0)) (jv 1))) (jss_cons (js_if (jt_not (jt_val (jv 2))) (jss_one (js_ret je_non)) jss_nil)
    (jss_cons (js_expr (je_me (je_fld (jv 0)) T.clR GD hr pass0 (ja_c (jv 1) ja_nil))) (jss_one (js_ret (jv 1))))),?_⟩
  obtain ⟨dx,r,dr,h1,h2,h3,h4⟩:=ha.ex
  have B1:=ha.drop x.n
  obtain ⟨H1,e1⟩:∃ H1,H1=upd H d (.dK (dropK (kvB L) (.inl (x.n:Int)))):=⟨_,rfl⟩
  have k1:KL nl d H H1:=by rw [e1]; exact KL.refl.dict h4
  rw [<- e1] at B1
  refine ⟨_,rfl,hp,_,_,_,_,rfl,h1,T.clH,T.nBy,rfl,d,rfl,.inl ⟨_,.of h4⟩,_,rfl,kvB L,.inl (x.n:Int),.ref x.b,h4,rfl,kvB_at ha.rise hx,?_⟩
  rw [<- e1]
  cases k with
  | false=>exact ⟨_,rfl,_,rfl,iteT (q _ k1 B1)⟩
  | true =>
    refine ⟨_,rfl,_,rfl,iteF ?_⟩
    obtain ⟨dx',r',dr',b1,b2,b3,b4⟩:=B1.ex
    obtain ⟨ek1,ek2⟩:=hk rfl
    refine ⟨_,rfl,hp,_,_,_,_,rfl,b1,T.clH,T.nKept,rfl,r',_,_,rfl,b2,rfl,_,rfl,r',dr',nl,_,_,rfl,b2,b3,ek1,ek2,?_⟩
    refine ⟨_,rfl,q _ ⟨fun a xs na e=>?_,fun a xs e=>?_,fun a o u e=>?_,fun a xs na e=>?_⟩ (B1.keep (insK m.kept (x.n:Int)))⟩
    · rw [upd_ne na]
      exact k1.1 _ _ na e
    · have z:=k1.2 _ _ e
      rw [upd_ne (ne_of z b3 (by intro z; cases z))]
      exact z
    · have z:=k1.3 _ _ _ e
      rw [upd_ne (ne_of z b3 (by intro z; cases z))]
      exact z
    · have z:=k1.4 _ _ na e
      rw [upd_ne (ne_of z b3 (by intro z; cases z))]
      exact z
end
end Hv
namespace Hv
open PySem L2 K11 HM
def Prt (H:Hp) (L:List Bx) (v:V):Prop:=Flat v\/∃ a y,v=.ref a/\y∈L/\H a=some (BX y.n)/\0 < y.count
theorem flat_pr {H:Hp} {v:V} (h:Flat v) (k:Int):isPr H k v=false:=by
  rcases h with ⟨z,rfl⟩ | ⟨z,rfl⟩ <;> rfl
section
variable {P:Program} {w:World} {K:PySem.W.Frag} {mg:Str->Option Value} {base:Heap} {f:Addr} {fd:FuncData} {A:Adr} {G:Addr}
def spTake (A:Adr) (G:Addr):Sp:=fun vs H Q E=>∃ (hp d nl:Addr) (v:V) (k:Bool) (m:Nm) (L:List Bx),vs=[.ref hp,v,.bl k]/\HpB A H hp d nl m L /\
  ((Flat v/\∀ H' l t,Same H H'->H' l=some (.lst [])->H' t=some (.tup [.ref l,.non])->Q (.ref t) H')\/∃ p i,v=.ref p/\H p=some (BX i) /\
  ((Gon L i/\E (.ref G) none H)\/∃ x∈L,x.n=i/\0 < x.count /\
    (x.count=1->(k=true->KSrt m.kept/\m.kept.length < 1000)/\∀ H' l t,KL nl d H H'->(∀ a xs,H a=some (.lst xs)->l≠a)->H' l=some (.lst x.parts)->H' t=some (.tup [.ref l,if k then .int i else .non])->HpB A H' hp d nl (if k then { m with kept:=insK m.kept (i:Int) } else m) (L.filter fun y=>y.n != i)->Q (.ref t) H') /\
    (x.count≠1->(∀ v∈x.parts,Prt H L v)/\∀ H' l t,KL nl d H H'->(∀ a xs,H a=some (.lst xs)->l≠a)->H' l=some (.lst x.parts)->H' t=some (.tup [.ref l,.non])->HpB A H' hp d nl m (addC H x.parts (setC L i (x.count - 1)))->Q (.ref t) H')))
theorem ok_take {D:Addr} (F:FunM K "take" "Heap.take" sTake D f fd) (T:Txt K mg A G) (GI:Ca P w K mg base CX0 1 "is_box" ["value"] spIsBox) (GT:Me P w K mg base (CXf P w) 1 A.cH "there" ["self","value"] (spThere A G)) (GH:Me P w K mg base (CXf P w) 2 A.cH "hold" ["self","value"] (spHold A G)) (GK:Me P w K mg base CX0 3 A.cH "taken_place" ["self","at","keep"] (spTaken A)):FnOk P w K mg base (CXf P w) 4 f fd ["self","value","keep"] (spTake A G):=by
  refine F.byx scTake (fun vs H Q E h=>?_) (fun cdv A' outer s H vs Q E hr h=>?_)
  · obtain ⟨hp,d,nl,v,k,m,L,rfl,_⟩:=h
    rfl
  obtain ⟨hp,d,nl,v,k,m,L,rfl,ha,hv⟩:=h
  have r1:Room 1 _:=hr.mono (by decide)
  have r2:Room 2 _:=hr.mono (by decide)
  refine ⟨_,jss_cons (js_if (jt_not (jt_val (je_ca GI.upx r1 rfl passx (ja_c (jv 1) ja_nil)))) (jss_one (js_ret (je_tup (ja_c (je_lst ja_nil) (ja_c je_non ja_nil))))) jss_nil)
    (jss_cons (js_set (i:=3) scTake.nd rfl (Or.inl rfl) (je_me (jv 0) T.clH GT r1 passx (ja_c (jv 1) ja_nil)))
    (jss_cons (js_if (jt_cmpR jo_eq (je_fld (jv 3)) je_int (by with_unfolding_all rfl)) (jss_one (js_ret (je_tup (ja_c (je_fnTy jc_list_of rfl T.list PyProof.Rows.boot_list (ja_c (je_fld (jv 3)) ja_nil)) (ja_c (je_me (jv 0) T.clH GK.upx hr passx (ja_c (je_ix jx_tup (jv 1) je_int (fun _ _=>rfl)) (ja_c (jv 2) ja_nil))) ja_nil))))) jss_nil)
    (jss_cons (js_fld (jv 3) (je_op jo_sub (je_fld (jv 3)) je_int))
    (jss_cons (js_for ownx rfl (ji_list (je_fld (jv 3))) (jg_name (i:=4) scTake.nd rfl (Or.inl rfl)) (jss_one (js_expr (je_me (jv 0) T.clH GH r2 passx (ja_c (jv 4) ja_nil)))))
    (jss_one (js_ret (je_tup (ja_c (je_fnTy jc_list_of rfl T.list PyProof.Rows.boot_list (ja_c (je_fld (jv 3)) ja_nil)) (ja_c je_non ja_nil))))))))),?_⟩
  have sl:=line0
  obtain ⟨dx,r,dr,h1,h2,h3,h4⟩:=ha.ex
  have no:=ha.xt.2
  rcases hv with ⟨hf,q⟩ | ⟨p,i,rfl,hp1,hc⟩
  · refine (ex2q rfl ⟨_,_,rfl,.inl ⟨hf,rfl⟩,(ex2q rfl (iteT ?_))⟩)
    refine ⟨by show 0<=sizeLine; lia,fun l hl=>⟨by show 2<=sizeLine; lia,fun t ht=>?_⟩⟩
    exact q _ l t ((same_new hl _).new ht) (old ht upd_same) upd_same
  refine (ex2q rfl ⟨_,_,rfl,.inr ⟨p,(ex2q rfl ⟨hp1,rfl⟩)⟩,(ex2q rfl (iteF ?_))⟩)
  refine (ex2q rfl ⟨hp,dx,(ex2q rfl ⟨h1,no _ (by decide) (by decide),(ex2q rfl ⟨hp,d,nl,p,m,L,i,rfl,ha,hp1,?_⟩)⟩)⟩)
  rcases hc with ⟨g,q⟩ | ⟨x,hx,rfl,hn,q1,q2⟩
  · exact .inr ⟨g,q⟩
  obtain ⟨db,u1,u2⟩:=ha.box x hx
  refine .inl ⟨x,hx,rfl,by lia,?_⟩
  refine (ex2q rfl ⟨x.b,_,_,_,_,rfl,u1,T.clB,T.nCount,rfl,rfl,(ex2q rfl (ite2 (fun c=>?_) (fun c=>?_)))⟩)
  · have c1:x.count=1:=by
      rw [decide_eq_true_eq] at c
      injection c
    obtain ⟨hk,q⟩:=q1 c1
    refine (ex2q rfl ⟨x.b,_,_,_,_,rfl,u1,T.clB,T.nParts,rfl,x.pl,(ex2q rfl ⟨.inl (SqL.of u2),fun l hl=>?_⟩)⟩)
    have s1:=same_new hl (.lst x.parts)
    refine (ex2q rfl ⟨hp,dx,(ex2q rfl ⟨s1 _ _ h1,no _ (by decide) (by decide),(ex2q rfl ⟨p,_,_,_,rfl,rfl,SqT.of (s1 _ _ hp1),atI_nat (j:=1) rfl,(ex2q rfl ⟨hp,d,nl,m,L,x,k,rfl,ha.same s1,hx,hk,fun H2 k2 B2=>⟨by show 2<=sizeLine; lia,fun t ht=>?_⟩⟩)⟩)⟩)⟩)
    have nln:=(ha.fresh hl).1
    exact q _ l t (((KL.of s1).trans k2).new ht) (fun a xs e=>Ne.symm (ne_of_none e hl)) (old ht (k2.1 _ _ nln upd_same)) upd_same (B2.same (same_new ht _))
  · have c1:x.count≠1:=fun z=>c (decide_eq_true (by rw [z]))
    obtain ⟨hps,q⟩:=q2 c1
    refine (ex2q rfl ⟨x.b,_,_,_,_,rfl,u1,T.clB,T.nCount,rfl,(ex4q rfl rfl (ex2q rfl ⟨x.b,_,_,_,rfl,u1,T.clB,T.nCount,by show 3 < 1000; decide,?_⟩))⟩)
    have B1:=ha.setCount (c:=x.count - 1) hx u1 T.neB T.neBR
    have k1:KL nl d H (upd H x.b (WB A db x.tag x.pl (x.count - 1))):=KL.refl.ins u1
    obtain ⟨H1,e1⟩:∃ H1,H1=upd H x.b (WB A db x.tag x.pl (x.count - 1)):=⟨_,rfl⟩
    rw [<- e1] at B1 k1
    obtain ⟨L1,eL⟩:∃ L1,L1=setC L x.n (x.count - 1):=⟨_,rfl⟩
    rw [<- eL] at B1 q
    have inL:∀ y∈L,0 < y.count->∃ y'∈L1,y'.n=y.n/\0 < y'.count:=fun y hy cy=>by
      rw [eL]
      refine ⟨_,setC_of hy,?_,?_⟩
      · split <;> rfl
      · split
        · show 0 < x.count - 1; lia
        · exact cy
    have xin:∃ x'∈L1,x'.b=x.b/\x'.pl=x.pl/\x'.tag=x.tag/\x'.parts=x.parts:=by
      rw [eL]
      refine ⟨_,setC_of hx,?_⟩
      rw [if_pos rfl]
      exact ⟨rfl,rfl,rfl,rfl⟩
    obtain ⟨x',hx',f1,f2,f3,f4⟩:=xin
    have bx:∀ {ps:List V} {H2:Hp},HpB A H2 hp d nl m (addC H ps L1)->(∃ c dz,H2 x.b=some (WB A dz x.tag x.pl c))/\H2 x.pl=some (.lst x.parts):=fun {ps H2} B=>by
      obtain ⟨dz,g1,g2⟩:=B.box _ (addC_of (H:=H) (ps:=ps) hx')
      rw [show ({ x' with count:=x'.count + ((ps.countP (isPr H (x'.n:Int)):Nat):Int) }:Bx).b=x.b from f1,show ({ x' with count:=x'.count + ((ps.countP (isPr H (x'.n:Int)):Nat):Int) }:Bx).pl=x.pl from f2,show ({ x' with count:=x'.count + ((ps.countP (isPr H (x'.n:Int)):Nat):Int) }:Bx).tag=x.tag from f3] at g1
      rw [show ({ x' with count:=x'.count + ((ps.countP (isPr H (x'.n:Int)):Nat):Int) }:Bx).pl=x.pl from f2,show ({ x' with count:=x'.count + ((ps.countP (isPr H (x'.n:Int)):Nat):Int) }:Bx).parts=x.parts from f4] at g2
      exact ⟨⟨_,dz,g1⟩,g2⟩
    have B1':HpB A H1 hp d nl m (addC H [] L1):=by rw [addC_nil]; exact B1
    have e1':upd H x.b (HO.ins A.cB db (putF "count" (V.int (x.count - 1)) [("tag",.str x.tag),("parts",.ref x.pl),("count",.int x.count)]))=H1:=by rw [e1]; rfl
    dsimp only
    rw [e1']
    obtain ⟨⟨c0,d0,g1⟩,g2⟩:=bx B1'
    refine (ex2q rfl ⟨x.b,_,_,_,_,rfl,g1,T.clB,T.nParts,rfl,x.pl,rfl,⟨_,SqL.of g2⟩,for_list (K:=K) (xs:=x.parts) (fun i σ H2=>∃ vb,σ=[some (.ref hp),some (.ref p),some (.bl k),some (.ref x.b),vb]/\KL nl d H H2/\HpB A H2 hp d nl m (addC H (x.parts.take i) L1)) ⟨none,rfl,k1,B1'⟩ ?_ ?_ ?_⟩)
    · rintro i σ H2 hi ⟨vb,_,_,B2⟩
      exact SqL.of (bx B2).2
    · rintro i v σ H2 hv ⟨vb,rfl,k2,B2⟩
      have et:x.parts.take (i + 1)=x.parts.take i ++ [v]:=by rw [List.take_add_one,hv]; rfl
      obtain ⟨dx2,_,_,b1,_⟩:=B2.ex
      refine (ex2q rfl ⟨hp,_,_,rfl,b1,no _ (by decide) (by decide),(ex2q rfl ⟨hp,d,nl,v,m,(ex2q rfl ⟨B2,?_⟩)⟩)⟩)
      rcases hps v (List.mem_of_getElem? hv) with hf | ⟨a,y,rfl,hy,hay,cy⟩
      · refine .inl ⟨hf,(ex2q rfl ⟨k2,?_⟩)⟩
        rw [et,addC_flat fun k=>flat_pr hf k]
        exact B2
      · obtain ⟨y',hy',ny,cy'⟩:=inL y hy cy
        refine .inr ⟨a,y.n,rfl,k2.2 _ _ hay,.inl ⟨_,addC_of (H:=H) (ps:=x.parts.take i) hy',ny,?_,fun H3 k3 B3=>(ex2q rfl ⟨k2.trans k3,?_⟩)⟩⟩
        · show y'.count + _≠0
          lia
        · rw [et,<- addC_box (H:=H) (ps:=x.parts.take i) B1.rise hy' (by rw [ny]; exact hay)]
          rw [<- ny] at B3
          exact B3
    · rintro σ H2 ⟨vb,rfl,k2,B2⟩
      rw [List.take_of_length_le (Nat.le_refl _)] at B2
      obtain ⟨⟨c2,d2,g1⟩,g2⟩:=bx B2
      refine (ex2q rfl ⟨x.b,_,_,_,_,rfl,g1,T.clB,T.nParts,rfl,x.pl,(ex2q rfl ⟨.inl (SqL.of g2),fun l hl=>⟨by show 2<=sizeLine; lia,fun t ht=>?_⟩⟩)⟩)
      refine q _ l t ((k2.new hl).new ht) (fun a xs e=>?_) (old ht upd_same) upd_same ((B2.same (same_new hl _)).same (same_new ht _))
      by_cases na:a=nl
      · rw [na]
        exact (B2.fresh hl).1
      · exact Ne.symm (ne_of_none (k2.1 _ _ na e) hl)
end
end Hv
namespace L2
open PySem PySem.Spec PyProof.Rows
structure OBase (K:PySem.W.Frag) (R f:Addr) (m:Str):Prop where
  sp:PySem.W.specialIn K (.ref R) "__getattribute__"=some (some (.builtin "type.__getattribute__"))
  rd:PySem.W.readsIn K R (.type "type")=true
  fi:PySem.W.findCls K (.ref R) (.type "type") m=some (.val (.ref f))
  kp:PySem.W.keepIn K (.ref f)=true
structure Oa (P:Program) (w:World) (K:PySem.W.Frag) (mg:Str->Option Value) (base:Heap) (CX:CXT) (k:Nat) (x:Str) (R:Addr) (m:Str) (ps:List Str) (sp:Sp):Prop where
  ex:∃ f fd,OBase K R f m/\FnOk P w K mg base CX k f fd ps sp/\Binds K fd ps []/\mg x=some (.ref R)
section
variable {X:Cx} {CX:CXT} {k:Nat} {f R:Addr} {fd:FuncData} {ps:List Str} {ds:List Value} {dvs:List V} {sp:Sp} {E:XK} {x m:Str} {np apos pos:Pos} {a:Expr} {as:List Expr} {t:TA}
theorem pe_own {pl:Sem Bool} (B:OBase X.K R f m) (F:FnOk X.prog X.w X.K X.mg X.base CX k f fd ps sp) (hr:Room k X.A) (hb:Binds X.K fd ps ds) (hd:Vals dvs ds) (hx:Passes CX X E) (hg:Gl X x) (hm:X.mg x=some (.ref R)) (ha:PA X (a :: as) t) (hdb:(x == ("__debug__":Str))=false:=by decide) (h1:isStar a=false:=by rfl) (h2:as.all (fun e=>!isStar e)=true:=by rfl)
    (ht:eval (.Call (.Attribute (.Name x np) m apos) (a :: as) [] pos) X.env=(do
      let ov <- eval (.Name x np) X.env
      standAt apos.atName
      let (f,first) <- holding [ov] (getMethod ov m pl)
      callWith pos f first (backTo pos (starEach (a :: as) X.env)) (backToKw pos (keywordEach [] X.env))):=by rfl) :
    PE X (.Call (.Attribute (.Name x np) m apos) (a :: as) [] pos) (tCall sp dvs E t):=by
  intro pins s σ H Q I h
  refine PySem.W.methodCall_KW (pl:=pl) (ld_glob I hg hm ?_ hdb) ht
  refine PySem.W.method_cls I.kIn B.sp (PySem.W.cls_value I.kIn B.rd B.fi (by rfl) ?_)
  have I0:Inv X pins σ H { s with toks:=s.toks + 1 }:=I.tok _
  refine PySem.W.callWith_K (h₀:=X.base) I.ok.mod.kin B.kp (thn (ha pos pins _ σ H _ I0 h) fun us s1 ⟨vs,H1,I1,r,q⟩=>⟨I1.kIn,?_⟩) (star_cons h1) (star_any h2)
  exact run_fn F hr hb hd hx I1 r q
theorem je_own {pl:Sem Bool} (F:Oa X.prog X.w X.K X.mg X.base CX k x R m ps sp) (hr:Room k X.A) (hx:Passes CX X E) (hg:Gl X x) (ha:jA X (a :: as) t) (hdb:(x == ("__debug__":Str))=false:=by decide) (h1:isStar a=false:=by rfl) (h2:as.all (fun e=>!isStar e)=true:=by rfl)
    (ht:eval (.Call (.Attribute (.Name x np) m apos) (a :: as) [] pos) X.env=(do
      let ov <- eval (.Name x np) X.env
      standAt apos.atName
      let (f,first) <- holding [ov] (getMethod ov m pl)
      callWith pos f first (backTo pos (starEach (a :: as) X.env)) (backToKw pos (keywordEach [] X.env))):=by rfl) :
    jE X (.Call (.Attribute (.Name x np) m apos) (a :: as) [] pos) (tCall sp [] E t):=let ⟨_,_,B,G,b,hm⟩:=F.ex; ⟨pe_own B G hr b .nil hx hg hm ha.out hdb h1 h2 ht⟩
end
end L2
namespace HM
open PySem L2
theorem HpB.ext {A:Adr} {H:Hp} {hp d nl dx r:Addr} {m:Nm} {L:List Bx} (h:HpB A H hp d nl m L) (e:H hp=some (WH A dx m.sz m.fresh m.anew m.peak d r m.ext)) {x:List (Str × V)} (hx:ExtOk x) (nR:A.cR≠A.cH) (nB:A.cB≠A.cH):HpB A (upd H hp (WH A dx m.sz m.fresh m.anew m.peak d r x)) hp d nl { m with ext:=x } L:=by
  obtain ⟨dx',r',dr,h1,h2,h3,h4⟩:=h.ex
  rw [e] at h1
  injection h1 with h1
  injection h1 with _ _ q2
  injection q2 with _ q2
  injection q2 with _ q2
  injection q2 with _ q2
  injection q2 with _ q2
  injection q2 with _ q2
  injection q2 with q2 _
  injection q2 with _ q2
  injection q2 with q2
  subst q2
  have u:∀ {a:Addr} {o:HO},H a=some o->(∀ dy fs,o≠.ins A.cH dy fs)->upd H hp (WH A dx m.sz m.fresh m.anew m.peak d r x) a=some o:=fun g z=>by
    rw [upd_ne (ne_of g e (z _ _))]
    exact g
  refine ⟨⟨dx,r,dr,upd_same,u h2 (fun _ _ z=>by injection z with z; exact nR z),u h3 (fun _ _ z=>nomatch z),u h4 (fun _ _ z=>nomatch z)⟩,h.rise,h.less,fun y hy=>?_,h.nlp,h.bnd,hx⟩
  obtain ⟨dz,g1,g2⟩:=h.box y hy
  exact ⟨dz,u g1 (fun _ _ z=>by injection z with z; exact nB z),u g2 (fun _ _ z=>nomatch z)⟩
end HM
namespace Hv
open PySem L2 K11 HM
abbrev slowX (wl:Addr) (k:Int):List (Str × V):=[("waiting",.ref wl),("first",.int k)]
theorem slow_ok (wl:Addr) (k:Int):ExtOk (slowX wl k):=⟨Nat.le_refl 2,fun n h1 h2=>by
  show (match n == "waiting" with | true=>some (V.ref wl) | false=>(match n == "first" with | true=>some (V.int k) | false=>none))=none
  rw [h1,h2]⟩
theorem slow1_ok (wl:Addr):ExtOk [("waiting",.ref wl)]:=⟨Nat.le_succ 1,fun n h1 h2=>by
  show (match n == "waiting" with | true=>some (V.ref wl) | false=>none)=none
  rw [h1]⟩
section
variable {P:Program} {w:World} {K:PySem.W.Frag} {mg:Str->Option Value} {base:Heap} {f:Addr} {fd:FuncData} {A:Adr} {G:Addr}
def spSInit (A:Adr):Sp:=fun vs H Q _=>∃ (b dx:Addr) (sz:Int),vs=[.ref b,.int sz]/\H b=some (.ins A.cH dx [])/\∀ H' d nl wl,KpS (·=b) H H'->H d=none->H nl=none->H' wl=some (.lst [])->wl≠nl->(∀ a o,a≠b->H a=some o->a≠wl)->HpB A H' b d nl ⟨sz,0,0,0,[],slowX wl 0⟩ []->Q .non H'
theorem scSInit:FnScope ["self","size"] ["self","size"] (defScope sSInit):=⟨rfl,rfl,rfl,by decide +kernel,rfl,by decide +kernel,by decide +kernel⟩
theorem ok_sinit {cH:Addr} (F:Fun K "__init__" "SlowHeap.__init__" sSInit f fd) (T:Txt K mg A G) (nW:NoAttr K A.cH "waiting") (nF:NoAttr K A.cH "first") (OH:Oa P w K mg base CX0 3 "Heap" cH "__init__" ["self","size"] (spHInit A)):FnOk P w K mg base CX0 4 f fd ["self","size"] (spSInit A):=by
  refine F.by scSInit (fun vs H Q E h=>?_) (fun cdv A' outer s H vs Q E hr h=>?_)
  · obtain ⟨b,dx,sz,rfl,_⟩:=h
    rfl
  obtain ⟨b,dx,sz,rfl,hb,q⟩:=h
  refine ⟨_,jss_cons (js_expr (je_own OH hr pass0 rfl (ja_c (jv 0) (ja_c (jv 1) ja_nil)))) (jss_cons (js_fld (jv 0) (je_lst ja_nil)) (jss_one (js_fld (jv 0) je_int))),?_⟩
  refine (ex2q rfl (ex2q rfl ⟨b,dx,sz,rfl,hb,fun H1 d nl k1 hd hnl B1=>?_⟩))
  obtain ⟨dx',r,dr,h1,h2,h3,h4⟩:=B1.ex
  refine ⟨by show 0<=sizeLine; exact Nat.zero_le _,fun wl hwl=>?_⟩
  have s1:=same_new hwl (.lst [])
  have B2:=B1.same s1
  refine (ex2q rfl ⟨b,A.cH,dx',(ex2q rfl ⟨s1 _ _ h1,T.clH,nW,by show 6 < 1000; decide,?_⟩)⟩)
  have B3:=B2.ext (s1 _ _ h1) (slow1_ok wl) T.neR T.neB
  refine (ex2q rfl ⟨b,A.cH,dx',(ex2q rfl ⟨upd_same,T.clH,nF,by show 7 < 1000; decide,?_⟩)⟩)
  have B4:=B3.ext (x:=slowX wl 0) upd_same (slow_ok wl 0) T.neR T.neB
  have nwb:wl≠b:=fun z=>by rw [z,h1] at hwl; cases hwl
  refine q _ d nl wl (((k1.new hwl).put rfl).put rfl) hd hnl ?_ (B1.fresh hwl).1 (fun x o nb e=>ne_of_none (k1 x o nb e) hwl) B4
  rw [upd_ne nwb,upd_ne nwb]
  exact upd_same
def spKeep (A:Adr):Sp:=fun vs H Q _=>∃ (hp d nl:Addr) (m:Nm) (L:List Bx),vs=[.ref hp]/\HpB A H hp d nl m L/\∀ l,H l=none->Q (.ref l) (upd H l (.lst (m.kept.map V.int)))
theorem scKeep:FnScope ["self"] ["self"] (defScope sKeeping):=⟨rfl,rfl,rfl,by decide +kernel,rfl,by decide +kernel,by decide +kernel⟩
theorem ok_keeping (F:Fun K "keeping" "Heap.keeping" sKeeping f fd) (T:Txt K mg A G):FnOk P w K mg base CX0 1 f fd ["self"] (spKeep A):=by
  refine F.by scKeep (fun vs H Q E h=>?_) (fun cdv A' outer s H vs Q E hr h=>?_)
  · obtain ⟨hp,d,nl,m,L,rfl,_⟩:=h
    rfl
  obtain ⟨hp,d,nl,m,L,rfl,ha,q⟩:=h
  refine ⟨_,jss_one (js_ret (je_fnTy jc_list_of rfl T.list PyProof.Rows.boot_list (ja_c (je_fld (je_fld (jv 0))) ja_nil))),?_⟩
  obtain ⟨dx,r,dr,h1,h2,h3,_⟩:=ha.ex
  exact (ex2q rfl ⟨hp,_,_,_,_,rfl,h1,T.clH,T.nKept,rfl,r,_,_,_,_,rfl,h2,T.clR,T.nNumbers,rfl,nl,(ex2q rfl ⟨.inl (SqL.of h3),q⟩)⟩)
theorem scWaits:FnScope ["self"] ["self"] (defScope sWaits):=⟨rfl,rfl,rfl,by decide +kernel,rfl,by decide +kernel,by decide +kernel⟩
theorem scSWaits:FnScope ["self"] ["self"] (defScope sSWaits):=⟨rfl,rfl,rfl,by decide +kernel,rfl,by decide +kernel,by decide +kernel⟩
section
variable {X:Cx} {CX:CXT} {k:Nat} {ps:List Str} {sp:Adr->Sp} {E:XK} {m:Str} {apos pos:Pos} {e o:Expr} {es:List Expr} {ta:TE} {t:TA} {Ad:Adr->Prop}
theorem je_meA {pl:Sem Bool} (he:jE X o ta) (c:∀ A,Ad A->Cls X.K A.cH) (F:∀ A,Ad A->Me X.prog X.w X.K X.mg X.base CX k A.cH m ps (sp A)) (hr:Room k X.A) (hx:Passes CX X E) (ha:jA X (e :: es) t) (h1:isStar e=false:=by rfl) (h2:es.all (fun e=>!isStar e)=true:=by rfl)
    (ht:eval (.Call (.Attribute o m apos) (e :: es) [] pos) X.env=(do
      let ov <- eval o X.env
      standAt apos.atName
      let (f,first) <- holding [ov] (getMethod ov m pl)
      callWith pos f first (backTo pos (starEach (e :: es) X.env)) (backToKw pos (keywordEach [] X.env))):=by rfl) :
    jE X (.Call (.Attribute o m apos) (e :: es) [] pos) (fun σ H Q=>∃ A,Ad A/\tMeth A.cH m (sp A) [] E ta t σ H Q):=⟨fun pins s σ H Q I ⟨A,hA,h⟩=>(je_me he (c A hA) (F A hA) hr hx ha h1 h2 ht).out pins s σ H Q I h⟩
theorem je_me0A {pl:Sem Bool} (he:jE X o ta) (c:∀ A,Ad A->Cls X.K A.cH) (F:∀ A,Ad A->Me X.prog X.w X.K X.mg X.base CX k A.cH m ps (sp A)) (hr:Room k X.A) (hx:Passes CX X E)
    (ht:eval (.Call (.Attribute o m apos) [] [] pos) X.env=(do
      let ov <- eval o X.env
      standAt apos.atName
      let (f,first) <- holding [ov] (getMethod ov m pl)
      callWith pos f first (backTo pos (starEach [] X.env)) (backToKw pos (keywordEach [] X.env))):=by rfl) :
    jE X (.Call (.Attribute o m apos) [] [] pos) (fun σ H Q=>∃ A,Ad A/\tMeth A.cH m (sp A) [] E ta tNil σ H Q):=⟨fun pins s σ H Q I ⟨A,hA,h⟩=>(je_me0 he (c A hA) (F A hA) hr hx ht).out pins s σ H Q I h⟩
end
theorem MeD.me {P:Program} {w:World} {K:PySem.W.Frag} {mg:Str->Option Value} {base:Heap} {CX:CXT} {k:Nat} {C:Addr} {m:Str} {ps:List Str} {dvs:List V} {sp:Sp} (h:MeD P w K mg base CX k C m ps dvs sp):Me P w K mg base CX k C m ps sp:=let ⟨f,fd,a,b,_,c⟩:=h.ex; ⟨f,fd,a,b,c⟩
end
end Hv
namespace Hv
open PySem L2 K11 HM
def NoW (S:Addr) (A:Adr) (H:Hp) (m:Nm):Prop:=A.cH=S->∃ (wl:Addr) (ws:List Int),m.ext=slowX wl (ws.length:Int)/\H wl=some (.lst (ws.map V.int))
structure OneW (S:Addr) (A:Adr) (H:Hp) (m:Nm) (L:List Bx) (x:Bx) (wl:Addr) (k:Nat):Prop where
  cl:A.cH=S
  ex:m.ext=slowX wl (k:Int)
  at_:∃ ws:List Int,H wl=some (.lst (ws.map V.int))/\ws[k]?=some (x.n:Int)
  lt:k < 900
  mem:x∈L
  flat:∀ v∈x.parts,Flat v
theorem NoW.same {S:Addr} {A:Adr} {H H':Hp} {m:Nm} (h:NoW S A H m) (k:Same H H'):NoW S A H' m:=fun e=>let ⟨wl,ws,a,b⟩:=h e; ⟨wl,ws,a,k _ _ b⟩
section
variable {P:Program} {w:World} {K:PySem.W.Frag} {mg:Str->Option Value} {base:Heap} {f:Addr} {fd:FuncData} {A:Adr} {G S:Addr}
def spLetF (A:Adr):Sp:=fun vs H Q _=>∃ (hp:Addr) (v:V),vs=[.ref hp,v]/\Flat v/\Q .non H
theorem ok_letF (F:Fun K "let_go" "Heap.let_go" sLetGo f fd) (T:Txt K mg A G) (GI:Ca P w K mg base CX0 1 "is_box" ["value"] spIsBox):FnOk P w K mg base CX0 2 f fd ["self","value"] (spLetF A):=by
  refine F.by scLetGo (fun vs H Q E h=>?_) (fun cdv A' outer s H vs Q E hr h=>?_)
  · obtain ⟨hp,v,rfl,_⟩:=h
    rfl
  obtain ⟨hp,v,rfl,hf,q⟩:=h
  refine ⟨_,jss_one (js_if (jW.pt (jw_and (jt_val (je_ca GI hr rfl pass0 (ja_c (jv 1) ja_nil))) (jw_and1 jt_never))) (jss_one js_never) jss_nil),?_⟩
  exact (ex2q rfl ⟨_,_,rfl,.inl ⟨hf,rfl⟩,(ex2q rfl (iteF (iteF q)))⟩)
def spCut (A:Adr):Sp:=fun vs H Q _=>∃ (hp dx d r wl:Addr) (sz fr an pk:Int) (k:Nat),vs=[.ref hp]/\H hp=some (WH A dx sz fr an pk d r (slowX wl (k:Int)))/\k<=900/\Q .non H
theorem scCut:FnScope ["self"] ["self"] (defScope sCut):=⟨rfl,rfl,rfl,by decide +kernel,rfl,by decide +kernel,by decide +kernel⟩
theorem ok_cut {t:Tok} (F:Fun K "cut" "SlowHeap.cut" sCut f fd) (T:Txt K mg A G) (nF:NoAttr K A.cH "first") (mM:mg "MOST_GONE"=some (.int 1000 t)):FnOk P w K mg base CX0 1 f fd ["self"] (spCut A):=by
  refine F.by scCut (fun vs H Q E h=>?_) (fun cdv A' outer s H vs Q E hr h=>?_)
  · obtain ⟨hp,dx,d,r,wl,sz,fr,an,pk,k,rfl,_⟩:=h
    rfl
  obtain ⟨hp,dx,d,r,wl,sz,fr,an,pk,k,rfl,h1,hk,q⟩:=h
  refine ⟨_,jss_one (js_if (jW.pt (jw_and (jt_cmpR jo_gt (je_fld (jv 0)) (je_glob (v:=.int 1000) rfl mM ⟨_,rfl⟩) (by with_unfolding_all rfl)) (jw_and1 jt_never))) (jss_cons js_never (jss_one js_never)) jss_nil),?_⟩
  refine (ex2q rfl ⟨hp,_,_,_,_,rfl,h1,T.clH,nF,rfl,(ex4q rfl rfl (ex2q rfl (ite2 (fun c=>?_) (fun _=>iteF q))))⟩)
  rw [decide_eq_true_eq] at c
  lia
theorem scFirst:FnScope ["self"] ["self"] (defScope sFirst):=⟨rfl,rfl,rfl,by decide +kernel,rfl,by decide +kernel,by decide +kernel⟩
theorem scSFirst:FnScope ["self","box","part"] ["self"] (defScope sSFirst):=⟨rfl,rfl,rfl,by decide +kernel,rfl,by decide +kernel,by decide +kernel⟩
theorem scWork:FnScope ["self","many","done"] ["self","many"] (defScope sWork):=⟨rfl,rfl,rfl,by decide +kernel,rfl,by decide +kernel,by decide +kernel⟩
theorem scRoom:FnScope ["self"] ["self"] (defScope sRoom):=⟨rfl,rfl,rfl,by decide +kernel,rfl,by decide +kernel,by decide +kernel⟩
end
end Hv
namespace HM
open PySem L2
theorem HpB.nums {A:Adr} {H:Hp} {hp d nl dx r:Addr} {m m':Nm} {L:List Bx} (h:HpB A H hp d nl m L) (e:H hp=some (WH A dx m.sz m.fresh m.anew m.peak d r m.ext)) (hx:ExtOk m'.ext) (hf:m.fresh<=m'.fresh) (hk:m'.kept=m.kept) (nR:A.cR≠A.cH) (nB:A.cB≠A.cH):HpB A (upd H hp (WH A dx m'.sz m'.fresh m'.anew m'.peak d r m'.ext)) hp d nl m' L:=by
  obtain ⟨dx',r',dr,h1,h2,h3,h4⟩:=h.ex
  rw [e] at h1
  injection h1 with h1
  injection h1 with _ _ q2
  injection q2 with _ q2
  injection q2 with _ q2
  injection q2 with _ q2
  injection q2 with _ q2
  injection q2 with _ q2
  injection q2 with q2 _
  injection q2 with _ q2
  injection q2 with q2
  subst q2
  have u:∀ {a:Addr} {o:HO},H a=some o->(∀ dy fs,o≠.ins A.cH dy fs)->upd H hp (WH A dx m'.sz m'.fresh m'.anew m'.peak d r m'.ext) a=some o:=fun g z=>by
    rw [upd_ne (ne_of g e (z _ _))]
    exact g
  refine ⟨⟨dx,r,dr,upd_same,u h2 (fun _ _ z=>by injection z with z; exact nR z),by rw [hk]; exact u h3 (fun _ _ z=>nomatch z),u h4 (fun _ _ z=>nomatch z)⟩,h.rise,fun y hy=>Nat.lt_of_lt_of_le (h.less y hy) hf,fun y hy=>?_,h.nlp,h.bnd,hx⟩
  obtain ⟨dz,g1,g2⟩:=h.box y hy
  exact ⟨dz,u g1 (fun _ _ z=>by injection z with z; exact nB z),u g2 (fun _ _ z=>nomatch z)⟩
end HM
namespace Hv
open PySem L2 K11 HM
theorem kErase:∀ {ks:List Int} {j:Nat} {n:Int},KSrt ks->ks[j]?=some n->ks.eraseIdx j=ks.filter (fun k=>k != n)
  | [],_,_,_,e=>by simp at e
  | y :: L,0,x,h,e=>by
    cases e
    have h1:=List.pairwise_cons.mp h
    rw [List.filter_cons_of_neg (by simp)]
    show L=_
    exact (List.filter_eq_self.mpr fun z hz=>by
      have:=h1.1 z hz
      simp
      lia).symm
  | y :: L,i + 1,x,h,e=>by
    have h1:=List.pairwise_cons.mp h
    have e':L[i]?=some x:=e
    have:=h1.1 x (List.mem_of_getElem? e')
    rw [List.filter_cons_of_pos (by simp; lia)]
    show y :: L.eraseIdx i=_
    rw [kErase h1.2 e']
theorem map_erase {α β:Type} (g:α->β):∀ (l:List α) (i:Nat),(l.eraseIdx i).map g=(l.map g).eraseIdx i
  | [],_=>rfl
  | _ :: _,0=>rfl
  | x :: l,i + 1=>by
    show g x :: (l.eraseIdx i).map g=g x :: (l.map g).eraseIdx i
    rw [map_erase g l i]
theorem seqIx {j n:Nat} (h:j < n):seqIndex? (j:Int) n=some j:=by
  unfold seqIndex?
  simp
  lia
section
variable {X:Cx}
theorem jm_popAt:jMt X "list.pop" rPopAt:=⟨mt_popAt⟩
end
section
variable {P:Program} {w:World} {K:PySem.W.Frag} {mg:Str->Option Value} {base:Heap} {f:Addr} {fd:FuncData} {A:Adr} {G S U:Addr}
def spDisc (A:Adr):Sp:=fun vs H Q _=>∃ (r dr nl:Addr) (n:Int) (ks:List Int),vs=[.ref r,.int n]/\H r=some (.ins A.cR dr [("numbers",.ref nl)])/\H nl=some (.lst (ks.map V.int))/\KSrt ks/\ks.length < 1000/\((n∈ks/\Q (.bl true) (upd H nl (.lst ((ks.filter fun k=>k != n).map V.int))))\/(n ∉ ks/\Q (.bl false) H))
theorem scDisc:FnScope ["self","number","at"] ["self","number"] (defScope sDiscard):=⟨rfl,rfl,rfl,by decide +kernel,rfl,by decide +kernel,by decide +kernel⟩
theorem ok_disc (F:Fun K "discard" "Rising.discard" sDiscard f fd) (T:Txt K mg A G) (GP:Me P w K mg base CX0 1 A.cR "place_of" ["self","number"] (spPlaceOf A)):FnOk P w K mg base CX0 2 f fd ["self","number"] (spDisc A):=by
  refine F.by scDisc (fun vs H Q E h=>?_) (fun cdv A' outer s H vs Q E hr h=>?_)
  · obtain ⟨r,dr,nl,n,ks,rfl,_⟩:=h
    rfl
  obtain ⟨r,dr,nl,n,ks,rfl,h1,h2,hs,hk,hq⟩:=h
  refine ⟨_,
    (jss_cons (js_set (i:=2) scDisc.nd rfl (Or.inl rfl) (je_me (jv 0) T.clR GP hr pass0 (ja_c (jv 1) ja_nil)))
    (jss_cons (js_if (jW.pt (jw_or (jt_cmpR jo_eq (jv 2) (je_fnB jc_len_seq rfl T.len PySem.boot_len (ja_c (je_fld (jv 0)) ja_nil)) (by with_unfolding_all rfl)) (jw_or1 (jt_cmpR jo_ne (je_ix jx_list (je_fld (jv 0)) (jv 2) (fun _ _=>rfl)) (jv 1) (by with_unfolding_all rfl))))) 
      (jss_one (js_ret je_bl))  jss_nil)
    (jss_cons (js_expr (je_bm PySem.F.plainAttrs_list PySem.F.slot_list_pop PySem.F.type_list_pop jm_popAt (je_fld (jv 0)) (ja_c (jv 2) ja_nil)))
    (jss_one (js_ret je_bl))))),?_⟩
  refine (ex2q rfl ⟨r,_,_,rfl,h1,rfl,(ex2q rfl ⟨r,dr,nl,n,ks,rfl,h1,h2,hs,hk,?_⟩)⟩)
  refine (ex2q rfl (ex2q rfl ⟨r,_,_,_,_,rfl,h1,T.clR,T.nNumbers,rfl,nl,(ex2q rfl ⟨.inl (SqL.of h2),rfl,?_⟩)⟩))
  rw [List.length_map]
  have pl:=plc_le ks n
  have sl:=line0
  rcases hq with ⟨hm,q⟩ | ⟨hm,q⟩
  · obtain ⟨j,ej⟩:=List.getElem?_of_mem hm
    have hj:j < ks.length:=(List.getElem?_eq_some_iff.mp ej).1
    have ep:plc ks n=j:=plc_of (by lia) (fun i k hi e=>hs.lt e ej hi) fun i k hi e=>by
      rcases Nat.lt_or_ge j i with z | z
      · have:=hs.lt ej e z; lia
      · have:i=j:=by lia
        rw [this,ej] at e
        cases e
        exact Int.le_refl _
    rw [ep]
    refine (ex2q rfl (ite2 (fun c=>?_) (fun c=>?_)))
    · rw [decide_eq_true_eq] at c
      injection c with c
      lia
    have ex:(ks.map V.int)[j]?=some (.int n):=by rw [List.getElem?_map,ej]; rfl
    refine (ex2q rfl ⟨r,_,_,_,_,rfl,h1,T.clR,T.nNumbers,rfl,(ex2q rfl ⟨nl,_,_,_,rfl,rfl,SqL.of h2,atI_nat (j:=j) ex,(ex2q rfl ?_)⟩)⟩)
    refine ⟨rfl,(ex2q rfl (ite2 (fun c=>?_) (fun c=>?_)))⟩
    · simp at c
    refine (ex2q rfl ⟨r,_,_,_,_,rfl,h1,T.clR,T.nNumbers,rfl,.inl ⟨rfl,_,SqL.of h2⟩,(ex2q rfl ⟨nl,_,_,j,(ex2q rfl ⟨rfl,h2,by lia,by lia,by rw [List.length_map]; exact seqIx hj,ex,?_⟩)⟩)⟩)
    rw [<- map_erase,kErase hs ej]
    exact q
  · refine (ex2q rfl (ite2 (fun c=>iteT q) (fun c=>?_)))
    have hlt:plc ks n < ks.length:=by
      have:plc ks n≠ks.length:=fun z=>c (decide_eq_true (by rw [z]))
      lia
    obtain ⟨k,ek⟩:∃ k,ks[plc ks n]?=some k:=⟨_,List.getElem?_eq_getElem hlt⟩
    have hne:k≠n:=fun z=>hm (by rw [<- z]; exact List.mem_of_getElem? ek)
    refine (ex2q rfl ⟨r,_,_,_,_,rfl,h1,T.clR,T.nNumbers,rfl,(ex2q rfl ⟨nl,_,_,_,rfl,rfl,SqL.of h2,atI_nat (j:=plc ks n) (by rw [List.getElem?_map,ek]; rfl),(ex2q rfl ?_)⟩)⟩)
    refine ⟨rfl,(ex2q rfl (ite2 (fun c=>q) (fun c=>?_)))⟩
    exfalso
    simp at c
    exact hne c
theorem ifs_or2 {c:TT} {A B C:TS} {D:Ends} {σ:St} {H:Hp} (hB:tSeq B C D σ H) (hc:∀ K:Bool->Hp->Prop,K false H->c σ H K):tSeq (tIfS c A B) C D σ H:=hc _ (iteF hB)
theorem KL.num {nl d:Addr} {H H1:Hp} {xs ys:List V} (k:KL nl d H H1) (h:H1 nl=some (.lst xs)):KL nl d H (upd H1 nl (.lst ys)):=by
  refine ⟨fun a zs na e=>?_,fun a zs e=>?_,fun a o u e=>?_,fun a zs na e=>?_⟩
  · rw [upd_ne na]
    exact k.1 _ _ na e
  · have z:=k.2 _ _ e
    rw [upd_ne (ne_of z h (by intro z; cases z))]
    exact z
  · have z:=k.3 _ _ _ e
    rw [upd_ne (ne_of z h (by intro z; cases z))]
    exact z
  · have z:=k.4 _ _ na e
    rw [upd_ne (ne_of z h (by intro z; cases z))]
    exact z
def RmG (S:Addr) (A:Adr) (H:Hp) (m:Nm) (L:List Bx) (L1:List Bx) (m1:Nm):Prop:=((L.length:Int) + (m.kept.length:Int) < m.sz/\L1=L/\m1=m)\/(m.sz<=(L.length:Int) + (m.kept.length:Int)/\((∃ x wl k,OneW S A H m L x wl k/\L1=(L.filter fun y=>y.n != x.n)/\m1={ m with ext:=slowX wl ((k + 1:Nat):Int) })\/(NoW S A H m/\∃ k0 ks,m.kept=k0 :: ks/\L1=L/\m1={ m with kept:=ks })))
def FreK (m:Nm) (kv:V):Prop:=kv=.non\/∃ j,kv=.int j/\j ∉ m.kept
def PlG (S:Addr) (A:Adr) (H:Hp) (m:Nm) (L:List Bx) (kv:V) (i:Nat) (m2:Nm) (L1:List Bx):Prop:=(kv=.int (i:Int)/\(i:Int)∈m.kept/\L1=L/\m2={ m with kept:=m.kept.filter (fun k=>k != (i:Int)),anew:=m.anew + 1 })\/(FreK m kv/\i=m.fresh/\∃ m1,RmG S A H m L L1 m1/\m2={ m1 with fresh:=m.fresh + 1 })
end
end Hv
namespace Hv
open PySem L2 K11 HM
def Nm.pk (m:Nm) (n:Nat):Nm:={ m with peak:=if ((n + 1:Nat):Int) > m.peak then ((n + 1:Nat):Int) else m.peak }
theorem RmG.less {S:Addr} {A:Adr} {H:Hp} {hp d nl:Addr} {m m1:Nm} {L L1:List Bx} (h:RmG S A H m L L1 m1) (ha:HpB A H hp d nl m L):(∀ y∈L1,y.n < m.fresh)/\L1.length<=L.length:=by
  rcases h with ⟨_,rfl,rfl⟩ | ⟨_,⟨x,wl,k,o,rfl,rfl⟩ | ⟨_,k0,ks,_,rfl,rfl⟩⟩
  · exact ⟨ha.less,Nat.le_refl _⟩
  · exact ⟨fun y hy=>ha.less y (List.mem_filter.mp hy).1,List.length_filter_le ..⟩
  · exact ⟨ha.less,Nat.le_refl _⟩
def KOut (m:Nm) (L:List Bx):Prop:=∀ k∈m.kept,(∀ y∈L,(y.n:Int)≠k)/\0<=k/\k < (m.fresh:Int)
theorem PlG.ok {S:Addr} {A:Adr} {H:Hp} {hp d nl:Addr} {m m2:Nm} {L L1:List Bx} {kv:V} {i:Nat} (h:PlG S A H m L kv i m2 L1) (ha:HpB A H hp d nl m L) (ho:KOut m L):(∀ y∈L1,y.n≠i)/\i < m2.fresh/\L1.length<=L.length:=by
  rcases h with ⟨_,hm,rfl,rfl⟩ | ⟨_,rfl,m1,hR,rfl⟩
  · obtain ⟨a,b,c⟩:=ho _ hm
    exact ⟨fun y hy z=>a y hy (by rw [z]),by show i < m.fresh; lia,Nat.le_refl _⟩
  · obtain ⟨a,b⟩:=hR.less ha
    exact ⟨fun y hy=>Nat.ne_of_lt (a y hy),Nat.lt_succ_self _,b⟩
section
variable {P:Program} {w:World} {K:PySem.W.Frag} {mg:Str->Option Value} {base:Heap} {f:Addr} {fd:FuncData} {A:Adr} {G S U:Addr}
def spSParts (A:Adr):Sp:=fun vs H Q _=>∃ (hp dx d r wl:Addr) (sz fr an pk k n:Int) (ws:List Int),vs=[.ref hp,.int n]/\H hp=some (WH A dx sz fr an pk d r (slowX wl k))/\H wl=some (.lst (ws.map V.int))/\ws.length < 1000/\Q .non (upd H wl (.lst ((ws ++ [n]).map V.int)))
theorem scSParts:FnScope ["self","at"] ["self","at"] (defScope sSParts):=⟨rfl,rfl,rfl,by decide +kernel,rfl,by decide +kernel,by decide +kernel⟩
theorem ok_sparts (F:Fun K "let_parts_go" "SlowHeap.let_parts_go" sSParts f fd) (T:Txt K mg A G) (nW:NoAttr K A.cH "waiting"):FnOk P w K mg base CX0 2 f fd ["self","at"] (spSParts A):=by
  refine F.by scSParts (fun vs H Q E h=>?_) (fun cdv A' outer s H vs Q E hr h=>?_)
  · obtain ⟨hp,dx,d,r,wl,sz,fr,an,pk,k,n,ws,rfl,_⟩:=h
    rfl
  obtain ⟨hp,dx,d,r,wl,sz,fr,an,pk,k,n,ws,rfl,h1,hw,hl,q⟩:=h
  refine ⟨_,jss_one (js_expr (je_bm PySem.F.plainAttrs_list PySem.F.slot_list_append PySem.F.type_list_append jm_append (je_fld (jv 0)) (ja_c (jv 1) ja_nil))),?_⟩
  have sl:=line0
  refine (ex2q rfl ⟨hp,_,_,_,_,rfl,h1,T.clH,nW,rfl,.inl ⟨rfl,_,SqL.of hw⟩,(ex2q rfl ⟨wl,(ex4q rfl rfl ⟨hw,by rw [List.length_map]; lia,?_⟩)⟩)⟩)
  rw [List.map_append] at q
  exact q
end
end Hv
namespace L2
open PySem PySem.Spec PyProof.Rows
def Sme:Nat->Hp->V->V->Prop
  | 0,_,_,_=>False
  | n + 1,H,x,y=>(flatV x=true/\x=y)\/∃ a b xs ys,x=.ref a/\y=.ref b/\((H a=some (.lst xs)/\H b=some (.lst ys))\/(H a=some (.tup xs)/\H b=some (.tup ys)))/\xs.length=ys.length/\∀ (i:Nat) u v,xs[i]?=some u->ys[i]?=some v->Sme n H u v
section
variable {X:Cx} {pins:List (Addr × Obj)} {σ:St} {H:Hp} {s:Shared}
theorem sme_items {A:Around} {n:Nat} {xs ys:List V} {us vs:List Value} (r:Vals xs us) (r':Vals ys vs) (go:∀ {x y:V} {u v:Value},Sme n H x y->RelV x u->RelV y v->SeqAt.EqAt A s u v true)
    (h:∀ (i:Nat) u v,xs[i]?=some u->ys[i]?=some v->Sme n H u v) (j:Nat) (h1:j < us.toArray.size) (h2:j < vs.toArray.size):SeqAt.EqAt A s us.toArray[j] vs.toArray[j] true:=by
  have l1:=r.length
  have l2:=r'.length
  simp at h1 h2
  have hx:xs[j]?=some (xs[j]'(by lia)):=List.getElem?_eq_getElem _
  have hy:ys[j]?=some (ys[j]'(by lia)):=List.getElem?_eq_getElem _
  obtain ⟨u,e1,rx⟩:=r.get hx
  obtain ⟨v,e2,ry⟩:=r'.get hy
  have g1:us.toArray[j]=u:=by
    have:=List.getElem?_eq_some_iff.mp e1
    simpa using this.2
  have g2:vs.toArray[j]=v:=by
    have:=List.getElem?_eq_some_iff.mp e2
    simpa using this.2
  rw [g1,g2]
  exact go (h j _ _ hx hy) rx ry
theorem sme_rc {A:Around} {n:Nat} {a b:Addr} {xs ys:List V} (hu:A.units < cLine) (I:Inv X pins σ H s) (hl:xs.length=ys.length) (hab:(H a=some (.lst xs)/\H b=some (.lst ys))\/(H a=some (.tup xs)/\H b=some (.tup ys)))
    (go:∀ {x y:V} {u v:Value},Sme n H x y->RelV x u->RelV y v->SeqAt.EqAt A.in1 s u v true) (h:∀ (i:Nat) u v,xs[i]?=some u->ys[i]?=some v->Sme n H u v):SeqAt.RcAt A s (.ref a) (.ref b) true:=by
  rcases hab with ⟨h1,h2⟩ | ⟨h1,h2⟩
  · obtain ⟨i1,v1,m1,_⟩:=I.list (SqL.of h1)
    obtain ⟨i2,v2,m2,_⟩:=I.list (SqL.of h2)
    have n1:=v1.length
    have n2:=v2.length
    have main:=SeqAt.RcAt.lists (A:=A) (s:=s) (e:=fun _=>true) m1.isList m2.isList (by simp; lia) hu (fun j x y=>sme_items v1 v2 go h j x y)
    rw [show ((List.range i1.toArray.size).all fun _=>true)=true from List.all_eq_true.mpr fun _ _=>rfl] at main
    exact main
  · obtain ⟨i1,v1,m1,_⟩:=I.tuple (SqT.of h1)
    obtain ⟨i2,v2,m2,_⟩:=I.tuple (SqT.of h2)
    have n1:=v1.length
    have n2:=v2.length
    have main:=SeqAt.RcAt.tuples (A:=A) (s:=s) (e:=fun _=>true) m1 m2 hu (fun j x y=>sme_items v1 v2 go h j x y)
    have eb:((List.range (min i1.toArray.size i2.toArray.size)).all (fun _=>true) && i1.toArray.size == i2.toArray.size)=true:=by
      rw [show (List.range (min i1.toArray.size i2.toArray.size)).all (fun _=>true)=true from List.all_eq_true.mpr fun _ _=>rfl]
      simp
      lia
    rw [eb] at main
    exact main
theorem sme_eq (I:Inv X pins σ H s):∀ (n:Nat) {A:Around} (hu:A.units + n < cLine) {x y:V} {u v:Value},Sme n H x y->RelV x u->RelV y v->SeqAt.EqAt A s u v true
  | 0,_,_,_,_,_,_,h,_,_=>h.elim
  | n + 1,A,hu,x,y,u,v,h,rx,ry=>by
    rcases h with ⟨f,rfl⟩ | ⟨a,b,xs,ys,rfl,rfl,hab,hl,h⟩
    · have k:=eqAt_V (A:=A) (s:=s) rx ry f f
      rw [eqV_self f] at k
      exact k
    · cases rx
      cases ry
      by_cases c:a=b
      · subst c
        exact .same _
      · exact .of_refs c (sme_rc (by lia) I hl hab (fun {x y u v}=>sme_eq I n (A:=A.in1) (by show A.units + 1 + n < cLine; lia)) h)
def rSme (n:Nat) (b:Bool):R2:=fun x y H Q=>∃ p p',x=.ref p/\y=.ref p'/\Sme n H x y/\Q (.bl b) H
theorem op_eqD {n:Nat} (hn:n<=32) (hu:X.A.units + 64 < cLine):OpR X (compareOp .Eq) (rSme n true):=by
  intro pins s σ H x y v u Q I rx ry h
  obtain ⟨p,p',rfl,rfl,h,q⟩:=h
  cases rx
  cases ry
  match n,h with
  | n + 1,h =>
    rcases h with ⟨f,_⟩ | ⟨a,b,xs,ys,e1,e2,hab,hl,h⟩
    · cases f
    · cases e1
      cases e2
      exact sme_rc (A:=X.A) (by lia) I hl hab (fun {x y u v}=>sme_eq I n (A:=X.A.in1) (by show X.A.units + 1 + n < cLine; lia)) h _ _ _ _ ⟨.bl true,H,I,rfl,q⟩
theorem jo_eqD {k n:Nat} (hn:n<=32) (hr:Room k X.A):jOp X (compareOp .Eq) (rSme n true):=⟨op_eqD hn hr.units⟩
theorem op_neD {n:Nat} (hn:n<=32) (hu:X.A.units + 64 < cLine):OpR X (compareOp .NotEq) (rSme n false):=by
  intro pins s σ H x y v u Q I rx ry h
  obtain ⟨p,p',rfl,rfl,h,q⟩:=h
  cases rx
  cases ry
  match n,h with
  | n + 1,h =>
    rcases h with ⟨f,_⟩ | ⟨a,b,xs,ys,e1,e2,hab,hl,h⟩
    · cases f
    · cases e1
      cases e2
      have go:∀ {x y:V} {u v:Value},Sme n H x y->RelV x u->RelV y v->SeqAt.EqAt X.A.in1 s u v true:=fun {x y u v}=>sme_eq I n (A:=X.A.in1) (by show X.A.units + 1 + n < cLine; lia)
      rcases hab with ⟨h1,h2⟩ | ⟨h1,h2⟩
      · obtain ⟨i1,v1,m1,_⟩:=I.list (SqL.of h1)
        obtain ⟨i2,v2,m2,_⟩:=I.list (SqL.of h2)
        have n1:=v1.length
        have n2:=v2.length
        have main:=SeqAt.RcNeAt.lists (A:=X.A) (s:=s) (e:=fun _=>true) m1.isList m2.isList (by simp; lia) (by lia) (fun j x y=>sme_items v1 v2 go h j x y)
        rw [show ((List.range i1.toArray.size).all fun _=>true)=true from List.all_eq_true.mpr fun _ _=>rfl] at main
        exact main _ _ _ _ ⟨.bl false,H,I,rfl,q⟩
      · obtain ⟨i1,v1,m1,_⟩:=I.tuple (SqT.of h1)
        obtain ⟨i2,v2,m2,_⟩:=I.tuple (SqT.of h2)
        have n1:=v1.length
        have n2:=v2.length
        have main:=SeqAt.RcNeAt.tuples (A:=X.A) (s:=s) (e:=fun _=>true) m1 m2 (by lia) (fun j x y=>sme_items v1 v2 go h j x y)
        have eb:((List.range (min i1.toArray.size i2.toArray.size)).all (fun _=>true) && i1.toArray.size == i2.toArray.size)=true:=by
          rw [show (List.range (min i1.toArray.size i2.toArray.size)).all (fun _=>true)=true from List.all_eq_true.mpr fun _ _=>rfl]
          simp
          lia
        rw [eb] at main
        exact main _ _ _ _ ⟨.bl false,H,I,rfl,q⟩
theorem jo_neD {k n:Nat} (hn:n<=32) (hr:Room k X.A):jOp X (compareOp .NotEq) (rSme n false):=⟨op_neD hn hr.units⟩
end
end L2
namespace PySem.W
open PySem PySem.Spec PySem.Calls PyProof.Rows
section
variable {prog:Program} {w:World} {A:Around} {E:Value->Shared->Prop} {s:Shared} {K:Frag} {e C:Addr} {ox:Obj} {od:Option Obj}
end
end PySem.W
namespace L2
open PySem PySem.Spec PyProof.Rows
end L2
namespace Hv
open PySem L2 K11 HM
theorem cut_from (ws:List Int) (k:Nat) (h:k<=ws.length):cutV (ws.map V.int) (some (k:Int)) none=(ws.drop k).map V.int:=by
  unfold cutV
  rw [List.length_map,HT.sIx_nat,Nat.min_eq_left h,<- List.map_drop]
  refine List.take_of_length_le ?_
  rw [List.length_map,List.length_drop]
  exact Nat.le_refl _
def Wt (S:Addr) (A:Adr) (H:Hp) (m:Nm) (wt:List Int):Prop:=(A.cH≠S/\wt=[])\/(A.cH=S/\∃ (wl:Addr) (ws:List Int) (k:Nat),m.ext=slowX wl (k:Int)/\H wl=some (.lst (ws.map V.int))/\k<=ws.length/\wt=ws.drop k)
theorem Wt.same {S:Addr} {A:Adr} {H H':Hp} {m:Nm} {wt:List Int} (h:Wt S A H m wt) (s:Same H H'):Wt S A H' m wt:=h.imp_right fun ⟨a,wl,ws,k,b,c,d⟩=>⟨a,wl,ws,k,b,s _ _ c,d⟩
def Pr6 (H:Hp) (v:V):Prop:=Flat v\/∃ a j,v=.ref a/\H a=some (BX j)
theorem Pr6.kl {H H':Hp} {n:Addr} {v:V} (h:Pr6 H v) (k:KL n d H H'):Pr6 H' v:=h.imp_right fun ⟨a,j,e,g⟩=>⟨a,j,e,k.2 _ _ g⟩
def Tl (H:Hp) (l:Addr) (m:Nm) (L:List Bx) (wt:List Int):Prop:=∃ (lf lb lk lw:Addr) (ts qs:List Addr) (L':List Bx),L'.Perm L/\SrtB L'/\H l=some (.lst [.ref lf,.ref lb,.ref lk,.ref lw])/\H lf=some (.lst [.int m.sz,.int m.fresh,.int m.anew,.int m.peak])/\H lb=some (.lst (ts.map V.ref))/\Rws H lb ts qs L'/\H lk=some (.lst (m.kept.map V.int))/\H lw=some (.lst (wt.map V.int))
theorem Rws.same {H H':Hp} {l:Addr} {ts qs:List Addr} {L:List Bx} (h:Rws H l ts qs L) (k:Same H H'):Rws H' l ts qs L:=⟨h.tl,h.ql,h.ne,fun i t q x e1 e2 e3=>let ⟨a,b⟩:=h.row i t q x e1 e2 e3; ⟨k _ _ a,k _ _ b⟩⟩
theorem Tl.same {H H':Hp} {l:Addr} {m:Nm} {L:List Bx} {wt:List Int} (h:Tl H l m L wt) (k:Same H H'):Tl H' l m L wt:=let ⟨lf,lb,lk,lw,ts,qs,L',p,s,a,b,c,d,e,f⟩:=h; ⟨lf,lb,lk,lw,ts,qs,L',p,s,k _ _ a,k _ _ b,k _ _ c,d.same k,k _ _ e,k _ _ f⟩
theorem Sme.flat {n:Nat} {H:Hp} {v:V} (h:Flat v):Sme (n + 1) H v v:=.inl ⟨by rcases h with ⟨z,rfl⟩ | ⟨z,rfl⟩ <;> rfl,rfl⟩
theorem Sme.int {n:Nat} {H:Hp} (i:Int):Sme (n + 1) H (.int i) (.int i):=.inl ⟨rfl,rfl⟩
theorem Sme.str {n:Nat} {H:Hp} (z:Str):Sme (n + 1) H (.str z) (.str z):=.inl ⟨rfl,rfl⟩
theorem Sme.lst {n:Nat} {H:Hp} {a b:Addr} {xs ys:List V} (ha:H a=some (.lst xs)) (hb:H b=some (.lst ys)) (h:A2 (Sme n H) xs ys):Sme (n + 1) H (.ref a) (.ref b):=.inr ⟨a,b,xs,ys,rfl,rfl,.inl ⟨ha,hb⟩,h.len,h.get⟩
theorem Sme.tup {n:Nat} {H:Hp} {a b:Addr} {xs ys:List V} (ha:H a=some (.tup xs)) (hb:H b=some (.tup ys)) (h:A2 (Sme n H) xs ys):Sme (n + 1) H (.ref a) (.ref b):=.inr ⟨a,b,xs,ys,rfl,rfl,.inr ⟨ha,hb⟩,h.len,h.get⟩
theorem Sme.pr {n:Nat} {H:Hp} {v:V} (h:Pr6 H v):Sme (n + 2) H v v:=by
  rcases h with h | ⟨a,j,rfl,g⟩
  · exact Sme.flat h
  · exact Sme.tup g g (.cons (Sme.str _) (.cons (Sme.int _) .nil))
section
variable {P:Program} {w:World} {K:PySem.W.Frag} {mg:Str->Option Value} {base:Heap} {f:Addr} {fd:FuncData} {A:Adr} {G S U:Addr} {Ad:Adr->Prop}
def spWaitsG (S:Addr) (A:Adr):Sp:=fun vs H Q _=>∃ (hp d nl:Addr) (m:Nm) (L:List Bx) (wt:List Int),vs=[.ref hp]/\HpB A H hp d nl m L/\Wt S A H m wt/\∀ l,H l=none->Q (.ref l) (upd H l (.lst (wt.map V.int)))
theorem ok_waitsG (F:Fun K "waits" "Heap.waits" sWaits f fd) (hS:A.cH≠S):FnOk P w K mg base CX0 1 f fd ["self"] (spWaitsG S A):=by
  refine F.by scWaits (fun vs H Q E h=>?_) (fun cdv A' outer s H vs Q E hr h=>?_)
  · obtain ⟨hp,d,nl,m,L,wt,rfl,_⟩:=h
    rfl
  obtain ⟨hp,d,nl,m,L,wt,rfl,ha,hw,q⟩:=h
  rcases hw with ⟨_,rfl⟩ | ⟨z,_⟩
  · exact ⟨_,jss_one (js_ret (je_lst ja_nil)),by show 0<=sizeLine; exact Nat.zero_le _,q⟩
  · exact absurd z hS
theorem ok_swaitsG (F:Fun K "waits" "SlowHeap.waits" sSWaits f fd) (T:Txt K mg A G) (nW:NoAttr K A.cH "waiting") (nF:NoAttr K A.cH "first"):FnOk P w K mg base CX0 1 f fd ["self"] (spWaitsG A.cH A):=by
  refine F.by scSWaits (fun vs H Q E h=>?_) (fun cdv A' outer s H vs Q E hr h=>?_)
  · obtain ⟨hp,d,nl,m,L,wt,rfl,_⟩:=h
    rfl
  obtain ⟨hp,d,nl,m,L,wt,rfl,ha,hi,q⟩:=h
  refine ⟨_,jss_one (js_ret (je_slice jl_list (je_fld (jv 0)) (jo_some (je_fld (jv 0))) jo_none)),?_⟩
  rcases hi with ⟨z,_⟩ | ⟨_,wl,ws,k,ew,hw,hk,rfl⟩
  · exact absurd rfl z
  obtain ⟨dx,r,dr,h1,_⟩:=ha.ex
  rw [ew] at h1
  refine (ex2q rfl ⟨hp,_,_,_,_,rfl,h1,T.clH,nW,rfl,(ex2q rfl ⟨hp,_,_,_,_,rfl,h1,T.clH,nF,rfl,(ex2q rfl ⟨wl,(ex2q rfl ⟨SqL.of hw,fun l hl=>?_⟩)⟩)⟩)⟩)
  rw [cut_from _ _ hk]
  exact q l hl
end
end Hv
namespace HM
open PySem L2
def bxs (g:V->Option Nat) (x:Bx):List Nat:=x.parts.filterMap g
def refs (g:V->Option Nat) (L:List Bx) (n:Nat):Nat:=(L.map fun y=>(bxs g y).count n).sum
theorem refs_cons {g:V->Option Nat} {y:Bx} {L:List Bx} {n:Nat}:refs g (y :: L) n=(bxs g y).count n + refs g L n:=rfl
theorem refs_app {g:V->Option Nat} {y:Bx} {n:Nat}:∀ {L:List Bx},refs g (L ++ [y]) n=refs g L n + (bxs g y).count n
  | []=>by
    show (bxs g y).count n + 0=0 + (bxs g y).count n
    lia
  | z :: L=>by
    show (bxs g z).count n + refs g (L ++ [y]) n=(bxs g z).count n + refs g L n + (bxs g y).count n
    rw [refs_app]
    lia
theorem refs_setC {g:V->Option Nat} {n k:Nat} {c:Int}:∀ {L:List Bx},refs g (setC L k c) n=refs g L n
  | []=>rfl
  | z :: L=>by
    show (bxs g (if z.n=k then { z with count:=c } else z)).count n + refs g (setC L k c) n=(bxs g z).count n + refs g L n
    rw [refs_setC]
    congr 1
    split <;> rfl
theorem refs_filter {g:V->Option Nat} {n:Nat} {x:Bx}:∀ {L:List Bx},Rise L->x∈L->refs g (L.filter fun y=>y.n != x.n) n + (bxs g x).count n=refs g L n
  | [],_,h=>nomatch h
  | z :: L,r,h=>by
    have h1:=List.pairwise_cons.mp r
    rcases List.mem_cons.mp h with e | e
    · subst e
      rw [List.filter_cons_of_neg (by simp),List.filter_eq_self.mpr (fun w hw=>by have:=h1.1 w hw; simpa using Ne.symm this),refs_cons]
      lia
    · have hne:=h1.1 x e
      rw [List.filter_cons_of_pos (by simpa using hne),refs_cons,refs_cons]
      have:=refs_filter (g:=g) (n:=n) h1.2 e
      lia
theorem refs_pos {g:V->Option Nat} {n:Nat}:∀ {L:List Bx},0 < refs g L n->∃ y∈L,n∈bxs g y
  | [],h=>absurd h (Nat.lt_irrefl _)
  | z :: L,h=>by
    rw [refs_cons] at h
    by_cases c:n∈bxs g z
    · exact ⟨z,List.mem_cons_self,c⟩
    · rw [List.count_eq_zero_of_not_mem c,Nat.zero_add] at h
      obtain ⟨y,hy,e⟩:=refs_pos h
      exact ⟨y,List.mem_cons_of_mem _ hy,e⟩
theorem refs_mem {g:V->Option Nat} {n:Nat} {y:Bx}:∀ {L:List Bx},y∈L->n∈bxs g y->0 < refs g L n
  | [],h,_=>nomatch h
  | z :: L,h,hn=>by
    rw [refs_cons]
    rcases List.mem_cons.mp h with e | e
    · subst e
      have:=List.count_pos_iff.mpr hn
      lia
    · have:=refs_mem e hn
      lia
structure Hd (g:V->Option Nat) (L:List Bx) (wt:List Nat) (hf:Nat->Nat):Prop where
  rise:Rise L
  cnt:∀ x∈L,x.count=(hf x.n:Int) + (refs g L x.n:Int)
  dom:∀ n,0 < hf n + refs g L n->∃ x∈L,x.n=n
  nd:wt.Nodup
  w0:∀ x∈L,x.count=0->x.n∈wt
  w1:∀ n∈wt,∃ x∈L,x.n=n/\x.count=0
section
variable {g:V->Option Nat} {L:List Bx} {wt:List Nat} {hf hf':Nat->Nat}
theorem Hd.congr (h:Hd g L wt hf) (e:∀ n,hf' n=hf n):Hd g L wt hf':=by
  have:hf'=hf:=funext e
  rw [this]
  exact h
theorem Hd.par {g':V->Option Nat} (h:Hd g L wt hf) (e:∀ x∈L,∀ v∈x.parts,g' v=g v):Hd g' L wt hf:=by
  have eb:∀ x∈L,bxs g' x=bxs g x:=fun x hx=>by
    unfold bxs
    have:∀ ps:List V,(∀ v∈ps,g' v=g v)->ps.filterMap g'=ps.filterMap g:=fun ps=>by
      induction ps with
      | nil=>intro _; rfl
      | cons v ps ih =>
        intro h
        rw [List.filterMap_cons,List.filterMap_cons,h v List.mem_cons_self,ih fun u hu=>h u (List.mem_cons_of_mem _ hu)]
    exact this _ (e x hx)
  have er:∀ n,refs g' L n=refs g L n:=fun n=>by
    unfold refs
    rw [List.map_congr_left fun x hx=>by rw [eb x hx]]
  exact ⟨h.rise,fun x hx=>by rw [er]; exact h.cnt x hx,fun n hn=>h.dom n (by rw [er] at hn; exact hn),h.nd,h.w0,h.w1⟩
theorem Hd.pop {n:Nat} (h:Hd g L (n :: wt) hf):∃ x∈L,x.n=n/\x.count=0/\Hd g (L.filter fun y=>y.n != n) wt (fun k=>hf k + (bxs g x).count k):=by
  obtain ⟨x,hx,en,ec⟩:=h.w1 n List.mem_cons_self
  have nd:=List.nodup_cons.mp h.nd
  have z:=h.cnt x hx
  rw [ec] at z
  have z1:hf x.n=0:=by lia
  have z2:refs g L x.n=0:=by lia
  refine ⟨x,hx,en,ec,⟨List.Pairwise.filter _ h.rise,fun y hy=>?_,fun k hk=>?_,nd.2,fun y hy c=>?_,fun k hk=>?_⟩⟩
  · obtain ⟨hy1,hy2⟩:=List.mem_filter.mp hy
    have:=refs_filter (g:=g) (n:=y.n) h.rise hx
    rw [en] at this
    rw [h.cnt y hy1]
    show _=((hf y.n + (bxs g x).count y.n:Nat):Int) + _
    lia
  · have:=refs_filter (g:=g) (n:=k) h.rise hx
    rw [en] at this
    obtain ⟨y,hy,ey⟩:=h.dom k (by lia)
    refine ⟨y,List.mem_filter.mpr ⟨hy,?_⟩,ey⟩
    have:k≠n:=fun e=>by
      subst e
      rw [en] at z1 z2
      lia
    simpa [ey] using this
  · obtain ⟨hy1,hy2⟩:=List.mem_filter.mp hy
    rcases List.mem_cons.mp (h.w0 y hy1 c) with e | e
    · simp [e] at hy2
    · exact e
  · obtain ⟨y,hy,ey,ec'⟩:=h.w1 k (List.mem_cons_of_mem _ hk)
    refine ⟨y,List.mem_filter.mpr ⟨hy,?_⟩,ey,ec'⟩
    have:k≠n:=fun e=>nd.1 (by rw [<- e]; exact hk)
    simpa [ey] using this
theorem setC_at {n:Nat} {c:Int} {y:Bx} (h:y∈setC L n c):∃ x∈L,y.n=x.n/\y.count=(if x.n=n then c else x.count)/\y.parts=x.parts:=by
  obtain ⟨x,hx,a1,_,_,_,a5,a6⟩:=setC_mem h
  exact ⟨x,hx,a1,a6,a5⟩
theorem Hd.less {n:Nat} (h:Hd g L wt hf) (hn:0 < hf n):∃ x∈L,x.n=n/\0 < x.count/\Hd g (setC L n (x.count - 1)) (if x.count=1 then wt ++ [n] else wt) (fun k=>if k=n then hf k - 1 else hf k):=by
  obtain ⟨x,hx,en⟩:=h.dom n (by lia)
  have hc:=h.cnt x hx
  rw [en] at hc
  have hwn:n ∉ wt:=fun hw=>by
    obtain ⟨y,hy,ey,ec⟩:=h.w1 n hw
    have:=h.cnt y hy
    rw [ey,ec] at this
    lia
  refine ⟨x,hx,en,by lia,⟨?_,fun y hy=>?_,fun k hk=>?_,?_,fun y hy c=>?_,fun k hk=>?_⟩⟩
  · unfold setC
    refine List.pairwise_map.mpr (h.rise.imp fun {a b} z=>?_)
    have e:∀ a:Bx,(if a.n=n then { a with count:=x.count - 1 } else a:Bx).n=a.n:=fun a=>by split <;> rfl
    rw [e,e]
    exact z
  · obtain ⟨z,hz,e1,e2,_⟩:=setC_at hy
    rw [e2,refs_setC,e1]
    have:=h.cnt z hz
    by_cases c:z.n=n
    · rw [if_pos c,if_pos c,c,hc]
      lia
    · rw [if_neg c,if_neg c]
      exact this
  · rw [refs_setC] at hk
    have hk':0 < hf k + refs g L k:=by
      by_cases c:k=n
      · rw [c]; lia
      · rw [if_neg c] at hk; exact hk
    obtain ⟨y,hy,ey⟩:=h.dom k hk'
    have mx:=setC_of (n:=n) (c:=x.count - 1) hy
    exact ⟨_,mx,by split <;> exact ey⟩
  · split
    · refine List.nodup_append.mpr ⟨h.nd,List.pairwise_singleton _ _,fun a ha b hb=>?_⟩
      rw [List.mem_singleton.mp hb]
      exact fun z=>hwn (by rw [<- z]; exact ha)
    · exact h.nd
  · obtain ⟨z,hz,e1,e2,_⟩:=setC_at hy
    rw [e2] at c
    rw [e1]
    by_cases q:z.n=n
    · rw [if_pos q] at c
      rw [if_pos (by lia),q]
      exact List.mem_append_right _ List.mem_cons_self
    · rw [if_neg q] at c
      have:=h.w0 z hz c
      split
      · exact List.mem_append_left _ this
      · exact this
  · have old:k∈wt->∃ y∈setC L n (x.count - 1),y.n=k/\y.count=0:=fun hk=>by
      obtain ⟨y,hy,ey,ec⟩:=h.w1 k hk
      have mx:=setC_of (n:=n) (c:=x.count - 1) hy
      rw [if_neg (fun z=>hwn (by rw [<- z,ey]; exact hk))] at mx
      exact ⟨y,mx,ey,ec⟩
    split at hk
    · rcases List.mem_append.mp hk with z | z
      · exact old z
      · have mx:=setC_of (n:=n) (c:=x.count - 1) hx
        rw [if_pos en] at mx
        refine ⟨_,mx,by rw [List.mem_singleton.mp z]; exact en,?_⟩
        show x.count - 1=0
        lia
    · exact old hk
theorem Hd.more {n:Nat} (h:Hd g L wt hf) (hn:0 < hf n + refs g L n):∃ x∈L,x.n=n/\0 < x.count/\Hd g (setC L n (x.count + 1)) wt (fun k=>if k=n then hf k + 1 else hf k):=by
  obtain ⟨x,hx,en⟩:=h.dom n hn
  have hc:=h.cnt x hx
  rw [en] at hc
  have hwn:n ∉ wt:=fun hw=>by
    obtain ⟨y,hy,ey,ec⟩:=h.w1 n hw
    have:=h.cnt y hy
    rw [ey,ec] at this
    lia
  refine ⟨x,hx,en,by lia,⟨?_,fun y hy=>?_,fun k hk=>?_,h.nd,fun y hy c=>?_,fun k hk=>?_⟩⟩
  · unfold setC
    refine List.pairwise_map.mpr (h.rise.imp fun {a b} z=>?_)
    have e:∀ a:Bx,(if a.n=n then { a with count:=x.count + 1 } else a:Bx).n=a.n:=fun a=>by split <;> rfl
    rw [e,e]
    exact z
  · obtain ⟨z,hz,e1,e2,_⟩:=setC_at hy
    rw [e2,refs_setC,e1]
    have:=h.cnt z hz
    by_cases c:z.n=n
    · rw [if_pos c,if_pos c,c,hc]
      lia
    · rw [if_neg c,if_neg c]
      exact this
  · rw [refs_setC] at hk
    have hk':0 < hf k + refs g L k:=by
      by_cases c:k=n
      · rw [c]; lia
      · rw [if_neg c] at hk; exact hk
    obtain ⟨y,hy,ey⟩:=h.dom k hk'
    have mx:=setC_of (n:=n) (c:=x.count + 1) hy
    exact ⟨_,mx,by split <;> exact ey⟩
  · obtain ⟨z,hz,e1,e2,_⟩:=setC_at hy
    rw [e2] at c
    rw [e1]
    by_cases q:z.n=n
    · rw [if_pos q] at c
      lia
    · rw [if_neg q] at c
      exact h.w0 z hz c
  · obtain ⟨y,hy,ey,ec⟩:=h.w1 k hk
    have mx:=setC_of (n:=n) (c:=x.count + 1) hy
    rw [if_neg (fun z=>hwn (by rw [<- z,ey]; exact hk))] at mx
    exact ⟨y,mx,ey,ec⟩
theorem Hd.take {x:Bx} (h:Hd g L wt hf) (hx:x∈L) (hn:0 < hf x.n) (hc:x.count=1):Hd g (L.filter fun y=>y.n != x.n) wt (fun k=>(if k=x.n then hf k - 1 else hf k) + (bxs g x).count k):=by
  have z:=h.cnt x hx
  rw [hc] at z
  have z1:hf x.n=1:=by lia
  have z2:refs g L x.n=0:=by lia
  have hb:(bxs g x).count x.n=0:=List.count_eq_zero_of_not_mem fun e=>by
    have:=refs_mem (L:=L) hx e
    lia
  refine ⟨List.Pairwise.filter _ h.rise,fun y hy=>?_,fun k hk=>?_,h.nd,fun y hy c=>h.w0 y (List.mem_filter.mp hy).1 c,fun k hk=>?_⟩
  · obtain ⟨hy1,hy2⟩:=List.mem_filter.mp hy
    have hne:y.n≠x.n:=by simpa using hy2
    have:=refs_filter (g:=g) (n:=y.n) h.rise hx
    rw [h.cnt y hy1,if_neg hne]
    show _=((hf y.n + (bxs g x).count y.n:Nat):Int) + _
    lia
  · have:=refs_filter (g:=g) (n:=k) h.rise hx
    have hne:k≠x.n:=fun e=>by
      rw [if_pos e,e,hb,z1] at hk
      rw [e] at this
      lia
    rw [if_neg hne] at hk
    obtain ⟨y,hy,ey⟩:=h.dom k (by lia)
    exact ⟨y,List.mem_filter.mpr ⟨hy,by simpa [ey] using hne⟩,ey⟩
  · obtain ⟨y,hy,ey,ec⟩:=h.w1 k hk
    have:y.n≠x.n:=fun e=>by
      have:=rise_eq h.rise hy hx e
      rw [this,hc] at ec
      exact absurd ec (by decide)
    exact ⟨y,List.mem_filter.mpr ⟨hy,by simpa using this⟩,ey,ec⟩
theorem Hd.make {x:Bx} (h:Hd g L wt hf) (hn:∀ y∈L,y.n≠x.n) (hc:x.count=1) (hb:∀ k,(bxs g x).count k<=hf k):Hd g (L ++ [x]) wt (fun k=>if k=x.n then 1 else hf k - (bxs g x).count k):=by
  have z:hf x.n + refs g L x.n=0:=by
    rcases Nat.eq_zero_or_pos (hf x.n + refs g L x.n) with c | c
    · exact c
    · obtain ⟨y,hy,ey⟩:=h.dom _ c
      exact absurd ey (hn y hy)
  have zb:(bxs g x).count x.n=0:=by have:=hb x.n; lia
  refine ⟨List.pairwise_append.mpr ⟨h.rise,List.pairwise_singleton _ _,fun y hy w hw=>by rw [List.mem_singleton.mp hw]; exact hn y hy⟩,fun y hy=>?_,fun k hk=>?_,h.nd,fun y hy c=>?_,fun k hk=>?_⟩
  · rw [refs_app]
    rcases List.mem_append.mp hy with e | e
    · have hne:=hn y e
      rw [h.cnt y e,if_neg hne]
      have:=hb y.n
      lia
    · rw [List.mem_singleton.mp e,if_pos rfl,hc,zb]
      lia
  · rw [refs_app] at hk
    by_cases c:k=x.n
    · exact ⟨x,List.mem_append_right _ List.mem_cons_self,c.symm⟩
    · rw [if_neg c] at hk
      have:=hb k
      obtain ⟨y,hy,ey⟩:=h.dom k (by lia)
      exact ⟨y,List.mem_append_left _ hy,ey⟩
  · rcases List.mem_append.mp hy with e | e
    · exact h.w0 y e c
    · rw [List.mem_singleton.mp e,hc] at c
      exact absurd c (by decide)
  · obtain ⟨y,hy,r⟩:=h.w1 k hk
    exact ⟨y,List.mem_append_left _ hy,r⟩
end
end HM
set_option simprocs false
namespace Hv
open PySem L2 K11 HM
abbrev iV (n:Nat):V:=.int (n:Int)
def Gv (g:V->Option Nat) (H:Hp) (v:V):Prop:=(Flat v/\g v=none)\/∃ a j,v=.ref a/\H a=some (BX j)/\g v=some j
structure KS (n w d:Addr) (H H':Hp):Prop where
  l:∀ a xs,a≠n->a≠w->H a=some (.lst xs)->H' a=some (.lst xs)
  t:∀ a xs,H a=some (.tup xs)->H' a=some (.tup xs)
  f:∀ a o u,H a=some (.frz o u)->H' a=some (.frz o u)
  k:∀ a kvs,a≠d->H a=some (.dK kvs)->H' a=some (.dK kvs)
section
variable {n w d:Addr} {H H1 H2 H':Hp}
theorem KS.kl (h:KL n d H H'):KS n w d H H':=⟨fun a xs p _ e=>h.1 a xs p e,h.2,h.3,h.4⟩
theorem KS.refl:KS n w d H H:=.kl .refl
theorem KS.of (s:Same H H'):KS n w d H H':=.kl (.of s)
theorem KS.trans (a:KS n w d H H1) (b:KS n w d H1 H2):KS n w d H H2:=⟨fun c xs p q h=>b.1 c xs p q (a.1 c xs p q h),fun c xs h=>b.2 c xs (a.2 c xs h),fun c o u h=>b.3 c o u (a.3 c o u h),fun c xs q h=>b.4 c xs q (a.4 c xs q h)⟩
theorem KS.put {xs ys:List V} (g:H w=some (.lst xs)):KS n w d H (upd H w (.lst ys)):=⟨fun a zs _ q e=>by rw [upd_ne q]; exact e,fun a zs e=>by rw [upd_ne (ne_of e g (by intro z; cases z))]; exact e,fun a o u e=>by rw [upd_ne (ne_of e g (by intro z; cases z))]; exact e,fun a zs _ e=>by rw [upd_ne (ne_of e g (by intro z; cases z))]; exact e⟩
theorem Gv.ks {g:V->Option Nat} {v:V} (h:Gv g H v) (k:KS n w d H H'):Gv g H' v:=h.imp_right fun ⟨a,j,e,q,r⟩=>⟨a,j,e,k.2 _ _ q,r⟩
theorem Gv.same {g:V->Option Nat} {v:V} (h:Gv g H v) (k:Same H H'):Gv g H' v:=h.imp_right fun ⟨a,j,e,q,r⟩=>⟨a,j,e,k _ _ q,r⟩
end
structure Sl (g:V->Option Nat) (A:Adr) (H:Hp) (hp d nl wl:Addr) (m:Nm) (L:List Bx) (ws:List Nat) (k:Nat):Prop where
  hb:HpB A H hp d nl m L
  ex:m.ext=slowX wl (k:Int)
  gw:H wl=some (.lst (ws.map iV))
  wn:wl≠nl
  wp:∀ y∈L,wl≠y.pl
  prs:∀ y∈L,∀ v∈y.parts,Gv g H v
  kw:k<=ws.length
section
variable {g:V->Option Nat} {A:Adr} {H H':Hp} {hp d nl wl:Addr} {m m':Nm} {L L':List Bx} {ws:List Nat} {k:Nat}
theorem Sl.same (h:Sl g A H hp d nl wl m L ws k) (s:Same H H'):Sl g A H' hp d nl wl m L ws k:=⟨h.hb.same s,h.ex,s _ _ h.gw,h.wn,h.wp,fun y hy v hv=>(h.prs y hy v hv).same s,h.kw⟩
theorem Sl.kl (h:Sl g A H hp d nl wl m L ws k) (kl:KL nl d H H') (hb:HpB A H' hp d nl m' L') (e:m'.ext=m.ext) (sub:∀ y∈L',∃ x∈L,y.parts=x.parts/\y.pl=x.pl):Sl g A H' hp d nl wl m' L' ws k:=by
  refine ⟨hb,by rw [e]; exact h.ex,kl.1 _ _ h.wn h.gw,h.wn,fun y hy=>?_,fun y hy v hv=>?_,h.kw⟩
  · obtain ⟨x,hx,_,e⟩:=sub y hy
    rw [e]
    exact h.wp x hx
  · obtain ⟨x,hx,e,_⟩:=sub y hy
    rw [e] at hv
    exact (h.prs x hx v hv).ks (w:=wl) (.kl kl)
theorem setC_sub {n:Nat} {c:Int}:∀ y∈setC L n c,∃ x∈L,y.parts=x.parts/\y.pl=x.pl:=fun y hy=>let ⟨x,hx,_,_,e3,_,e5,_⟩:=setC_mem hy; ⟨x,hx,e5,e3⟩
end
def cntOf (L:List Bx) (n:Nat):Int:=((L.find? fun y=>y.n == n).map (·.count)).getD 0
def partsOf (L:List Bx) (n:Nat):List V:=((L.find? fun y=>y.n == n).map (·.parts)).getD []
theorem find_at {L:List Bx} (r:Rise L) {x:Bx} (hx:x∈L):(L.find? fun y=>y.n == x.n)=some x:=by
  cases e:L.find? fun y=>y.n == x.n with
  | none=>exact absurd (List.find?_eq_none.mp e x hx) (by simp)
  | some y =>
    have m:=List.mem_of_find?_eq_some e
    have p:=List.find?_some e
    rw [rise_eq r m hx (by simpa using p)]
theorem cntOf_at {L:List Bx} (r:Rise L) {x:Bx} (hx:x∈L):cntOf L x.n=x.count:=by
  unfold cntOf
  rw [find_at r hx]
  rfl
theorem partsOf_at {L:List Bx} (r:Rise L) {x:Bx} (hx:x∈L):partsOf L x.n=x.parts:=by
  unfold partsOf
  rw [find_at r hx]
  rfl
abbrev S7:=List Bx × List Nat
def lessP (s:S7) (n:Nat):S7:=(setC s.1 n (cntOf s.1 n - 1),if cntOf s.1 n=1 then s.2 ++ [n] else s.2)
def relP (g:V->Option Nat):List V->S7->S7
  | [],s=>s
  | v :: ps,s=>relP g ps (match g v with | some n=>lessP s n | none=>s)
def popP (g:V->Option Nat):S7->S7
  | (L,n :: wt)=>relP g (partsOf L n) (L.filter (fun y=>y.n != n),wt)
  | (L,[])=>(L,[])
def workP (g:V->Option Nat):Nat->S7->Nat × S7
  | 0,s=>(0,s)
  | t + 1,s=>match s.2 with
    | []=>(0,s)
    | _ :: _=>((workP g t (popP g s)).1 + 1,(workP g t (popP g s)).2)
theorem relP_len {g:V->Option Nat}:∀ {ps:List V} {s:S7},(relP g ps s).1.length=s.1.length
  | [],_=>rfl
  | v :: ps,s=>by
    show (relP g ps (match g v with | some n=>lessP s n | none=>s)).1.length=_
    rw [relP_len]
    cases g v with
    | none=>rfl
    | some n=>exact setC_len _ _ _
section
variable {P:Program} {w:World} {K:PySem.W.Frag} {mg:Str->Option Value} {base:Heap} {f:Addr} {fd:FuncData} {A:Adr} {G:Addr}
def spLetS (A:Adr):Sp:=fun vs H Q _=>∃ (g:V->Option Nat) (hp d nl wl:Addr) (v:V) (m:Nm) (L:List Bx) (ws:List Nat) (k:Nat),vs=[.ref hp,v]/\Sl g A H hp d nl wl m L ws k/\ws.length < 1000/\((Flat v/\Q .non H)\/∃ p x,v=.ref p/\x∈L/\H p=some (BX x.n)/\0 < x.count/\∀ H',KS nl wl d H H'->Sl g A H' hp d nl wl m (setC L x.n (x.count - 1)) (if x.count=1 then ws ++ [x.n] else ws) k->Q .non H')
theorem ok_letS (F:Fun K "let_go" "Heap.let_go" sLetGo f fd) (T:Txt K mg A G) (GI:Ca P w K mg base CX0 1 "is_box" ["value"] spIsBox) (GL:Me P w K mg base (CXf P w) 2 A.cH "lessened" ["self","value"] (spLess A G)) (GP:Me P w K mg base CX0 2 A.cH "let_parts_go" ["self","at"] (spSParts A)):FnOk P w K mg base (CXf P w) 3 f fd ["self","value"] (spLetS A):=by
  refine F.byx scLetGo (fun vs H Q E h=>?_) (fun cdv A' outer s H vs Q E hr h=>?_)
  · obtain ⟨g,hp,d,nl,wl,v,m,L,ws,k,rfl,_⟩:=h
    rfl
  obtain ⟨g,hp,d,nl,wl,v,m,L,ws,k,rfl,Z,hw,hq⟩:=h
  refine ⟨_,jss_one (js_if (jW.pt (jw_and (jt_val (je_ca GI (hr.mono (by decide)) rfl pass0 (ja_c (jv 1) ja_nil))) (jw_and1 (jt_cmpR jo_eq (je_me (jv 0) T.clH GL hr passx (ja_c (jv 1) ja_nil)) je_int (by with_unfolding_all rfl)))))
    (jss_one (js_expr (je_me (jv 0) T.clH GP.upx hr passx (ja_c (je_ix jx_tup (jv 1) je_int (fun _ _=>rfl)) ja_nil)))) jss_nil),?_⟩
  rcases hq with ⟨hf,q⟩ | ⟨p,x,rfl,hx,hp1,hc,q⟩
  · exact (ex2q rfl ⟨_,_,rfl,.inl ⟨hf,rfl⟩,(ex2q rfl (iteF (iteF q)))⟩)
  obtain ⟨dx,r,dr,h1,h2,h3,h4⟩:=Z.hb.ex
  have no:=Z.hb.xt.2
  refine (ex2q rfl ⟨_,_,rfl,.inr ⟨p,(ex2q rfl ⟨hp1,rfl⟩)⟩,(ex2q rfl (iteT ?_))⟩)
  refine (ex2q rfl ⟨hp,dx,(ex2q rfl ⟨h1,no _ (by decide) (by decide),(ex2q rfl ⟨hp,d,nl,p,m,L,x.n,rfl,Z.hb,hp1,.inl ⟨x,hx,rfl,by lia,fun H1 k1 B1=>⟨rfl,(ex2q rfl ?_)⟩⟩⟩)⟩)⟩)
  have Z1:=Z.kl k1 B1 rfl setC_sub
  by_cases c1:x.count=1
  · refine ite2 (fun _=>?_) (fun c=>absurd (decide_eq_true (by rw [c1]; rfl)) c)
    obtain ⟨dx1,r1,dr1,b1,b2,b3,b4⟩:=B1.ex
    refine (ex2q rfl ⟨hp,_,_,rfl,b1,no _ (by decide) (by decide),(ex2q rfl ⟨p,_,_,_,rfl,rfl,SqT.of (k1.2 _ _ hp1),atI_nat (j:=1) rfl,?_⟩)⟩)
    rw [Z.ex] at b1
    have gw1:H1 wl=some (.lst ((ws.map fun (n:Nat)=>(n:Int)).map V.int)):=by rw [List.map_map]; exact Z1.gw
    refine ⟨hp,dx1,d,r1,wl,_,_,_,_,_,_,_,rfl,b1,gw1,by rw [List.length_map]; exact hw,?_⟩
    have em:((ws.map fun (n:Nat)=>(n:Int)) ++ [(x.n:Int)]).map V.int=(ws ++ [x.n]).map iV:=by rw [List.map_append,List.map_map,List.map_append]; rfl
    rw [em]
    refine q _ ((KS.kl k1).trans (.put Z1.gw)) ?_
    rw [if_pos c1]
    refine ⟨Z1.hb.list Z1.gw Z1.wn Z1.wp,Z1.ex,upd_same,Z1.wn,Z1.wp,fun y hy v hv=>(Z1.prs y hy v hv).ks (n:=nl) (d:=d) (KS.put Z1.gw),by rw [List.length_append]; have:=Z.kw; lia⟩
  · refine ite2 (fun c=>?_) (fun _=>?_)
    · rw [decide_eq_true_eq] at c
      injection c with c
      lia
    · refine q _ (.kl k1) ?_
      rw [if_neg c1]
      exact Z1
end
end Hv
set_option simprocs false
namespace Hv
open PySem L2 K11 HM
theorem nodup_len:∀ {l l':List Nat},l.Nodup->(∀ x∈l,x∈l')->l.length<=l'.length
  | [],_,_,_=>Nat.zero_le _
  | x :: l,l',h,s=>by
    have h1:=List.nodup_cons.mp h
    have hx:=s x List.mem_cons_self
    have:=nodup_len (l:=l) (l':=l'.erase x) h1.2 fun y hy=>(List.mem_erase_of_ne (fun e=>h1.1 (by rw [<- e]; exact hy))).mpr (s y (List.mem_cons_of_mem _ hy))
    rw [List.length_erase_of_mem hx] at this
    have:=List.length_pos_of_mem hx
    rw [List.length_cons]
    lia
theorem _root_.HM.Hd.len {g:V->Option Nat} {L:List Bx} {wt:List Nat} {hf:Nat->Nat} (h:Hd g L wt hf):wt.length<=L.length:=by
  have:=nodup_len (l':=L.map (·.n)) h.nd fun n hn=>let ⟨x,hx,e,_⟩:=h.w1 n hn; List.mem_map.mpr ⟨x,hx,e⟩
  rwa [List.length_map] at this
section
variable {P:Program} {w:World} {K:PySem.W.Frag} {mg:Str->Option Value} {base:Heap} {f:Addr} {fd:FuncData} {A:Adr} {G:Addr}
def spFirstS (A:Adr):Sp:=fun vs H Q _=>∃ (g:V->Option Nat) (hp d nl wl:Addr) (m:Nm) (L:List Bx) (ws:List Nat) (k:Nat),vs=[.ref hp]/\Sl g A H hp d nl wl m L ws k/\((ws.drop k=[]/\Q (.bl false) H)\/∃ n wt hf,ws.drop k=n :: wt/\Hd g L (n :: wt) hf/\k + L.length < 800/\∀ H' L' ws',KS nl wl d H H'->Sl g A H' hp d nl wl { m with ext:=slowX wl ((k + 1:Nat):Int) } L' ws' (k + 1)->(L',ws'.drop (k + 1))=popP g (L,n :: wt)->Hd g L' (ws'.drop (k + 1)) hf->Q (.bl true) H')
theorem ok_firstS (F:Fun K "let_first_go" "SlowHeap.let_first_go" sSFirst f fd) (T:Txt K mg A G) (nW:NoAttr K A.cH "waiting") (nF:NoAttr K A.cH "first") (GC:Me P w K mg base CX0 1 A.cH "cut" ["self"] (spCut A)) (GL:Me P w K mg base (CXf P w) 3 A.cH "let_go" ["self","value"] (spLetS A)):FnOk P w K mg base CX0 4 f fd ["self"] (spFirstS A):=by
  refine F.by scSFirst (fun vs H Q E h=>?_) (fun cdv A' outer s H vs Q E hr h=>?_)
  · obtain ⟨g,hp,d,nl,wl,m,L,ws,k,rfl,_⟩:=h
    rfl
  obtain ⟨g,hp,d,nl,wl,m,L,ws,k,rfl,Z,hc⟩:=h
  have r1:Room 1 _:=hr.mono (by decide)
  refine ⟨_,jss_cons (js_if (jt_cmpR jo_eq (je_fld (jv 0)) (je_fnB jc_len_seq rfl T.len PySem.boot_len (ja_c (je_fld (jv 0)) ja_nil)) (by with_unfolding_all rfl)) (jss_one (js_ret je_bl)) jss_nil)
    (jss_cons (js_set (i:=1) scSFirst.nd rfl (Or.inl rfl) (je_dpop1 (je_fld (jv 0)) (je_ix jx_list (je_fld (jv 0)) (je_fld (jv 0)) (fun _ _=>rfl))))
    (jss_cons (js_fld (jv 0) (je_op jo_add (je_fld (jv 0)) je_int))
    (jss_cons (js_expr (je_me0 (jv 0) T.clH GC r1 pass0))
    (jss_cons (js_for PassesOwn.never rfl (ji_list (je_fld (jv 1))) (jg_name (i:=2) scSFirst.nd rfl (Or.inl rfl)) (jss_one (js_expr (je_me (jv 0) T.clH GL hr passF (ja_c (jv 2) ja_nil)))))
    (jss_one (js_ret je_bl)))))),?_⟩
  have ha:=Z.hb
  obtain ⟨dx,r,dr,h1,h2,h3,h4⟩:=ha.ex
  have ex:=Z.ex
  have hw:=Z.gw
  have h1':=h1
  rw [ex] at h1'
  rcases hc with ⟨hn,q⟩ | ⟨n,wt,hf,ew,hd,hkL,q⟩
  · have e:k=ws.length:=by have:=List.drop_eq_nil_iff.mp hn; have:=Z.kw; lia
    refine (ex2q rfl ⟨hp,_,_,_,_,rfl,h1',T.clH,nF,rfl,(ex2q rfl ⟨hp,_,_,_,_,rfl,h1',T.clH,nW,rfl,wl,(ex2q rfl ⟨.inl (SqL.of hw),rfl,(ex2q rfl ?_)⟩)⟩)⟩)
    rw [List.length_map]
    exact ite2 (fun _=>q) (fun c=>absurd (decide_eq_true (by rw [e])) c)
  · have hkl:k < ws.length:=by
      rcases Nat.lt_or_ge k ws.length with c | c
      · exact c
      · rw [List.drop_eq_nil_of_le c] at ew; cases ew
    have e5:=List.drop_eq_getElem_cons hkl
    rw [ew] at e5
    injection e5 with e5 e6
    have hk:ws[k]?=some n:=by rw [List.getElem?_eq_getElem hkl,<- e5]
    obtain ⟨x,hx,en,ec,hd1⟩:=hd.pop
    subst en
    refine (ex2q rfl ⟨hp,_,_,_,_,rfl,h1',T.clH,nF,rfl,(ex2q rfl ⟨hp,_,_,_,_,rfl,h1',T.clH,nW,rfl,wl,(ex2q rfl ⟨.inl (SqL.of hw),rfl,(ex2q rfl ?_)⟩)⟩)⟩)
    rw [List.length_map]
    refine ite2 (fun c=>?_) (fun _=>?_)
    · rw [decide_eq_true_eq] at c
      injection c with c
      lia
    obtain ⟨db,u1,u2⟩:=ha.box x hx
    have B1:=ha.drop x.n
    obtain ⟨H1,e1⟩:∃ H1,H1=upd H d (.dK (dropK (kvB L) (.inl (x.n:Int)))):=⟨_,rfl⟩
    have k1:KL nl d H H1:=by rw [e1]; exact KL.refl.dict h4
    rw [<- e1] at B1
    have o1:∀ a o,a≠d->H a=some o->H1 a=some o:=fun a o n e=>by rw [e1,upd_ne n]; exact e
    have n1:hp≠d:=ne_of h1 h4 (by intro z; cases z)
    refine (ex2q rfl ⟨hp,_,_,_,_,rfl,h1',T.clH,T.nBy,rfl,d,rfl,.inl ⟨_,.of h4⟩,(ex2q rfl ⟨hp,_,_,_,_,rfl,h1',T.clH,nW,rfl,(ex2q rfl ⟨hp,_,_,_,_,rfl,h1',T.clH,nF,rfl,wl,_,_,_,rfl,rfl,SqL.of hw,atI_nat (j:=k) (by rw [List.getElem?_map,hk]; rfl),kvB L,.inl (x.n:Int),.ref x.b,h4,rfl,kvB_at ha.rise hx,?_⟩)⟩)⟩)
    rw [<- e1]
    have g1:=o1 _ _ n1 h1
    have g1':=o1 _ _ n1 h1'
    refine (ex2q rfl ⟨hp,_,_,_,_,rfl,g1',T.clH,nF,rfl,(ex4q rfl rfl (ex2q rfl ⟨hp,_,_,_,rfl,g1',T.clH,nF,by show 8 < 1000; decide,?_⟩))⟩)
    have B2:=B1.ext (x:=slowX wl ((k + 1:Nat):Int)) g1 (slow_ok wl _) T.neR T.neB
    obtain ⟨H2,e2⟩:∃ H2,H2=upd H1 hp (WH A dx m.sz m.fresh m.anew m.peak d r (slowX wl ((k + 1:Nat):Int))):=⟨_,rfl⟩
    have e2':upd H1 hp (HO.ins A.cH dx (putF "first" (V.int ((k:Int) + 1)) (("size",.int m.sz) :: ("fresh",.int m.fresh) :: ("anew",.int m.anew) :: ("peak",.int m.peak) :: ("by_number",.ref d) :: ("kept_places",.ref r) :: slowX wl (k:Int))))=H2:=by rw [e2]; rfl
    rw [<- e2] at B2
    have k2:KL nl d H H2:=by rw [e2]; exact k1.ins g1
    dsimp only
    rw [e2']
    have gh2:H2 hp=some (WH A dx m.sz m.fresh m.anew m.peak d r (slowX wl ((k + 1:Nat):Int))):=by rw [e2]; exact upd_same
    have hL0:0 < L.length:=List.length_pos_of_mem hx
    refine (ex2q rfl ⟨hp,_,_,rfl,gh2,rfl,hp,dx,d,r,wl,_,_,_,_,k + 1,rfl,gh2,by lia,?_⟩)
    have nxd:x.b≠d:=ne_of u1 h4 (by intro z; cases z)
    have nxh:x.b≠hp:=ne_of u1 h1 (by intro z; injection z with z; exact T.neB z)
    have gb:H2 x.b=some (WB A db x.tag x.pl x.count):=by rw [e2,upd_ne nxh]; exact o1 _ _ nxd u1
    have npn:=ha.nlp x hx
    have npw:x.pl≠wl:=Ne.symm (Z.wp x hx)
    have gp:H2 x.pl=some (.lst x.parts):=k2.1 _ _ npn u2
    have Z2:Sl g A H2 hp d nl wl { m with ext:=slowX wl ((k + 1:Nat):Int) } (L.filter fun y=>y.n != x.n) ws (k + 1):=⟨B2,rfl,k2.1 _ _ Z.wn hw,Z.wn,fun y hy=>Z.wp y (List.mem_filter.mp hy).1,fun y hy v hv=>(Z.prs y (List.mem_filter.mp hy).1 v hv).ks (w:=wl) (.kl k2),hkl⟩
    rw [e6] at hd1
    have fl:(L.filter fun y=>y.n != x.n).length<=L.length:=List.length_filter_le ..
    refine (ex2q rfl ⟨x.b,_,_,_,_,rfl,gb,T.clB,T.nParts,rfl,x.pl,rfl,⟨_,SqL.of gp⟩,for_list (K:=K) (xs:=x.parts) (fun i σ H'=>∃ vb L' ws',σ=[some (.ref hp),some (.ref x.b),vb]/\KS nl wl d H H'/\Sl g A H' hp d nl wl { m with ext:=slowX wl ((k + 1:Nat):Int) } L' ws' (k + 1)/\H' x.pl=some (.lst x.parts)/\L'.length<=L.length/\Hd g L' (ws'.drop (k + 1)) (fun q=>hf q + ((x.parts.drop i).filterMap g).count q)/\relP g (x.parts.drop i) (L',ws'.drop (k + 1))=relP g x.parts (L.filter (fun y=>y.n != x.n),wt)) ⟨none,_,ws,rfl,.kl k2,Z2,gp,fl,hd1,by rw [e6]; rfl⟩ ?_ ?_ ?_⟩)
    · rintro i σ H' hi ⟨vb,L',ws',_,_,_,gp',_⟩
      exact SqL.of gp'
    · rintro i v σ H' hv ⟨vb,L',ws',rfl,ks,Z',gp',hl',hd',er⟩
      have hi:i < x.parts.length:=(List.getElem?_eq_some_iff.mp hv).1
      have ei:x.parts.drop i=v :: x.parts.drop (i + 1):=by
        rw [List.drop_eq_getElem_cons hi]
        congr 1
        exact (List.getElem?_eq_some_iff.mp hv).2
      obtain ⟨_,_,_,b1,_⟩:=Z'.hb.ex
      have hwl:ws'.length<=k + 1 + L.length:=by
        have:=hd'.len
        rw [List.length_drop] at this
        lia
      refine (ex2q rfl ⟨hp,_,_,rfl,b1,Z'.hb.xt.2 "let_go" (by decide) (by decide),(ex2q rfl ⟨g,hp,d,nl,wl,v,_,L',ws',k + 1,rfl,Z',by lia,?_⟩)⟩)
      rw [ei] at hd' er
      rcases (Z.prs x hx v (List.mem_of_getElem? hv)).ks ks with ⟨hfl,hgn⟩ | ⟨p,j,rfl,hpj,hgj⟩
      · refine .inl ⟨hfl,⟨_,L',ws',rfl,ks,Z',gp',hl',?_,?_⟩⟩
        · rw [List.filterMap_cons,hgn] at hd'
          exact hd'
        · have:relP g (v :: x.parts.drop (i + 1)) (L',ws'.drop (k + 1))=relP g (x.parts.drop (i + 1)) (L',ws'.drop (k + 1)):=by
            show relP g (x.parts.drop (i + 1)) (match g v with | some n=>lessP (L',ws'.drop (k + 1)) n | none=>(L',ws'.drop (k + 1)))=_
            rw [hgn]
          rw [<- this]
          exact er
      · rw [List.filterMap_cons,hgj] at hd'
        dsimp only at hd'
        obtain ⟨y,hy,ey,hyc,hd2⟩:=hd'.less (n:=j) (by rw [List.count_cons_self]; lia)
        subst ey
        have hcnt:=cntOf_at hd'.rise hy
        refine .inr ⟨p,y,rfl,hy,hpj,hyc,fun H3 k3 Z3=>?_⟩
        have ed:(if y.count=1 then ws' ++ [y.n] else ws').drop (k + 1)=if y.count=1 then ws'.drop (k + 1) ++ [y.n] else ws'.drop (k + 1):=by
          split
          · exact List.drop_append_of_le_length Z'.kw
          · rfl
        refine ⟨_,_,_,rfl,ks.trans k3,Z3,k3.1 _ _ npn npw gp',by rw [setC_len]; exact hl',?_,?_⟩
        · rw [ed]
          refine hd2.congr fun q=>?_
          by_cases c:q=y.n
          · rw [if_pos c,c,List.count_cons_self]
            lia
          · rw [if_neg c,List.count_cons_of_ne (Ne.symm c)]
        · have:relP g (.ref p :: x.parts.drop (i + 1)) (L',ws'.drop (k + 1))=relP g (x.parts.drop (i + 1)) (lessP (L',ws'.drop (k + 1)) y.n):=by
            show relP g (x.parts.drop (i + 1)) (match g (.ref p) with | some n=>lessP (L',ws'.drop (k + 1)) n | none=>(L',ws'.drop (k + 1)))=_
            rw [hgj]
          rw [<- er,this,ed]
          unfold lessP
          dsimp only
          rw [hcnt]
    · rintro σ H' ⟨vb,L',ws',rfl,ks,Z',gp',hl',hd',er⟩
      rw [List.drop_length] at hd' er
      refine q H' L' ws' ks Z' ?_ ?_
      · show _=relP g (partsOf L x.n) (L.filter (fun y=>y.n != x.n),wt)
        rw [partsOf_at ha.rise hx,<- er]
        rfl
      · exact hd'.congr fun q=>by
          show hf q=hf q + ([]:List Nat).count q
          rw [List.count_nil]
          lia
end
end Hv
set_option simprocs false
namespace Hv
open PySem L2 K11 HM
theorem nm_ext {m:Nm} {x:List (Str × V)} (e:m.ext=x):({ m with ext:=x }:Nm)=m:=by
  cases m
  cases e
  rfl
theorem popP_len {g:V->Option Nat} {L:List Bx} {n:Nat} {wt:List Nat} {hf:Nat->Nat} (h:Hd g L (n :: wt) hf):(popP g (L,n :: wt)).1.length + 1=L.length:=by
  show (relP g (partsOf L n) (L.filter (fun y=>y.n != n),wt)).1.length + 1=L.length
  rw [relP_len]
  obtain ⟨x,hx,en,_⟩:=h.w1 n List.mem_cons_self
  show (L.filter fun y=>y.n != n).length + 1=L.length
  rw [<- en]
  have r:=h.rise
  clear h en
  induction L with
  | nil=>cases hx
  | cons y L ih =>
    have h1:=List.pairwise_cons.mp r
    rcases List.mem_cons.mp hx with z | z
    · rw [<- z,List.filter_cons_of_neg (by simp),List.filter_eq_self.mpr (fun w hw=>by have:=h1.1 w hw; rw [<- z] at this; simpa using Ne.symm this)]
      rfl
    · have hne:=h1.1 x z
      rw [List.filter_cons_of_pos (by simpa using hne),List.length_cons,List.length_cons,ih z h1.2]
section
variable {P:Program} {w:World} {K:PySem.W.Frag} {mg:Str->Option Value} {base:Heap} {f:Addr} {fd:FuncData} {A:Adr} {G U:Addr}
def spWorkS (A:Adr):Sp:=fun vs H Q _=>∃ (g:V->Option Nat) (hp d nl wl:Addr) (m:Nm) (L:List Bx) (ws:List Nat) (k:Nat) (hf:Nat->Nat) (many:Int),vs=[.ref hp,.int many]/\Sl g A H hp d nl wl m L ws k/\Hd g L (ws.drop k) hf/\k + L.length < 800 /\
  ∀ H' (r:Nat) (L':List Bx) (ws':List Nat) (k':Nat),KS nl wl d H H'->Sl g A H' hp d nl wl { m with ext:=slowX wl (k':Int) } L' ws' k'->Hd g L' (ws'.drop k') hf->k' + L'.length<=k + L.length->workP g many.toNat (L,ws.drop k)=(r,(L',ws'.drop k'))->Q (.int (r:Int)) H'
theorem ok_workS (F:Fun K "work" "Heap.work" sWork f fd) (T:Txt K mg A G) (GF:Me P w K mg base CX0 4 A.cH "let_first_go" ["self"] (spFirstS A)):FnOk P w K mg base CX0 5 f fd ["self","many"] (spWorkS A):=by
  refine F.by scWork (fun vs H Q E h=>?_) (fun cdv A' outer s H vs Q E hr h=>?_)
  · obtain ⟨g,hp,d,nl,wl,m,L,ws,k,hf,many,rfl,_⟩:=h
    rfl
  obtain ⟨g,hp,d,nl,wl,m,L,ws,k,hf,many,rfl,Z,hd,hkL,q⟩:=h
  refine ⟨_,jss_cons (js_set (i:=2) scWork.nd rfl (Or.inl rfl) je_int)
    (jss_cons (js_while PassesOwn.never (jW.pt (jw_and (jt_cmpR jo_lt (jv 2) (jv 1) (by with_unfolding_all rfl)) (jw_and1 (jt_val (je_me0 (jv 0) T.clH GF hr pass0))))) (jss_one (js_set (i:=2) scWork.nd rfl (Or.inl rfl) (je_op jo_add (jv 2) je_int))))
    (jss_one (js_ret (jv 2)))),?_⟩
  have em:=nm_ext Z.ex
  refine ⟨fun i σ' H'=>∃ (dn:Nat) (L':List Bx) (ws':List Nat) (k':Nat),i=L'.length/\σ'=[some (.ref hp),some (.int many),some (.int (dn:Int))]/\KS nl wl d H H'/\Sl g A H' hp d nl wl { m with ext:=slowX wl (k':Int) } L' ws' k'/\Hd g L' (ws'.drop k') hf/\k' + L'.length<=k + L.length/\workP g many.toNat (L,ws.drop k)=(dn + (workP g (many.toNat - dn) (L',ws'.drop k')).1,(workP g (many.toNat - dn) (L',ws'.drop k')).2),⟨L.length,0,L,ws,k,rfl,rfl,.refl,by rw [em]; exact Z,hd,Nat.le_refl _,by rw [Nat.sub_zero,Nat.zero_add]⟩,?_⟩
  rintro i σ' H' ⟨dn,L',ws',k',rfl,rfl,ks,Z',hd',hkl',ew⟩
  obtain ⟨dx,r,dr,h1,_⟩:=Z'.hb.ex
  refine (ex2q rfl (ex2q rfl (ex4q rfl rfl (ex2q rfl (ite2 (fun c=>?_) (fun c=>?_))))))
  · rw [decide_eq_true_eq] at c
    obtain ⟨t,et⟩:∃ t,many.toNat - dn=t + 1:=⟨many.toNat - dn - 1,(Nat.sub_add_cancel (Nat.sub_pos_of_lt (Int.lt_toNat.mpr c))).symm⟩
    rw [et] at ew
    refine (ex2q rfl ⟨hp,dx,(ex2q rfl ⟨h1,Z'.hb.xt.2 "let_first_go" (by decide) (by decide),g,hp,d,nl,wl,_,L',ws',k',rfl,Z',?_⟩)⟩)
    cases hwt:ws'.drop k' with
    | nil =>
      rw [hwt] at ew
      refine .inl ⟨rfl,(ex2q rfl (iteF (ex2q rfl (q H' dn L' ws' k' ks Z' hd' hkl' ?_))))⟩
      rw [ew,hwt]
      rfl
    | cons n wt =>
      rw [hwt] at ew hd'
      have pl:=popP_len hd'
      refine .inr ⟨n,wt,hf,rfl,hd',by lia,fun H2 L2 ws2 k2 Z2 e2 hd2=>(ex2q rfl (iteT ?_))⟩
      have eL:L2.length + 1=L'.length:=by rw [<- pl,<- e2]
      refine ⟨fun σ' H3=>σ'=[some (.ref hp),some (.int many),some (.int ((dn + 1:Nat):Int))]/\H3=H2,fun σ' H3 h=>?_,?_⟩
      · obtain ⟨rfl,rfl⟩:=h
        refine ⟨L2.length,by lia,dn + 1,L2,ws2,k' + 1,rfl,rfl,ks.trans k2,Z2,hd2,by lia,?_⟩
        rw [ew,show many.toNat - (dn + 1)=t by rw [<- Nat.sub_sub,et]; exact Nat.add_sub_cancel _ _,e2]
        show (dn + ((workP g t (popP g (L',n :: wt))).1 + 1),(workP g t (popP g (L',n :: wt))).2)=_
        rw [show dn + ((workP g t (popP g (L',n :: wt))).1 + 1)=dn + 1 + (workP g t (popP g (L',n :: wt))).1 by lia]
      · exact (ex2q rfl (ex4q rfl rfl ⟨rfl,rfl⟩))
  · rw [decide_eq_true_eq] at c
    refine iteF (ex2q rfl (q H' dn L' ws' k' ks Z' hd' hkl' ?_))
    rw [ew,show many.toNat - dn=0 by lia]
    rfl
end
end Hv
set_option simprocs false
namespace Hv
open PySem L2 K11 HM
structure Pn (g:V->Option Nat) (A:Adr) (H:Hp) (hp d nl:Addr) (m:Nm) (L:List Bx):Prop where
  hb:HpB A H hp d nl m L
  prs:∀ y∈L,∀ v∈y.parts,Gv g H v
structure Ln (g:V->Option Nat) (A:Adr) (H:Hp) (hp d nl l:Addr) (m:Nm) (L:List Bx) (ws:List Nat):Prop where
  hb:HpB A H hp d nl m L
  gw:H l=some (.lst (ws.map iV))
  wn:l≠nl
  wp:∀ y∈L,l≠y.pl
  prs:∀ y∈L,∀ v∈y.parts,Gv g H v
section
variable {g:V->Option Nat} {A:Adr} {H H':Hp} {hp d nl l:Addr} {m m':Nm} {L L':List Bx} {ws:List Nat}
theorem Pn.same (h:Pn g A H hp d nl m L) (s:Same H H'):Pn g A H' hp d nl m L:=⟨h.hb.same s,fun y hy v hv=>(h.prs y hy v hv).same s⟩
theorem Pn.kl (h:Pn g A H hp d nl m L) (kl:KL nl d H H') (hb:HpB A H' hp d nl m' L') (sub:∀ y∈L',∃ x∈L,y.parts=x.parts/\y.pl=x.pl):Pn g A H' hp d nl m' L':=by
  refine ⟨hb,fun y hy v hv=>?_⟩
  obtain ⟨x,hx,e,_⟩:=sub y hy
  rw [e] at hv
  exact (h.prs x hx v hv).ks (w:=d) (.kl kl)
theorem Ln.kl (h:Ln g A H hp d nl l m L ws) (kl:KL nl d H H') (hb:HpB A H' hp d nl m' L') (sub:∀ y∈L',∃ x∈L,y.parts=x.parts/\y.pl=x.pl):Ln g A H' hp d nl l m' L' ws:=by
  refine ⟨hb,kl.1 _ _ h.wn h.gw,h.wn,fun y hy=>?_,fun y hy v hv=>?_⟩
  · obtain ⟨x,hx,_,e⟩:=sub y hy
    rw [e]
    exact h.wp x hx
  · obtain ⟨x,hx,e,_⟩:=sub y hy
    rw [e] at hv
    exact (h.prs x hx v hv).ks (w:=d) (.kl kl)
theorem Ln.put {ws':List Nat} (h:Ln g A H hp d nl l m L ws):Ln g A (upd H l (.lst (ws'.map iV))) hp d nl l m L ws':=⟨h.hb.list h.gw h.wn h.wp,upd_same,h.wn,h.wp,fun y hy v hv=>(h.prs y hy v hv).ks (n:=nl) (d:=d) (KS.put h.gw)⟩
theorem KS.fresh (k:KS nl l d H H') (hl:H l=none):KL nl d H H':=⟨fun a xs p e=>k.1 a xs p (ne_of_none e hl) e,k.2,k.3,k.4⟩
end
theorem _root_.HM.Hd.perm {g:V->Option Nat} {L:List Bx} {wt wt':List Nat} {hf:Nat->Nat} (h:Hd g L wt hf) (p:wt.Perm wt'):Hd g L wt' hf :=
  ⟨h.rise,h.cnt,h.dom,p.nodup_iff.mp h.nd,fun x hx c=>p.mem_iff.mp (h.w0 x hx c),fun n hn=>h.w1 n (p.mem_iff.mpr hn)⟩
def goP (g:V->Option Nat):Nat->S7->S7
  | 0,s=>s
  | t + 1,s=>match s.2.getLast? with
    | none=>s
    | some n=>goP g t (relP g (partsOf s.1 n) (s.1.filter (fun y=>y.n != n),s.2.dropLast))
theorem goP_nil {g:V->Option Nat} {L:List Bx}:∀ {t:Nat},goP g t (L,[])=(L,[])
  | 0=>rfl
  | _ + 1=>rfl
theorem goP_last {g:V->Option Nat} {L:List Bx} {wt:List Nat} {n t:Nat}:goP g (t + 1) (L,wt ++ [n])=goP g t (relP g (partsOf L n) (L.filter (fun y=>y.n != n),wt)):=by
  have e:(wt ++ [n]).getLast?=some n:=by rw [List.getLast?_append]; rfl
  conv=>lhs; unfold goP
  dsimp only
  rw [e]
  dsimp only
  rw [List.dropLast_concat]
theorem rise_drop {L:List Bx} (r:Rise L) {x:Bx} (hx:x∈L):(L.filter fun y=>y.n != x.n).length + 1=L.length:=by
  induction L with
  | nil=>cases hx
  | cons y L ih =>
    have h1:=List.pairwise_cons.mp r
    rcases List.mem_cons.mp hx with z | z
    · rw [<- z,List.filter_cons_of_neg (by simp),List.filter_eq_self.mpr (fun w hw=>by have:=h1.1 w hw; rw [<- z] at this; simpa using Ne.symm this)]
      rfl
    · have hne:=h1.1 x z
      rw [List.filter_cons_of_pos (by simpa using hne),List.length_cons,List.length_cons,ih h1.2 z]
section
variable {P:Program} {w:World} {K:PySem.W.Frag} {mg:Str->Option Value} {base:Heap} {f:Addr} {fd:FuncData} {A:Adr} {G:Addr}
def spPartsP (A:Adr):Sp:=fun vs H Q _=>∃ (g:V->Option Nat) (hp d nl:Addr) (m:Nm) (L:List Bx) (n:Nat) (hf:Nat->Nat),vs=[.ref hp,.int (n:Int)]/\Pn g A H hp d nl m L/\Hd g L [n] hf/\L.length < 4000/\∀ H' L',KL nl d H H'->Pn g A H' hp d nl m L'->Hd g L' [] hf->goP g L.length (L,[n])=(L',[])->Q .non H'
theorem ok_partsP (F:Fun K "let_parts_go" "Heap.let_parts_go" sParts f fd) (T:Txt K mg A G) (GI:Ca P w K mg base CX0 1 "is_box" ["value"] spIsBox) (GL:Me P w K mg base (CXf P w) 2 A.cH "lessened" ["self","value"] (spLess A G)):FnOk P w K mg base CX0 3 f fd ["self","at"] (spPartsP A):=by
  refine F.by scParts (fun vs H Q E h=>?_) (fun cdv A' outer s H vs Q E hr h=>?_)
  · obtain ⟨g,hp,d,nl,m,L,n,hf,rfl,_⟩:=h
    rfl
  obtain ⟨g,hp,d,nl,m,L,n0,hf,rfl,Z,hd,hL,q⟩:=h
  refine ⟨_,jss_cons (js_set (i:=2) scParts.nd rfl (Or.inl rfl) (je_lst (ja_c (jv 1) ja_nil)))
    (jss_one (js_while PassesOwn.never (jt_cmpR jo_gt (je_fnB jc_len_seq rfl T.len PySem.boot_len (ja_c (jv 2) ja_nil)) je_int (by with_unfolding_all rfl))
      (jss_cons (js_set (i:=3) scParts.nd rfl (Or.inl rfl) (je_dpop1 (je_fld (jv 0)) (je_bm0 PySem.F.plainAttrs_list PySem.F.slot_list_pop PySem.F.type_list_pop jm_pop (jv 2))))
      (jss_one (js_for PassesOwn.never rfl (ji_list (je_fld (jv 3))) (jg_name (i:=4) scParts.nd rfl (Or.inl rfl))
        (jss_one (js_if (jW.pt (jw_and (jt_val (je_ca GI (hr.mono (by decide)) rfl pass0 (ja_c (jv 4) ja_nil))) (jw_and1 (jt_cmpR jo_eq (je_me (jv 0) T.clH GL hr passF (ja_c (jv 4) ja_nil)) je_int (by with_unfolding_all rfl)))))
          (jss_one (js_expr (je_bm PySem.F.plainAttrs_list PySem.F.slot_list_append PySem.F.type_list_append jm_append (jv 2) (ja_c (je_ix jx_tup (jv 4) je_int (fun _ _=>rfl)) ja_nil)))) jss_nil))))))),?_⟩
  have sl:=line0
  have ha:=Z.hb
  refine (ex2q rfl ⟨by show 1<=sizeLine; lia,fun l hl=>?_⟩)
  obtain ⟨hln,hlp⟩:=ha.fresh hl
  have s1:Same H (upd H l (.lst [iV n0])):=same_new hl _
  have Z1:Ln g A (upd H l (.lst [iV n0])) hp d nl l m L [n0]:=⟨ha.same s1,upd_same,hln,hlp,fun y hy v hv=>(Z.prs y hy v hv).same s1⟩
  refine ⟨fun i σ' H'=>∃ (L':List Bx) (ws':List Nat) (va vb:Option V),i=L'.length/\σ'=[some (.ref hp),some (.int (n0:Int)),some (.ref l),va,vb]/\KS nl l d H H'/\Ln g A H' hp d nl l m L' ws'/\L'.length<=L.length/\Hd g L' ws' hf/\goP g L'.length (L',ws')=goP g L.length (L,[n0]),⟨_,L,[n0],none,none,rfl,rfl,.of s1,Z1,Nat.le_refl _,hd,rfl⟩,?_⟩
  rintro i σ' H' ⟨L',ws',va,vb,rfl,rfl,ks,Z',hl',hd',eg⟩
  refine (ex2q rfl ⟨l,(ex2q rfl ⟨.inl (SqL.of Z'.gw),(ex4q rfl rfl (ex2q rfl (ite2 (fun c=>?_) (fun c=>?_))))⟩)⟩)
  · rw [decide_eq_true_eq,List.length_map] at c
    obtain ⟨wt,n,rfl⟩:∃ wt n,ws'=wt ++ [n]:=by
      rcases List.eq_nil_or_concat ws' with e | ⟨wt,n,e⟩
      · rw [e] at c
        exact absurd c (by decide)
      · exact ⟨wt,n,by rw [e,List.concat_eq_append]⟩
    have hd1:=hd'.perm (List.perm_append_comm:(wt ++ [n]).Perm ([n] ++ wt))
    obtain ⟨x,hx,en,ec,hd2⟩:=hd1.pop
    subst en
    have dl:=rise_drop hd'.rise hx
    rw [<- dl,goP_last,partsOf_at hd'.rise hx] at eg
    have ld:((wt ++ [x.n]).map iV)[((wt ++ [x.n]).map iV).length - 1]?=some (iV x.n):=by
      rw [List.map_append,List.length_append]
      exact List.getElem?_concat_length
    have dr:((wt ++ [x.n]).map iV).dropLast=wt.map iV:=by
      rw [List.map_append]
      exact List.dropLast_concat
    have Z2:=Z'.put (ws':=wt)
    obtain ⟨dx,r,dr',b1,_,_,b4⟩:=Z'.hb.ex
    obtain ⟨_,_,_,c1,_,_,c4⟩:=Z2.hb.ex
    obtain ⟨H1,e1⟩:∃ H1,H1=upd H' l (.lst (wt.map iV)):=⟨_,rfl⟩
    have k1:KS nl l d H H1:=by rw [e1]; exact ks.trans (.put Z'.gw)
    rw [<- e1] at Z2 c1 c4
    obtain ⟨H2,e2⟩:∃ H2,H2=upd H1 d (.dK (dropK (kvB L') (.inl (x.n:Int)))):=⟨_,rfl⟩
    have k2:KL nl d H1 H2:=by rw [e2]; exact KL.refl.dict c4
    have B2:HpB A H2 hp d nl m (L'.filter fun y=>y.n != x.n):=by rw [e2]; exact Z2.hb.drop x.n
    have Z3:Ln g A H2 hp d nl l m (L'.filter fun y=>y.n != x.n) wt:=Z2.kl k2 B2 fun y hy=>⟨y,(List.mem_filter.mp hy).1,rfl,rfl⟩
    obtain ⟨db,u1,u2⟩:=Z2.hb.box x hx
    have nxd:x.b≠d:=ne_of u1 c4 (by intro z; cases z)
    have gb:H2 x.b=some (WB A db x.tag x.pl x.count):=by rw [e2,upd_ne nxd]; exact u1
    have npn:=Z'.hb.nlp x hx
    have npl:x.pl≠l:=Ne.symm (Z'.wp x hx)
    have gp:H2 x.pl=some (.lst x.parts):=k2.1 _ _ npn u2
    refine ⟨fun σ' H3=>∃ (L2:List Bx) (ws2:List Nat) (va vb:Option V),σ'=[some (.ref hp),some (.int (n0:Int)),some (.ref l),va,vb]/\KS nl l d H H3/\Ln g A H3 hp d nl l m L2 ws2/\L2.length + 1=L'.length/\Hd g L2 ws2 hf/\goP g L2.length (L2,ws2)=goP g L.length (L,[n0]),fun σ' H3 ⟨L2,ws2,va,vb,a1,a2,a3,a4,a5,a6⟩=>⟨L2.length,by lia,L2,ws2,va,vb,rfl,a1,a2,a3,by lia,a5,a6⟩,?_⟩
    refine (ex2q rfl ⟨hp,_,_,_,_,rfl,b1,T.clH,T.nBy,rfl,d,rfl,.inl ⟨_,.of b4⟩,(ex2q rfl ⟨.inl ⟨rfl,_,SqL.of Z'.gw⟩,l,(ex4q rfl rfl ⟨Z'.gw,ld,kvB L',.inl (x.n:Int),.ref x.b,by rw [dr,<- e1]; exact c4,rfl,kvB_at hd'.rise hx,?_⟩)⟩)⟩)
    rw [dr,<- e1,<- e2]
    refine (ex2q rfl ⟨x.b,_,_,_,_,rfl,gb,T.clB,T.nParts,rfl,x.pl,rfl,⟨_,SqL.of gp⟩,for_list (K:=K) (xs:=x.parts) (fun i σ H3=>∃ vb L2 ws2,σ=[some (.ref hp),some (.int (n0:Int)),some (.ref l),some (.ref x.b),vb]/\KS nl l d H1 H3/\Ln g A H3 hp d nl l m L2 ws2/\H3 x.pl=some (.lst x.parts)/\L2.length + 1=L'.length/\Hd g L2 ws2 (fun q=>hf q + ((x.parts.drop i).filterMap g).count q)/\relP g (x.parts.drop i) (L2,ws2)=relP g x.parts (L'.filter (fun y=>y.n != x.n),wt)) ⟨_,_,wt,rfl,.kl k2,Z3,gp,dl,hd2,rfl⟩ ?_ ?_ ?_⟩)
    · rintro i σ H3 hi ⟨vb,L2,ws2,_,_,_,gp',_⟩
      exact SqL.of gp'
    · rintro i v σ H3 hv ⟨vb,L2,ws2,rfl,ks2,Z4,gp',hl2,hd4,er⟩
      have hi:i < x.parts.length:=(List.getElem?_eq_some_iff.mp hv).1
      have ei:x.parts.drop i=v :: x.parts.drop (i + 1):=by
        rw [List.drop_eq_getElem_cons hi]
        congr 1
        exact (List.getElem?_eq_some_iff.mp hv).2
      rw [ei] at hd4 er
      rcases (Z2.prs x hx v (List.mem_of_getElem? hv)).ks ks2 with ⟨hfl,hgn⟩ | ⟨p,j,rfl,hpj,hgj⟩
      · refine (ex2q rfl ⟨_,_,rfl,.inl ⟨hfl,rfl⟩,(ex2q rfl (iteF (iteF ?_)))⟩)
        refine ⟨_,L2,ws2,rfl,ks2,Z4,gp',hl2,?_,?_⟩
        · rw [List.filterMap_cons,hgn] at hd4
          exact hd4
        · have:relP g (v :: x.parts.drop (i + 1)) (L2,ws2)=relP g (x.parts.drop (i + 1)) (L2,ws2):=by
            show relP g (x.parts.drop (i + 1)) (match g v with | some n=>lessP (L2,ws2) n | none=>(L2,ws2))=_
            rw [hgn]
          rw [<- this]
          exact er
      · rw [List.filterMap_cons,hgj] at hd4
        dsimp only at hd4
        obtain ⟨y,hy,ey,hyc,hd5⟩:=hd4.less (n:=j) (by rw [List.count_cons_self]; lia)
        subst ey
        have hcnt:=cntOf_at hd4.rise hy
        have hd6:=hd5.congr (hf':=fun q=>hf q + ((x.parts.drop (i + 1)).filterMap g).count q) fun q=>by
          by_cases c:q=y.n
          · rw [if_pos c,c,List.count_cons_self]
            lia
          · rw [if_neg c,List.count_cons_of_ne (Ne.symm c)]
        have er':relP g (x.parts.drop (i + 1)) (setC L2 y.n (y.count - 1),if y.count=1 then ws2 ++ [y.n] else ws2)=relP g x.parts (L'.filter (fun y=>y.n != x.n),wt):=by
          rw [<- er]
          have:relP g (.ref p :: x.parts.drop (i + 1)) (L2,ws2)=relP g (x.parts.drop (i + 1)) (lessP (L2,ws2) y.n):=by
            show relP g (x.parts.drop (i + 1)) (match g (.ref p) with | some n=>lessP (L2,ws2) n | none=>(L2,ws2))=_
            rw [hgj]
          rw [this]
          unfold lessP
          dsimp only
          rw [hcnt]
        obtain ⟨dy,ry,dry,h1,_⟩:=Z4.hb.ex
        refine (ex2q rfl ⟨_,_,rfl,.inr ⟨p,(ex2q rfl ⟨hpj,rfl⟩)⟩,(ex2q rfl (iteT ?_))⟩)
        refine (ex2q rfl ⟨hp,_,_,rfl,h1,Z4.hb.xt.2 _ (by decide) (by decide),(ex2q rfl ⟨hp,d,nl,p,m,L2,y.n,rfl,Z4.hb,hpj,.inl ⟨y,hy,rfl,by lia,fun H5 k5 B5=>⟨rfl,(ex2q rfl ?_)⟩⟩⟩)⟩)
        have Z5:=Z4.kl k5 B5 setC_sub
        have gp5:=k5.1 _ _ npn gp'
        by_cases c1:y.count=1
        · refine ite2 (fun _=>?_) (fun c=>absurd (decide_eq_true (by rw [c1]; rfl)) c)
          rw [if_pos c1] at hd6 er'
          have wl2:ws2.length<=4000:=by
            have:=nodup_len (l':=L2.map (·.n)) hd4.nd fun n hn=>let ⟨x,hx,e,_⟩:=hd4.w1 n hn; List.mem_map.mpr ⟨x,hx,e⟩
            rw [List.length_map] at this
            lia
          refine (ex2q rfl ⟨.inl ⟨rfl,_,SqL.of Z5.gw⟩,(ex2q rfl ⟨p,_,_,_,rfl,rfl,SqT.of (k5.2 _ _ hpj),atI_nat (j:=1) rfl,l,(ex4q rfl rfl ⟨Z5.gw,by rw [List.length_map]; lia,?_⟩)⟩)⟩)
          have em:ws2.map iV ++ [V.int (y.n:Int)]=(ws2 ++ [y.n]).map iV:=by rw [List.map_append]; rfl
          rw [em]
          exact ⟨_,_,_,rfl,(ks2.trans (.kl k5)).trans (.put Z5.gw),Z5.put,by rw [upd_ne npl]; exact gp5,by rw [setC_len]; exact hl2,hd6,er'⟩
        · refine ite2 (fun c=>?_) (fun _=>?_)
          · rw [decide_eq_true_eq] at c
            injection c with c
            lia
          · rw [if_neg c1] at hd6 er'
            exact ⟨_,_,_,rfl,ks2.trans (.kl k5),Z5,gp5,by rw [setC_len]; exact hl2,hd6,er'⟩
    · rintro σ H3 ⟨vb,L2,ws2,rfl,ks2,Z4,gp',hl2,hd4,er⟩
      rw [List.drop_length] at hd4 er
      refine ⟨L2,ws2,_,_,rfl,k1.trans ks2,Z4,hl2,hd4.congr fun q=>by
        show hf q=hf q + ([]:List Nat).count q
        rw [List.count_nil]
        lia,?_⟩
      rw [<- eg,<- er,show L2.length=(L'.filter fun y=>y.n != x.n).length by lia]
      rfl
  · rw [decide_eq_true_eq,List.length_map] at c
    have e0:ws'=[]:=List.length_eq_zero_iff.mp (by lia)
    subst e0
    rw [goP_nil] at eg
    exact q H' L' (ks.fresh hl) ⟨Z'.hb,Z'.prs⟩ hd' eg.symm
def spLetP (A:Adr):Sp:=fun vs H Q _=>∃ (g:V->Option Nat) (hp d nl p:Addr) (m:Nm) (L:List Bx) (n:Nat) (hf:Nat->Nat),vs=[.ref hp,.ref p]/\H p=some (BX n)/\Pn g A H hp d nl m L/\Hd g L [] hf/\0 < hf n/\L.length < 4000/\∀ H' L',KL nl d H H'->Pn g A H' hp d nl m L'->Hd g L' [] (fun k=>if k=n then hf k - 1 else hf k)->goP g L.length (lessP (L,[]) n)=(L',[])->Q .non H'
theorem ok_letP (F:Fun K "let_go" "Heap.let_go" sLetGo f fd) (T:Txt K mg A G) (GI:Ca P w K mg base CX0 1 "is_box" ["value"] spIsBox) (GL:Me P w K mg base (CXf P w) 2 A.cH "lessened" ["self","value"] (spLess A G)) (GP:Me P w K mg base CX0 3 A.cH "let_parts_go" ["self","at"] (spPartsP A)):FnOk P w K mg base CX0 4 f fd ["self","value"] (spLetP A):=by
  refine F.by scLetGo (fun vs H Q E h=>?_) (fun cdv A' outer s H vs Q E hr h=>?_)
  · obtain ⟨g,hp,d,nl,p,m,L,n,hf,rfl,_⟩:=h
    rfl
  obtain ⟨g,hp,d,nl,p,m,L,n,hf,rfl,hp1,Z,hd,hn,hL,q⟩:=h
  refine ⟨_,jss_one (js_if (jW.pt (jw_and (jt_val (je_ca GI (hr.mono (by decide)) rfl pass0 (ja_c (jv 1) ja_nil))) (jw_and1 (jt_cmpR jo_eq (je_me (jv 0) T.clH GL (hr.mono (by decide)) passF (ja_c (jv 1) ja_nil)) je_int (by with_unfolding_all rfl)))))
    (jss_one (js_expr (je_me (jv 0) T.clH GP hr pass0 (ja_c (je_ix jx_tup (jv 1) je_int (fun _ _=>rfl)) ja_nil)))) jss_nil),?_⟩
  obtain ⟨x,hx,en,hc,hd1⟩:=hd.less hn
  subst en
  have hcnt:=cntOf_at hd.rise hx
  have e1:lessP (L,[]) x.n=(setC L x.n (x.count - 1),if x.count=1 then [x.n] else []):=by
    unfold lessP
    dsimp only
    rw [hcnt]
    rfl
  obtain ⟨dx,r,dr,h1,h2,h3,h4⟩:=Z.hb.ex
  have no:=Z.hb.xt.2
  refine (ex2q rfl ⟨_,_,rfl,.inr ⟨p,(ex2q rfl ⟨hp1,rfl⟩)⟩,(ex2q rfl (iteT ?_))⟩)
  refine (ex2q rfl ⟨hp,dx,(ex2q rfl ⟨h1,no _ (by decide) (by decide),(ex2q rfl ⟨hp,d,nl,p,m,L,x.n,rfl,Z.hb,hp1,.inl ⟨x,hx,rfl,by lia,fun H1 k1 B1=>⟨rfl,(ex2q rfl ?_)⟩⟩⟩)⟩)⟩)
  have Z1:=Z.kl k1 B1 setC_sub
  by_cases c1:x.count=1
  · refine ite2 (fun _=>?_) (fun c=>absurd (decide_eq_true (by rw [c1]; rfl)) c)
    rw [if_pos c1] at hd1 e1
    obtain ⟨dx1,r1,dr1,b1,b2,b3,b4⟩:=B1.ex
    refine (ex2q rfl ⟨hp,_,_,rfl,b1,no _ (by decide) (by decide),(ex2q rfl ⟨p,_,_,_,rfl,rfl,SqT.of (k1.2 _ _ hp1),atI_nat (j:=1) rfl,?_⟩)⟩)
    refine ⟨g,hp,d,nl,m,_,x.n,(ex2q rfl ⟨Z1,hd1,by rw [setC_len]; exact hL,fun H' L' k2 Z2 hd2 eg=>q H' L' (k1.trans k2) Z2 hd2 ?_⟩)⟩
    rw [e1,<- eg,setC_len]
  · refine ite2 (fun c=>?_) (fun _=>?_)
    · rw [decide_eq_true_eq] at c
      injection c with c
      lia
    · rw [if_neg c1] at hd1 e1
      refine q _ _ k1 Z1 hd1 ?_
      rw [e1,goP_nil]
end
end Hv
namespace L2
open PySem PySem.Spec PyProof.Rows
section
variable {prog:Program} {w:World} {A:Around} {E:Value->Shared->Prop} {s:Shared}
def TupI (h:Heap) (v:Value) (i:Int):Prop:=∃ a o xs n t,v=.ref a/\h.get? a=some o/\o.cls=.type "tuple"/\o.data=.seq xs n/\xs[0]?=some (.int i t)
theorem TupI.kept {h h':Heap} {v:Value} {i:Int} (t:TupI h v i) (k:∀ b o,h.get? b=some o->o.cls=.type "tuple"->h'.get? b=some o):TupI h' v i:=by
  obtain ⟨a,o,xs,n,t,e,ho,hc,r⟩:=t
  exact ⟨a,o,xs,n,t,e,k _ _ ho hc,hc,r⟩
end
section
variable {X:Cx}
end
end L2
namespace L2
open PySem PySem.Spec PyProof.Rows
section
variable {X:Cx}
def rSortL:List V->Hp->VK->Prop:=fun xs H Q=>∃ (l:Addr) (ns:List Int),xs=[.ref l]/\H l=some (.lst (ns.map V.int))/\ns.length < 64/\∀ l' (ns':List Int),H l'=none->ns'.Perm ns->ns'.Pairwise (·<=·)->Q (.ref l') (upd H l' (.lst (ns'.map V.int)))
theorem call_sortL (hc:X.calm=true):CallR X (.builtin "sorted") rSortL:=by
  intro pins s σ H xs us Q I r h
  obtain ⟨l,ns,rfl,hl,h64,q⟩:=h
  obtain ⟨u,rfl,rx⟩:=vals1 r
  cases rx
  obtain ⟨its,n,rv,hol,hz⟩:=I.lst hl
  have hI:s.heap.IsList l its.toArray:=⟨_,hol,rfl,n,rfl⟩
  have hlen:=rv.length
  rw [List.length_map] at hlen
  have sl:=line0
  refine Calls.call_function_entry kind_sorted plain_sorted entry_sorted (args_sorted1 _) ?_
  unfold Builtin.«sorted»
  refine wpAny_bind (m:=checkCount "sorted" 1 1 _) (wpAny_pure ?_)
  obtain ⟨h',eh⟩:∃ h',h'=(s.heap.push (seqObj "list" #[] 0)).update s.heap.objs.size (Obj.mapSeq (· ++ its.toArray)):=⟨_,rfl⟩
  refine wpAny_bind (collect_list hI ?_ (by lia))
  rw [<- eh]
  have hk:∀ b o,s.heap.get? b=some o->h'.get? b=some o:=fun b o e=>by
    rw [eh,Heap.get?_update_ne _ _ _ _ (Nat.ne_of_lt (Heap.lt_size e)),Heap.get?_push_ne _ _ _ (Nat.ne_of_lt (Heap.lt_size e))]
    exact e
  have I':Inv X pins σ H { s with heap:=h' }:=I.un (Un.kept hk) (I.hok.kept hk)
  have hA:IntsAre its ns:=ints_of rv
  refine wpAny_bind (wpAny_newList ?_ (by lia))
  have hoL:(h'.push (seqObj "list" its.toArray 0)).get? h'.objs.size=some (seqObj "list" its.toArray 0):=Heap.get?_push_size _ rfl
  refine wpAny_bind (wpAny_holding (wpAny_call_entry slot_list_sort ⟨_,hoL,rfl⟩ entry_list_sort (list_sort_tree hoL hA (by lia) fun out ns' b1 b2 b3=>⟨_,rfl,?_⟩) (args_list_sort _)))
  refine wpAny_pure ⟨_,rfl,?_⟩
  obtain ⟨e,he⟩:=sortedHeap_at (out:=out) hoL
  have b4:=b2.length_eq
  refine ⟨.ref h'.objs.size,_,I'.laid (t':=s.toks) (a:=h'.objs.size) (o:=.lst (ns'.map V.int)) (fun b u hb'=>?_) (Nat.le_refl _) ?_,rfl,q _ ns' (I'.hok.fresh (Nat.le_refl _)) b2 b3⟩
  · rw [sortedHeap_old (Nat.ne_of_lt (Heap.lt_size hb')) (by rw [size_push']; exact Nat.lt_succ_of_lt (Heap.lt_size hb')),Heap.get?_push_ne _ _ _ (Nat.ne_of_lt (Heap.lt_size hb'))]
    exact hb'
  · refine ⟨by rw [List.length_map]; lia,out.toList,e,vals_ints b1,?_⟩
    rw [Array.toArray_toList]
    exact he
theorem jc_sortL (hc:X.calm=true):jCa X (.builtin "sorted") rSortL:=⟨call_sortL hc⟩
end
end L2
set_option simprocs false
namespace L2
open PySem
theorem FnOk.or {P:Program} {w:World} {K:PySem.W.Frag} {mg:Str->Option Value} {base:Heap} {CX:CXT} {k:Nat} {f:Addr} {fd:FuncData} {ps:List Str} {s1 s2:Sp} (h1:FnOk P w K mg base CX k f fd ps s1) (h2:FnOk P w K mg base CX k f fd ps s2):FnOk P w K mg base CX k f fd ps (fun vs H Q E=>s1 vs H Q E\/s2 vs H Q E) :=
  ⟨fun vs H Q E h=>h.elim (h1.len vs H Q E) (h2.len vs H Q E),fun A outer s H args us vs Q E hr he hb hv h=>h.elim (h1.run A outer s H args us vs Q E hr he hb hv) (h2.run A outer s H args us vs Q E hr he hb hv)⟩
theorem FnOk.dn {P:Program} {w:World} {K:PySem.W.Frag} {mg:Str->Option Value} {base:Heap} {k:Nat} {f:Addr} {fd:FuncData} {ps:List Str} {sp sp':Sp} (F:FnOk P w K mg base (CXf P w) k f fd ps sp) (h:∀ vs H Q E,sp' vs H Q E->sp vs H Q E0):FnOk P w K mg base CX0 k f fd ps sp' :=
  ⟨fun vs H Q E q=>F.len _ _ _ _ (h vs H Q E q),fun A outer s H args us vs Q E hr he hb hv hs=>codeAny_mono (F.run A outer s H args us vs Q E0 hr he hb hv (h vs H Q E hs)) fun r s' q=>by
    cases r with
    | error e =>
      obtain ⟨_,_,_,_,_,_,_,_,_,_,_,_,_,z⟩:=q
      exact z.elim
    | ok fl =>
      cases fl with
      | ret u=>exact q
      | _=>exact q⟩
end L2
namespace Hv
open PySem L2 K11 HM
def Sub (L' L:List Bx):Prop:=∀ y∈L',∃ x∈L,x.n=y.n/\x.tag=y.tag/\x.parts=y.parts/\x.pl=y.pl
theorem Sub.refl {L:List Bx}:Sub L L:=fun y hy=>⟨y,hy,rfl,rfl,rfl,rfl⟩
theorem Sub.trans {L L1 L2:List Bx} (a:Sub L2 L1) (b:Sub L1 L):Sub L2 L:=fun y hy=>let ⟨x,hx,e1,e2,e3,e4⟩:=a y hy; let ⟨z,hz,f1,f2,f3,f4⟩:=b x hx; ⟨z,hz,f1.trans e1,f2.trans e2,f3.trans e3,f4.trans e4⟩
theorem Sub.filter {L:List Bx} {p:Bx->Bool}:Sub (L.filter p) L:=fun y hy=>⟨y,(List.mem_filter.mp hy).1,rfl,rfl,rfl,rfl⟩
theorem Sub.setC {L:List Bx} {n:Nat} {c:Int}:Sub (setC L n c) L:=fun y hy=>let ⟨x,hx,e1,_,e3,e4,e5,_⟩:=setC_mem hy; ⟨x,hx,e1.symm,e4.symm,e5.symm,e3.symm⟩
theorem Sub.addC {L:List Bx} {H:Hp} {ps:List V}:Sub (addC H ps L) L:=fun y hy=>let ⟨x,hx,e1,_,e3,e4,e5,_⟩:=addC_mem hy; ⟨x,hx,e1.symm,e4.symm,e5.symm,e3.symm⟩
theorem sub_lessP {s:S7} {n:Nat}:Sub (lessP s n).1 s.1:=Sub.setC
theorem sub_relP {g:V->Option Nat}:∀ {ps:List V} {s:S7},Sub (relP g ps s).1 s.1
  | [],_=>Sub.refl
  | v :: ps,s=>by
    refine (sub_relP (ps:=ps) (s:=match g v with | some n=>lessP s n | none=>s)).trans ?_
    cases g v with
    | none=>exact Sub.refl
    | some n=>exact sub_lessP
theorem sub_popP {g:V->Option Nat} {s:S7}:Sub (popP g s).1 s.1:=by
  obtain ⟨L,wt⟩:=s
  cases wt with
  | nil=>exact Sub.refl
  | cons n wt=>exact sub_relP.trans Sub.filter
theorem sub_workP {g:V->Option Nat}:∀ {t:Nat} {s:S7},Sub (workP g t s).2.1 s.1
  | 0,_=>Sub.refl
  | t + 1,(L,[])=>Sub.refl
  | t + 1,(L,n :: wt)=>(sub_workP (t:=t) (s:=popP g (L,n :: wt))).trans sub_popP
theorem sub_goP {g:V->Option Nat}:∀ {t:Nat} {s:S7},Sub (goP g t s).1 s.1
  | 0,_=>Sub.refl
  | t + 1,s=>by
    unfold goP
    cases s.2.getLast? with
    | none=>exact Sub.refl
    | some n=>exact (sub_goP (t:=t)).trans (sub_relP.trans Sub.filter)
theorem goP_len {g:V->Option Nat}:∀ {t:Nat} {s:S7},(goP g t s).1.length<=s.1.length
  | 0,_=>Nat.le_refl _
  | t + 1,s=>by
    unfold goP
    cases s.2.getLast? with
    | none=>exact Nat.le_refl _
    | some n =>
      refine Nat.le_trans (goP_len (t:=t)) ?_
      rw [relP_len]
      exact List.length_filter_le ..
structure Hs (S:Addr) (g:V->Option Nat) (A:Adr) (H:Hp) (hp d nl wl:Addr) (m:Nm) (L:List Bx) (wt:List Nat) (N:Nat):Prop where
  hb:HpB A H hp d nl m L
  prs:∀ y∈L,∀ v∈y.parts,Gv g H v
  wp:∀ y∈L,wl≠y.pl
  ln:L.length<=N
  sl:(A.cH≠S/\wt=[]/\wl=nl)\/(A.cH=S/\wl≠nl/\∃ (ws:List Nat) (k:Nat),m.ext=slowX wl (k:Int)/\H wl=some (.lst (ws.map iV))/\k<=ws.length/\wt=ws.drop k/\k + L.length<=N)
structure Eqm (m' m:Nm):Prop where
  sz:m'.sz=m.sz
  fresh:m'.fresh=m.fresh
  anew:m'.anew=m.anew
  peak:m'.peak=m.peak
  kept:m'.kept=m.kept
theorem Eqm.refl {m:Nm}:Eqm m m:=⟨rfl,rfl,rfl,rfl,rfl⟩
section
variable {S:Addr} {g:V->Option Nat} {A:Adr} {H H':Hp} {hp d nl wl l r:Addr} {m m':Nm} {L L':List Bx} {wt:List Nat} {N:Nat} {xs ys:List V} {kvs kvs':List (Key × V)}
theorem Hs.same (h:Hs S g A H hp d nl wl m L wt N) (s:Same H H'):Hs S g A H' hp d nl wl m L wt N :=
  ⟨h.hb.same s,fun y hy v hv=>(h.prs y hy v hv).same s,h.wp,h.ln,h.sl.imp_right fun ⟨a,b,ws,k,c,e,f⟩=>⟨a,b,ws,k,c,s _ _ e,f⟩⟩
theorem Gv.upd {o:HO} {v:V} (h:Gv g H v) (hl:H l=some o) (ho:∀ zs,o≠.tup zs) {o':HO}:Gv g (upd H l o') v:=h.imp_right fun ⟨a,j,e,q,z⟩=>⟨a,j,e,by rw [upd_ne (ne_of q hl (Ne.symm (ho _)))]; exact q,z⟩
theorem Hs.list (h:Hs S g A H hp d nl wl m L wt N) (hl:H l=some (.lst xs)) (n1:l≠nl) (n2:l≠wl) (n3:∀ y∈L,l≠y.pl):Hs S g A (upd H l (.lst ys)) hp d nl wl m L wt N :=
  ⟨h.hb.list hl n1 n3,fun y hy v hv=>(h.prs y hy v hv).upd hl (fun _ z=>nomatch z),h.wp,h.ln,h.sl.imp_right fun ⟨a,b,ws,k,c,e,f⟩=>⟨a,b,ws,k,c,by rw [upd_ne (Ne.symm n2)]; exact e,f⟩⟩
theorem Hs.dict (h:Hs S g A H hp d nl wl m L wt N) (hl:H r=some (.dK kvs)) (n1:r≠d):Hs S g A (upd H r (.dK kvs')) hp d nl wl m L wt N:=by
  refine ⟨h.hb.keptG (fun o e=>?_) (fun o e=>?_) (fun zs a c e=>?_) (fun a C dx fs c e=>?_),fun y hy v hv=>(h.prs y hy v hv).upd hl (fun _ z=>nomatch z),h.wp,h.ln,h.sl.imp_right fun ⟨a,b,ws,k,c,e,f⟩=>⟨a,b,ws,k,c,by rw [upd_ne (ne_of e hl (by intro z; cases z))]; exact e,f⟩⟩
  · obtain ⟨dx,r,dr,h1,_⟩:=h.hb.ex
    rw [upd_ne (ne_of h1 hl (by intro z; cases z))]; exact e
  · rw [upd_ne (Ne.symm n1)]; exact e
  · rw [upd_ne (ne_of e hl (by intro z; cases z))]; exact e
  · rw [upd_ne (ne_of e hl (by intro z; cases z))]; exact e
theorem Hs.kl (h:Hs S g A H hp d nl wl m L wt N) (kl:KL nl d H H') (hb:HpB A H' hp d nl m' L') (e:m'.ext=m.ext) (sub:Sub L' L) (hl:L'.length<=L.length):Hs S g A H' hp d nl wl m' L' wt N:=by
  refine ⟨hb,fun y hy v hv=>?_,fun y hy=>?_,Nat.le_trans hl h.ln,?_⟩
  · obtain ⟨x,hx,_,_,e3,_⟩:=sub y hy
    rw [<- e3] at hv
    exact (h.prs x hx v hv).ks (w:=wl) (.kl kl)
  · obtain ⟨x,hx,_,_,_,e4⟩:=sub y hy
    rw [<- e4]
    exact h.wp x hx
  · refine h.sl.imp_right fun ⟨a,b,ws,k,c,f,f1,f2,f3⟩=>⟨a,b,ws,k,by rw [e]; exact c,kl.1 _ _ b f,f1,f2,by lia⟩
theorem Hs.pn (h:Hs S g A H hp d nl wl m L wt N):Pn g A H hp d nl m L:=⟨h.hb,h.prs⟩
theorem Hs.slow {ws:List Nat} {k:Nat} (h:Hs S g A H hp d nl wl m L wt N) (b:wl≠nl) (c:m.ext=slowX wl (k:Int)) (e:H wl=some (.lst (ws.map iV))) (f:k<=ws.length):Sl g A H hp d nl wl m L ws k:=⟨h.hb,c,e,b,h.wp,h.prs,f⟩
theorem Sl.hs {ws:List Nat} {k:Nat} (h:Sl g A H hp d nl wl m L ws k) (hS:A.cH=S) (hN:k + L.length<=N):Hs S g A H hp d nl wl m L (ws.drop k) N:=⟨h.hb,h.prs,h.wp,by lia,.inr ⟨hS,h.wn,ws,k,h.ex,h.gw,h.kw,rfl,hN⟩⟩
theorem Pn.hs (h:Pn g A H hp d nl m L) (hS:A.cH≠S) (hN:L.length<=N):Hs S g A H hp d nl nl m L [] N:=⟨h.hb,h.prs,fun y hy=>Ne.symm (h.hb.nlp y hy),hN,.inl ⟨hS,rfl,rfl⟩⟩
end
section
variable {P:Program} {w:World} {K:PySem.W.Frag} {mg:Str->Option Value} {base:Heap} {f:Addr} {fd:FuncData} {A:Adr} {G S:Addr}
def spLet8 (S:Addr) (A:Adr):Sp:=fun vs H Q _=>∃ (g:V->Option Nat) (hp d nl wl:Addr) (v:V) (m:Nm) (L:List Bx) (wt:List Nat) (N:Nat) (hf:Nat->Nat),vs=[.ref hp,v]/\Hs S g A H hp d nl wl m L wt N/\Hd g L wt hf/\N < 800/\Gv g H v/\(∀ n,g v=some n->0 < hf n)/\∀ H' L' wt',KS nl wl d H H'->Hs S g A H' hp d nl wl m L' wt' N->Hd g L' wt' (fun k=>if g v=some k then hf k - 1 else hf k)->Sub L' L->Q .non H'
theorem let_flat {g:V->Option Nat} {L:List Bx} {wt:List Nat} {hf:Nat->Nat} {v:V} (h:Hd g L wt hf) (e:g v=none):Hd g L wt (fun k=>if g v=some k then hf k - 1 else hf k):=h.congr fun n=>by rw [e,if_neg (fun z=>nomatch z)]
theorem ok_let8P (F:Fun K "let_go" "Heap.let_go" sLetGo f fd) (T:Txt K mg A G) (hS:A.cH≠S) (GI:Ca P w K mg base CX0 1 "is_box" ["value"] spIsBox) (GL:Me P w K mg base (CXf P w) 2 A.cH "lessened" ["self","value"] (spLess A G)) (GP:Me P w K mg base CX0 3 A.cH "let_parts_go" ["self","at"] (spPartsP A)):FnOk P w K mg base CX0 4 f fd ["self","value"] (spLet8 S A):=by
  refine (((ok_letF F T GI).mono (by decide)).or (ok_letP F T GI GL GP)).imp fun vs H Q E ⟨g,hp,d,nl,wl,v,m,L,wt,N,hf,e,Z,hd,hN,hv,hn,q⟩=>?_
  rcases Z.sl with ⟨_,rfl,rfl⟩ | ⟨z,_⟩
  · rcases hv with ⟨fl,gn⟩ | ⟨p,j,rfl,hp1,gj⟩
    · exact .inl ⟨hp,v,e,fl,q H L [] .refl Z (let_flat hd gn) Sub.refl⟩
    · refine .inr ⟨g,hp,d,wl,p,m,L,j,hf,e,hp1,Z.pn,hd,hn j gj,by have:=Z.ln; lia,fun H' L' k' Z' hd' eg=>q H' L' [] (.kl k') (Z'.hs hS ?_) (hd'.congr fun n=>?_) ?_⟩
      · have:=goP_len (g:=g) (t:=L.length) (s:=lessP (L,[]) j)
        rw [eg,show (lessP (L,[]) j).1.length=L.length from setC_len _ _ _] at this
        exact Nat.le_trans this Z.ln
      · rw [gj]
        by_cases c:n=j
        · rw [if_pos c,if_pos (by rw [c])]
        · rw [if_neg c,if_neg (fun z=>c (by injection z with z; exact z.symm))]
      · have:=(sub_goP (g:=g) (t:=L.length) (s:=lessP (L,[]) j)).trans sub_lessP
        rw [eg] at this
        exact this
  · exact absurd z hS
theorem ok_let8S (F:Fun K "let_go" "Heap.let_go" sLetGo f fd) (T:Txt K mg A G) (hS:A.cH=S) (GI:Ca P w K mg base CX0 1 "is_box" ["value"] spIsBox) (GL:Me P w K mg base (CXf P w) 2 A.cH "lessened" ["self","value"] (spLess A G)) (GP:Me P w K mg base CX0 2 A.cH "let_parts_go" ["self","at"] (spSParts A)):FnOk P w K mg base CX0 4 f fd ["self","value"] (spLet8 S A):=by
  refine ((ok_letS F T GI GL GP).mono (by decide)).dn fun vs H Q E ⟨g,hp,d,nl,wl,v,m,L,wt,N,hf,e,Z,hd,hN,hv,hn,q⟩=>?_
  rcases Z.sl with ⟨z,_⟩ | ⟨_,wn,ws,k,ex,gw,kw,rfl,hk⟩
  · exact absurd hS z
  have hl:=hd.len
  rw [List.length_drop] at hl
  refine ⟨g,hp,d,nl,wl,v,m,L,ws,k,e,Z.slow wn ex gw kw,by lia,?_⟩
  rcases hv with ⟨fl,gn⟩ | ⟨p,j,rfl,hp1,gj⟩
  · exact .inl ⟨fl,q H L _ .refl Z (let_flat hd gn) Sub.refl⟩
  · obtain ⟨x,hx,en,hc,hd'⟩:=hd.less (hn j gj)
    subst en
    refine .inr ⟨p,x,rfl,hx,hp1,hc,fun H' k' Z'=>q H' _ _ k' (Z'.hs hS (by rw [setC_len]; exact hk)) ?_ Sub.setC⟩
    have ed:(if x.count=1 then ws ++ [x.n] else ws).drop k=if x.count=1 then ws.drop k ++ [x.n] else ws.drop k:=by
      split
      · exact List.drop_append_of_le_length kw
      · rfl
    rw [ed]
    refine hd'.congr fun n=>?_
    rw [gj]
    by_cases c:n=x.n
    · rw [if_pos c,if_pos (by rw [c])]
    · rw [if_neg c,if_neg (fun z=>c (by injection z with z; exact z.symm))]
end
end Hv
namespace Hv
open PySem L2 K11 HM
section
variable {P:Program} {w:World} {K:PySem.W.Frag} {mg:Str->Option Value} {base:Heap} {f:Addr} {fd:FuncData} {A:Adr} {G:Addr}
def Told (H:Hp) (Q:VK) (t:Str) (xs:List V):Prop:=∀ H' p q,Same H H'->H' p=some (.tup [.str t,.ref q])->H' q=some (.lst xs)->H q=none->Q (.ref p) H'
def spLook (A:Adr) (G:Addr):Sp:=fun vs H Q E=>∃ (hp d nl:Addr) (v:V) (m:Nm) (L:List Bx),vs=[.ref hp,v]/\HpB A H hp d nl m L/\((∃ z,v=.str z/\Told H Q z [])\/(∃ i,v=.int i/\Told H Q "" [])\/∃ p i,v=.ref p/\H p=some (BX i) /\
  ((∃ x∈L,x.n=i/\x.count≠0/\Told H Q x.tag x.parts)\/(Gon L i/\E (.ref G) none H)))
theorem scLook:FnScope ["self","value","box"] ["self","value"] (defScope sLook):=⟨rfl,rfl,rfl,by decide +kernel,rfl,by decide +kernel,by decide +kernel⟩
theorem ok_look (F:Fun K "look" "Heap.look" sLook f fd) (T:Txt K mg A G) (GI:Ca P w K mg base CX0 1 "is_box" ["value"] spIsBox) (GT:Me P w K mg base (CXf P w) 1 A.cH "there" ["self","value"] (spThere A G)):FnOk P w K mg base (CXf P w) 2 f fd ["self","value"] (spLook A G):=by
  refine F.byx scLook (fun vs H Q E h=>?_) (fun cdv A' outer s H vs Q E hr h=>?_)
  · obtain ⟨hp,d,nl,v,m,L,rfl,_⟩:=h
    rfl
  obtain ⟨hp,d,nl,v,m,L,rfl,ha,hv⟩:=h
  refine ⟨_,jss_cons (js_if (jt_val (je_ca GI.upx hr rfl passx (ja_c (jv 1) ja_nil))) (jss_cons (js_set (i:=2) scLook.nd rfl (Or.inl rfl) (je_me (jv 0) T.clH GT hr passx (ja_c (jv 1) ja_nil)))
      (jss_one (js_ret (je_tup (ja_c (je_fld (jv 2)) (ja_c (je_fnTy jc_list_of rfl T.list PyProof.Rows.boot_list (ja_c (je_fld (jv 2)) ja_nil)) ja_nil)))))) jss_nil)
    (jss_one (js_ret (je_tup (ja_c (je_ifExp (jt_val (je_fnB jc_isinst rfl T.isi PyProof.Rows.boot_isinstance (ja_c (jv 1) (ja_c (je_bltn (v:=.ty "str") rfl T.str PyProof.Rows.boot_str rfl) ja_nil)))) (jv 1) je_str) (ja_c (je_lst ja_nil) ja_nil))))),?_⟩
  have sl:=line0
  obtain ⟨dx,r,dr,h1,_⟩:=ha.ex
  rcases hv with ⟨z,rfl,q⟩ | ⟨z,rfl,q⟩ | ⟨p,i,rfl,hp1,hc⟩
  · refine (ex2q rfl ⟨_,_,rfl,.inl ⟨.inl ⟨_,rfl⟩,rfl⟩,(ex2q rfl (iteF ?_))⟩)
    refine (ex2q rfl ⟨_,_,_,_,rfl,.str _,kit_ss _,(ex2q rfl (iteT (ex2q rfl ?_)))⟩)
    refine ⟨by show 0<=sizeLine; lia,fun l hl=>⟨by show 2<=sizeLine; lia,fun t ht=>?_⟩⟩
    exact q _ t l ((same_new hl _).new ht) upd_same (old ht upd_same) hl
  · refine (ex2q rfl ⟨_,_,rfl,.inl ⟨.inr ⟨_,rfl⟩,rfl⟩,(ex2q rfl (iteF ?_))⟩)
    refine (ex2q rfl ⟨_,_,_,_,rfl,.int _,kit_is _,(ex2q rfl (iteF ?_))⟩)
    refine ⟨by show 0<=sizeLine; lia,fun l hl=>⟨by show 2<=sizeLine; lia,fun t ht=>?_⟩⟩
    exact q _ t l ((same_new hl _).new ht) upd_same (old ht upd_same) hl
  · refine (ex2q rfl ⟨_,_,rfl,.inr ⟨p,(ex2q rfl ⟨hp1,rfl⟩)⟩,(ex2q rfl (iteT ?_))⟩)
    refine (ex2q rfl ⟨hp,dx,(ex2q rfl ⟨h1,ha.xt.2 _ (by decide) (by decide),(ex2q rfl ⟨hp,d,nl,p,m,L,i,rfl,ha,hp1,?_⟩)⟩)⟩)
    rcases hc with ⟨x,hx,rfl,hn,q⟩ | ⟨g,q⟩
    · obtain ⟨db,u1,u2⟩:=ha.box x hx
      refine .inl ⟨x,hx,rfl,hn,?_⟩
      refine (ex2q rfl ⟨x.b,_,_,_,_,rfl,u1,T.clB,T.nTag,rfl,(ex2q rfl ⟨x.b,_,_,_,_,rfl,u1,T.clB,T.nParts,rfl,x.pl,(ex2q rfl ⟨.inl (SqL.of u2),fun l hl=>⟨by show 2<=sizeLine; lia,fun t ht=>?_⟩⟩)⟩)⟩)
      exact q _ t l ((same_new hl _).new ht) upd_same (old ht upd_same) hl
    · exact .inr ⟨g,q⟩
end
end Hv
set_option simprocs false
namespace Hv
open PySem L2 K11 HM
theorem rel_hd {g:V->Option Nat} {hf:Nat->Nat}:∀ {ps:List V} {L:List Bx} {wt:List Nat},Hd g L wt (fun q=>hf q + (ps.filterMap g).count q)->Hd g (relP g ps (L,wt)).1 (relP g ps (L,wt)).2 hf
  | [],L,wt,h=>h.congr fun q=>by
    show hf q=hf q + ([]:List Nat).count q
    rw [List.count_nil]
    lia
  | v :: ps,L,wt,h=>by
    cases hg:g v with
    | none =>
      have e:relP g (v :: ps) (L,wt)=relP g ps (L,wt):=by
        show relP g ps (match g v with | some n=>lessP (L,wt) n | none=>(L,wt))=_
        rw [hg]
      rw [List.filterMap_cons,hg] at h
      rw [e]
      exact rel_hd h
    | some n =>
      rw [List.filterMap_cons,hg] at h
      dsimp only at h
      obtain ⟨x,hx,en,hc,h2⟩:=h.less (n:=n) (by rw [List.count_cons_self]; lia)
      subst en
      have e:relP g (v :: ps) (L,wt)=relP g ps (setC L x.n (x.count - 1),if x.count=1 then wt ++ [x.n] else wt):=by
        show relP g ps (match g v with | some n=>lessP (L,wt) n | none=>(L,wt))=_
        rw [hg]
        dsimp only
        unfold lessP
        dsimp only
        rw [cntOf_at h.rise hx]
      rw [e]
      refine rel_hd (h2.congr fun q=>?_)
      by_cases c:q=x.n
      · rw [if_pos c,c,List.count_cons_self]
        lia
      · rw [if_neg c,List.count_cons_of_ne (Ne.symm c)]
theorem pop_hd {g:V->Option Nat} {hf:Nat->Nat} {L:List Bx} {n:Nat} {wt:List Nat} (h:Hd g L (n :: wt) hf):Hd g (popP g (L,n :: wt)).1 (popP g (L,n :: wt)).2 hf:=by
  obtain ⟨x,hx,en,ec,h2⟩:=h.pop
  subst en
  have e:popP g (L,x.n :: wt)=relP g x.parts (L.filter (fun y=>y.n != x.n),wt):=by
    show relP g (partsOf L x.n) (L.filter (fun y=>y.n != x.n),wt)=_
    rw [partsOf_at h.rise hx]
  rw [e]
  exact rel_hd h2
theorem work_end {g:V->Option Nat} {hf:Nat->Nat}:∀ {t:Nat} {L:List Bx} {wt:List Nat} {r:Nat} {s':S7},Hd g L wt hf->workP g t (L,wt)=(r,s')->r + s'.1.length=L.length/\(r < t->s'.2=[])
  | 0,L,wt,r,s',_,e=>by
    cases e
    exact ⟨Nat.zero_add _,fun h=>absurd h (Nat.lt_irrefl _)⟩
  | t + 1,L,[],r,s',_,e=>by
    cases e
    exact ⟨Nat.zero_add _,fun _=>rfl⟩
  | t + 1,L,n :: wt,r,s',h,e=>by
    have e':((workP g t (popP g (L,n :: wt))).1 + 1,(workP g t (popP g (L,n :: wt))).2)=(r,s'):=e
    injection e' with e1 e2
    obtain ⟨L1,w1,ep⟩:∃ L1 w1,popP g (L,n :: wt)=(L1,w1):=⟨_,_,rfl⟩
    have pl:=popP_len h
    have hd:=pop_hd h
    rw [ep] at e1 e2 pl hd
    obtain ⟨i1,i2⟩:=work_end (t:=t) (L:=L1) (wt:=w1) (r:=(workP g t (L1,w1)).1) (s':=(workP g t (L1,w1)).2) hd rfl
    rw [e2] at i1 i2
    exact ⟨by dsimp only at pl; lia,fun z=>i2 (by lia)⟩
theorem work_some {g:V->Option Nat} {L:List Bx} {wt:List Nat} {t:Nat} (h:wt≠[]) (ht:0 < t):0 < (workP g t (L,wt)).1:=by
  cases t with
  | zero=>exact absurd ht (Nat.lt_irrefl _)
  | succ t =>
    cases wt with
    | nil=>exact absurd rfl h
    | cons n wt=>exact Nat.succ_pos _
theorem work_none {g:V->Option Nat} {L:List Bx} {t:Nat}:workP g t (L,[])=(0,(L,[])):=by cases t <;> rfl
section
variable {P:Program} {w:World} {K:PySem.W.Frag} {mg:Str->Option Value} {base:Heap} {f:Addr} {fd:FuncData} {A:Adr} {G S U:Addr}
def spFirst0:Sp:=fun vs H Q _=>∃ hp:Addr,vs=[.ref hp]/\Q (.bl false) H
theorem ok_first0 (F:Fun K "let_first_go" "Heap.let_first_go" sFirst f fd):FnOk P w K mg base CX0 1 f fd ["self"] spFirst0:=by
  refine (F.by scFirst (fun vs H Q E h=>?_) (fun cdv A' outer s H vs Q E hr h=>?_))
  · obtain ⟨hp,rfl,_⟩:=h
    rfl
  obtain ⟨hp,rfl,q⟩:=h
  exact ⟨_,jss_one (js_ret je_bl),q⟩
def spWork8 (S:Addr) (A:Adr):Sp:=fun vs H Q _=>∃ (g:V->Option Nat) (hp d nl wl:Addr) (m:Nm) (L:List Bx) (wt:List Nat) (N:Nat) (hf:Nat->Nat) (many:Nat),vs=[.ref hp,.int (many:Int)]/\Hs S g A H hp d nl wl m L wt N/\Hd g L wt hf/\N < 800 /\
  ∀ H' m' L' wt' (r:Nat),KS nl wl d H H'->Hs S g A H' hp d nl wl m' L' wt' N->Eqm m' m->Hd g L' wt' hf->Sub L' L->r + L'.length=L.length->(r=many\/(r < many/\wt'=[]))->(wt=[]->L'=L/\wt'=[]/\r=0)->(wt≠[]->0 < many->0 < r)->Q (.int (r:Int)) H'
theorem ok_work8P (F:Fun K "work" "Heap.work" sWork f fd) (T:Txt K mg A G) (hS:A.cH≠S) (GF:Me P w K mg base CX0 1 A.cH "let_first_go" ["self"] spFirst0):FnOk P w K mg base CX0 5 f fd ["self","many"] (spWork8 S A):=by
  refine F.by scWork (fun vs H Q E h=>?_) (fun cdv A' outer s H vs Q E hr h=>?_)
  · obtain ⟨g,hp,d,nl,wl,m,L,wt,N,hf,many,rfl,_⟩:=h
    rfl
  obtain ⟨g,hp,d,nl,wl,m,L,wt,N,hf,many,rfl,Z,hd,hN,q⟩:=h
  refine ⟨_,jss_cons (js_set (i:=2) scWork.nd rfl (Or.inl rfl) je_int)
    (jss_cons (js_while PassesOwn.never (jW.pt (jw_and (jt_cmpR jo_lt (jv 2) (jv 1) (by with_unfolding_all rfl)) (jw_and1 (jt_val (je_me0 (jv 0) T.clH GF (hr.mono (by decide)) pass0))))) (jss_one (js_set (i:=2) scWork.nd rfl (Or.inl rfl) (je_op jo_add (jv 2) je_int))))
    (jss_one (js_ret (jv 2)))),?_⟩
  obtain ⟨dx,r,dr,h1,_⟩:=Z.hb.ex
  have ew:wt=[]:=by
    rcases Z.sl with ⟨_,e,_⟩ | ⟨z,_⟩
    · exact e
    · exact absurd z hS
  subst ew
  have fin:(0=many\/0 < many)->Q (.int ((0:Nat):Int)) H:=fun h=>q H m L [] 0 .refl Z .refl hd Sub.refl (Nat.zero_add _) (h.imp_right fun h=>⟨h,rfl⟩) (fun _=>⟨rfl,rfl,rfl⟩) (fun h=>absurd rfl h)
  refine ⟨fun _ σ' H'=>σ'=[some (.ref hp),some (.int (many:Int)),some (.int 0)]/\H'=H,⟨0,rfl,rfl⟩,?_⟩
  rintro i σ' H' ⟨rfl,rfl⟩
  refine (ex2q rfl (ex2q rfl (ex4q rfl rfl (ex2q rfl (ite2 (fun c=>?_) (fun c=>?_))))))
  · rw [decide_eq_true_eq] at c
    exact (ex2q rfl ⟨hp,dx,(ex2q rfl ⟨h1,Z.hb.xt.2 "let_first_go" (by decide) (by decide),hp,rfl,(ex2q rfl (iteF (ex2q rfl (fin (.inr (by lia))))))⟩)⟩)
  · rw [decide_eq_true_eq] at c
    exact iteF (ex2q rfl (fin (.inl (by lia))))
theorem ok_work8S (F:Fun K "work" "Heap.work" sWork f fd) (T:Txt K mg A G) (hS:A.cH=S) (GF:Me P w K mg base CX0 4 A.cH "let_first_go" ["self"] (spFirstS A)):FnOk P w K mg base CX0 5 f fd ["self","many"] (spWork8 S A):=by
  refine (ok_workS F T GF).imp fun vs H Q E ⟨g,hp,d,nl,wl,m,L,wt,N,hf,many,e,Z,hd,hN,q⟩=>?_
  rcases Z.sl with ⟨z,_⟩ | ⟨_,wn,ws,k,ex,gw,kw,rfl,hk⟩
  · exact absurd hS z
  refine ⟨g,hp,d,nl,wl,m,L,ws,k,hf,(many:Int),e,Z.slow wn ex gw kw,hd,by lia,fun H' r L' ws' k' ks Z' hd' hkl ew=>?_⟩
  rw [Int.toNat_natCast] at ew
  obtain ⟨e1,e2⟩:=work_end hd ew
  have hsub:=sub_workP (g:=g) (t:=many) (s:=(L,ws.drop k))
  rw [ew] at hsub
  have hr:r<=many:=by
    have:∀ (t:Nat) (s:S7),(workP g t s).1<=t:=fun t=>by
      induction t with
      | zero=>intro s; exact Nat.le_refl _
      | succ t ih =>
        intro s
        obtain ⟨L,wt⟩:=s
        cases wt with
        | nil=>exact Nat.zero_le _
        | cons n wt=>exact Nat.succ_le_succ (ih _)
    have:=this many (L,ws.drop k)
    rw [ew] at this
    exact this
  refine q H' _ L' _ r ks (Z'.hs hS (by lia)) ⟨rfl,rfl,rfl,rfl,rfl⟩ hd' hsub e1 ?_ (fun hw=>?_) (fun hw ht=>?_)
  · rcases Nat.lt_or_ge r many with c | c
    · exact .inr ⟨c,e2 c⟩
    · exact .inl (by lia)
  · rw [hw,work_none] at ew
    injection ew with f1 f2
    injection f2 with f2 f3
    exact ⟨f2.symm,f3.symm,f1.symm⟩
  · have:=work_some (g:=g) (L:=L) hw ht
    rw [ew] at this
    exact this
def spRoom8 (S U:Addr) (A:Adr):Sp:=fun vs H Q E=>∃ (g:V->Option Nat) (hp d nl wl:Addr) (m:Nm) (L:List Bx) (wt:List Nat) (N:Nat) (hf:Nat->Nat),vs=[.ref hp]/\Hs S g A H hp d nl wl m L wt N/\Hd g L wt hf/\N < 800/\KSrt m.kept/\m.kept.length < 1000 /\
  (wt=[]->m.kept=[]->∀ H' m',KS nl wl d H H'->Hs S g A H' hp d nl wl m' L [] N->Eqm m' m->E (.ref U) none H') /\
  (wt=[]->∀ k0 ks,m.kept=k0 :: ks->∀ H' m',KS nl wl d H H'->Hs S g A H' hp d nl wl m' L [] N->Eqm m' { m with kept:=ks }->Q .non H') /\
  (wt≠[]->∀ H' m' L' wt',KS nl wl d H H'->Hs S g A H' hp d nl wl m' L' wt' N->Eqm m' m->Hd g L' wt' hf->Sub L' L->L'.length + 1=L.length->Q .non H')
theorem ok_room8 (F:Fun K "make_room" "Heap.make_room" sRoom f fd) (T:Txt K mg A G) (mF:mg "Full"=some (.ref U)) (xF:XCl0 K U) (GW:Me P w K mg base CX0 5 A.cH "work" ["self","many"] (spWork8 S A)) (GD:Me P w K mg base CX0 2 A.cR "discard" ["self","number"] (spDisc A)):FnOk P w K mg base (CXf P w) 6 f fd ["self"] (spRoom8 S U A):=by
  refine F.byx scRoom (fun vs H Q E h=>?_) (fun cdv A' outer s H vs Q E hr h=>?_)
  · obtain ⟨g,hp,d,nl,wl,m,L,wt,N,hf,rfl,_⟩:=h
    rfl
  obtain ⟨g,hp,d,nl,wl,m,L,wt,N,hf,rfl,Z,hd,hN,hs,hl,q1,q2,q3⟩:=h
  have r2:Room 2 _:=hr.mono (by decide)
  refine ⟨_,jss_cons (js_if (jt_cmpR jo_eq (je_me (jv 0) T.clH GW.upx hr passx (ja_c je_int ja_nil)) je_int (by with_unfolding_all rfl)) (jss_one js_retN) jss_nil)
    (jss_cons (js_if (jt_cmpR jo_eq (je_fnB jc_len_seq rfl T.len PySem.boot_len (ja_c (je_fld (je_fld (jv 0))) ja_nil)) je_int (by with_unfolding_all rfl)) (jss_one (js_raise0 xF hr rfl mF throwx)) jss_nil)
    (jss_one (js_expr (je_me (je_fld (jv 0)) T.clR GD.upx r2 passx (ja_c (je_ix jx_list (je_fld (je_fld (jv 0))) je_int (fun _ _=>rfl)) ja_nil))))),?_⟩
  obtain ⟨dx0,r0,dr0,h0,_⟩:=Z.hb.ex
  refine (ex2q rfl ⟨hp,dx0,(ex2q rfl ⟨h0,Z.hb.xt.2 _ (by decide) (by decide),g,hp,d,nl,wl,m,L,wt,N,hf,1,rfl,Z,hd,hN,fun H1 m1 L1 wt1 rr ks Z1 em hd1 hsub hrl hre hw0 hw1=>⟨rfl,(ex2q rfl ?_)⟩⟩)⟩)
  by_cases c:wt=[]
  · obtain ⟨eL,ew,er⟩:=hw0 c
    subst eL
    subst ew
    subst er
    refine iteF ?_
    obtain ⟨dx,r,dr,h1,h2,h3,_⟩:=Z1.hb.ex
    have no:=Z1.hb.xt.2
    cases ek:m.kept with
    | nil =>
      rw [em.kept,ek] at h3
      exact (ex2q rfl ⟨hp,_,_,_,_,rfl,h1,T.clH,T.nKept,rfl,r,_,_,_,_,rfl,h2,T.clR,T.nNumbers,rfl,nl,(ex2q rfl ⟨.inl (SqL.of h3),rfl,(ex2q rfl (iteT (q1 c ek H1 m1 ks Z1 em)))⟩)⟩)
    | cons k0 ks0 =>
      have ek1:m1.kept=k0 :: ks0:=by rw [em.kept,ek]
      refine (ex2q rfl ⟨hp,_,_,_,_,rfl,h1,T.clH,T.nKept,rfl,r,_,_,_,_,rfl,h2,T.clR,T.nNumbers,rfl,nl,(ex2q rfl ⟨.inl (SqL.of h3),rfl,(ex2q rfl (ite2 (fun c=>?_) (fun _=>?_)))⟩)⟩)
      · exfalso
        rw [ek1] at c
        simp at c
        lia
      have hs1:KSrt m1.kept:=by rw [em.kept]; exact hs
      have ef:(m1.kept.filter fun k=>k != k0)=ks0:=by
        have:=kErase (j:=0) hs1 (by rw [ek1]; rfl)
        rw [<- this,ek1]
        rfl
      refine (ex2q rfl ⟨hp,_,_,_,_,rfl,h1,T.clH,T.nKept,rfl,r,_,_,rfl,h2,rfl,(ex2q rfl ⟨hp,_,_,_,_,rfl,h1,T.clH,T.nKept,rfl,r,_,_,_,_,rfl,h2,T.clR,T.nNumbers,rfl,nl,_,_,_,rfl,rfl,SqL.of h3,atI_nat (j:=0) (by rw [ek1]; rfl),r,dr,nl,k0,m1.kept,rfl,h2,h3,hs1,by rw [em.kept]; exact hl,.inl ⟨by rw [ek1]; exact List.mem_cons_self,?_⟩⟩)⟩)
      rw [ef]
      refine q2 c k0 ks0 ek _ { m1 with kept:=ks0 } (ks.trans (.kl (KL.refl.num h3))) (Z1.kl (KL.refl.num h3) (Z1.hb.keep ks0) rfl Sub.refl (Nat.le_refl _)) ⟨em.sz,em.fresh,em.anew,em.peak,rfl⟩
  · have hr0:=hw1 c (by decide)
    have er:rr=1:=by
      rcases hre with e | ⟨e,_⟩
      · exact e
      · lia
    subst er
    exact iteT (q3 c H1 m1 L1 wt1 ks Z1 em hd1 hsub (by lia))
def Ful8 (m:Nm) (L:List Bx) (wt:List Nat) (kv:V):Prop:=FreK m kv/\wt=[]/\m.kept=[]/\m.sz<=(L.length:Int)
structure Pl8 (g:V->Option Nat) (hf:Nat->Nat) (m:Nm) (L:List Bx) (kv:V) (i:Nat) (m2:Nm) (L2:List Bx) (wt2:List Nat):Prop where
  hd:Hd g L2 wt2 hf
  sub:Sub L2 L
  room:(L2.length:Int) + (m2.kept.length:Int) < m.sz
  srt:KSrt m2.kept
  out:KOut m2 L2
  ni:∀ y∈L2,y.n≠i
  nk:(i:Int) ∉ m2.kept
  lt:i < m2.fresh
  sz:m2.sz=m.sz
  peak:m2.peak=m.peak
  kin:∀ k∈m2.kept,k∈m.kept
  kl:m2.kept.length<=m.kept.length
  ll:L2.length<=L.length
  way:(kv=.int (i:Int)/\(i:Int)∈m.kept/\m2.fresh=m.fresh)\/(FreK m kv/\i=m.fresh/\m2.fresh=m.fresh + 1)
def spPlace8 (S U:Addr) (A:Adr):Sp:=fun vs H Q E=>∃ (g:V->Option Nat) (hp d nl wl:Addr) (m:Nm) (L:List Bx) (wt:List Nat) (N:Nat) (hf:Nat->Nat) (kv:V),vs=[.ref hp,kv]/\(kv=.non\/∃ j:Nat,kv=.int (j:Int))/\Hs S g A H hp d nl wl m L wt N/\Hd g L wt hf/\N < 800/\KSrt m.kept/\m.kept.length < 1000/\KOut m L/\(L.length:Int) + (m.kept.length:Int)<=m.sz /\
  (Ful8 m L wt kv->∀ H' m',KS nl wl d H H'->Hs S g A H' hp d nl wl m' L [] N->Eqm m' m->E (.ref U) none H') /\
  (¬ Ful8 m L wt kv->∀ H' i m2 L2 wt2,KS nl wl d H H'->Hs S g A H' hp d nl wl m2 L2 wt2 N->Pl8 g hf m L kv i m2 L2 wt2->Q (.int (i:Int)) H')
theorem KOut.sub {m m':Nm} {L L':List Bx} (h:KOut m L) (s:Sub L' L) (hk:∀ k∈m'.kept,k∈m.kept) (hf:m.fresh<=m'.fresh):KOut m' L':=fun k hk'=>by
  obtain ⟨a,b,c⟩:=h k (hk k hk')
  refine ⟨fun y hy=>?_,b,by lia⟩
  obtain ⟨x,hx,e,_⟩:=s y hy
  rw [<- e]
  exact a x hx
theorem ok_place8 (F:Fun K "place_for_one" "Heap.place_for_one" sPlace f fd) (T:Txt K mg A G) (GD:Me P w K mg base CX0 2 A.cR "discard" ["self","number"] (spDisc A)) (GR:Me P w K mg base (CXf P w) 6 A.cH "make_room" ["self"] (spRoom8 S U A)):FnOk P w K mg base (CXf P w) 7 f fd ["self","kept"] (spPlace8 S U A):=by
  refine F.byx scPlace (fun vs H Q E h=>?_) (fun cdv A' outer s H vs Q E hr h=>?_)
  · obtain ⟨g,hp,d,nl,wl,m,L,wt,N,hf,kv,rfl,_⟩:=h
    rfl
  obtain ⟨g,hp,d,nl,wl,m,L,wt,N,hf,kv,rfl,hkv,Z,hd,hN,hs,hl,hko,hro,qF,qQ⟩:=h
  have r2:Room 2 _:=hr.mono (by decide)
  refine ⟨_,
    (jss_cons (js_if (jW.pt (jw_and (jt_notN (jv 1)) (jw_and1 (jt_val (je_me (je_fld (jv 0)) T.clR GD.upx r2 passx (ja_c (jv 1) ja_nil)))))) 
      (jss_cons (js_fld (jv 0) (je_op jo_add (je_fld (jv 0)) je_int))
      (jss_one (js_ret (jv 1))))  jss_nil)
    (jss_cons (js_if (jt_cmpR jo_ge (je_op jo_add (je_fnB jc_lenD rfl T.len PySem.boot_len (ja_c (je_fld (jv 0)) ja_nil)) (je_fnB jc_len_seq rfl T.len PySem.boot_len (ja_c (je_fld (je_fld (jv 0))) ja_nil))) (je_fld (jv 0)) (by with_unfolding_all rfl)) 
      (jss_one (js_expr (je_me0 (jv 0) T.clH GR hr passx)))  jss_nil)
    (jss_cons (js_fld (jv 0) (je_op jo_add (je_fld (jv 0)) je_int))
    (jss_one (js_ret (je_op jo_sub (je_fld (jv 0)) je_int)))))),?_⟩
  have ha:=Z.hb
  obtain ⟨dx,r,dr,h1,h2,h3,h4⟩:=ha.ex
  have no:=ha.xt.2
  have kz:=kvB_len L
  have xl:=ha.xt.1
  by_cases hK:∃ i:Nat,kv=.int (i:Int)/\(i:Int)∈m.kept
  · obtain ⟨i,rfl,hi⟩:=hK
    refine (ex2q rfl ?_)
    refine (ex2q rfl (iteT ?_))
    refine (ex2q rfl ⟨hp,_,_,_,_,rfl,h1,T.clH,T.nKept,rfl,r,_,_,rfl,h2,rfl,(ex2q rfl ⟨r,dr,nl,_,m.kept,rfl,h2,h3,hs,hl,.inl ⟨hi,(ex2q rfl (iteT ?_))⟩⟩)⟩)
    have B1:=ha.keep (m.kept.filter fun k=>k != (i:Int))
    have k1:=(KL.refl (n:=nl) (d:=d) (H:=H)).num (ys:=(m.kept.filter fun k=>k != (i:Int)).map V.int) h3
    obtain ⟨H1,e1⟩:∃ H1,H1=upd H nl (.lst ((m.kept.filter fun k=>k != (i:Int)).map V.int)):=⟨_,rfl⟩
    rw [<- e1] at B1 k1 ⊢
    have g1:H1 hp=some (WH A dx m.sz m.fresh m.anew m.peak d r m.ext):=by rw [e1,upd_ne (ne_of h1 h3 (by intro z; cases z))]; exact h1
    refine (ex2q rfl ⟨hp,_,_,_,_,rfl,g1,T.clH,T.nAnew,rfl,(ex4q rfl rfl (ex2q rfl ⟨hp,_,_,_,rfl,g1,T.clH,T.nAnew,by simp only [List.length_cons]; lia,?_⟩))⟩)
    have B2:=B1.nums (m':={ m with kept:=m.kept.filter (fun k=>k != (i:Int)),anew:=m.anew + 1 }) g1 B1.xt (Nat.le_refl _) rfl T.neR T.neB
    have nF:¬ Ful8 m L wt (.int (i:Int)):=fun z=>by
      rw [z.2.2.1] at hi
      cases hi
    have hin:∀ k∈(m.kept.filter fun k=>k != (i:Int)),k∈m.kept:=fun k hk=>(List.mem_filter.mp hk).1
    have hlt:(m.kept.filter fun k=>k != (i:Int)).length < m.kept.length:=by
      refine Nat.lt_of_le_of_ne (List.length_filter_le ..) fun e=>?_
      have:=List.filter_eq_self.mp (List.length_filter_eq_length_iff.mp e |> fun h=>List.filter_eq_self.mpr h) _ hi
      simp at this
    obtain ⟨a1,a2,a3⟩:=hko _ hi
    refine (ex2q rfl (qQ nF _ i _ L wt (.kl (k1.ins g1)) (Z.kl (k1.ins g1) B2 rfl Sub.refl (Nat.le_refl _)) ⟨hd,Sub.refl,?_,List.Pairwise.filter _ hs,hko.sub Sub.refl hin (Nat.le_refl _),fun y hy z=>a1 y hy (by rw [z]),?_,?_,rfl,rfl,hin,Nat.le_of_lt hlt,Nat.le_refl _,.inl ⟨rfl,hi,rfl⟩⟩))
    · show (L.length:Int) + ((m.kept.filter fun k=>k != (i:Int)).length:Int) < m.sz
      lia
    · show (i:Int) ∉ (m.kept.filter fun k=>k != (i:Int))
      intro z
      have:=(List.mem_filter.mp z).2
      simp at this
    · show i < m.fresh
      lia
  · have hF:FreK m kv:=by
      rcases hkv with e | ⟨j,e⟩
      · exact .inl e
      · exact .inr ⟨j,e,fun z=>hK ⟨j,e,z⟩⟩
    have mfr:∀ {L2:List Bx},Sub L2 L->∀ y∈L2,y.n≠m.fresh:=fun s y hy=>by
      obtain ⟨x,hx,e,_⟩:=s y hy
      have:=ha.less x hx
      lia
    have nkf:∀ k∈m.kept,k≠(m.fresh:Int):=fun k hk=>by
      obtain ⟨_,_,c⟩:=hko k hk
      lia
    have bump:∀ {H1:Hp} {L1:List Bx} {wt1:List Nat} {m1:Nm},KS nl wl d H H1->Hs S g A H1 hp d nl wl m1 L1 wt1 N->Hd g L1 wt1 hf->Sub L1 L->L1.length<=L.length->m1.fresh=m.fresh->m1.sz=m.sz->m1.peak=m.peak->KSrt m1.kept->(∀ k∈m1.kept,k∈m.kept)->m1.kept.length<=m.kept.length->(L1.length:Int) + (m1.kept.length:Int) < m.sz->¬ Ful8 m L wt kv->∃ dx r,H1 hp=some (WH A dx m1.sz m1.fresh m1.anew m1.peak d r m1.ext)/\m1.ext.length<=2/\Q (.int (m.fresh:Int)) (upd H1 hp (WH A dx m1.sz ((m1.fresh:Nat) + 1) m1.anew m1.peak d r m1.ext)):=fun {H1 L1 wt1 m1} k1 Z1 hd1 s1 l1 ef es ep ks ki kl ro nF=>by
      obtain ⟨dx1,r1,dr1,g1,_⟩:=Z1.hb.ex
      have B2:=Z1.hb.nums (m':={ m1 with fresh:=m.fresh + 1 }) g1 Z1.hb.xt (by rw [ef]; exact Nat.le_succ _) rfl T.neR T.neB
      refine ⟨dx1,r1,g1,Z1.hb.xt.1,qQ nF _ m.fresh { m1 with fresh:=m.fresh + 1 } L1 wt1 (k1.trans (.kl (KL.refl.ins g1))) ?_ ⟨hd1,s1,ro,ks,hko.sub s1 ki (Nat.le_succ _),mfr s1,fun z=>nkf _ (ki _ z) rfl,Nat.lt_succ_self _,es,ep,ki,kl,l1,.inr ⟨hF,rfl,rfl⟩⟩⟩
      rw [show ((m1.fresh:Nat):Int) + 1=(({ m1 with fresh:=m.fresh + 1 }:Nm).fresh:Nat) by rw [ef]; rfl]
      exact Z1.kl (KL.refl.ins g1) B2 rfl Sub.refl (Nat.le_refl _)
    refine ifs_or2 ?_ (fun K kf=>?_)
    · refine (ex2q rfl ⟨hp,_,_,_,_,rfl,h1,T.clH,T.nBy,rfl,d,(ex2q rfl ⟨h4,(ex2q rfl ⟨hp,_,_,_,_,rfl,h1,T.clH,T.nKept,rfl,r,_,_,_,_,rfl,h2,T.clR,T.nNumbers,rfl,nl,(ex2q rfl ⟨.inl (SqL.of h3),(ex4q rfl rfl (ex2q rfl ⟨hp,_,_,_,_,rfl,h1,T.clH,T.nSize,rfl,(ex4q rfl rfl (ex2q rfl ?_))⟩))⟩)⟩)⟩)⟩)
      refine ite2 (fun c=>?_) (fun c=>?_)
      · have hge:m.sz<=(L.length:Int) + (m.kept.length:Int):=by
          rw [decide_eq_true_eq,kz,List.length_map] at c
          exact c
        refine (ex2q rfl ⟨hp,dx,(ex2q rfl ⟨h1,no "make_room" (by decide) (by decide),g,hp,d,nl,wl,m,L,wt,N,hf,rfl,Z,hd,hN,hs,hl,fun e1 e2 H1 m1 ks Z1 em=>qF ⟨hF,e1,e2,by rw [e2] at hge; exact Int.le_trans hge (by show (L.length:Int) + 0<=_; lia)⟩ H1 m1 ks Z1 em,fun e1 k0 ks0 ek H1 m1 ks Z1 em=>?_,fun e1 H1 m1 L1 wt1 ks Z1 em hd1 s1 l1=>?_⟩)⟩)
        · have nF:¬ Ful8 m L wt kv:=fun z=>by
            have:=z.2.2.1
            rw [ek] at this
            cases this
          subst e1
          have ek1:m1.kept=ks0:=em.kept
          have hks:KSrt ks0:=by
            rw [ek] at hs
            exact (List.pairwise_cons.mp hs).2
          have hkl:m.kept.length=ks0.length + 1:=by rw [ek]; rfl
          obtain ⟨dx1,r1,g1,hx1,q1⟩:=bump ks Z1 hd Sub.refl (Nat.le_refl _) em.fresh em.sz em.peak (by rw [ek1]; exact hks) (fun k hk=>by rw [ek1] at hk; rw [ek]; exact List.mem_cons_of_mem _ hk) (by rw [ek1]; lia) (by rw [ek1]; lia) nF
          have ef:m1.fresh=m.fresh:=em.fresh
          refine (ex2q rfl ⟨hp,_,_,_,_,rfl,g1,T.clH,T.nFresh,rfl,(ex4q rfl rfl (ex2q rfl ⟨hp,_,_,_,rfl,g1,T.clH,T.nFresh,by simp only [List.length_cons]; lia,?_⟩))⟩)
          refine (ex2q rfl ⟨hp,_,_,_,_,rfl,upd_same,T.clH,T.nFresh,rfl,(ex4q rfl rfl ?_)⟩)
          show Q (.int ((m1.fresh:Int) + 1 - 1)) _
          rw [show ((m1.fresh:Int) + 1 - 1)=m.fresh by rw [ef]; lia]
          exact q1
        · have nF:¬ Ful8 m L wt kv:=fun z=>e1 z.2.1
          have ek1:m1.kept=m.kept:=em.kept
          obtain ⟨dx1,r1,g1,hx1,q1⟩:=bump ks Z1 hd1 s1 (by lia) em.fresh em.sz em.peak (by rw [ek1]; exact hs) (fun k hk=>by rw [ek1] at hk; exact hk) (by rw [ek1]; lia) (by rw [ek1]; lia) nF
          have ef:m1.fresh=m.fresh:=em.fresh
          refine (ex2q rfl ⟨hp,_,_,_,_,rfl,g1,T.clH,T.nFresh,rfl,(ex4q rfl rfl (ex2q rfl ⟨hp,_,_,_,rfl,g1,T.clH,T.nFresh,by simp only [List.length_cons]; lia,?_⟩))⟩)
          refine (ex2q rfl ⟨hp,_,_,_,_,rfl,upd_same,T.clH,T.nFresh,rfl,(ex4q rfl rfl ?_)⟩)
          show Q (.int ((m1.fresh:Int) + 1 - 1)) _
          rw [show ((m1.fresh:Int) + 1 - 1)=m.fresh by rw [ef]; lia]
          exact q1
      · have hlt:(L.length:Int) + (m.kept.length:Int) < m.sz:=by
          rw [decide_eq_true_eq,kz,List.length_map] at c
          lia
        have nF:¬ Ful8 m L wt kv:=fun z=>by
          have:=z.2.2.2
          lia
        obtain ⟨dx1,r1,g1,hx1,q1⟩:=bump .refl Z hd Sub.refl (Nat.le_refl _) rfl rfl rfl hs (fun k hk=>hk) (Nat.le_refl _) hlt nF
        refine (ex2q rfl ⟨hp,_,_,_,_,rfl,g1,T.clH,T.nFresh,rfl,(ex4q rfl rfl (ex2q rfl ⟨hp,_,_,_,rfl,g1,T.clH,T.nFresh,by simp only [List.length_cons]; lia,?_⟩))⟩)
        refine (ex2q rfl ⟨hp,_,_,_,_,rfl,upd_same,T.clH,T.nFresh,rfl,(ex4q rfl rfl ?_)⟩)
        show Q (.int ((m.fresh:Int) + 1 - 1)) _
        rw [show ((m.fresh:Int) + 1 - 1)=m.fresh by lia]
        exact q1
    · rcases hF with rfl | ⟨j,rfl,hj⟩
      · exact (ex2q rfl (ex2q rfl (iteF kf)))
      · exact (ex2q rfl (ex2q rfl (iteT (ex2q rfl ⟨hp,_,_,_,_,rfl,h1,T.clH,T.nKept,rfl,r,_,_,rfl,h2,rfl,(ex2q rfl ⟨r,dr,nl,j,m.kept,rfl,h2,h3,hs,hl,.inr ⟨hj,(ex2q rfl (kf))⟩⟩)⟩))))
end
end Hv
set_option simprocs false
namespace Hv
open PySem L2 K11 HM
def extG (g:V->Option Nat) (p:Addr) (n:Nat):V->Option Nat:=fun v=>if v=.ref p then some n else g v
theorem extG_self {g:V->Option Nat} {p:Addr} {n:Nat}:extG g p n (.ref p)=some n:=if_pos rfl
theorem extG_ne {g:V->Option Nat} {p:Addr} {n:Nat} {v:V} (h:v≠.ref p):extG g p n v=g v:=if_neg h
theorem extG_gv {g:V->Option Nat} {p:Addr} {n:Nat} {v:V} {H H':Hp} (h:Gv g H v) (ht:∀ a xs,H a=some (.tup xs)->H' a=some (.tup xs)) (hp:H' p=some (BX n)):extG g p n v=g v:=by
  by_cases c:v=.ref p
  · rcases h with ⟨f,_⟩ | ⟨a,j,e,q,r⟩
    · rcases f with ⟨z,rfl⟩ | ⟨z,rfl⟩ <;> cases c
    · rw [c] at e
      injection e with e
      subst e
      rw [ht _ _ q] at hp
      injection hp with hp
      injection hp with hp
      injection hp with _ hp
      injection hp with hp _
      injection hp with hp
      rw [r,c,extG_self]
      congr 1
      lia
  · exact extG_ne c
theorem Gv.ext {g g':V->Option Nat} {v:V} {H H':Hp} (h:Gv g H v) (ht:∀ a xs,H a=some (.tup xs)->H' a=some (.tup xs)) (e:g' v=g v):Gv g' H' v:=by
  rcases h with ⟨f,z⟩ | ⟨a,j,ea,q,r⟩
  · exact .inl ⟨f,e.trans z⟩
  · exact .inr ⟨a,j,ea,ht _ _ q,e.trans r⟩
section
variable {P:Program} {w:World} {K:PySem.W.Frag} {mg:Str->Option Value} {base:Heap} {f:Addr} {fd:FuncData} {A:Adr} {G S U:Addr}
def spMake8 (S U:Addr) (A:Adr):Sp:=fun vs H Q E=>∃ (g:V->Option Nat) (hp d nl wl pl:Addr) (m:Nm) (L:List Bx) (wt:List Nat) (N:Nat) (hf:Nat->Nat) (tag:Str) (ps:List V) (kv:V),vs=[.ref hp,.str tag,.ref pl,kv]/\(kv=.non\/∃ j:Nat,kv=.int (j:Int))/\Hs S g A H hp d nl wl m L wt N/\Hd g L wt hf/\N < 800/\KSrt m.kept/\m.kept.length < 1000/\KOut m L/\(L.length:Int) + (m.kept.length:Int)<=m.sz/\H pl=some (.lst ps)/\pl≠nl/\pl≠wl/\(∀ v∈ps,Gv g H v)/\(∀ q,(ps.filterMap g).count q<=hf q) /\
  (ps=[]->Q (.str tag) H) /\
  (ps≠[]->Ful8 m L wt kv->∀ H' m',KS nl wl d H H'->Hs S g A H' hp d nl wl m' L [] N->Eqm m' m->E (.ref U) none H') /\
  (ps≠[]->¬ Ful8 m L wt kv->∀ H' g' (p b pl':Addr) i m2 L2 wt2,KS nl wl d H H'->(∀ a xs,H a=some (.lst xs)->pl'≠a)->Hs S g' A H' hp d nl wl (Nm.pk m2 L2.length) (L2 ++ [⟨i,tag,ps,1,b,pl'⟩]) wt2 (N + 1)->Pl8 g hf m L kv i m2 L2 wt2->(∀ v,Gv g H v->g' v=g v)->(∀ v,Flat v->g' v=g v)->g' (.ref p)=some i->Hd g' (L2 ++ [⟨i,tag,ps,1,b,pl'⟩]) wt2 (fun q=>if q=i then 1 else hf q - (ps.filterMap g).count q)->H' p=some (BX i)->Q (.ref p) H')
theorem ok_make8 {D:Addr} (F:FunM K "make" "Heap.make" sMake D f fd) (T:Txt K mg A G) (GP:Me P w K mg base (CXf P w) 7 A.cH "place_for_one" ["self","kept"] (spPlace8 S U A)) (GB:Ma P w K mg base CX0 1 "Box" A.cB ["self","tag","parts"] (spBox A)):FnOk P w K mg base (CXf P w) 8 f fd ["self","tag","parts","kept"] (spMake8 S U A):=by
  refine F.byx scMake (fun vs H Q E h=>?_) (fun cdv A' outer s H vs Q E hr h=>?_)
  · obtain ⟨g,hp,d,nl,wl,pl,m,L,wt,N,hf,tag,ps,kv,rfl,_⟩:=h
    rfl
  obtain ⟨g,hp,d,nl,wl,pl,m,L,wt,N,hf,tag,ps,kv,rfl,hkv,Z,hd,hN,hks,hkl,hko,hro,hl,hpn,hpw,hgv,hcn,q0,qF,q1⟩:=h
  have r2:Room 2 _:=hr.mono (by decide)
  refine ⟨_,jss_cons (js_if (jt_cmpR jo_eq (je_fnB jc_len_seq rfl T.len PySem.boot_len (ja_c (jv 2) ja_nil)) je_int (by with_unfolding_all rfl)) (jss_one (js_ret (jv 1))) jss_nil)
    (jss_cons (js_set (i:=4) scMake.nd rfl (Or.inl rfl) (je_me (jv 0) T.clH GP hr passx (ja_c (jv 3) ja_nil)))
    (jss_cons (js_dput hr (je_fld (jv 0)) (jv 4) (je_ma GB r2 rfl pass0 (ja_c (jv 1) (ja_c (jv 2) ja_nil))))
    (jss_cons (js_fld (jv 0) (je_fnB (jc_max2 rfl) rfl T.max PyProof.Rows.boot_max (ja_c (je_fld (jv 0)) (ja_c (je_fnB jc_lenD rfl T.len PySem.boot_len (ja_c (je_fld (jv 0)) ja_nil)) ja_nil))))
    (jss_one (js_ret (je_tup (ja_c je_str (ja_c (jv 4) ja_nil)))))))),?_⟩
  refine (ex2q rfl ⟨pl,ps,rfl,.inl (SqL.of hl),rfl,(ex2q rfl ?_)⟩)
  refine ite2 (fun c=>?_) (fun c=>?_)
  · refine (ex2q rfl (q0 ?_))
    rw [decide_eq_true_eq] at c
    injection c with c
    exact List.eq_nil_of_length_eq_zero (by lia)
  have hne:ps≠[]:=fun e=>c (by rw [e]; rfl)
  obtain ⟨dx0,r0,dr0,h1,_⟩:=Z.hb.ex
  refine (ex2q rfl ⟨hp,dx0,(ex2q rfl ⟨h1,Z.hb.xt.2 _ (by decide) (by decide),(ex2q rfl ⟨g,hp,d,nl,wl,m,L,wt,N,hf,kv,rfl,hkv,Z,hd,hN,hks,hkl,hko,hro,qF hne,fun nF H1 i m1 L1 wt1 k1 Z1 pl8=>?_⟩)⟩)⟩)
  have q:=q1 hne nF
  have hne1:=pl8.ni
  have hi2:=pl8.lt
  have el1:=pl8.ll
  have B1:=Z1.hb
  have hLN:=Z.ln
  obtain ⟨dx,r,dr,g1,g2,g3,g4⟩:=B1.ex
  have n1:hp≠d:=ne_of g1 g4 (by intro z; cases z)
  have gl:H1 pl=some (.lst ps):=k1.1 _ _ hpn hpw hl
  refine (ex2q rfl (ex2q rfl (fun b db hb hdb hne=>⟨b,db,pl,tag,ps,rfl,upd_same,?_,fun H2 pl' k2 gN gB1 gB2=>⟨rfl,?_⟩⟩)))
  · rw [upd_ne (ne_of_none gl hb),upd_ne (ne_of_none gl hdb)]
    exact gl
  have k12:Same H1 H2:=fun a o e=>k2 a o (fun z=>by rw [z,hb] at e; cases e) (by rw [upd_ne (ne_of_none e hb),upd_ne (ne_of_none e hdb)]; exact e)
  have kz:=kvB_len L1
  refine (ex2q rfl ⟨hp,_,_,_,_,rfl,k12 _ _ g1,T.clH,T.nBy,rfl,(ex2q rfl ⟨d,(ex2q rfl ⟨DPut.k (k:=.inl (i:Nat)) (k12 _ _ g4) (by have:=line0; lia),?_⟩)⟩)⟩)
  obtain ⟨x,ex⟩:∃ x:Bx,x=⟨i,tag,ps,1,b,pl'⟩:=⟨_,rfl⟩
  have ek:putK (kvB L1) (.inl ((i:Nat):Int)) (.ref b)=kvB (L1 ++ [x]):=by
    have z:=kvB_put (l:=L1) (x:=x) (fun y hy=>by rw [ex]; exact hne1 y hy)
    rw [ex] at z ⊢
    exact z
  rw [ek]
  obtain ⟨H3,e3⟩:∃ H3,H3=upd H2 d (.dK (kvB (L1 ++ [x]))):=⟨_,rfl⟩
  rw [<- e3]
  have k23:∀ a o,a≠d->H2 a=some o->H3 a=some o:=fun a o n e=>by rw [e3,upd_ne n]; exact e
  have g3':=k23 _ _ n1 (k12 _ _ g1)
  have gd3:H3 d=some (.dK (kvB (L1 ++ [x]))):=by rw [e3]; exact upd_same
  have hxt:m1.ext.length<=2:=B1.xt.1
  refine (ex2q rfl ⟨hp,_,_,_,_,rfl,g3',T.clH,T.nPeak,rfl,(ex2q rfl ⟨hp,_,_,_,_,rfl,g3',T.clH,T.nBy,rfl,d,(ex2q rfl ⟨gd3,_,_,rfl,(ex2q rfl ⟨hp,_,_,_,rfl,g3',T.clH,T.nPeak,by simp only [List.length_cons]; lia,?_⟩)⟩)⟩)⟩)
  have em:(kvB (L1 ++ [x])).length=L1.length + 1:=by rw [kvB_len,List.length_append]; rfl
  rw [em]
  obtain ⟨H4,e4⟩:∃ H4,H4=upd H3 hp (WH A dx m1.sz ((Nm.pk m1 L1.length).fresh:Nat) m1.anew (Nm.pk m1 L1.length).peak d r m1.ext):=⟨_,rfl⟩
  have e4':upd H3 hp (HO.ins A.cH dx (putF "peak" (V.int (if ((L1.length + 1:Nat):Int) > m1.peak then ((L1.length + 1:Nat):Int) else m1.peak)) (("size",.int m1.sz) :: ("fresh",.int (m1.fresh:Nat)) :: ("anew",.int m1.anew) :: ("peak",.int m1.peak) :: ("by_number",.ref d) :: ("kept_places",.ref r) :: m1.ext)))=H4:=by
    rw [e4]
    rfl
  dsimp only
  rw [e4']
  refine (ex2q rfl ⟨by show 2<=sizeLine; decide,fun p hp4=>?_⟩)
  have k34:∀ a o,a≠hp->H3 a=some o->H4 a=some o:=fun a o n e=>by rw [e4,upd_ne n]; exact e
  have kA:∀ a o,a≠hp->a≠d->H2 a=some o->upd H4 p (BX i) a=some o:=fun a o n1 n2 e=>old hp4 (k34 _ _ n1 (k23 _ _ n2 e))
  have kB:∀ a o,a≠hp->a≠d->H1 a=some o->upd H4 p (BX i) a=some o:=fun a o n1 n2 e=>kA a o n1 n2 (k12 _ _ e)
  have gN1:H1 pl'=none:=by
    have c1:pl'≠b:=fun z=>by rw [z,upd_same] at gN; cases gN
    have c2:pl'≠db:=fun z=>by rw [upd_ne c1,z,upd_same] at gN; cases gN
    rw [upd_ne c1,upd_ne c2] at gN
    exact gN
  have nbh:b≠hp:=fun z=>by rw [z,g1] at hb; cases hb
  have nbd:b≠d:=fun z=>by rw [z,g4] at hb; cases hb
  have npl:pl'≠hp/\pl'≠d:=⟨ne_of gB2 (k12 _ _ g1) (by intro z; cases z),ne_of gB2 (k12 _ _ g4) (by intro z; cases z)⟩
  have fin:HpB A (upd H4 p (BX i)) hp d nl (Nm.pk m1 L1.length) (L1 ++ [x]):=by
    refine B1.add kB (fun dx' r' q=>?_) (old hp4 (k34 _ _ (Ne.symm n1) gd3)) ?_ (fun y hy=>by rw [ex]; exact hne1 y hy) (Nat.le_refl _) (by rw [ex]; exact hi2) rfl rfl (by rw [ex]; exact gN1) (by rw [ex]; exact hb) T.neR T.neB
    · rw [g1] at q
      injection q with q
      injection q with _ q1 q2
      subst q1
      injection q2 with _ q2
      injection q2 with _ q2
      injection q2 with _ q2
      injection q2 with _ q2
      injection q2 with _ q2
      injection q2 with q2 _
      injection q2 with _ q2
      injection q2 with q2
      subst q2
      exact old hp4 (by rw [e4]; exact upd_same)
    · rw [ex]
      exact ⟨db,kA _ _ nbh nbd gB1,kA _ _ npl.1 npl.2 gB2⟩
  have k14:KL nl d H1 (upd H4 p (BX i)):=⟨fun a xs _ e=>kB _ _ (ne_of e g1 (by intro z; cases z)) (ne_of e g4 (by intro z; cases z)) e,fun a xs e=>kB _ _ (ne_of e g1 (by intro z; cases z)) (ne_of e g4 (by intro z; cases z)) e,fun a o u e=>kB _ _ (ne_of e g1 (by intro z; cases z)) (ne_of e g4 (by intro z; cases z)) e,fun a xs na e=>kB _ _ (ne_of e g1 (by intro z; cases z)) na e⟩
  have npw:pl'≠wl:=by
    rcases Z1.sl with ⟨_,_,rfl⟩ | ⟨_,_,ws,k,_,gw,_⟩
    · exact fun z=>by rw [z,g3] at gN1; cases gN1
    · exact fun z=>by rw [z,gw] at gN1; cases gN1
  have gP:upd H4 p (BX i) p=some (BX i):=upd_same
  obtain ⟨H5,e5⟩:∃ H5,H5=upd H4 p (BX i):=⟨_,rfl⟩
  rw [<- e5] at fin k14 gP ⊢
  have hg1:∀ v,Gv g H1 v->extG g p i v=g v:=fun v hv=>extG_gv hv k14.2 gP
  have hg0:∀ v,Gv g H v->extG g p i v=g v:=fun v hv=>hg1 v (hv.ks k1)
  have prs1:∀ y∈L1 ++ [x],∀ v∈y.parts,Gv g H1 v:=fun y hy v hv=>by
    rcases List.mem_append.mp hy with c | c
    · exact Z1.prs y c v hv
    · rw [List.mem_singleton.mp c,ex] at hv
      exact (hgv v hv).ks k1
  have Z5:Hs S (extG g p i) A H5 hp d nl wl (Nm.pk m1 L1.length) (L1 ++ [x]) wt1 (N + 1):=by
    refine ⟨fin,fun y hy v hv=>((prs1 y hy v hv).ext k14.2 (hg1 v (prs1 y hy v hv))),fun y hy=>?_,?_,?_⟩
    · rcases List.mem_append.mp hy with c | c
      · exact Z1.wp y c
      · rw [List.mem_singleton.mp c,ex]
        exact Ne.symm npw
    · rw [List.length_append]
      have:=Z1.ln
      show L1.length + 1<=N + 1
      lia
    · refine Z1.sl.imp_right fun ⟨a,bb,ws,k,c,e,f1,f2,f3⟩=>⟨a,bb,ws,k,c,k14.1 _ _ bb e,f1,f2,?_⟩
      rw [List.length_append]
      show k + (L1.length + 1)<=N + 1
      lia
  have hd5:Hd (extG g p i) (L1 ++ [x]) wt1 (fun q=>if q=i then 1 else hf q - (ps.filterMap g).count q):=by
    have eb:bxs g x=ps.filterMap g:=by rw [ex]; rfl
    have h:=Hd.make (x:=x) pl8.hd (fun y hy=>by rw [ex]; exact hne1 y hy) (by rw [ex]) (fun k=>by rw [eb]; exact hcn k)
    rw [eb] at h
    have h':=Hd.par (g':=extG g p i) h (fun y hy v hv=>hg1 v (prs1 y hy v hv))
    rw [ex] at h' ⊢
    exact h'
  rw [ex] at Z5 hd5
  refine q H5 (extG g p i) p b pl' i m1 L1 wt1 (k1.trans (.kl k14)) (fun a xs e=>?_) Z5 pl8 hg0 (fun v hv=>extG_ne fun z=>by rcases hv with ⟨z',rfl⟩ | ⟨z',rfl⟩ <;> cases z) extG_self hd5 gP
  by_cases na:a=nl
  · rw [na]
    exact fun z=>by rw [z,g3] at gN1; cases gN1
  · by_cases nw:a=wl
    · rw [nw]
      exact npw
    · exact Ne.symm (ne_of_none (k1.1 _ _ na nw e) gN1)
end
end Hv
set_option simprocs false
namespace Hv
open PySem L2 K11 HM
theorem pr_count {g:V->Option Nat} {H:Hp} {n:Nat}:∀ {ps:List V},(∀ v∈ps,Gv g H v)->ps.countP (isPr H (n:Int))=(ps.filterMap g).count n
  | [],_=>rfl
  | v :: ps,h=>by
    have ih:=pr_count (n:=n) (ps:=ps) fun u hu=>h u (List.mem_cons_of_mem _ hu)
    rw [List.countP_cons,ih,List.filterMap_cons]
    rcases h v List.mem_cons_self with ⟨f,e⟩ | ⟨a,j,rfl,q,e⟩
    · rw [e,flat_pr f]
      rfl
    · have e1:isPr H (n:Int) (.ref a)=((j:Int) == (n:Int)):=by
        show (match H a with | some (.tup [_,.int j])=>j == (n:Int) | _=>false)=_
        rw [q]
      rw [e,e1]
      dsimp only
      by_cases c:j=n
      · rw [c,List.count_cons_self,beq_self_eq_true,if_pos rfl]
      · rw [List.count_cons_of_ne c,show ((j:Int) == (n:Int))=false from by rw [beq_eq_false_iff_ne]; lia,if_neg Bool.false_ne_true]
        rfl
theorem refs_addC {g:V->Option Nat} {n:Nat} {H:Hp} {ps:List V}:∀ {L:List Bx},refs g (addC H ps L) n=refs g L n
  | []=>rfl
  | z :: L=>by
    show (bxs g z).count n + refs g (addC H ps L) n=(bxs g z).count n + refs g L n
    rw [refs_addC]
theorem hd_addC {g:V->Option Nat} {L:List Bx} {wt:List Nat} {hf:Nat->Nat} {H:Hp} {ps:List V} (h:Hd g L wt hf) (hp:∀ v∈ps,Gv g H v) (hn:∀ n∈ps.filterMap g,0 < hf n + refs g L n):Hd g (addC H ps L) wt (fun k=>hf k + (ps.filterMap g).count k):=by
  have hc:∀ n,0 < (ps.filterMap g).count n->0 < hf n + refs g L n:=fun n z=>hn n (List.count_pos_iff.mp z)
  refine ⟨?_,fun y hy=>?_,fun k hk=>?_,h.nd,fun y hy c=>?_,fun k hk=>?_⟩
  · unfold addC
    exact List.pairwise_map.mpr (h.rise.imp fun z=>z)
  · obtain ⟨x,hx,e1,_,_,_,_,e6⟩:=addC_mem hy
    rw [e6,refs_addC,e1,pr_count hp,h.cnt x hx]
    lia
  · rw [refs_addC] at hk
    have:0 < hf k + refs g L k:=by
      rcases Nat.eq_zero_or_pos ((ps.filterMap g).count k) with c | c
      · lia
      · exact hc k c
    obtain ⟨x,hx,e⟩:=h.dom k this
    exact ⟨_,addC_of hx,e⟩
  · obtain ⟨x,hx,e1,_,_,_,_,e6⟩:=addC_mem hy
    rw [e1]
    have:=h.cnt x hx
    exact h.w0 x hx (by lia)
  · obtain ⟨x,hx,e,c⟩:=h.w1 k hk
    refine ⟨_,addC_of hx,e,?_⟩
    show x.count + _=0
    rw [pr_count hp]
    have:=h.cnt x hx
    rcases Nat.eq_zero_or_pos ((ps.filterMap g).count x.n) with z | z
    · lia
    · have:=hc x.n z
      lia
theorem hd_look {g:V->Option Nat} {L:List Bx} {wt:List Nat} {hf:Nat->Nat} {n:Nat} (h:Hd g L wt hf) (hn:0 < hf n):∃ x∈L,x.n=n/\0 < x.count:=by
  obtain ⟨x,hx,e⟩:=h.dom n (by lia)
  refine ⟨x,hx,e,?_⟩
  rw [h.cnt x hx,e]
  lia
theorem filt_len {L:List Bx} (r:Rise L) {x:Bx} (hx:x∈L):(L.filter fun y=>y.n != x.n).length + 1=L.length:=rise_drop r hx
theorem insK_len (ks:List Int) (n:Int):(insK ks n).length=ks.length + 1:=by
  unfold insK
  rw [List.length_append,List.length_cons,List.length_take,List.length_drop]
  have:plc ks n<=ks.length:=List.length_filter_le ..
  lia
theorem insK_mem {ks:List Int} {n k:Int}:k∈insK ks n↔k=n\/k∈ks:=by
  unfold insK
  rw [List.mem_append,List.mem_cons]
  have e:=List.take_append_drop (plc ks n) ks
  constructor
  · rintro (h | h | h)
    · exact .inr (List.mem_of_mem_take h)
    · exact .inl h
    · exact .inr (List.mem_of_mem_drop h)
  · rintro (h | h)
    · exact .inr (.inl h)
    · rw [<- e,List.mem_append] at h
      exact h.elim .inl (fun h=>.inr (.inr h))
section
variable {P:Program} {w:World} {K:PySem.W.Frag} {mg:Str->Option Value} {base:Heap} {f:Addr} {fd:FuncData} {A:Adr} {G S U:Addr}
def spHold8 (S:Addr) (A:Adr):Sp:=fun vs H Q _=>∃ (g:V->Option Nat) (hp d nl wl:Addr) (v:V) (m:Nm) (L:List Bx) (wt:List Nat) (N:Nat) (hf:Nat->Nat),vs=[.ref hp,v]/\Hs S g A H hp d nl wl m L wt N/\Hd g L wt hf/\Gv g H v/\(∀ n,g v=some n->0 < hf n)/\∀ H' L',KS nl wl d H H'->Hs S g A H' hp d nl wl m L' wt N->Hd g L' wt (fun k=>if g v=some k then hf k + 1 else hf k)->Sub L' L->Q .non H'
theorem ok_hold8 (F:Fun K "hold" "Heap.hold" sHold f fd) (T:Txt K mg A G) (GI:Ca P w K mg base CX0 1 "is_box" ["value"] spIsBox) (GT:Me P w K mg base (CXf P w) 1 A.cH "there" ["self","value"] (spThere A G)):FnOk P w K mg base CX0 2 f fd ["self","value"] (spHold8 S A):=by
  refine (ok_hold F T GI GT).dn fun vs H Q E ⟨g,hp,d,nl,wl,v,m,L,wt,N,hf,e,Z,hd,hv,hn,q⟩=>⟨hp,d,nl,v,m,L,e,Z.hb,?_⟩
  rcases hv with ⟨fl,gn⟩ | ⟨p,j,rfl,hp1,gj⟩
  · exact .inl ⟨fl,q H L .refl Z (hd.congr fun n=>by rw [gn,if_neg (fun z=>nomatch z)]) Sub.refl⟩
  · obtain ⟨x,hx,en,hc,hd'⟩:=hd.more (n:=j) (by have:=hn j gj; lia)
    subst en
    refine .inr ⟨p,x.n,rfl,hp1,.inl ⟨x,hx,rfl,by lia,fun H' k' B'=>q H' _ (.kl k') (Z.kl k' B' rfl Sub.setC (by rw [setC_len]; exact Nat.le_refl _)) (hd'.congr fun n=>?_) Sub.setC⟩⟩
    rw [gj]
    by_cases c:n=x.n
    · rw [if_pos c,if_pos (by rw [c])]
    · rw [if_neg c,if_neg (fun z=>c (by injection z with z; exact z.symm))]
def spTake8 (S:Addr) (A:Adr):Sp:=fun vs H Q _=>∃ (g:V->Option Nat) (hp d nl wl:Addr) (v:V) (k:Bool) (m:Nm) (L:List Bx) (wt:List Nat) (N:Nat) (hf:Nat->Nat),vs=[.ref hp,v,.bl k]/\Hs S g A H hp d nl wl m L wt N/\Hd g L wt hf/\N < 800/\KSrt m.kept/\m.kept.length < 1000/\Gv g H v/\(∀ n,g v=some n->0 < hf n) /\
  (Flat v->∀ H' l t,Same H H'->H' l=some (.lst [])->H' t=some (.tup [.ref l,.non])->Q (.ref t) H') /\
  (∀ x∈L,g v=some x.n->0 < x.count->∀ H' l t m' L',KS nl wl d H H'->(∀ a xs,H a=some (.lst xs)->l≠a)->H' l=some (.lst x.parts)->H' t=some (.tup [.ref l,if x.count=1/\k=true then .int (x.n:Int) else .non])->Hs S g A H' hp d nl wl m' L' wt N->m'=(if x.count=1/\k=true then { m with kept:=insK m.kept (x.n:Int) } else m)->Hd g L' wt (fun q=>(if q=x.n then hf q - 1 else hf q) + (x.parts.filterMap g).count q)->Sub L' L->(L'.length:Int) + (m'.kept.length:Int)<=(L.length:Int) + (m.kept.length:Int)->(x.count=1->∀ y∈L',y.n≠x.n)->Q (.ref t) H')
theorem ok_take8 {D:Addr} (F:FunM K "take" "Heap.take" sTake D f fd) (T:Txt K mg A G) (GI:Ca P w K mg base CX0 1 "is_box" ["value"] spIsBox) (GT:Me P w K mg base (CXf P w) 1 A.cH "there" ["self","value"] (spThere A G)) (GH:Me P w K mg base (CXf P w) 2 A.cH "hold" ["self","value"] (spHold A G)) (GK:Me P w K mg base CX0 3 A.cH "taken_place" ["self","at","keep"] (spTaken A)):FnOk P w K mg base CX0 4 f fd ["self","value","keep"] (spTake8 S A):=by
  refine (ok_take F T GI GT GH GK).dn fun vs H Q E ⟨g,hp,d,nl,wl,v,k,m,L,wt,N,hf,e,Z,hd,hN,hs,hl,hv,hn,q0,q1⟩=>⟨hp,d,nl,v,k,m,L,e,Z.hb,?_⟩
  rcases hv with ⟨fl,gn⟩ | ⟨p,j,rfl,hp1,gj⟩
  · exact .inl ⟨fl,q0 fl⟩
  obtain ⟨x,hx,en,hc⟩:=hd_look hd (hn j gj)
  subst en
  have q:=q1 x hx gj hc
  refine .inr ⟨p,x.n,rfl,hp1,.inr ⟨x,hx,rfl,hc,fun c1=>⟨fun _=>⟨hs,hl⟩,fun H' l t k' fr g1 g2 B'=>?_⟩,fun c1=>⟨fun u hu=>?_,fun H' l t k' fr g1 g2 B'=>?_⟩⟩⟩
  · have hm:(if k=true then ({ m with kept:=insK m.kept (x.n:Int) }:Nm) else m)=(if x.count=1/\k=true then { m with kept:=insK m.kept (x.n:Int) } else m):=by
      by_cases ck:k=true
      · rw [if_pos ck,if_pos ⟨c1,ck⟩]
      · rw [if_neg ck,if_neg (fun z=>ck z.2)]
    have ht:(if k=true then V.int ((x.n:Nat):Int) else V.non)=(if x.count=1/\k=true then .int (x.n:Int) else .non):=by
      by_cases ck:k=true
      · rw [if_pos ck,if_pos ⟨c1,ck⟩]
      · rw [if_neg ck,if_neg (fun z=>ck z.2)]
    rw [ht] at g2
    have fl:=filt_len hd.rise hx
    refine q H' l t _ _ (.kl k') fr g1 g2 (Z.kl k' B' (by split <;> rfl) Sub.filter (List.length_filter_le ..)) hm (hd.take hx (hn _ gj) c1) Sub.filter ?_ (fun _ y hy z=>?_)
    · split
      · show ((L.filter _).length:Int) + ((insK m.kept (x.n:Int)).length:Int)<=_
        rw [insK_len]
        lia
      · show ((L.filter _).length:Int) + (m.kept.length:Int)<=_
        lia
    · have:=(List.mem_filter.mp hy).2
      rw [z] at this
      simp at this
  · rcases Z.prs x hx u hu with ⟨fl,_⟩ | ⟨a,i,rfl,qa,ga⟩
    · exact .inl fl
    · have:0 < refs g L i:=refs_mem hx (List.mem_filterMap.mpr ⟨_,hu,ga⟩)
      obtain ⟨y,hy,ey⟩:=hd.dom i (by lia)
      refine .inr ⟨a,y,rfl,hy,by rw [ey]; exact qa,?_⟩
      rw [hd.cnt y hy,ey]
      lia
  · have hm:m=(if x.count=1/\k=true then { m with kept:=insK m.kept (x.n:Int) } else m):=by rw [if_neg (fun z=>c1 z.1)]
    have ht:V.non=(if x.count=1/\k=true then .int (x.n:Int) else .non):=by rw [if_neg (fun z=>c1 z.1)]
    rw [ht] at g2
    obtain ⟨x',hx',en,_,hd1⟩:=hd.less (hn _ gj)
    have ex:=rise_eq hd.rise hx' hx en
    subst ex
    rw [if_neg c1] at hd1
    have hd2:=hd_addC (H:=H) (ps:=x'.parts) hd1 (fun v hv=>Z.prs x' hx v hv) (fun n hn'=>by
      have:0 < refs g L n:=refs_mem hx hn'
      rw [refs_setC]
      lia)
    refine q H' l t m _ (.kl k') fr g1 g2 (Z.kl k' B' rfl (Sub.addC.trans Sub.setC) ?_) hm hd2 (Sub.addC.trans Sub.setC) ?_ (fun z=>absurd z c1)
    · unfold addC
      rw [List.length_map,setC_len]
      exact Nat.le_refl _
    · unfold addC
      rw [List.length_map,setC_len]
      exact Int.le_refl _
def spLook8 (A:Adr):Sp:=fun vs H Q _=>∃ (hp d nl p:Addr) (m:Nm) (L:List Bx) (x:Bx),vs=[.ref hp,.ref p]/\HpB A H hp d nl m L/\H p=some (BX x.n)/\x∈L/\0 < x.count/\Told H Q x.tag x.parts
theorem ok_look8 (F:Fun K "look" "Heap.look" sLook f fd) (T:Txt K mg A G) (GI:Ca P w K mg base CX0 1 "is_box" ["value"] spIsBox) (GT:Me P w K mg base (CXf P w) 1 A.cH "there" ["self","value"] (spThere A G)):FnOk P w K mg base CX0 2 f fd ["self","value"] (spLook8 A) :=
  (ok_look F T GI GT).dn fun vs H Q E ⟨hp,d,nl,p,m,L,x,e,hb,hp1,hx,hc,q⟩=>⟨hp,d,nl,.ref p,m,L,e,hb,.inr (.inr ⟨p,x.n,rfl,hp1,.inl ⟨x,hx,rfl,by lia,q⟩⟩)⟩
def spLoose8 (S:Addr) (A:Adr):Sp:=fun vs H Q _=>∃ (g:V->Option Nat) (hp d nl wl:Addr) (m:Nm) (L:List Bx) (wt:List Nat) (N:Nat) (j:Int),vs=[.ref hp,.int j]/\Hs S g A H hp d nl wl m L wt N/\KSrt m.kept/\m.kept.length < 1000/\∀ H',KS nl wl d H H'->Hs S g A H' hp d nl wl { m with kept:=m.kept.filter (fun k=>k != j) } L wt N->Q .non H'
theorem scLoose:FnScope ["self","kept"] ["self","kept"] (defScope sLoose):=⟨rfl,rfl,rfl,by decide +kernel,rfl,by decide +kernel,by decide +kernel⟩
theorem ok_loose8 (F:Fun K "loose" "Heap.loose" sLoose f fd) (T:Txt K mg A G) (GD:Me P w K mg base CX0 2 A.cR "discard" ["self","number"] (spDisc A)):FnOk P w K mg base CX0 3 f fd ["self","kept"] (spLoose8 S A):=by
  refine F.by scLoose (fun vs H Q E h=>?_) (fun cdv A' outer s H vs Q E hr h=>?_)
  · obtain ⟨g,hp,d,nl,wl,m,L,wt,N,j,rfl,_⟩:=h
    rfl
  obtain ⟨g,hp,d,nl,wl,m,L,wt,N,j,rfl,Z,hs,hl,q⟩:=h
  refine ⟨_,jss_one (js_if (jt_notN (jv 1)) (jss_one (js_expr (je_me (je_fld (jv 0)) T.clR GD hr pass0 (ja_c (jv 1) ja_nil)))) jss_nil),?_⟩
  obtain ⟨dx,r,dr,h1,h2,h3,h4⟩:=Z.hb.ex
  refine (ex2q rfl (ex2q rfl (iteT ?_)))
  refine (ex2q rfl ⟨hp,_,_,_,_,rfl,h1,T.clH,T.nKept,rfl,r,_,_,rfl,h2,rfl,(ex2q rfl ⟨r,dr,nl,j,m.kept,rfl,h2,h3,hs,hl,?_⟩)⟩)
  by_cases hj:j∈m.kept
  · exact .inl ⟨hj,q _ (.kl (KL.refl.num h3)) (Z.kl (KL.refl.num h3) (Z.hb.keep _) rfl Sub.refl (Nat.le_refl _))⟩
  · refine .inr ⟨hj,q _ .refl ?_⟩
    have e:(m.kept.filter fun k=>k != j)=m.kept:=List.filter_eq_self.mpr fun k hk=>by
      have:k≠j:=fun z=>hj (by rw [<- z]; exact hk)
      simpa using this
    rw [e]
    exact Z
theorem Hs.wt {g:V->Option Nat} {H:Hp} {hp d nl wl:Addr} {m:Nm} {L:List Bx} {wt:List Nat} {N:Nat} (h:Hs S g A H hp d nl wl m L wt N):Wt S A H m (wt.map fun (n:Nat)=>(n:Int)):=by
  rcases h.sl with ⟨a,rfl,_⟩ | ⟨a,_,ws,k,c,e,f,rfl,_⟩
  · exact .inl ⟨a,rfl⟩
  · exact .inr ⟨a,wl,ws.map fun (n:Nat)=>(n:Int),k,c,by rw [List.map_map]; exact e,by rw [List.length_map]; exact f,List.map_drop⟩
end
end Hv
namespace L2
open PySem PySem.Spec PyProof.Rows
section
variable {X:Cx} {pins:List (Addr × Obj)} {σ:L2.St} {H:Hp} {s:Shared}
end
end L2
namespace L2
open PySem PySem.Spec PyProof.Rows
section
variable {X:Cx}
end
section
variable {prog:Program} {w:World} {A:Around} {E:Value->Shared->Prop} {s:Shared}
end
section
variable {X:Cx} {elts:List Expr} {k:Nat} {tpos:Pos}
end
end L2
namespace L2
open PySem PySem.Spec PyProof.Rows
section
variable {X:Cx}
end
end L2
namespace L2
open PySem PySem.Spec PyProof.Rows
section
variable {X:Cx} {pins:List (Addr × Obj)} {σ:St} {H:Hp} {s:Shared} {d:Addr} {kvs:List (Key × V)} {tg:Expr}
end
section
variable {σ:St} {H:Hp} {g:TG} {tt:TT} {te:TE} {Q:VK}
end
end L2
namespace L2
open PySem PySem.Spec PyProof.Rows
section
variable {X:Cx}
theorem je_dpop2 {o e f:Expr} {td ty tx:TE} {apos cpos:Pos} (ho:jE X o td) (he:jE X e ty) (hf:jE X f tx) (m:M2 X o "pop" apos e f cpos:=by exact ⟨rfl,rfl,rfl,rfl⟩):jE X (.Call (.Attribute o "pop" apos) [e,f] [] cpos) (tDPop2 td ty tx):=⟨pe_dpop2 ho.out he.out hf.out m⟩
end
end L2
namespace L2
open PySem PySem.Spec PyProof.Rows
section
variable {X:Cx} {pins:List (Addr × Obj)} {σ:St} {H:Hp} {s:Shared}
end
section
variable {X:Cx} {k n:Nat}
end
end L2
namespace L2
open PySem PySem.Spec PyProof.Rows
section
variable {X:Cx} {pins:List (Addr × Obj)} {σ:St} {H:Hp} {s:Shared} {d:Addr} {kvs:List (Key × V)} {tg:Expr}
end
section
variable {σ:St} {H:Hp} {g:TG} {tt:TT} {te:TE} {Q:VK}
end
def rDE:R2:=fun x y H Q=>∃ p p' kvs,x=.ref p/\y=.ref p'/\H p=some (.dK kvs)/\H p'=some (.dK [])/\Q (.bl kvs.isEmpty) H
section
variable {X:Cx}
theorem op_dE (hu:X.A.units + 64 < cLine):OpR X (compareOp .Eq) rDE:=by
  intro pins s σ H x y v u Q I rx ry h
  obtain ⟨p,p',kvs,rfl,rfl,h1,h2,q⟩:=h
  cases rx
  cases ry
  obtain ⟨z1,d1,vs,r1,dd1⟩:=dk_of I.hok h1
  obtain ⟨z2,d2,vs',r2,dd2⟩:=dk_of I.hok h2
  cases r2
  have l1:=r1.length
  refine PySem.W.keq_eq d1 d2 dd1 dd2 (by lia) (r:=true) (fun e=>?_) ?_
  · cases vs with
    | nil=>exact .nil
    | cons a b=>cases e
  · have e:(vs.length == ([]:List (Key × Value)).length && true)=kvs.isEmpty:=by
      cases kvs with
      | nil=>rw [<- l1]; rfl
      | cons a b=>rw [<- l1]; rfl
    rw [e]
    exact ⟨.bl _,H,I,rfl,q⟩
theorem jo_dE {k:Nat} (hr:Room k X.A):jOp X (compareOp .Eq) rDE:=⟨op_dE hr.units⟩
section
variable {prog:Program} {w:World} {A:Around} {E:Value->Shared->Prop} {s:Shared}
end
end
end L2
set_option simprocs false
namespace Hv
open PySem L2 K11 HM
theorem er_mapV:∀ (g:V->Option Nat) (l:List V) (i:Nat) (v:V),l[i]?=some v->∀ n,(l.filterMap g).count n=((l.eraseIdx i).filterMap g).count n + ([v].filterMap g).count n
  | g,[],i,v,h,n=>nomatch h
  | g,u :: l,0,v,h,n=>by
    have e:u=v:=by injection h
    subst e
    show ((u :: l).filterMap g).count n=(l.filterMap g).count n + _
    rw [show u :: l=[u] ++ l from rfl,List.filterMap_append,List.count_append]
    lia
  | g,u :: l,i + 1,v,h,n=>by
    have ih:=er_mapV g l i v h n
    show ((u :: l).filterMap g).count n=((u :: l.eraseIdx i).filterMap g).count n + _
    rw [show u :: l=[u] ++ l from rfl,show u :: l.eraseIdx i=[u] ++ l.eraseIdx i from rfl,List.filterMap_append,List.count_append,List.filterMap_append,List.count_append,ih]
    lia
theorem tab8 {i:Nat} (h:i < 8):∃ t:Nat,([.int 0,.int 1,.int 1,.int 2,.int 2,.int 3,.int 4,.int 9]:List V)[i]?=some (.int (t:Int))/\t<=9:=by
  match i,h with
  | 0,_=>exact ⟨0,rfl,by decide⟩
  | 1,_=>exact ⟨1,rfl,by decide⟩
  | 2,_=>exact ⟨1,rfl,by decide⟩
  | 3,_=>exact ⟨2,rfl,by decide⟩
  | 4,_=>exact ⟨2,rfl,by decide⟩
  | 5,_=>exact ⟨3,rfl,by decide⟩
  | 6,_=>exact ⟨4,rfl,by decide⟩
  | 7,_=>exact ⟨9,rfl,by decide⟩
theorem mod_ix (c:Int) {n:Nat} (h:0 < n):∃ i:Nat,i < n/\c % (n:Int)=(i:Int):=by
  have h1:=Int.emod_nonneg c (show (n:Int)≠0 by lia)
  have h2:=Int.emod_lt_of_pos c (show (0:Int) < (n:Int) by lia)
  exact ⟨(c % (n:Int)).toNat,by lia,by lia⟩
theorem seq_m {a b:TS} {D:Ends} {σ:St} {H:Hp} (M:St->Hp->Prop) (h2:∀ σ H,M σ H->b D σ H) (h1:(∀ σ H,M σ H->b D σ H)->a { D with nx:=fun σ H=>b D σ H } σ H):tSeq a b D σ H:=h1 h2
section
variable {P:Program} {w:World} {K:PySem.W.Frag} {mg:Str->Option Value} {base:Heap} {f:Addr} {fd:FuncData} {A:Adr} {G S U:Addr}
def spSome:Sp:=fun vs H Q _=>∃ (g:V->Option Nat) (lh:Addr) (hs:List V) (c:Int),vs=[.ref lh,.int c]/\H lh=some (.lst hs)/\hs.length < 2000/\(∀ v∈hs,Gv g H v)/\(∀ v,Flat v->g v=none) /\
  ∀ H' (lq:Addr) (ps hs':List V),(∀ b o,b≠lh->H b=some o->H' b=some o)->H' lh=some (.lst hs')->H lq=none->H' lq=some (.lst ps)->ps.length<=9->(∀ v∈ps,Gv g H' v)->(∀ v∈hs',v∈hs)->(∀ n,(hs.filterMap g).count n=(hs'.filterMap g).count n + (ps.filterMap g).count n)->hs'.length<=hs.length->Q (.ref lq) H'
theorem scSome:FnScope ["_law_hands","_law_cell","_law_parts","_law_k"] ["_law_hands","_law_cell"] (defScope s_some):=⟨rfl,rfl,rfl,by decide +kernel,rfl,by decide +kernel,by decide +kernel⟩
theorem ok_some (F:Fun K "_law_some" "_law_some" s_some f fd) (T:Txt K mg A G) (m_range:mg "range"=none):FnOk P w K mg base CX0 1 f fd ["_law_hands","_law_cell"] spSome:=by
  refine F.by scSome (fun vs H Q E h=>?_) (fun cdv A' outer s H vs Q E hr h=>?_)
  · obtain ⟨g,lh,hs,c,rfl,_⟩:=h
    rfl
  obtain ⟨g,lh,hs,c,rfl,hh,hl,hgv0,hg0,q⟩:=h
  refine ⟨_,
    (jss_cons (js_set (i:=2) scSome.nd rfl (Or.inl rfl) (je_lst ja_nil))
    (jss_cons (js_for PassesOwn.never rfl (ji_range1 rfl m_range (ja_c (je_ix jx_list (je_lst (ja_c je_int (ja_c je_int (ja_c je_int (ja_c je_int (ja_c je_int (ja_c je_int (ja_c je_int (ja_c je_int ja_nil))))))))) (je_op jo_mod (jv 1) je_int) (fun _ _=>rfl)) ja_nil)) (jg_name (i:=3) scSome.nd rfl (Or.inl rfl))
      (jss_cons (js_set (i:=1) scSome.nd rfl (Or.inl rfl) (je_op jo_mod (je_op jo_add (je_op jo_add (je_op jo_mul (je_op jo_fdiv (jv 1) je_int) je_int) (je_op jo_mul je_int (jv 3))) (je_op jo_mod (jv 1) je_int)) (je_op jo_pow je_int je_int)))
      (jss_one (js_if (jW.pt (jw_or (jt_cmpR (jo_eqE hr) (jv 0) (je_lst ja_nil) (by with_unfolding_all rfl)) (jw_or1 (jt_cmpR jo_eq (je_op jo_mod (jv 1) je_int) je_int (by with_unfolding_all rfl))))) 
        (jss_one (js_expr (je_bm PySem.F.plainAttrs_list PySem.F.slot_list_append PySem.F.type_list_append jm_append (jv 2) (ja_c (jv 1) ja_nil))))
        (jss_one (js_expr (je_bm PySem.F.plainAttrs_list PySem.F.slot_list_append PySem.F.type_list_append jm_append (jv 2) (ja_c (je_bm PySem.F.plainAttrs_list PySem.F.slot_list_pop PySem.F.type_list_pop jm_popAt (jv 0) (ja_c (je_op jo_mod (je_op jo_fdiv (jv 1) je_int) (je_fnB jc_len_seq rfl T.len PySem.boot_len (ja_c (jv 0) ja_nil))) ja_nil)) ja_nil))))))))
    (jss_one (js_ret (jv 2))))),?_⟩
  have sl:=line0
  have p30:(0:Int) < 10 ^ (30:Int).toNat:=by decide
  refine ⟨by show 0<=sizeLine; lia,fun lp hlp=>?_⟩
  have s0:=same_new hlp (.lst [])
  have nlh:lh≠lp:=ne_of_none hh hlp
  refine ⟨by show 8<=sizeLine; lia,fun lt hlt=>?_⟩
  have s1:=s0.new (o:=.lst [.int 0,.int 1,.int 1,.int 2,.int 2,.int 3,.int 4,.int 9]) hlt
  obtain ⟨i8,hi8,ei8⟩:=mod_ix c (n:=8) (by decide)
  obtain ⟨t,et,ht9⟩:=tab8 hi8
  have gp0:upd (upd H lp (.lst [])) lt (.lst [.int 0,.int 1,.int 1,.int 2,.int 2,.int 3,.int 4,.int 9]) lp=some (.lst []):=old hlt upd_same
  have gt0:upd (upd H lp (.lst [])) lt (.lst [.int 0,.int 1,.int 1,.int 2,.int 2,.int 3,.int 4,.int 9]) lt=some (.lst [.int 0,.int 1,.int 1,.int 2,.int 2,.int 3,.int 4,.int 9]):=upd_same
  obtain ⟨H0,e0⟩:∃ H0,H0=upd (upd H lp (.lst [])) lt (.lst [.int 0,.int 1,.int 1,.int 2,.int 2,.int 3,.int 4,.int 9]):=⟨_,rfl⟩
  rw [<- e0] at s1 gp0 gt0 ⊢
  refine (ex2q rfl (ex4q rfl rfl ⟨(by show (0:Int) < _; decide),?_⟩))
  show rIxL K (.ref lt) (.int (c % ((8:Nat):Int))) H0 _
  rw [ei8]
  refine ⟨lt,_,_,_,rfl,rfl,SqL.of gt0,atI_nat (j:=i8) et,(ex2q rfl ⟨by lia,by lia,?_⟩)⟩
  rw [Int.toNat_natCast]
  refine for_range (lo:=0) (n:=t) (fun j σ H'=>∃ (vk:Option V) (c':Int) (ps hs':List V),σ=[some (.ref lh),some (.int c'),some (.ref lp),vk]/\(∀ b o,b≠lh->H b=some o->H' b=some o)/\H' lh=some (.lst hs')/\H' lp=some (.lst ps)/\ps.length=j/\(∀ v∈ps,Gv g H' v)/\(∀ v∈hs',v∈hs)/\(∀ n,(hs.filterMap g).count n=(hs'.filterMap g).count n + (ps.filterMap g).count n)/\hs'.length<=hs.length) ?_ ?_ ?_
  · exact ⟨none,c,[],hs,rfl,fun b o _ h=>s1 _ _ h,s1 _ _ hh,gp0,rfl,(fun v hv=>nomatch hv),fun v hv=>hv,fun n=>rfl,Nat.le_refl _⟩
  · rintro j σ H' hj ⟨vk,c',ps,hs',rfl,fr,gh,gp,hpl,hgv,hin,hct,hhl⟩
    refine (ex2q rfl (ex4q rfl rfl ⟨⟨by decide,by decide⟩,(ex4q rfl rfl ⟨.inr ⟨by decide,by decide⟩,(ex2q rfl (ex4q rfl rfl ⟨.inl ⟨by decide,by decide⟩,(ex4q rfl rfl (ex2q rfl (ex4q rfl rfl ⟨(by show (0:Int) < _; decide),(ex4q rfl rfl (ex4q rfl rfl ⟨⟨by decide,by decide,by decide⟩,(ex4q rfl rfl ⟨p30,?_⟩)⟩))⟩)))⟩))⟩)⟩))
    dsimp only
    obtain ⟨c1,ec1⟩:∃ c1:Int,c1=(c' / 8 * 48271 + 7919 * (0 + (j:Int)) + c' % 8) % 10 ^ (30:Int).toNat:=⟨_,rfl⟩
    rw [<- ec1]
    have tup:∀ {H2:Hp} {ys:List V} {b:Addr} {xs:List V},H2 lp=some (.lst ps)->H2 b=some (.tup xs)->upd H2 lp (.lst ys) b=some (.tup xs):=fun {H2 ys b xs} e0 e=>by rw [upd_ne (ne_of e e0 (by intro z; cases z))]; exact e
    have add:∀ {H2:Hp} {u:V} {hs2:List V},(∀ b o,b≠lh->H b=some o->H2 b=some o)->H2 lh=some (.lst hs2)->H2 lp=some (.lst ps)->(∀ v∈ps,Gv g H2 v)->Gv g H2 u->(∀ v∈hs2,v∈hs)->(∀ n,(hs'.filterMap g).count n=(hs2.filterMap g).count n + ([u].filterMap g).count n)->hs2.length<=hs'.length->∃ (vk:Option V) (c'':Int) (ps2 hs2:List V),[some (V.ref lh),some (V.int c1),some (V.ref lp),some (V.int (0 + (j:Int)))]=[some (V.ref lh),some (V.int c''),some (V.ref lp),vk]/\(∀ b o,b≠lh->H b=some o->upd H2 lp (.lst (ps ++ [u])) b=some o)/\upd H2 lp (.lst (ps ++ [u])) lh=some (.lst hs2)/\upd H2 lp (.lst (ps ++ [u])) lp=some (.lst ps2)/\ps2.length=j + 1/\(∀ v∈ps2,Gv g (upd H2 lp (.lst (ps ++ [u]))) v)/\(∀ v∈hs2,v∈hs)/\(∀ n,(hs.filterMap g).count n=(hs2.filterMap g).count n + (ps2.filterMap g).count n)/\hs2.length<=hs.length:=fun {H2 u hs2} fr2 gh2 gp2 hgv2 hu hin2 hct2 hl2=>by
      refine ⟨_,c1,ps ++ [u],hs2,rfl,fun b o n e=>?_,by rw [upd_ne nlh]; exact gh2,upd_same,by rw [List.length_append,hpl]; rfl,fun v hv=>?_,hin2,fun n=>?_,Nat.le_trans hl2 hhl⟩
      · rw [upd_ne (fun z=>by rw [z,hlp] at e; cases e)]
        exact fr2 b o n e
      · rcases List.mem_append.mp hv with z | z
        · exact (hgv2 v z).upd gp2 (fun _ z=>nomatch z)
        · rw [List.mem_singleton.mp z]
          exact hu.upd gp2 (fun _ z=>nomatch z)
      · rw [List.filterMap_append,List.count_append,hct n,hct2 n]
        lia
    refine (ex2q rfl ⟨by show 0<=sizeLine; lia,fun l1 hl1=>?_⟩)
    have s2:=same_new hl1 (.lst [])
    have fr1:∀ b o,b≠lh->H b=some o->upd H' l1 (.lst []) b=some o:=fun b o n e=>s2 _ _ (fr b o n e)
    have gh1:=s2 _ _ gh
    have gp1:=s2 _ _ gp
    have hgv1:∀ v∈ps,Gv g (upd H' l1 (.lst [])) v:=fun v hv=>(hgv v hv).same s2
    have hh1:∀ v∈hs',Gv g (upd H' l1 (.lst [])) v:=fun v hv=>by
      rcases hgv0 v (hin v hv) with z | ⟨a,i,e,z,r⟩
      · exact .inl z
      · exact .inr ⟨a,i,e,s2 _ _ (fr a _ (ne_of z hh (by intro z; cases z)) z),r⟩
    refine ⟨lh,l1,(ex2q rfl ⟨rfl,SqL.of gh1,SqL.of upd_same,(ex2q rfl ?_)⟩)⟩
    obtain ⟨H1,e1⟩:∃ H1,H1=upd H' l1 (.lst []):=⟨_,rfl⟩
    rw [<- e1] at s2 fr1 gh1 gp1 hgv1 hh1 ⊢
    have num:=add (u:=.int c1) fr1 gh1 gp1 hgv1 (.inl ⟨.inr ⟨_,rfl⟩,hg0 _ (.inr ⟨_,rfl⟩)⟩) hin (fun n=>by rw [show [V.int c1].filterMap g=[] from by rw [List.filterMap_cons,hg0 _ (.inr ⟨_,rfl⟩)]; rfl,List.count_nil]; rfl) (Nat.le_refl _)
    rcases Nat.eq_zero_or_pos hs'.length with hz | hpos
    · rw [List.length_eq_zero_iff.mp hz]
      refine iteT (iteT ?_)
      refine (ex2q rfl ⟨.inl ⟨rfl,_,SqL.of gp1⟩,(ex2q rfl ⟨lp,(ex4q rfl rfl ⟨gp1,by lia,?_⟩)⟩)⟩)
      exact num
    have hemp:hs'.isEmpty=false:=by
      cases hs' with
      | nil=>exact absurd hpos (Nat.lt_irrefl _)
      | cons _ _=>rfl
    rw [if_neg Bool.false_ne_true,hemp]
    refine iteF ?_
    refine (ex2q rfl (ex4q rfl rfl ⟨(by show (0:Int) < _; decide),rfl,(ex2q rfl (ite2 (fun _=>?_) (fun _=>?_)))⟩))
    · exact (ex2q rfl ⟨.inl ⟨rfl,_,SqL.of gp1⟩,(ex2q rfl ⟨lp,(ex4q rfl rfl ⟨gp1,by lia,num⟩)⟩)⟩)
    · obtain ⟨i,hi,ei⟩:=mod_ix (c1 / 3) hpos
      obtain ⟨u,eu⟩:∃ u,hs'[i]?=some u:=⟨_,List.getElem?_eq_getElem hi⟩
      refine (ex2q rfl ⟨.inl ⟨rfl,_,SqL.of gp1⟩,(ex2q rfl ⟨.inl ⟨rfl,_,SqL.of gh1⟩,(ex2q rfl (ex4q rfl rfl ⟨⟨by decide,by decide⟩,(ex2q rfl ⟨lh,(ex2q rfl ⟨.inl (SqL.of gh1),?_⟩)⟩)⟩))⟩)⟩)
      refine (ex4q rfl rfl ⟨by lia,?_⟩)
      dsimp only
      rw [ei]
      refine ⟨lh,_,_,i,(ex2q rfl ⟨rfl,gh1,by lia,by lia,seqIx hi,eu,?_⟩)⟩
      have gh2:upd H1 lh (.lst (hs'.eraseIdx i)) lh=some (.lst (hs'.eraseIdx i)):=upd_same
      have gp2:upd H1 lh (.lst (hs'.eraseIdx i)) lp=some (.lst ps):=by rw [upd_ne (Ne.symm nlh)]; exact gp1
      have fr2:∀ b o,b≠lh->H b=some o->upd H1 lh (.lst (hs'.eraseIdx i)) b=some o:=fun b o nb e=>by rw [upd_ne nb]; exact fr1 b o nb e
      refine ⟨lp,(ex4q rfl rfl ⟨gp2,by lia,?_⟩)⟩
      exact add fr2 gh2 gp2 (fun v hv=>(hgv1 v hv).upd gh1 (fun _ z=>nomatch z)) ((hh1 u (List.mem_of_getElem? eu)).upd gh1 (fun _ z=>nomatch z)) (fun v hv=>hin v (List.mem_of_mem_eraseIdx hv)) (er_mapV g hs' i u eu) (List.length_eraseIdx_le ..)
  · rintro σ H' ⟨vk,c',ps,hs',rfl,fr,gh,gp,hpl,hgv,hin,hct,hhl⟩
    exact (ex2q rfl (q H' lp ps hs' fr gh hlp gp (by lia) hgv hin hct hhl))
end
end Hv
set_option simprocs false
namespace Hv
open PySem L2 K11 HM
abbrev cnt (g:V->Option Nat) (hs:List V):Nat->Nat:=fun n=>(hs.filterMap g).count n
def Rk (g:V->Option Nat) (L:List Bx) (rk:Nat->Nat):Prop:=∀ y∈L,∀ n∈bxs g y,rk n < rk y.n
theorem max_rk (rk:Nat->Nat):∀ L:List Bx,∃ M,∀ x∈L,rk x.n<=M
  | []=>⟨0,fun _ h=>nomatch h⟩
  | x :: L=>by
    obtain ⟨M,h⟩:=max_rk rk L
    refine ⟨max M (rk x.n),fun y hy=>?_⟩
    rcases List.mem_cons.mp hy with e | e
    · rw [e]; exact Nat.le_max_right ..
    · exact Nat.le_trans (h y e) (Nat.le_max_left ..)
theorem reach_all {g:V->Option Nat} {L:List Bx} {hf:Nat->Nat} {rk:Nat->Nat} {p:Nat->Prop} (h:Hd g L [] hf) (r:Rk g L rk) (h0:∀ n,0 < hf n->p n) (h1:∀ x∈L,p x.n->∀ n∈bxs g x,p n):∀ x∈L,p x.n:=by
  obtain ⟨M,hM⟩:=max_rk rk L
  have go:∀ k,∀ x∈L,M - rk x.n<=k->p x.n:=fun k=>by
    induction k with
    | zero =>
      intro x hx hk
      have c:=h.cnt x hx
      have c0:x.count≠0:=fun z=>nomatch h.w0 x hx z
      rcases Nat.eq_zero_or_pos (hf x.n) with z | z
      · obtain ⟨y,hy,hn⟩:=refs_pos (g:=g) (L:=L) (n:=x.n) (by lia)
        have:=r y hy _ hn
        have:=hM y hy
        lia
      · exact h0 _ z
    | succ k ih =>
      intro x hx hk
      have c:=h.cnt x hx
      have c0:x.count≠0:=fun z=>nomatch h.w0 x hx z
      rcases Nat.eq_zero_or_pos (hf x.n) with z | z
      · obtain ⟨y,hy,hn⟩:=refs_pos (g:=g) (L:=L) (n:=x.n) (by lia)
        have:=r y hy _ hn
        have:=hM y hy
        exact h1 y hy (ih y hy (by lia)) _ hn
      · exact h0 _ z
  exact fun x hx=>go _ x hx (Nat.le_refl _)
theorem gone_all {g:V->Option Nat} {L:List Bx} {hf:Nat->Nat} {rk:Nat->Nat} (h:Hd g L [] hf) (r:Rk g L rk) (h0:∀ n,hf n=0):L=[]:=by
  have:=reach_all (p:=fun _=>False) h r (fun n z=>by rw [h0 n] at z; exact Nat.lt_irrefl _ z) (fun _ _ z=>z.elim)
  cases L with
  | nil=>rfl
  | cons x L=>exact (this x List.mem_cons_self).elim
structure Seen (g:V->Option Nat) (L:List Bx) (hs:List V) (seen:List Nat):Prop where
  nd:seen.Nodup
  live:∀ n∈seen,∃ x∈L,x.n=n/\0 < x.count
  at0:∀ v∈hs,∀ n,g v=some n->n∈seen
  clo:∀ x∈L,x.n∈seen->∀ n∈bxs g x,n∈seen
theorem Seen.most {g:V->Option Nat} {L:List Bx} {hs:List V} {seen wt:List Nat} {hf:Nat->Nat} (s:Seen g L hs seen) (h:Hd g L wt hf):seen.length<=L.length/\(wt≠[]->seen.length + 1<=L.length):=by
  constructor
  · have:=nodup_len (l':=L.map (·.n)) s.nd fun n hn=>let ⟨x,hx,e,_⟩:=s.live n hn; List.mem_map.mpr ⟨x,hx,e⟩
    rwa [List.length_map] at this
  · intro hw
    cases wt with
    | nil=>exact absurd rfl hw
    | cons n wt =>
      obtain ⟨x,hx,e,c⟩:=h.w1 n List.mem_cons_self
      have hn:n ∉ seen:=fun z=>by
        obtain ⟨y,hy,ey,cy⟩:=s.live n z
        have:=rise_eq h.rise hx hy (e.trans ey.symm)
        rw [this] at c
        lia
      have:=nodup_len (l':=L.map (·.n)) (List.nodup_cons.mpr ⟨hn,s.nd⟩) fun k hk=>by
        rcases List.mem_cons.mp hk with z | z
        · exact List.mem_map.mpr ⟨x,hx,e.trans z.symm⟩
        · obtain ⟨y,hy,ey,_⟩:=s.live k z
          exact List.mem_map.mpr ⟨y,hy,ey⟩
      rwa [List.length_map,List.length_cons] at this
theorem Seen.all {g:V->Option Nat} {L:List Bx} {hs:List V} {seen:List Nat} {rk:Nat->Nat} (s:Seen g L hs seen) (h:Hd g L [] (cnt g hs)) (r:Rk g L rk):seen.length=L.length:=by
  have:=reach_all (p:=fun n=>n∈seen) h r (fun n z=>by
    obtain ⟨v,hv,e⟩:=List.mem_filterMap.mp (List.count_pos_iff.mp z)
    exact s.at0 v hv n e) s.clo
  have l1:=(s.most h).1
  have nd:(L.map (·.n)).Nodup:=List.pairwise_map.mpr h.rise
  have l2:=nodup_len (l':=seen) nd fun n hn=>by
    obtain ⟨x,hx,rfl⟩:=List.mem_map.mp hn
    exact this x hx
  rw [List.length_map] at l2
  lia
theorem full_iff {g:V->Option Nat} {L:List Bx} {hs:List V} {seen wt:List Nat} {rk:Nat->Nat} {m:Nm} {kv:V} (s:Seen g L hs seen) (h:Hd g L wt (cnt g hs)) (r:Rk g L rk) (ro:(L.length:Int) + (m.kept.length:Int)<=m.sz) (hkv:kv=.non\/∃ j:Nat,kv=.int (j:Int)):Ful8 m L wt kv↔(seen.length:Int)=m.sz:=by
  constructor
  · rintro ⟨_,rfl,ek,hs⟩
    have:=s.all h r
    lia
  · intro e
    obtain ⟨a,b⟩:=s.most h
    have ek:m.kept=[]:=List.length_eq_zero_iff.mp (by lia)
    refine ⟨?_,?_,ek,by lia⟩
    · rcases hkv with z | ⟨j,z⟩
      · exact .inl z
      · exact .inr ⟨j,z,by rw [ek]; exact List.not_mem_nil⟩
    · by_cases c:wt=[]
      · exact c
      · have:=b c
        lia
def Blt (H:Hp) (kvs:List (Key × V)) (L:List Bx):Prop:=∀ x∈L,∃ t q,valV kvs (.inl (x.n:Int))=some (.ref t)/\H t=some (.tup [.str x.tag,.ref q])/\H q=some (.lst x.parts)
theorem Blt.same {H H':Hp} {kvs:List (Key × V)} {L:List Bx} (h:Blt H kvs L) (s:Same H H'):Blt H' kvs L:=fun x hx=>let ⟨t,q,a,b,c⟩:=h x hx; ⟨t,q,a,s _ _ b,s _ _ c⟩
def kvT (l:List Nat):List (Key × V):=l.map fun (n:Nat)=>(.inl (n:Int),.bl true)
theorem kvT_val:∀ {l:List Nat} {n:Nat},(valV (kvT l) (.inl (n:Int))).isSome=decide (n∈l)
  | [],_=>rfl
  | x :: l,n=>by
    by_cases c:x=n
    · subst c
      rw [show kvT (x :: l)=(.inl (x:Int),V.bl true) :: kvT l from rfl,valV_pos rfl,decide_eq_true List.mem_cons_self]
      rfl
    · rw [show kvT (x :: l)=(.inl (x:Int),V.bl true) :: kvT l from rfl,valV_neg (key_ne c),kvT_val (l:=l)]
      have:(n∈x :: l)↔n∈l:=⟨fun h=>(List.mem_cons.mp h).elim (fun z=>absurd z.symm c) id,fun h=>List.mem_cons_of_mem _ h⟩
      simp only [this]
theorem kvT_put {l:List Nat} {n:Nat} (h:n ∉ l):putK (kvT l) (.inl (n:Int)) (.bl true)=kvT (l ++ [n]):=by
  rw [putK_new]
  · unfold kvT
    rw [List.map_append]
    rfl
  · have:=kvT_val (l:=l) (n:=n)
    rw [decide_eq_false h] at this
    cases e:valV (kvT l) (.inl (n:Int)) with
    | none=>rfl
    | some o=>rw [e] at this; cases this
section
variable {P:Program} {w:World} {K:PySem.W.Frag} {mg:Str->Option Value} {base:Heap} {f:Addr} {fd:FuncData} {A:Adr} {G S U:Addr}
def spReached:Sp:=fun vs H Q _=>∃ (g:V->Option Nat) (lh rd:Addr) (hs:List V) (kvs:List (Key × V)) (L:List Bx) (wt:List Nat),vs=[.ref lh,.ref rd]/\H lh=some (.lst hs)/\H rd=some (.dK kvs)/\(∀ v∈hs,Gv g H v)/\(∀ y∈L,∀ v∈y.parts,Gv g H v)/\(∀ y∈L,y.parts.length<=9)/\Blt H kvs L/\Hd g L wt (cnt g hs)/\hs.length < 2000/\L.length < 800 /\
  ∀ H' seen,Same H H'->Seen g L hs seen->Q (.int (seen.length:Nat)) H'
theorem scReached:FnScope ["_law_hands","_law_built","_law_seen","_law_coming","_law_one"] ["_law_hands","_law_built"] (defScope s_reached):=⟨rfl,rfl,rfl,by decide +kernel,rfl,by decide +kernel,by decide +kernel⟩
theorem ok_reached (F:Fun K "_law_reached" "_law_reached" s_reached f fd) (T:Txt K mg A G):FnOk P w K mg base CX0 1 f fd ["_law_hands","_law_built"] spReached:=by
  refine F.by scReached (fun vs H Q E h=>?_) (fun cdv A' outer s H vs Q E hr h=>?_)
  · obtain ⟨g,lh,rd,hs,kvs,L,wt,rfl,_⟩:=h
    rfl
  obtain ⟨g,lh,rd,hs,kvs,L,wt,rfl,hh,hrd,hgv,hps,hp9,hbl,hd,hl,hL,q⟩:=h
  refine ⟨_,
    (jss_cons (js_set (i:=2) scReached.nd rfl (Or.inl rfl) je_dnewK)
    (jss_cons (js_set (i:=3) scReached.nd rfl (Or.inl rfl) (je_fnTy jc_list_of rfl T.list PyProof.Rows.boot_list (ja_c (jv 0) ja_nil)))
    (jss_cons (js_while PassesOwn.never (jt_cmpR (jo_neE hr) (jv 3) (je_lst ja_nil) (by with_unfolding_all rfl))
      (jss_cons (js_set (i:=4) scReached.nd rfl (Or.inl rfl) (je_bm0 PySem.F.plainAttrs_list PySem.F.slot_list_pop PySem.F.type_list_pop jm_pop (jv 3)))
      (jss_one (js_if (jW.pt (jw_and (jt_val (je_fnB jc_isinst rfl T.isi PyProof.Rows.boot_isinstance (ja_c (jv 4) (ja_c (je_bltn (v:=.ty "tuple") rfl T.tuple PyProof.Rows.boot_tuple rfl) ja_nil)))) (jw_and1 (jt_dnotin hr (je_ix jx_tup (jv 4) je_int (fun _ _=>rfl)) (jv 2))))) 
        (jss_cons (js_dput hr (jv 2) (je_ix jx_tup (jv 4) je_int (fun _ _=>rfl)) je_bl)
        (jss_one (js_expr (je_bm PySem.F.plainAttrs_list PySem.F.slot_list_extend PySem.F.type_list_extend jm_extend (jv 3) (ja_c (je_ix jx_tup (je_dget hr (jv 1) (je_ix jx_tup (jv 4) je_int (fun _ _=>rfl)) (fun _ _=>rfl)) je_int (fun _ _=>rfl)) ja_nil)))))  jss_nil))))
    (jss_one (js_ret (je_fnB jc_lenD rfl T.len PySem.boot_len (ja_c (jv 2) ja_nil))))))),?_⟩
  have sl:=line0
  refine fun ds hds=>?_
  have s1:=same_new hds (.dK [])
  refine (ex2q rfl ⟨lh,(ex2q rfl ⟨.inl (SqL.of (s1 _ _ hh)),fun lc hlc=>?_⟩)⟩)
  have s2:=s1.new (o:=.lst hs) hlc
  have hlc0:H lc=none:=none_of s1 hlc
  have ndl:ds≠lc:=ne_of_none (H:=upd H ds (.dK [])) (o:=.dK []) upd_same hlc
  have live0:∀ v∈hs,∀ n,g v=some n->∃ x∈L,x.n=n/\0 < x.count:=fun v hv n e=>hd_look hd (List.count_pos_iff.mpr (List.mem_filterMap.mpr ⟨v,hv,e⟩))
  obtain ⟨W,eW⟩:∃ W:Nat->St->Hp->Prop,W=fun i σ' H'=>∃ (seen:List Nat) (cs:List V) (vo:Option V),i=cs.length + 10 * (L.length - seen.length)/\σ'=[some (.ref lh),some (.ref rd),some (.ref ds),some (.ref lc),vo]/\Same H H'/\H' ds=some (.dK (kvT seen))/\H' lc=some (.lst cs)/\seen.Nodup/\seen.length<=L.length/\cs.length<=2000 + 9 * seen.length/\(∀ n∈seen,∃ x∈L,x.n=n/\0 < x.count)/\(∀ v∈cs,Gv g H v/\∀ n,g v=some n->∃ x∈L,x.n=n/\0 < x.count)/\(∀ v∈hs,∀ n,g v=some n->n∈seen\/v∈cs)/\(∀ x∈L,x.n∈seen->∀ v∈x.parts,∀ n,g v=some n->n∈seen\/v∈cs):=⟨_,rfl⟩
  refine ⟨W,by rw [eW]; exact ⟨_,[],hs,none,rfl,rfl,s2,old hlc upd_same,upd_same,List.nodup_nil,Nat.zero_le _,by show hs.length<=2000 + 0; lia,(fun n h=>nomatch h),fun v hv=>⟨hgv v hv,live0 v hv⟩,fun v hv n _=>.inr hv,fun x _ h=>nomatch h⟩,fun i σ' H' h=>?_⟩
  rw [eW] at h
  obtain ⟨seen,cs,vo,rfl,rfl,s3,gd,gc,hnd,hsl,hcl,hlv,hcs,ha,hb⟩:=h
  refine (ex2q rfl ⟨by show 0<=sizeLine; lia,fun l1 hl1=>?_⟩)
  have s4:=same_new hl1 (.lst [])
  have s34:=s3.trans s4
  refine ⟨lc,l1,(ex2q rfl ⟨rfl,SqL.of (s4 _ _ gc),SqL.of upd_same,(ex2q rfl ?_)⟩)⟩
  rcases List.eq_nil_or_concat cs with e | ⟨c0,v,e⟩
  · subst e
    refine iteF (ex2q rfl ⟨ds,(ex2q rfl ⟨s4 _ _ gd,?_⟩)⟩)
    rw [show (kvT seen).length=seen.length from List.length_map ..]
    refine q _ seen s34 ⟨hnd,hlv,fun v hv n e=>(ha v hv n e).resolve_right (fun z=>nomatch z),fun x hx hs n hn=>?_⟩
    obtain ⟨v,hv,e⟩:=List.mem_filterMap.mp hn
    exact (hb x hx hs v hv n e).resolve_right (fun z=>nomatch z)
  · rw [List.concat_eq_append] at e
    subst e
    have hemp:(c0 ++ [v]).isEmpty=false:=by cases c0 <;> rfl
    rw [if_pos rfl,hemp]
    refine iteT ?_
    have gc1:=s4 _ _ gc
    have gd1:=s4 _ _ gd
    obtain ⟨H1,e1⟩:∃ H1,H1=upd H' l1 (.lst []):=⟨_,rfl⟩
    rw [<- e1] at s4 s34 gc1 gd1 ⊢
    have lcv:(c0 ++ [v]).length=c0.length + 1:=List.length_append
    refine ⟨fun σ' H2=>∃ i',i' < (c0 ++ [v]).length + 10 * (L.length - seen.length)/\W i' σ' H2,fun σ' H2 h=>h,?_⟩
    rw [eW]
    have ld:(c0 ++ [v])[(c0 ++ [v]).length - 1]?=some v:=by
      rw [lcv]
      exact List.getElem?_concat_length
    refine (ex2q rfl ⟨.inl ⟨rfl,_,SqL.of gc1⟩,lc,(ex4q rfl rfl ⟨gc1,ld,?_⟩)⟩)
    rw [List.dropLast_concat]
    have k2:∀ b o,b≠lc->H1 b=some o->upd H1 lc (.lst c0) b=some o:=fun b o n e=>by rw [upd_ne n]; exact e
    have s5:Same H (upd H1 lc (.lst c0)):=fun b o e=>k2 b o (fun z=>by rw [z,hlc0] at e; cases e) (s34 _ _ e)
    have gd2:=k2 _ _ ndl gd1
    have gc2:upd H1 lc (.lst c0) lc=some (.lst c0):=upd_same
    obtain ⟨H2,e2⟩:∃ H2,H2=upd H1 lc (.lst c0):=⟨_,rfl⟩
    rw [<- e2] at s5 gd2 gc2 ⊢
    obtain ⟨hgv,hlive⟩:=hcs v (List.mem_append_right _ List.mem_cons_self)
    have hcs0:∀ u∈c0,Gv g H u/\∀ n,g u=some n->∃ x∈L,x.n=n/\0 < x.count:=fun u hu=>hcs u (List.mem_append_left _ hu)
    have skip:(∀ n,g v=some n->n∈seen)->∃ i',i' < (c0 ++ [v]).length + 10 * (L.length - seen.length)/\∃ (seen':List Nat) (cs:List V) (vo:Option V),i'=cs.length + 10 * (L.length - seen'.length)/\[some (V.ref lh),some (V.ref rd),some (V.ref ds),some (V.ref lc),some v]=[some (V.ref lh),some (V.ref rd),some (V.ref ds),some (V.ref lc),vo]/\Same H H2/\H2 ds=some (.dK (kvT seen'))/\H2 lc=some (.lst cs)/\seen'.Nodup/\seen'.length<=L.length/\cs.length<=2000 + 9 * seen'.length/\(∀ n∈seen',∃ x∈L,x.n=n/\0 < x.count)/\(∀ v∈cs,Gv g H v/\∀ n,g v=some n->∃ x∈L,x.n=n/\0 < x.count)/\(∀ v∈hs,∀ n,g v=some n->n∈seen'\/v∈cs)/\(∀ x∈L,x.n∈seen'->∀ v∈x.parts,∀ n,g v=some n->n∈seen'\/v∈cs):=fun hv=>by
      have out:∀ u n,g u=some n->(n∈seen\/u∈c0 ++ [v])->n∈seen\/u∈c0:=fun u n e z=>by
        rcases z with z | z
        · exact .inl z
        · rcases List.mem_append.mp z with z | z
          · exact .inr z
          · rw [List.mem_singleton.mp z] at e
            exact .inl (hv n e)
      exact ⟨_,by rw [lcv]; exact Nat.lt_of_lt_of_eq (Nat.lt_succ_self (c0.length + 10 * (L.length - seen.length))) (by lia),seen,c0,(ex2q rfl ⟨rfl,s5,gd2,gc2,hnd,hsl,by lia,hlv,hcs0,fun u hu n e=>out u n e (ha u hu n e),fun x hx hs u hu n e=>out u n e (hb x hx hs u hu n e)⟩)⟩
    rcases hgv with ⟨fl,gn⟩ | ⟨p,n,rfl,hpn,gn⟩
    · have:=skip (fun n e=>by rw [gn] at e; cases e)
      rcases fl with ⟨z,rfl⟩ | ⟨z,rfl⟩
      · exact (ex2q rfl ⟨_,_,_,_,rfl,.str z,kit_st _,(ex2q rfl (iteF (iteF this)))⟩)
      · exact (ex2q rfl ⟨_,_,_,_,rfl,.int z,kit_it _,(ex2q rfl (iteF (iteF this)))⟩)
    · have gp:=s5 _ _ hpn
      refine (ex2q rfl ⟨_,_,_,_,rfl,.tup gp,kit_tt _,(ex2q rfl (iteT ?_))⟩)
      refine (ex2q rfl ⟨p,_,_,_,rfl,rfl,SqT.of gp,atI_nat (j:=1) rfl,(ex2q rfl ⟨ds,(ex2q rfl ⟨DGet.k (k:=.inl (n:Int)) gd2,(ex2q rfl ?_)⟩)⟩)⟩)
      rw [kvT_val]
      by_cases c:n∈seen
      · rw [decide_eq_true c]
        exact iteF (skip (fun k e=>by rw [gn] at e; injection e with e; rw [<- e]; exact c))
      rw [decide_eq_false c]
      refine iteT ?_
      obtain ⟨x,hx,en,hc⟩:=hlive n gn
      subst en
      have kz:(kvT seen).length=seen.length:=List.length_map ..
      refine (ex2q rfl (ex2q rfl ⟨p,_,_,_,rfl,rfl,SqT.of gp,atI_nat (j:=1) rfl,ds,(ex2q rfl ⟨DPut.k (k:=.inl (x.n:Int)) gd2 (by lia),?_⟩)⟩))
      rw [kvT_put c]
      have k3:∀ b o,b≠ds->H2 b=some o->upd H2 ds (.dK (kvT (seen ++ [x.n]))) b=some o:=fun b o n e=>by rw [upd_ne n]; exact e
      have s6:Same H (upd H2 ds (.dK (kvT (seen ++ [x.n])))):=fun b o e=>k3 b o (fun z=>by rw [z,hds] at e; cases e) (s5 _ _ e)
      have gc3:=k3 _ _ (Ne.symm ndl) gc2
      have gd3:upd H2 ds (.dK (kvT (seen ++ [x.n]))) ds=some (.dK (kvT (seen ++ [x.n]))):=upd_same
      obtain ⟨H3,e3⟩:∃ H3,H3=upd H2 ds (.dK (kvT (seen ++ [x.n]))):=⟨_,rfl⟩
      rw [<- e3] at s6 gc3 gd3 ⊢
      obtain ⟨t,q',b1,b2,b3⟩:=hbl x hx
      have gg:DGet H3 rd (.int (x.n:Int)) (some (.ref t)):=by
        rw [<- b1]
        exact DGet.k (k:=.inl (x.n:Int)) (s6 _ _ hrd)
      have h9:=hp9 x hx
      refine (ex2q rfl ⟨.inl ⟨rfl,_,SqL.of gc3⟩,(ex2q rfl (ex2q rfl ⟨p,_,_,_,rfl,rfl,SqT.of (s6 _ _ hpn),atI_nat (j:=1) rfl,rd,(ex2q rfl ⟨gg,t,_,_,_,rfl,rfl,SqT.of (s6 _ _ b2),atI_nat (j:=1) rfl,lc,q',(ex4q rfl rfl ⟨gc3,s6 _ _ b3,by lia,?_⟩)⟩)⟩))⟩)
      have lsn:(seen ++ [x.n]).length=seen.length + 1:=List.length_append
      have lcp:(c0 ++ x.parts).length=c0.length + x.parts.length:=List.length_append
      have hnd':(seen ++ [x.n]).Nodup:=List.nodup_append.mpr ⟨hnd,List.pairwise_singleton _ _,fun a ha b hb=>by rw [List.mem_singleton.mp hb]; exact fun z=>c (by rw [<- z]; exact ha)⟩
      have hlv':∀ n∈seen ++ [x.n],∃ x∈L,x.n=n/\0 < x.count:=fun n hn=>by
        rcases List.mem_append.mp hn with z | z
        · exact hlv n z
        · exact ⟨x,hx,(List.mem_singleton.mp z).symm,hc⟩
      have hsl':(seen ++ [x.n]).length<=L.length:=by
        have:=nodup_len (l':=L.map (·.n)) hnd' fun n hn=>let ⟨x,hx,e,_⟩:=hlv' n hn; List.mem_map.mpr ⟨x,hx,e⟩
        rwa [List.length_map] at this
      have out:∀ u n,g u=some n->(n∈seen\/u∈c0 ++ [V.ref p])->n∈seen ++ [x.n]\/u∈c0 ++ x.parts:=fun u n e z=>by
        rcases z with z | z
        · exact .inl (List.mem_append_left _ z)
        · rcases List.mem_append.mp z with z | z
          · exact .inr (List.mem_append_left _ z)
          · rw [List.mem_singleton.mp z] at e
            rw [gn] at e
            injection e with e
            exact .inl (List.mem_append_right _ (by rw [e]; exact List.mem_cons_self))
      refine ⟨_,?_,seen ++ [x.n],c0 ++ x.parts,(ex2q rfl ⟨rfl,fun b o e=>?_,?_,upd_same,hnd',hsl',by lia,hlv',fun u hu=>?_,fun u hu n e=>out u n e (ha u hu n e),fun y hy hs u hu n e=>?_⟩)⟩
      · lia
      · rw [upd_ne (fun z=>by rw [z,hlc0] at e; cases e)]
        exact s6 _ _ e
      · rw [upd_ne ndl]
        exact gd3
      · rcases List.mem_append.mp hu with z | z
        · exact hcs0 u z
        · refine ⟨hps x hx u z,fun n e=>?_⟩
          have hr:0 < refs _ L n:=refs_mem hx (List.mem_filterMap.mpr ⟨u,z,e⟩)
          obtain ⟨y,hy,ey⟩:=hd.dom n (by lia)
          refine ⟨y,hy,ey,?_⟩
          rw [hd.cnt y hy,ey]
          lia
      · rcases List.mem_append.mp hs with z | z
        · exact out u n e (hb y hy z u hu n e)
        · have:=rise_eq hd.rise hy hx (List.mem_singleton.mp z)
          rw [this] at hu
          exact .inr (List.mem_append_right _ hu)
end
end Hv
set_option simprocs false
namespace Hv
open PySem L2 K11 HM
structure HD (kvs:List (Key × V)) (c:Nat->Nat):Prop where
  at_:∀ n:Nat,valV kvs (.inl (n:Int))=if c n=0 then none else some (.int (c n:Nat))
  no:∀ k,(∀ n:Nat,k≠.inl (n:Int))->valV kvs k=none
theorem HD.nil:HD [] (fun _=>0):=⟨fun _=>rfl,fun _ _=>rfl⟩
theorem inl_inj {a b:Nat} (h:(Sum.inl (a:Int):Key)=.inl (b:Int)):a=b:=by
  injection h with h
  lia
theorem HD.put {kvs:List (Key × V)} {c:Nat->Nat} (h:HD kvs c) (n:Nat):HD (putK kvs (.inl (n:Int)) (.int ((c n:Int) + 1))) (fun k=>if k=n then c n + 1 else c k):=by
  refine ⟨fun k=>?_,fun k hk=>?_⟩
  · rw [valV_put]
    by_cases e:k=n
    · subst e
      rw [if_pos rfl]
      show _=if (if k=k then c k + 1 else c k)=0 then none else some (V.int ((if k=k then c k + 1 else c k:Nat):Int))
      rw [if_pos rfl,if_neg (by lia)]
      rfl
    · rw [if_neg (fun z=>e (inl_inj z))]
      show _=if (if k=n then c n + 1 else c k)=0 then none else some (V.int ((if k=n then c n + 1 else c k:Nat):Int))
      rw [if_neg e]
      exact h.at_ k
  · rw [valV_put,if_neg (hk n)]
    exact h.no k hk
theorem valV_drop:∀ (kvs:List (Key × V)) (k j:Key),valV (dropK kvs k) j=if j=k then none else valV kvs j
  | [],k,j=>by
    show (none:Option V)=if j=k then none else none
    split <;> rfl
  | p :: r,k,j=>by
    by_cases e:p.1=k
    · rw [dropK_pos e,valV_drop r k j]
      by_cases c:j=k
      · rw [if_pos c,if_pos c]
      · rw [if_neg c,if_neg c,valV_neg (fun z=>c (z.symm.trans e))]
    · rw [dropK_neg e]
      by_cases c:p.1=j
      · rw [valV_pos c,valV_pos c,if_neg (fun z=>e (c.trans z))]
      · rw [valV_neg c,valV_neg c,valV_drop r k j]
theorem HD.drop {kvs:List (Key × V)} {c:Nat->Nat} (h:HD kvs c) (n:Nat):HD (dropK kvs (.inl (n:Int))) (fun k=>if k=n then 0 else c k):=by
  refine ⟨fun k=>?_,fun k hk=>?_⟩
  · rw [valV_drop]
    show _=if (if k=n then 0 else c k)=0 then none else some (V.int ((if k=n then 0 else c k:Nat):Int))
    by_cases e:k=n
    · subst e
      rw [if_pos rfl,if_pos rfl,if_pos rfl]
    · rw [if_neg (fun z=>e (inl_inj z)),if_neg e]
      exact h.at_ k
  · rw [valV_drop,if_neg (hk n)]
    exact h.no k hk
theorem HD.same {kvs:List (Key × V)} {c:Nat->Nat} (h:HD kvs c) {n:Nat} (e:c n=0):HD kvs (fun k=>if k=n then 0 else c k):=by
  have:(fun k=>if k=n then 0 else c k)=c:=funext fun k=>by
    by_cases z:k=n
    · rw [if_pos z,z,e]
    · rw [if_neg z]
  rw [this]
  exact h
theorem HD.empty {kvs:List (Key × V)} {c:Nat->Nat} (h:HD kvs c) (z:∀ n,c n=0):kvs=[]:=by
  cases kvs with
  | nil=>rfl
  | cons p r =>
    exfalso
    have e:valV (p :: r) p.1=some p.2:=valV_pos rfl
    by_cases k:∃ n:Nat,p.1=.inl (n:Int)
    · obtain ⟨n,k⟩:=k
      have:=h.at_ n
      rw [<- k,e,if_pos (z n)] at this
      cases this
    · have:=h.no p.1 (fun n q=>k ⟨n,q⟩)
      rw [e] at this
      cases this
theorem putK_len (kvs:List (Key × V)) (k:Key) (v:V):(putK kvs k v).length<=kvs.length + 1:=by
  unfold putK
  split
  · rw [List.length_map]
    lia
  · rw [List.length_append]
    exact Nat.le_refl _
def holds (g:V->Option Nat) (Ps:List (List V)) (n:Nat):Nat:=(Ps.map fun ps=>(ps.filterMap g).count n).sum
theorem holds_snoc {g:V->Option Nat} {Ps:List (List V)} {ps:List V} {n:Nat}:holds g (Ps ++ [ps]) n=holds g Ps n + (ps.filterMap g).count n:=by
  unfold holds
  rw [List.map_append,List.sum_append]
  show _ + ((ps.filterMap g).count n + 0)=_
  lia
theorem holds_rows {g:V->Option Nat} {L:List Bx} {hs:List V} {n:Nat}:holds g (hs :: L.map (·.parts)) n=cnt g hs n + refs g L n:=by
  unfold holds refs
  rw [List.map_cons,List.sum_cons,List.map_map]
  rfl
theorem idle_eq {g:V->Option Nat} {L L':List Bx} {wt:List Nat} {hf:Nat->Nat} {ns:List Int} (h:Hd g L wt hf) (pL:L'.Perm L) (sL:SrtB L') (pn:ns.Perm (wt.map fun (n:Nat)=>(n:Int))) (sn:ns.Pairwise (·<=·)):ns=(L'.filter fun x=>x.count == 0).map fun x=>(x.n:Int):=by
  have hs:((L'.filter fun x=>x.count == 0).map fun x=>(x.n:Int)).Pairwise (· < ·):=List.pairwise_map.mpr ((List.Pairwise.filter _ sL).imp fun h=>by lia)
  have nd1:(wt.map fun (n:Nat)=>(n:Int)).Nodup:=List.pairwise_map.mpr (h.nd.imp fun h=>by lia)
  have nd2:ns.Nodup:=pn.nodup_iff.mpr nd1
  have sn':ns.Pairwise (· < ·):=(sn.and nd2).imp fun h=>by obtain ⟨a,b⟩:=h; lia
  refine rise_same sn' hs fun k=>?_
  rw [pn.mem_iff]
  constructor
  · intro hk
    obtain ⟨n,hn,rfl⟩:=List.mem_map.mp hk
    obtain ⟨x,hx,e,c⟩:=h.w1 n hn
    exact List.mem_map.mpr ⟨x,List.mem_filter.mpr ⟨pL.mem_iff.mpr hx,by rw [c]; rfl⟩,by rw [e]⟩
  · intro hk
    obtain ⟨x,hx,rfl⟩:=List.mem_map.mp hk
    obtain ⟨a,b⟩:=List.mem_filter.mp hx
    exact List.mem_map.mpr ⟨x.n,h.w0 x (pL.mem_iff.mp a) (by simpa using b),rfl⟩
theorem refs_perm {g:V->Option Nat} {L L':List Bx} {n:Nat} (p:L'.Perm L):refs g L' n=refs g L n:=(p.map _).sum_nat
theorem count_take {g:V->Option Nat} {ps:List V} {i:Nat} {v:V} (h:ps[i]?=some v) (n:Nat):((ps.take (i + 1)).filterMap g).count n=((ps.take i).filterMap g).count n + ([v].filterMap g).count n:=by
  rw [List.take_add_one,h,List.filterMap_append,List.count_append]
  rfl
section
variable {P:Program} {w:World} {K:PySem.W.Frag} {mg:Str->Option Value} {base:Heap} {f:Addr} {fd:FuncData} {A:Adr} {G S U:Addr} {Ad:Adr->Prop}
def spCounted (S:Addr) (Ad:Adr->Prop):Sp:=fun vs H Q _=>∃ (X:Adr) (g:V->Option Nat) (hp d nl wl lh rd:Addr) (m:Nm) (L:List Bx) (wt:List Nat) (N:Nat) (hs:List V) (kvs:List (Key × V)),vs=[.ref hp,.ref lh,.ref rd,.int m.sz]/\Ad X/\Hs S g X H hp d nl wl m L wt N/\Hd g L wt (cnt g hs)/\H lh=some (.lst hs)/\H rd=some (.dK kvs)/\(∀ v∈hs,Gv g H v)/\(∀ y∈L,y.parts.length<=9)/\Blt H kvs L/\hs.length < 2000/\N < 64/\m.kept.length < 1000/\(L.length:Int) + (m.kept.length:Int)<=m.sz/\∀ H',Same H H'->Q (.bl true) H'
theorem scCounted:FnScope ["_law_heap","_law_hands","_law_built","_law_size","_law_rows","_law_holders","_law_parts","_law_one","_law_idle","_law_at","_law_tag","_law_count"] ["_law_heap","_law_hands","_law_built","_law_size"] (defScope s_counted):=⟨rfl,rfl,rfl,by decide +kernel,rfl,by decide +kernel,by decide +kernel⟩
theorem ndCounted:(["_law_heap","_law_hands","_law_built","_law_size","_law_rows","_law_holders","_law_parts","_law_one","_law_idle","_law_at","_law_tag","_law_count","_law_row"]:List Str).Nodup:=by decide +kernel
theorem ok_counted (F:Fun K "_law_counted" "_law_counted" s_counted f fd) (T:Txt K mg A G) (TT:∀ A,Ad A->Txt K mg A G) (GB:∀ X,Ad X->Me P w K mg base CX0 1 X.cH "boxes" ["self"] (spBoxes X)) (GK:∀ X,Ad X->Me P w K mg base CX0 1 X.cH "keeping" ["self"] (spKeep X)) (GW:∀ X,Ad X->Me P w K mg base CX0 1 X.cH "waits" ["self"] (spWaitsG S X)):FnOk P w K mg base CX0 2 f fd ["_law_heap","_law_hands","_law_built","_law_size"] (spCounted S Ad):=by
  refine F.by scCounted (fun vs H Q E h=>?_) (fun cdv A' outer s H vs Q E hr h=>?_)
  · obtain ⟨X,g,hp,d,nl,wl,lh,rd,m,L,wt,N,hs,kvs,rfl,_⟩:=h
    rfl
  obtain ⟨X,g,hp,d,nl,wl,lh,rd,m,L,wt,N,hs,kvs,rfl,hX,Z,hd,hh,hrd,hgv,hp9,hbl,hl,hN,hkl,hro,q⟩:=h
  have r1:Room 1 _:=hr.mono (by decide)
  refine ⟨_,
    (jss_cons (js_set (i:=4) scCounted.nd rfl (Or.inl rfl) (je_me0A (sp:=fun A=>spBoxes A) (jv 0) (fun A h=>(TT A h).clH) GB r1 pass0))
    (jss_cons (js_set (i:=5) scCounted.nd rfl (Or.inl rfl) je_dnewK)
    (jss_cons (js_for PassesOwn.never rfl (ji_list (je_op jo_cat (je_lst (ja_c (jv 1) ja_nil)) (je_comp ["_law_row"] rfl (ji_list (jv 4)) (fun _ _ _ _ _=>(jg_name (i:=12) ndCounted rfl (Or.inl rfl))) (fun _ _ _ _ _=>jts_nil) (fun _ _ _ _ _=>(je_ix (jx_tupK K) (jv 12) je_int (fun _ _=>rfl)))))) (jg_name (i:=6) scCounted.nd rfl (Or.inl rfl))
      (jss_one (js_for PassesOwn.never rfl (ji_list (jv 6)) (jg_name (i:=7) scCounted.nd rfl (Or.inl rfl))
        (jss_one (js_if (jt_val (je_fnB jc_isinst rfl T.isi PyProof.Rows.boot_isinstance (ja_c (jv 7) (ja_c (je_bltn (v:=.ty "tuple") rfl T.tuple PyProof.Rows.boot_tuple rfl) ja_nil)))) 
          (jss_one (js_dput hr (jv 5) (je_ix jx_tup (jv 7) je_int (fun _ _=>rfl)) (je_op jo_add (je_dget2 hr (jv 5) (je_ix jx_tup (jv 7) je_int (fun _ _=>rfl)) je_int) je_int)))  jss_nil)))))
    (jss_cons (js_set (i:=8) scCounted.nd rfl (Or.inl rfl) (je_lst ja_nil))
    (jss_cons (js_for PassesOwn.never rfl (ji_list (jv 4)) (jg_tup rfl (jgs_cons (jg_name (i:=9) scCounted.nd rfl (Or.inl rfl)) (jgs_cons (jg_name (i:=10) scCounted.nd rfl (Or.inl rfl)) (jgs_cons (jg_name (i:=6) scCounted.nd rfl (Or.inl rfl)) (jgs_cons (jg_name (i:=11) scCounted.nd rfl (Or.inl rfl)) jgs_nil)))))
      (jss_cons (js_if (jW.pt (jw_or (jt_cmpR (jo_neD (n:=5) (by decide) hr) (je_dget1 hr (jv 2) (jv 9)) (je_tup (ja_c (jv 10) (ja_c (jv 6) ja_nil))) (by with_unfolding_all rfl)) (jw_or1 (jt_cmpR jo_ne (jv 11) (je_dpop2 (jv 5) (jv 9) je_int) (by with_unfolding_all rfl))))) 
        (jss_one (js_ret je_bl))  jss_nil)
      (jss_one (js_if (jt_cmpR jo_eq (jv 11) je_int (by with_unfolding_all rfl)) 
        (jss_one (js_expr (je_bm PySem.F.plainAttrs_list PySem.F.slot_list_append PySem.F.type_list_append jm_append (jv 8) (ja_c (jv 9) ja_nil))))  jss_nil))))
    (jss_one (js_ret (je_and (je_cmpR (jo_dE hr) (jv 5) je_dnewK (by with_unfolding_all rfl)) (je_and (je_cmpR (jo_eqD (n:=2) (by decide) hr) (je_fnB (jc_sortL rfl) rfl T.sorted PyProof.Rows.boot_sorted (ja_c (je_me0A (sp:=fun A=>spWaitsG S A) (jv 0) (fun A h=>(TT A h).clH) GW r1 pass0) ja_nil)) (jv 8) (by with_unfolding_all rfl)) (je_one (je_cmpR jo_le (je_op jo_add (je_fnB jc_len_seq rfl T.len PySem.boot_len (ja_c (jv 4) ja_nil)) (je_fnB jc_len_seq rfl T.len PySem.boot_len (ja_c (je_me0A (sp:=fun A=>spKeep A) (jv 0) (fun A h=>(TT A h).clH) GK r1 pass0) ja_nil))) (jv 3) (by with_unfolding_all rfl)))))))))))),?_⟩
  have sl:=line0
  have hLN:=Z.ln
  obtain ⟨dx,r,dr,h1,_⟩:=Z.hb.ex
  have no:=Z.hb.xt.2
  refine ⟨X,hX,(ex2q rfl ⟨hp,dx,(ex2q rfl ⟨h1,no _ (by decide) (by decide),hp,d,nl,m,L,rfl,Z.hb,by lia,fun H1 l ts qs L' pL sL s1 hl0 gl R _=>?_⟩)⟩)⟩
  refine fun ds hds=>?_
  have s2:=s1.new (o:=.dK []) hds
  have gl2:=(same_new hds (.dK [])) _ _ gl
  have R2:=R.same (same_new hds (.dK []))
  have gd2:upd H1 ds (.dK []) ds=some (.dK []):=upd_same
  have hds0:H ds=none:=none_of s1 hds
  obtain ⟨H2,e2⟩:∃ H2,H2=upd H1 ds (.dK []):=⟨_,rfl⟩
  rw [<- e2] at s2 gl2 R2 gd2 ⊢
  refine (ex2q rfl ⟨by show 1<=sizeLine; lia,fun l3 hl3=>?_⟩)
  have s3:=same_new hl3 (.lst [.ref lh])
  have gl3:=s3 _ _ gl2
  have R3:=R2.same s3
  have gd3:=s3 _ _ gd2
  have s03:=s2.trans s3
  have gh3:upd H2 l3 (.lst [.ref lh]) l3=some (.lst [.ref lh]):=upd_same
  obtain ⟨H3,e3⟩:∃ H3,H3=upd H2 l3 (.lst [.ref lh]):=⟨_,rfl⟩
  rw [<- e3] at s3 gl3 R3 gd3 s03 gh3 ⊢
  have tl:=R.tl
  have ql:=R.ql
  have lL:=pL.length_eq
  refine (ex2q rfl ⟨l,rfl,⟨_,SqL.of gl3⟩,lc_list (K:=K) (xs:=ts.map V.ref) (fun j τ ys H'=>H'=H3/\(∃ v,τ=[some (.ref hp),some (.ref lh),some (.ref rd),some (.int m.sz),some (.ref l),some (.ref ds),none,none,none,none,none,none,v])/\ys=(qs.take j).map V.ref) ⟨rfl,⟨none,rfl⟩,rfl⟩ ?_ ?_ ?_⟩)
  · rintro j τ ys H' hj ⟨rfl,_⟩
    exact SqL.of gl3
  · rintro j u τ ys H' hu ⟨rfl,⟨v,rfl⟩,rfl⟩
    rw [List.getElem?_map] at hu
    obtain ⟨t,ht,rfl⟩:=Option.map_eq_some_iff.mp hu
    have hj:j < ts.length:=(List.getElem?_eq_some_iff.mp ht).1
    have hq:qs[j]?=some (qs[j]'(by lia)):=List.getElem?_eq_getElem _
    have hx:L'[j]?=some (L'[j]'(by lia)):=List.getElem?_eq_getElem _
    obtain ⟨b1,b2⟩:=R3.row j t _ _ ht hq hx
    refine (ex2q rfl ⟨t,_,_,_,rfl,rfl,SqT.of b1,atI_nat (j:=2) rfl,by rw [List.length_map,List.length_take]; lia,rfl,⟨_,rfl⟩,?_⟩)
    rw [List.take_add_one,hq,List.map_append]
    rfl
  rintro τ ys H' ⟨rfl,_,rfl⟩ l4 hl4
  rw [List.length_map,show ts.length=qs.length by lia,List.take_length]
  have s4:=same_new hl4 (.lst (qs.map V.ref))
  have gd4:=s4 _ _ gd3
  have gh4:=s4 _ _ gh3
  have gl4:=s4 _ _ gl3
  have R4:=R3.same s4
  have s04:=s03.trans s4
  refine ⟨l3,l4,(ex4q rfl rfl ⟨gh4,upd_same,by rw [List.length_map]; show 1 + qs.length<=sizeLine; lia,fun l5 hl5=>?_⟩)⟩
  have s5:=same_new hl5 (.lst ([V.ref lh] ++ qs.map V.ref))
  have gd5:=s5 _ _ gd4
  have gl5:=s5 _ _ gl4
  have R5:=R4.same s5
  have s05:=s04.trans s5
  have g5:upd (upd H' l4 (.lst (qs.map V.ref))) l5 (.lst ([V.ref lh] ++ qs.map V.ref)) l5=some (.lst ((lh :: qs).map V.ref)):=upd_same
  obtain ⟨H5,e5⟩:∃ H5,H5=upd (upd H' l4 (.lst (qs.map V.ref))) l5 (.lst ([V.ref lh] ++ qs.map V.ref)):=⟨_,rfl⟩
  rw [<- e5] at s5 gd5 gl5 R5 s05 g5 ⊢
  clear s4 gd4 gh4 gl4 R4 s04 s3 gd3 gl3 R3 s03 gh3 e5 e3 e2 s2 gl2 R2 gd2
  have Z5:=Z.same s05
  have rows:∀ (i:Nat) (a:Addr),(lh :: qs)[i]?=some a->∃ ps,(hs :: L'.map (·.parts))[i]?=some ps/\H5 a=some (.lst ps)/\(∀ v∈ps,Gv g H5 v)/\ps.length < 2000:=fun i a e=>by
    cases i with
    | zero =>
      injection e with e
      subst e
      exact ⟨hs,rfl,s05 _ _ hh,fun v hv=>(hgv v hv).same s05,hl⟩
    | succ i =>
      have e':qs[i]?=some a:=e
      have hi:i < qs.length:=(List.getElem?_eq_some_iff.mp e').1
      have hx:L'[i]?=some (L'[i]'(by lia)):=List.getElem?_eq_getElem _
      have ht:ts[i]?=some (ts[i]'(by lia)):=List.getElem?_eq_getElem _
      obtain ⟨b1,b2⟩:=R5.row i _ a _ ht e' hx
      have hm:=pL.mem_iff.mp (List.mem_of_getElem? hx)
      refine ⟨_,?_,b2,fun v hv=>Z5.prs _ hm v hv,by have:=hp9 _ hm; lia⟩
      show (L'.map (·.parts))[i]?=_
      rw [List.getElem?_map,hx]
      rfl
  have nds5:∀ {b:Addr} {xs:List V},H5 b=some (.lst xs)->b≠ds:=fun e=>ne_of e gd5 (by intro z; cases z)
  refine ⟨l5,rfl,⟨_,SqL.of g5⟩,for_list (K:=K) (xs:=(lh :: qs).map V.ref) (fun i σ H6=>∃ (v6 v7:Option V) (kv:List (Key × V)),σ=[some (.ref hp),some (.ref lh),some (.ref rd),some (.int m.sz),some (.ref l),some (.ref ds),v6,v7,none,none,none,none]/\(∀ b o,b≠ds->H5 b=some o->H6 b=some o)/\H6 ds=some (.dK kv)/\HD kv (holds g ((hs :: L'.map (·.parts)).take i))/\kv.length<=2000 * i) ⟨none,none,[],rfl,fun b o _ e=>e,gd5,HD.nil,Nat.zero_le _⟩ ?_ ?_ ?_⟩
  · rintro i σ H6 hi ⟨v6,v7,kv,_,fr,_⟩
    exact SqL.of (fr _ _ (nds5 g5) g5)
  · rintro i u σ H6 hu ⟨v6,v7,kv,rfl,fr,gd6,hD,hkv⟩
    rw [List.getElem?_map] at hu
    obtain ⟨a,ha,rfl⟩:=Option.map_eq_some_iff.mp hu
    obtain ⟨ps,ep,ga,hpv,hpl⟩:=rows i a ha
    have hi:i < (lh :: qs).length:=(List.getElem?_eq_some_iff.mp ha).1
    rw [List.length_cons] at hi
    have ek:∀ n,holds g ((hs :: L'.map (·.parts)).take (i + 1)) n=holds g ((hs :: L'.map (·.parts)).take i) n + (ps.filterMap g).count n:=fun n=>by
      rw [List.take_add_one,ep]
      exact holds_snoc
    obtain ⟨c0,ec0⟩:∃ c0,c0=holds g ((hs :: L'.map (·.parts)).take i):=⟨_,rfl⟩
    rw [<- ec0] at hD ek
    refine (ex2q rfl ⟨a,rfl,⟨_,SqL.of (fr _ _ (nds5 ga) ga)⟩,for_list (K:=K) (xs:=ps) (fun j σ H7=>∃ (v7:Option V) (kv:List (Key × V)),σ=[some (.ref hp),some (.ref lh),some (.ref rd),some (.int m.sz),some (.ref l),some (.ref ds),some (.ref a),v7,none,none,none,none]/\(∀ b o,b≠ds->H5 b=some o->H7 b=some o)/\H7 ds=some (.dK kv)/\HD kv (fun n=>c0 n + ((ps.take j).filterMap g).count n)/\kv.length<=2000 * i + j) ⟨v7,kv,rfl,fr,gd6,hD,hkv⟩ ?_ ?_ ?_⟩)
    · rintro j σ H7 hj ⟨v7,kv,_,fr,_⟩
      exact SqL.of (fr _ _ (nds5 ga) ga)
    · rintro j v σ H7 hv ⟨v7,kv,rfl,fr,gd7,hD,hkv⟩
      have hj:j < ps.length:=(List.getElem?_eq_some_iff.mp hv).1
      have et:=count_take (g:=g) hv
      rcases hpv v (List.mem_of_getElem? hv) with ⟨fl,gn⟩ | ⟨p,n,rfl,hpn,gn⟩
      · have hD':HD kv (fun n=>c0 n + ((ps.take (j + 1)).filterMap g).count n):=by
          have:(fun n=>c0 n + ((ps.take (j + 1)).filterMap g).count n)=(fun n=>c0 n + ((ps.take j).filterMap g).count n):=funext fun n=>by
            rw [et n,List.filterMap_cons,gn]
            show _ + (_ + ([]:List Nat).count n)=_
            rw [List.count_nil]
            rfl
          rw [this]
          exact hD
        rcases fl with ⟨z,rfl⟩ | ⟨z,rfl⟩
        · exact (ex2q rfl ⟨_,_,_,_,rfl,.str z,kit_st _,(ex2q rfl (iteF ⟨_,kv,rfl,fr,gd7,hD',by lia⟩))⟩)
        · exact (ex2q rfl ⟨_,_,_,_,rfl,.int z,kit_it _,(ex2q rfl (iteF ⟨_,kv,rfl,fr,gd7,hD',by lia⟩))⟩)
      · have gp:=fr p _ (ne_of hpn gd5 (by intro z; cases z)) hpn
        refine (ex2q rfl ⟨_,_,_,_,rfl,.tup gp,kit_tt _,(ex2q rfl (iteT ?_))⟩)
        refine (ex2q rfl ⟨ds,rfl,.inl ⟨_,.of gd7⟩,(ex2q rfl ⟨p,_,_,_,rfl,rfl,SqT.of gp,atI_nat (j:=1) rfl,_,DGet.k (k:=.inl (n:Int)) gd7,?_⟩)⟩)
        rw [hD.at_ n]
        have eo:(if c0 n + ((ps.take j).filterMap g).count n=0 then (none:Option V) else some (.int ((c0 n + ((ps.take j).filterMap g).count n:Nat):Int))).getD (.int 0)=.int ((c0 n + ((ps.take j).filterMap g).count n:Nat):Int):=by
          split
          · rename_i z
            rw [z]
            rfl
          · rfl
        rw [eo]
        refine (ex4q rfl rfl (ex2q rfl (ex2q rfl ⟨p,_,_,_,rfl,rfl,SqT.of gp,atI_nat (j:=1) rfl,ds,(ex2q rfl ⟨DPut.k (k:=.inl (n:Int)) gd7 (by lia),?_⟩)⟩)))
        have hD2:=hD.put n
        refine ⟨_,_,rfl,fun b o nb e=>by rw [upd_ne nb]; exact fr b o nb e,upd_same,?_,Nat.le_trans (putK_len ..) (by lia)⟩
        have:(fun k=>c0 k + ((ps.take (j + 1)).filterMap g).count k)=(fun k=>if k=n then c0 n + ((ps.take j).filterMap g).count n + 1 else c0 k + ((ps.take j).filterMap g).count k):=funext fun k=>by
          rw [et k,List.filterMap_cons,gn]
          show _ + (_ + [n].count k)=_
          by_cases c:k=n
          · rw [if_pos c,c,List.count_cons_self,List.count_nil]
            lia
          · rw [if_neg c,List.count_cons_of_ne (Ne.symm c),List.count_nil]
            rfl
        rw [this]
        exact hD2
    · rintro σ H7 ⟨v7,kv,rfl,fr,gd7,hD,hkv⟩
      rw [List.take_length] at hD
      refine ⟨_,_,kv,rfl,fr,gd7,?_,by lia⟩
      have:holds g ((hs :: L'.map (·.parts)).take (i + 1))=(fun n=>c0 n + (ps.filterMap g).count n):=funext ek
      rw [this]
      exact hD
  rintro σ H6 ⟨v6,v7,kv,rfl,fr,gd6,hD,hkv⟩
  have eA:(hs :: L'.map (·.parts)).take ((lh :: qs).map V.ref).length=hs :: L'.map (·.parts):=List.take_of_length_le (by rw [List.length_map,List.length_cons,List.length_cons,List.length_map]; lia)
  rw [eA] at hD
  have hD:HD kv (fun n=>cnt g hs n + refs g L n):=by
    have:holds g (hs :: L'.map (·.parts))=fun n=>cnt g hs n + refs g L n:=funext fun n=>by rw [holds_rows,refs_perm pL]
    rw [this] at hD
    exact hD
  rw [List.length_map,List.length_cons] at hkv
  refine ⟨by show 0<=sizeLine; lia,fun li hli=>?_⟩
  have s7:=same_new hli (.lst [])
  have hli5:H5 li=none:=by
    cases e:H5 li with
    | none=>rfl
    | some o =>
      have z:li≠ds:=fun z=>by rw [z,gd6] at hli; cases hli
      rw [fr li o z e] at hli
      cases hli
  have ndi:ds≠li:=ne_of_none gd6 hli
  have fr7:∀ b o,b≠ds->H5 b=some o->upd H6 li (.lst []) b=some o:=fun b o n e=>s7 _ _ (fr b o n e)
  have gd7:=s7 _ _ gd6
  have gi7:upd H6 li (.lst []) li=some (.lst []):=upd_same
  obtain ⟨H7,e7⟩:∃ H7,H7=upd H6 li (.lst []):=⟨_,rfl⟩
  rw [<- e7] at fr7 gd7 gi7 ⊢
  have rL:Rise L':=(pL.pairwise_iff (R:=fun x y:Bx=>x.n≠y.n) (fun h=>Ne.symm h)).mpr hd.rise
  refine (ex2q rfl ⟨l,rfl,⟨_,SqL.of (fr7 _ _ (nds5 gl5) gl5)⟩,for_list (K:=K) (xs:=ts.map V.ref) (fun i σ H8=>∃ (v6 v7 v9 v10 v11:Option V) (kv:List (Key × V)),σ=[some (.ref hp),some (.ref lh),some (.ref rd),some (.int m.sz),some (.ref l),some (.ref ds),v6,v7,some (.ref li),v9,v10,v11]/\(∀ b o,b≠ds->H5 b=some o->H8 b=some o)/\H8 ds=some (.dK kv)/\HD kv (fun n=>if n∈(L'.take i).map (·.n) then 0 else cnt g hs n + refs g L n)/\H8 li=some (.lst (((L'.take i).filter fun x=>x.count == 0).map fun x=>V.int (x.n:Int)))) ⟨v6,v7,none,none,none,kv,rfl,fr7,gd7,hD,gi7⟩ ?_ ?_ ?_⟩)
  · rintro i σ H8 hi ⟨v6,v7,v9,v10,v11,kv,_,fr,_⟩
    exact SqL.of (fr _ _ (nds5 gl5) gl5)
  · rintro i u σ H8 hu ⟨v6,v7,v9,v10,v11,kv,rfl,fr8,gd8,hD8,gi8⟩
    rw [List.getElem?_map] at hu
    obtain ⟨t,ht,rfl⟩:=Option.map_eq_some_iff.mp hu
    have hi:i < ts.length:=(List.getElem?_eq_some_iff.mp ht).1
    obtain ⟨q',hq⟩:∃ q',qs[i]?=some q':=⟨_,List.getElem?_eq_getElem (by lia)⟩
    obtain ⟨x,hx⟩:∃ x,L'[i]?=some x:=⟨_,List.getElem?_eq_getElem (by lia)⟩
    obtain ⟨b1,b2⟩:=R5.row i _ q' x ht hq hx
    have hm:=pL.mem_iff.mp (List.mem_of_getElem? hx)
    obtain ⟨tb,qb,c1,c2,c3⟩:=hbl x hm
    have up:∀ {b:Addr} {o:HO},H5 b=some o->(∀ kv,o≠.dK kv)->H8 b=some o:=fun {b o} e n=>fr8 b o (ne_of e gd5 (n _)) e
    have et:L'.take (i + 1)=L'.take i ++ [x]:=by rw [List.take_add_one,hx]; rfl
    have hxn:x.n ∉ (L'.take i).map (·.n):=fun z=>by
      obtain ⟨y,hy,ey⟩:=List.mem_map.mp z
      obtain ⟨j,hj,ej⟩:=List.getElem_of_mem hy
      rw [List.length_take] at hj
      have hi':i < L'.length:=by lia
      have:=List.pairwise_iff_getElem.mp rL j i (by lia) hi' (by lia)
      rw [List.getElem_take] at ej
      have ex:L'[i]=x:=(List.getElem?_eq_some_iff.mp hx).2
      rw [ej,ex] at this
      exact this ey
    have hcx:=hd.cnt x hm
    refine ⟨t,(ex2q rfl ⟨SqT.of (up b1 (fun _ z=>nomatch z)),rfl,_,_,rfl,_,_,rfl,_,_,rfl,_,_,rfl,rfl,?_⟩)⟩
    dsimp only
    refine seq_m (fun σ H9=>σ=[some (.ref hp),some (.ref lh),some (.ref rd),some (.int m.sz),some (.ref l),some (.ref ds),some (.ref q'),v7,some (.ref li),some (.int (x.n:Int)),some (.str x.tag),some (.int x.count)]/\∃ kv,(∀ b o,b≠ds->H5 b=some o->H9 b=some o)/\H9 ds=some (.dK kv)/\HD kv (fun n=>if n∈(L'.take (i + 1)).map (·.n) then 0 else cnt g hs n + refs g L n)/\H9 li=some (.lst (((L'.take i).filter fun x=>x.count == 0).map fun x=>V.int (x.n:Int)))) ?_ (fun fin=>?_)
    · rintro σ H9 ⟨rfl,kv,fr9,gd9,hD9,gi9⟩
      refine (ex2q rfl ⟨rfl,(ex2q rfl (ite2 (fun c=>?_) (fun c=>?_)))⟩)
      · have c0:x.count=0:=by
          rw [decide_eq_true_eq] at c
          injection c
        refine (ex2q rfl ⟨.inl ⟨rfl,_,SqL.of gi9⟩,(ex2q rfl ⟨li,(ex4q rfl rfl ⟨gi9,?_,?_⟩)⟩)⟩)
        · rw [List.length_map]
          have:=List.length_filter_le (fun x:Bx=>x.count == 0) (L'.take i)
          rw [List.length_take] at this
          lia
        refine ⟨_,_,_,_,_,kv,rfl,fun b o nb e=>?_,by rw [upd_ne ndi]; exact gd9,hD9,?_⟩
        · rw [upd_ne (fun z=>by rw [z,hli5] at e; cases e)]
          exact fr9 b o nb e
        · rw [upd_same,et,List.filter_append,List.map_append,List.filter_cons_of_pos (by rw [c0]; rfl)]
          rfl
      · have c0:x.count≠0:=fun z=>c (decide_eq_true (by rw [z]))
        refine ⟨_,_,_,_,_,kv,rfl,fr9,gd9,hD9,?_⟩
        rw [gi9,et,List.filter_append,List.filter_cons_of_neg (by simpa using c0),List.filter_nil,List.append_nil]
    have gr8:=fr8 rd _ (fun z=>by rw [<- z,hrd] at hds0; cases hds0) (s05 _ _ hrd)
    refine (ex2q rfl ⟨rd,rfl,.inl ⟨_,.of gr8⟩,(ex2q rfl ⟨_,DGet.k (k:=.inl (x.n:Int)) gr8,?_⟩)⟩)
    rw [c1]
    refine (ex2q rfl (ex2q rfl ⟨by show 2<=sizeLine; lia,fun tp htp=>?_⟩))
    have s9:=same_new htp (.tup [.str x.tag,.ref q'])
    have sme:Sme 5 (upd H8 tp (.tup [.str x.tag,.ref q'])) (.ref tb) (.ref tp):=by
      refine Sme.tup (s9 _ _ (up (s05 _ _ c2) (fun _ z=>nomatch z))) upd_same (.cons (Sme.str _) (.cons (Sme.lst (s9 _ _ (up (s05 _ _ c3) (fun _ z=>nomatch z))) (s9 _ _ (up b2 (fun _ z=>nomatch z))) (A2.refl fun v hv=>Sme.pr ?_)) .nil))
      rcases Z.prs x hm v hv with ⟨fl,_⟩ | ⟨a,j,rfl,z,_⟩
      · exact .inl fl
      · exact .inr ⟨a,j,rfl,s9 _ _ (up (s05 _ _ z) (fun _ z=>nomatch z))⟩
    refine ⟨tb,tp,rfl,rfl,sme,(ex2q rfl (iteF ?_))⟩
    have gd9:=s9 _ _ gd8
    have gi9:=s9 _ _ gi8
    have hD9:∀ {kv':List (Key × V)},HD kv' (fun k=>if k=x.n then 0 else if k∈(L'.take i).map (·.n) then 0 else cnt g hs k + refs g L k)->HD kv' (fun n=>if n∈(L'.take (i + 1)).map (·.n) then 0 else cnt g hs n + refs g L n):=fun {kv'} h=>by
      have:(fun n=>if n∈(L'.take (i + 1)).map (·.n) then 0 else cnt g hs n + refs g L n)=(fun k=>if k=x.n then 0 else if k∈(L'.take i).map (·.n) then 0 else cnt g hs k + refs g L k):=funext fun k=>by
        rw [et,List.map_append]
        by_cases z:k=x.n
        · rw [if_pos z,if_pos (List.mem_append_right _ (by rw [z]; exact List.mem_cons_self))]
        · rw [if_neg z]
          by_cases z2:k∈(L'.take i).map (·.n)
          · rw [if_pos z2,if_pos (List.mem_append_left _ z2)]
          · rw [if_neg z2,if_neg (fun h=>(List.mem_append.mp h).elim z2 (fun h=>z (by simpa using h)))]
      rw [this]
      exact h
    have hv0:=hD8.at_ x.n
    rw [if_neg hxn] at hv0
    refine (ex2q rfl (ex2q rfl ⟨ds,rfl,.inl ⟨_,.of gd9⟩,(ex2q rfl ⟨kv,.inl (x.n:Int),gd9,rfl,fun v hv=>?_,fun hv=>?_⟩)⟩))
    · rw [hv] at hv0
      have ev:v=.int x.count:=by
        split at hv0
        · cases hv0
        · injection hv0 with hv0
          rw [hv0,hcx]
          rfl
      subst ev
      refine ⟨rfl,(ex2q rfl (ite2 (fun c=>?_) (fun _=>?_)))⟩
      · simp at c
      · refine fin _ _ ⟨rfl,_,fun b o nb e=>by rw [upd_ne nb]; exact s9 _ _ (fr8 b o nb e),upd_same,hD9 (hD8.drop x.n),by rw [upd_ne (Ne.symm ndi)]; exact gi9⟩
    · rw [hv] at hv0
      have ez:cnt g hs x.n + refs g L x.n=0:=by
        split at hv0
        · assumption
        · cases hv0
      have ec:x.count=0:=by lia
      refine ⟨rfl,(ex2q rfl (ite2 (fun c=>?_) (fun _=>?_)))⟩
      · rw [ec] at c
        simp at c
      · exact fin _ _ ⟨rfl,_,fun b o nb e=>s9 _ _ (fr8 b o nb e),gd9,hD9 (hD8.same (by show (if x.n∈(L'.take i).map (·.n) then 0 else cnt g hs x.n + refs g L x.n)=0; rw [if_neg hxn]; exact ez)),gi9⟩
  rintro σ H8 ⟨v6,v7,v9,v10,v11,kv,rfl,fr8,gd8,hD8,gi8⟩
  rw [List.length_map,tl,List.take_length] at hD8 gi8
  have kv0:kv=[]:=hD8.empty fun n=>by
    show (if n∈L'.map (·.n) then 0 else cnt g hs n + refs g L n)=0
    split
    · rfl
    · rename_i z
      rcases Nat.eq_zero_or_pos (cnt g hs n + refs g L n) with c | c
      · exact c
      · obtain ⟨x,hx,e⟩:=hd.dom n c
        exact absurd (List.mem_map.mpr ⟨x,pL.mem_iff.mpr hx,e⟩) z
  subst kv0
  have s8:Same H H8:=fun b o e=>fr8 b o (fun z=>by rw [z,hds0] at e; cases e) (s05 _ _ e)
  have Z8:=Z.same s8
  have gl8:=fr8 _ _ (nds5 gl5) gl5
  obtain ⟨dx8,r8,dr8,k1,_⟩:=Z8.hb.ex
  refine (ex2q rfl (fun de hde=>⟨ds,de,(ex2q rfl ⟨rfl,old hde gd8,upd_same,(ex2q rfl (iteT ?_))⟩)⟩))
  have s9:=same_new hde (.dK [])
  have gi9:=s9 _ _ gi8
  have gl9:=s9 _ _ gl8
  have Z9:=Z8.same s9
  have s09:=s8.trans s9
  obtain ⟨H9,e9⟩:∃ H9,H9=upd H8 de (.dK []):=⟨_,rfl⟩
  rw [<- e9] at s9 gi9 gl9 Z9 s09 ⊢
  refine ⟨X,hX,(ex2q rfl ⟨hp,_,_,rfl,s9 _ _ k1,no _ (by decide) (by decide),hp,d,nl,m,L,(ex2q rfl ⟨Z9.hb,Z9.wt,fun lw hlw=>?_⟩)⟩)⟩
  have s10:=same_new hlw (.lst ((wt.map fun (n:Nat)=>(n:Int)).map V.int))
  have hwl:=hd.len
  refine ⟨lw,(ex2q rfl ⟨upd_same,by rw [List.length_map]; lia,fun l' ns' hl' pm srt=>?_⟩)⟩
  have e:=idle_eq hd pL sL pm srt
  have s11:=s10.new (o:=.lst (ns'.map V.int)) hl'
  have gi11:=s11 _ _ gi9
  have gl11:=s11 _ _ gl9
  have Z11:=Z9.same s11
  have s011:=s09.trans s11
  have gs11:upd (upd H9 lw (.lst ((wt.map fun (n:Nat)=>(n:Int)).map V.int))) l' (.lst (ns'.map V.int)) l'=some (.lst (ns'.map V.int)):=upd_same
  obtain ⟨H11,e11⟩:∃ H11,H11=upd (upd H9 lw (.lst ((wt.map fun (n:Nat)=>(n:Int)).map V.int))) l' (.lst (ns'.map V.int)):=⟨_,rfl⟩
  rw [<- e11] at s11 gi11 gl11 Z11 s011 gs11 ⊢
  have gs':H11 l'=some (.lst ((L'.filter fun x=>x.count == 0).map fun x=>V.int (x.n:Int))):=by
    rw [gs11,e,List.map_map]
    rfl
  refine (ex2q rfl ⟨l',li,rfl,rfl,Sme.lst gs' gi11 (A2.refl fun v hv=>?_),(ex2q rfl (iteT ?_))⟩)
  · obtain ⟨x,_,rfl⟩:=List.mem_map.mp hv
    exact Sme.int _
  refine (ex2q rfl ⟨l,(ex2q rfl ⟨.inl (SqL.of gl11),X,hX,(ex2q rfl ⟨hp,_,_,rfl,s11 _ _ (s9 _ _ k1),no _ (by decide) (by decide),hp,d,nl,m,L,rfl,Z11.hb,fun lk hlk=>?_⟩)⟩)⟩)
  have s12:=same_new hlk (.lst (m.kept.map V.int))
  refine ⟨lk,(ex2q rfl ⟨.inl (SqL.of upd_same),(ex4q rfl rfl (ex2q rfl (ex4q rfl rfl ?_)))⟩)⟩
  rw [List.length_map,List.length_map]
  have:decide (((ts.length:Nat):Int) + ((m.kept.length:Nat):Int)<=m.sz)=true:=decide_eq_true (by lia)
  dsimp only
  rw [this]
  exact q _ (s011.trans s12)
end
end Hv
set_option simprocs false
namespace Hv
open PySem L2 K11 HM
def Tl8 (H0 H:Hp) (l:Addr) (m:Nm) (L:List Bx) (wt:List Nat):Prop:=∃ (lb lk lw:Addr) (ts qs:List Addr) (L':List Bx),L'.Perm L/\SrtB L'/\H l=some (.lst [.ref lb,.ref lk,.ref lw,.int m.fresh,.int m.anew,.int m.peak])/\H lb=some (.lst (ts.map V.ref))/\Rws H lb ts qs L'/\H lk=some (.lst (m.kept.map V.int))/\H lw=some (.lst ((wt.map fun (n:Nat)=>(n:Int)).map V.int))/\H0 l=none/\H0 lb=none/\H0 lk=none/\H0 lw=none/\∀ q∈qs,H0 q=none
theorem Tl8.keep {H0 H H':Hp} {l:Addr} {m:Nm} {L:List Bx} {wt:List Nat} (h:Tl8 H0 H l m L wt) (kl:∀ a xs,H0 a=none->H a=some (.lst xs)->H' a=some (.lst xs)) (kt:∀ a xs,H a=some (.tup xs)->H' a=some (.tup xs)):Tl8 H0 H' l m L wt:=by
  obtain ⟨lb,lk,lw,ts,qs,M,pM,sM,a1,a2,a3,a4,a5,n1,n2,n3,n4,n5⟩:=h
  exact ⟨lb,lk,lw,ts,qs,M,pM,sM,kl _ _ n1 a1,kl _ _ n2 a2,⟨a3.tl,a3.ql,a3.ne,fun i t q x e1 e2 e3=>let ⟨b1,b2⟩:=a3.row i t q x e1 e2 e3; ⟨kt _ _ b1,kl _ _ (n5 q (List.mem_of_getElem? e2)) b2⟩⟩,kl _ _ n3 a4,kl _ _ n4 a5,n1,n2,n3,n4,n5⟩
theorem tl8_sme {H0 H0' H:Hp} {l l':Addr} {m m':Nm} {L:List Bx} {wt:List Nat} (hr:Rise L) (h:Tl8 H0 H l m L wt) (h':Tl8 H0' H l' m' L wt) (em:Eqm m m') (hf0:∀ x∈L,∀ v∈x.parts,Pr6 H v):Sme 6 H (.ref l) (.ref l'):=by
  obtain ⟨lb,lk,lw,ts,qs,M,pM,sM,a1,a3,a4,a5,a6,_⟩:=h
  obtain ⟨lb',lk',lw',ts',qs',M',pM',sM',b1,b3,b4,b5,b6,_⟩:=h'
  obtain rfl:=srt_eq hr pM pM' sM sM'
  have hf:∀ x∈M,∀ v∈x.parts,Pr6 H v:=fun x hx=>hf0 x (pM.mem_iff.mp hx)
  rw [em.fresh,em.anew,em.peak] at a1
  rw [em.kept] at a5
  refine Sme.lst a1 b1 (.cons ?_ (.cons (Sme.lst a5 b5 (A2.refl fun v hv=>?_)) (.cons (Sme.lst a6 b6 (A2.refl fun v hv=>?_)) (.cons (Sme.int _) (.cons (Sme.int _) (.cons (Sme.int _) .nil))))))
  · have e1:=a4.tl
    have e2:=a4.ql
    have e1':=b4.tl
    have e2':=b4.ql
    refine .inr ⟨lb,lb',(ex4q rfl rfl ⟨.inl ⟨a3,b3⟩,by rw [List.length_map,List.length_map]; lia,fun i u v h1 h2=>?_⟩)⟩
    rw [List.getElem?_map] at h1 h2
    have hi:i < M.length:=by
      rcases Nat.lt_or_ge i M.length with c | c
      · exact c
      · rw [List.getElem?_eq_none (by lia)] at h1; cases h1
    have g1:ts[i]?=some (ts[i]'(by lia)):=List.getElem?_eq_getElem _
    have g2:ts'[i]?=some (ts'[i]'(by lia)):=List.getElem?_eq_getElem _
    have g3:M[i]?=some M[i]:=List.getElem?_eq_getElem hi
    rw [g1] at h1
    rw [g2] at h2
    cases h1
    cases h2
    obtain ⟨c1,c2⟩:=a4.row i _ (qs[i]'(by lia)) _ g1 (List.getElem?_eq_getElem _) g3
    obtain ⟨d1,d2⟩:=b4.row i _ (qs'[i]'(by lia)) _ g2 (List.getElem?_eq_getElem _) g3
    exact Sme.tup c1 d1 (.cons (Sme.int _) (.cons (Sme.str _) (.cons (Sme.lst c2 d2 (A2.refl fun v hv=>Sme.pr (hf _ (List.mem_of_getElem? g3) v hv))) (.cons (Sme.int _) .nil))))
  · obtain ⟨i,_,rfl⟩:=List.mem_map.mp hv
    exact Sme.int _
  · obtain ⟨i,_,rfl⟩:=List.mem_map.mp hv
    exact Sme.int _
structure Ad8 where
  ww:Addr
  lh:Addr
  lp:Addr
  rd:Addr
  lm:Addr
  hp:Addr
  d:Addr
  nl:Addr
  wl:Addr
def Own (a:Ad8) (b:Addr):Prop:=b=a.lh\/b=a.lp\/b=a.lm\/b=a.rd\/b=a.nl\/b=a.wl\/b=a.d
structure Fr8 (a:Ad8) (H H':Hp):Prop where
  l:∀ b xs,¬ Own a b->H b=some (.lst xs)->H' b=some (.lst xs)
  t:∀ b xs,H b=some (.tup xs)->H' b=some (.tup xs)
  f:∀ b o u,H b=some (.frz o u)->H' b=some (.frz o u)
theorem Fr8.refl {a:Ad8} {H:Hp}:Fr8 a H H:=⟨fun _ _ _ h=>h,fun _ _ h=>h,fun _ _ _ h=>h⟩
theorem Fr8.trans {a:Ad8} {H H1 H2:Hp} (x:Fr8 a H H1) (y:Fr8 a H1 H2):Fr8 a H H2:=⟨fun b xs n h=>y.1 b xs n (x.1 b xs n h),fun b xs h=>y.2 b xs (x.2 b xs h),fun b o u h=>y.3 b o u (x.3 b o u h)⟩
theorem Fr8.of {a:Ad8} {H H':Hp} (s:Same H H'):Fr8 a H H':=⟨fun _ _ _ h=>s _ _ h,fun _ _ h=>s _ _ h,fun _ _ _ h=>s _ _ h⟩
theorem Fr8.ks {a:Ad8} {H H':Hp} (k:KS a.nl a.wl a.d H H'):Fr8 a H H':=⟨fun b xs n h=>k.1 b xs (fun z=>n (.inr (.inr (.inr (.inr (.inl z)))))) (fun z=>n (.inr (.inr (.inr (.inr (.inr (.inl z))))))) h,k.2,k.3⟩
theorem Fr8.put {a:Ad8} {H:Hp} {b:Addr} {o o':HO} (n:Own a b) (h:H b=some o) (ht:∀ xs,o≠.tup xs) (hf:∀ u v,o≠.frz u v):Fr8 a H (upd H b o'):=⟨fun c xs z e=>by rw [upd_ne (fun q=>z (by rw [q]; exact n))]; exact e,fun c xs e=>by rw [upd_ne (ne_of e h (Ne.symm (ht _)))]; exact e,fun c u v e=>by rw [upd_ne (ne_of e h (Ne.symm (hf _ _)))]; exact e⟩
structure Sep8 (a:Ad8):Prop where
  wh:a.ww≠a.lh
  wp:a.ww≠a.lp
  wm:a.ww≠a.lm
  wn:a.ww≠a.nl
  ww:a.ww≠a.wl
  hp:a.lh≠a.lp
  hm:a.lh≠a.lm
  hn:a.lh≠a.nl
  hw:a.lh≠a.wl
  pm:a.lp≠a.lm
  pn:a.lp≠a.nl
  pw:a.lp≠a.wl
  mn:a.lm≠a.nl
  mw:a.lm≠a.wl
  rd:a.rd≠a.d
structure D8 where
  g:V->Option Nat
  m:Nm
  L:List Bx
  wt:List Nat
  hs:List V
  js:List Int
  kvs:List (Key × V)
  N:Nat
structure Pu8 (D:D8):Prop where
  ks:KSrt D.m.kept
  kl:D.m.kept.length<=D.N
  ko:KOut D.m D.L
  ro:(D.L.length:Int) + (D.m.kept.length:Int)<=D.m.sz
  js:∀ j∈D.js,0<=j/\j < (D.m.fresh:Int)
  jl:D.js.length<=D.N
  rk:∃ rk,Rk D.g D.L rk
  p9:∀ y∈D.L,y.parts.length<=9
  hl:D.hs.length<=10 * D.N
  vl:D.kvs.length<=D.N
  g0:∀ v,Flat v->D.g v=none
def Bl8 (a:Ad8) (H:Hp) (kvs:List (Key × V)) (L:List Bx):Prop:=∀ x∈L,∃ t q,valV kvs (.inl (x.n:Int))=some (.ref t)/\H t=some (.tup [.str x.tag,.ref q])/\H q=some (.lst x.parts)/\¬ Own a q
theorem Bl8.blt {a:Ad8} {H:Hp} {kvs:List (Key × V)} {L:List Bx} (h:Bl8 a H kvs L):Blt H kvs L:=fun x hx=>let ⟨t,q,b,c,d,_⟩:=h x hx; ⟨t,q,b,c,d⟩
theorem Bl8.fr {a:Ad8} {H H':Hp} {kvs:List (Key × V)} {L:List Bx} (h:Bl8 a H kvs L) (f:Fr8 a H H'):Bl8 a H' kvs L:=fun x hx=>let ⟨t,q,b,c,d,e⟩:=h x hx; ⟨t,q,b,f.2 _ _ c,f.1 _ _ e d,e⟩
theorem Bl8.sub {a:Ad8} {H:Hp} {kvs:List (Key × V)} {L L':List Bx} (h:Bl8 a H kvs L) (s:Sub L' L):Bl8 a H kvs L':=fun y hy=>by
  obtain ⟨x,hx,e1,e2,e3,_⟩:=s y hy
  obtain ⟨t,q,b,c,d,e⟩:=h x hx
  exact ⟨t,q,by rw [<- e1]; exact b,by rw [<- e2]; exact c,by rw [<- e3]; exact d,e⟩
structure Wo8 (a:Ad8) (H:Hp) (D:D8):Prop where
  w:H a.ww=some (.lst [.ref a.lh,.ref a.lp,.ref a.rd,.ref a.lm])
  h:H a.lh=some (.lst D.hs)
  p:H a.lp=some (.lst (D.js.map V.int))
  m:H a.lm=some (.lst [.int D.m.peak,.int D.m.fresh])
  r:H a.rd=some (.dK D.kvs)
structure S8 (S:Addr) (A:Adr) (H:Hp) (a:Ad8) (D:D8):Prop where
  hs:Hs S D.g A H a.hp a.d a.nl a.wl D.m D.L D.wt D.N
  hd:Hd D.g D.L D.wt (cnt D.g D.hs)
  wo:Wo8 a H D
  sep:Sep8 a
  apl:∀ y∈D.L,¬ Own a y.pl/\y.pl≠a.ww
  bl:Bl8 a H D.kvs D.L
  hg:∀ v∈D.hs,Gv D.g H v
  pu:Pu8 D
section
variable {S:Addr} {A:Adr} {H H':Hp} {a:Ad8} {D D':D8}
theorem Wo8.same (h:Wo8 a H D) (s:Same H H'):Wo8 a H' D:=⟨s _ _ h.w,s _ _ h.h,s _ _ h.p,s _ _ h.m,s _ _ h.r⟩
theorem S8.same (h:S8 S A H a D) (s:Same H H'):S8 S A H' a D:=⟨h.hs.same s,h.hd,h.wo.same s,h.sep,h.apl,h.bl.fr (.of s),fun v hv=>(h.hg v hv).same s,h.pu⟩
theorem Wo8.ks (h:Wo8 a H D) (sp:Sep8 a) (k:KS a.nl a.wl a.d H H'):Wo8 a H' D:=⟨k.1 _ _ sp.wn sp.ww h.w,k.1 _ _ sp.hn sp.hw h.h,k.1 _ _ sp.pn sp.pw h.p,k.1 _ _ sp.mn sp.mw h.m,k.4 _ _ sp.rd h.r⟩
theorem S8.nlh (h:S8 S A H a D):∀ y∈D.L,a.lh≠y.pl:=fun y hy z=>(h.apl y hy).1 (.inl z.symm)
theorem S8.nlp (h:S8 S A H a D):∀ y∈D.L,a.lp≠y.pl:=fun y hy z=>(h.apl y hy).1 (.inr (.inl z.symm))
theorem Gv.fr {g:V->Option Nat} {v:V} (h:Gv g H v) (f:Fr8 a H H'):Gv g H' v:=h.imp_right fun ⟨b,j,e,q,r⟩=>⟨b,j,e,f.2 _ _ q,r⟩
theorem Gv.pr {g:V->Option Nat} {v:V} (h:Gv g H v):Pr6 H v:=h.elim (fun z=>.inl z.1) (fun ⟨a,j,e,q,_⟩=>.inr ⟨a,j,e,q⟩)
theorem Hs.mono {S:Addr} {g:V->Option Nat} {hp d nl wl:Addr} {m:Nm} {L:List Bx} {wt:List Nat} {N N':Nat} (h:Hs S g A H hp d nl wl m L wt N) (l:N<=N'):Hs S g A H hp d nl wl m L wt N':=⟨h.hb,h.prs,h.wp,Nat.le_trans h.ln l,h.sl.imp_right fun ⟨a,b,ws,k,c,e,f,f1,f2⟩=>⟨a,b,ws,k,c,e,f,f1,by lia⟩⟩
end
section
variable {P:Program} {w:World} {K:PySem.W.Frag} {mg:Str->Option Value} {base:Heap} {f:Addr} {fd:FuncData} {A:Adr} {G S U:Addr} {Ad:Adr->Prop}
def spState (S:Addr) (Ad:Adr->Prop):Sp:=fun vs H Q _=>∃ (X:Adr) (g:V->Option Nat) (hp d nl wl:Addr) (m:Nm) (L:List Bx) (wt:List Nat) (N:Nat),vs=[.ref hp]/\Ad X/\Hs S g X H hp d nl wl m L wt N/\N < 64/\∀ H' l,Same H H'->Tl8 H H' l m L wt->Q (.ref l) H'
theorem scState:FnScope ["_law_heap"] ["_law_heap"] (defScope s_state):=⟨rfl,rfl,rfl,by decide +kernel,rfl,by decide +kernel,by decide +kernel⟩
theorem ok_state (F:Fun K "_law_state" "_law_state" s_state f fd) (TT:∀ A,Ad A->Txt K mg A G) (GB:∀ X,Ad X->Me P w K mg base CX0 1 X.cH "boxes" ["self"] (spBoxes X)) (GK:∀ X,Ad X->Me P w K mg base CX0 1 X.cH "keeping" ["self"] (spKeep X)) (GW:∀ X,Ad X->Me P w K mg base CX0 1 X.cH "waits" ["self"] (spWaitsG S X)):FnOk P w K mg base CX0 2 f fd ["_law_heap"] (spState S Ad):=by
  refine F.by scState (fun vs H Q E h=>?_) (fun cdv A' outer s H vs Q E hr h=>?_)
  · obtain ⟨X,g,hp,d,nl,wl,m,L,wt,N,rfl,_⟩:=h
    rfl
  obtain ⟨X,g,hp,d,nl,wl,m,L,wt,N,rfl,hX,Z,hN,q⟩:=h
  have r1:Room 1 _:=hr.mono (by decide)
  refine ⟨_,
    (jss_one (js_ret (je_lst (ja_c (je_me0A (sp:=fun A=>spBoxes A) (jv 0) (fun A h=>(TT A h).clH) GB r1 pass0) (ja_c (je_me0A (sp:=fun A=>spKeep A) (jv 0) (fun A h=>(TT A h).clH) GK r1 pass0) (ja_c (je_me0A (sp:=fun A=>spWaitsG S A) (jv 0) (fun A h=>(TT A h).clH) GW r1 pass0) (ja_c (je_fld (jv 0)) (ja_c (je_fld (jv 0)) (ja_c (je_fld (jv 0)) ja_nil))))))))),?_⟩
  have sl:=line0
  have hLN:=Z.ln
  have T:=TT X hX
  obtain ⟨dx,r,dr,h1,_⟩:=Z.hb.ex
  have no:=Z.hb.xt.2
  refine ⟨X,hX,(ex2q rfl ⟨hp,dx,(ex2q rfl ⟨h1,no _ (by decide) (by decide),hp,d,nl,m,L,rfl,Z.hb,by lia,fun H1 lb ts qs L' pL sL s1 nb gb R nq=>?_⟩)⟩)⟩
  have Z1:=Z.same s1
  refine ⟨X,hX,(ex2q rfl ⟨hp,_,_,rfl,s1 _ _ h1,no _ (by decide) (by decide),hp,d,nl,m,L,rfl,Z1.hb,fun lk hlk=>?_⟩)⟩
  have s2:=s1.new (o:=.lst (m.kept.map V.int)) hlk
  have Z2:=Z.same s2
  refine ⟨X,hX,(ex2q rfl ⟨hp,_,_,rfl,s2 _ _ h1,no _ (by decide) (by decide),hp,d,nl,m,L,(ex2q rfl ⟨Z2.hb,Z2.wt,fun lw hlw=>?_⟩)⟩)⟩
  have s3:=s2.new (o:=.lst ((wt.map fun (n:Nat)=>(n:Int)).map V.int)) hlw
  refine (ex2q rfl ⟨hp,_,_,_,_,rfl,s3 _ _ h1,T.clH,T.nFresh,rfl,(ex2q rfl ⟨hp,_,_,_,_,rfl,s3 _ _ h1,T.clH,T.nAnew,rfl,(ex2q rfl ⟨hp,_,_,_,_,rfl,s3 _ _ h1,T.clH,T.nPeak,rfl,by show 6<=sizeLine; lia,fun l hl=>?_⟩)⟩)⟩)
  have s4:=s3.new (o:=.lst [.ref lb,.ref lk,.ref lw,.int m.fresh,.int m.anew,.int m.peak]) hl
  refine q _ l s4 ⟨lb,lk,lw,ts,qs,L',pL,sL,upd_same,old hl (old hlw (old hlk gb)),((R.same (same_new hlk _)).same (same_new hlw _)).same (same_new hl _),old hl (old hlw upd_same),old hl upd_same,none_of s3 hl,nb,none_of s1 hlk,none_of s2 hlw,nq⟩
end
end Hv
namespace L2
open PySem PySem.Spec PyProof.Rows
def xTakeM (K:PySem.W.Frag) (Ch:Addr) (th:Addr->Obj->TS) (D:Ends) (σ:St):XK:=fun C dx H=>PySem.W.exmOne K C (.ref Ch)=some true/\∀ (e:Addr) (oe:Obj) (vs:Array Value),oe.cls=C->oe.dict=dx->oe.data=.fields vs->vs[2]?=some .none->H e=none->th e oe D σ H
section
variable {X:Cx} {Ch:Addr} {x:Str} {np hpos tpos:Pos} {b0:Stmt} {suite body:List Stmt} {th:Addr->Obj->TS}
theorem catch_okM {pins:List (Addr × Obj)} {σ:St} {D:Ends} {u:Value} {s':Shared} (hst:X.stack=X.env :: X.outer) (hf:X.env.frame=some X.env.locals) (hg:Gl X x) (hm:X.mg x=some (.ref Ch))
    (hS:∀ e oe,PSs (X.inEx (.ref e) [(e,oe)]) (b0 :: suite) (th e oe)) (hdb:(x == ("__debug__":Str))=false)
    (h:Air X pins σ (xTakeM X.K Ch th D σ) u s') :
    wpAny (model X.prog X.w) X.A (noteFrame u X.env) (fun _ s2=>wpAny (model X.prog X.w) X.A (setFlight u none) (fun _ s3=>wpAny (model X.prog X.w) X.A (handleBy u X.env [.ExceptHandler (some (.Name x np)) none (b0 :: suite) hpos]) (SP X pins D) X.xe s3) X.xe s2) X.xe s':=by
  obtain ⟨e,C,dx,H',k,rfl,I,ne,hk,he,hp,st,hex,hth⟩:=h
  have fr:X.A.frames=some (X.env :: X.outer):=hst ▸ I.ok.frames
  have fs:s'.heap.FunFrames X.base (X.env :: X.outer):=hst ▸ I.stack
  have pk:∀ b,k<=b->∀ p∈X.pn ++ pins,p.1≠b:=fun b hb p q z=>absurd (Nat.lt_of_lt_of_le (hp p q) hb) (by rw [z]; exact Nat.lt_irrefl _)
  -- from the landed state on
  have fin:∀ (h2:Heap) (T:Addr),Tr h2 e C dx T .none->Inv X pins σ H' { s' with heap:=h2 }->H' T=none->X.s₀.heap.objs.size<=T->(∀ p∈X.pn ++ pins,p.1≠T) ->
      wpAny (model X.prog X.w) X.A (handleBy (.ref e) X.env [.ExceptHandler (some (.Name x np)) none (b0 :: suite) hpos]) (SP X pins D) X.xe { s' with heap:=h2 }:=by
    intro h2 T t J nT sT pT
    obtain ⟨oe,vs,g1,g2,g3,g4,g5⟩:=t.ex
    have Jm:Inv (X.inEx (.ref e) []) pins σ H' { s' with heap:=h2 }:=J.inEx (.ref e) fun q hq=>nomatch hq
    have LT:PySem.W.Looks (model X.prog X.w) h2 (typeOf (.ref e)) C:=g2 ▸ (PySem.W.Looks.ld g1).andThen .now
    refine wpAny_handleBy_cons (codeAny_handlers_test (ld_glob Jm hg hm ?_ hdb)) (by intro q; cases q)
    refine PySem.W.Looks.here (s:={ s' with heap:=h2 }) (PySem.W.exm_one (K:=X.K) J.kIn LT hex) ?_
    refine codeAny_handlers_suite (fly_set (v:=none) t fun h3 t3 m3=>?_)
    have J3:Inv X pins σ H' { s' with heap:=h3 }:=Inv.moved (s:={ s' with heap:=h2 }) J (m3.mono (fun b z=>nomatch z) fun _ z=>z) fun b hb=>by
      rw [List.mem_singleton.mp hb]
      obtain ⟨ot,ts,q1,q2,_⟩:=t.tb
      exact ⟨nT,.inr sT,(J.apart q1 q2).1,(J.apart q1 q2).2,pT⟩
    obtain ⟨oe3,vs3,a1,a2,a3,a4,a5⟩:=t3.ex
    have ap:=Inv.apart (s:={ s' with heap:=h3 }) J3 a1 a4
    have J4:Inv (X.inEx (.ref e) [(e,oe3)]) pins σ H' { s' with heap:=h3 }:=J3.inEx (.ref e) fun q hq=>by
      rw [List.mem_singleton.mp hq]
      exact ⟨a1,ne,ap.1,fun z=>by
        obtain ⟨_,o,ho,nf⟩:=J3.funs.mem z
        have ho':h3.get? e=some o:=ho
        rw [a1] at ho'
        cases ho'
        exact nf vs3 a4,fun v z=>by rw [a4] at z; cases z⟩
    refine wpAny_mono (hS e oe3 pins _ _ H' D J4 (hth e oe3 vs3 a2 a3 a4 a5.2 ne)) (fun f s5 q=>?_) fun _ _ z=>False.elim z
    cases f with
    | next =>
      obtain ⟨σ',H5,I5,q⟩:=q
      exact ⟨_,_,I5.outEx I.ok,q⟩
    | brk =>
      obtain ⟨σ',H5,I5,q⟩:=q
      exact ⟨_,_,I5.outEx I.ok,q⟩
    | cont =>
      obtain ⟨σ',H5,I5,q⟩:=q
      exact ⟨_,_,I5.outEx I.ok,q⟩
    | ret w =>
      obtain ⟨v,σ',H5,I5,r,q⟩:=q
      exact ⟨v,_,_,I5.outEx I.ok,r,q⟩
  have two:∀ (h1:Heap) (T:Addr) (xs:List Addr),Tr h1 e C dx T (rawInt X.env.locals)->Mv ((X.env :: X.outer).filterMap (·.frame)) xs s'.heap h1->(∀ b∈xs,H' b=none/\X.s₀.heap.objs.size<=b/\(∀ p∈X.pn ++ pins,p.1≠b)/\∃ o vs,s'.heap.get? b=some o/\o.data=.fields vs)->s'.heap.objs.size<=T ->
      wpAny (model X.prog X.w) X.A (setFlight (.ref e) none) (fun _ s3=>wpAny (model X.prog X.w) X.A (handleBy (.ref e) X.env [.ExceptHandler (some (.Name x np)) none (b0 :: suite) hpos]) (SP X pins D) X.xe s3) X.xe { s' with heap:=h1 }:=by
    intro h1 T xs t m hxs hT
    have J1:Inv X pins σ H' { s' with heap:=h1 }:=I.moved (hst ▸ m) fun b hb=>by
      obtain ⟨r1,r2,r3,o,vs,r4,r5⟩:=hxs b hb
      exact ⟨r1,.inr r2,(I.apart r4 r5).1,(I.apart r4 r5).2,r3⟩
    have nT:H' T=none:=I.hok.fresh hT
    have sT:X.s₀.heap.objs.size<=T:=Nat.le_trans I.sz hT
    have pT:∀ p∈X.pn ++ pins,p.1≠T:=fun p q z=>absurd (Nat.lt_of_lt_of_le (Heap.lt_size (I.pin p q).1) hT) (by rw [z]; exact Nat.lt_irrefl _)
    refine fly_set (s:={ s' with heap:=h1 }) (v:=none) t fun h2 t2 m2=>fin h2 T t2 (Inv.moved (s:={ s' with heap:=h1 }) J1 (m2.mono (fun b z=>nomatch z) fun _ z=>z) fun b hb=>?_) nT sT pT
    rw [List.mem_singleton.mp hb]
    obtain ⟨ot,ts,q1,q2,_⟩:=t.tb
    exact ⟨nT,.inr sT,(J1.apart q1 q2).1,(J1.apart q1 q2).2,pT⟩
  rcases st with ⟨oe,vs,h1,rfl,rfl,h4,h5,h6⟩ | ⟨T0,t0,n0,s0⟩
  · refine fly_first fr fs hf h1 h4 h5 h6 fun h' T hs t m=>two h' T [e] t m (fun b hb=>?_) hs
    rw [List.mem_singleton.mp hb]
    exact ⟨ne,Nat.le_trans hk he,pk e he,oe,vs,h1,h4⟩
  · refine fly_next fr fs hf t0 fun h' T hs t m=>two h' T [e,T0] t m (fun b hb=>?_) hs
    rcases List.mem_cons.mp hb with r | hb
    · rw [r]
      obtain ⟨oe,vs,q1,_,_,q4,_⟩:=t0.ex
      exact ⟨ne,Nat.le_trans hk he,pk e he,oe,vs,q1,q4⟩
    · rw [List.mem_singleton.mp hb]
      obtain ⟨ot,ts,q1,q2,_⟩:=t0.tb
      exact ⟨n0,Nat.le_trans hk s0,pk T0 s0,ot,ts,q1,q2⟩
end
section
variable {X:Cx} {Ch C:Addr} {x z m:Str} {j k:Nat} {np hpos tpos pz spos apos cpos:Pos} {b0:Stmt} {suite:List Stmt} {th:Addr->Obj->TS} {ps:List Str} {sp:Sp} {o a:Expr} {as:List Expr} {ta:TE} {t:TA}
def tTryM (K:PySem.W.Frag) (Ch C:Addr) (m:Str) (j:Nat) (sp:Sp) (ta:TE) (t:TA) (th:Addr->Obj->TS):TS:=fun D σ H=>tMeth C m sp [] (xTakeM K Ch th D σ) ta t σ H fun v H2=>D.nx (σ.set j (some v)) H2
theorem js_tryM {pl:Sem Bool} (he:jE X o ta) (c:Cls X.K C) (F:Me X.prog X.w X.K X.mg X.base (CXf X.prog X.w) k C m ps sp) (hr:Room k X.A) (ha:jA X (a :: as) t)
    (hN:X.N.Nodup) (hj:X.N[j]?=some z) (hg:Gl X x) (hm:X.mg x=some (.ref Ch)) (hS:∀ e oe,jSs (X.inEx (.ref e) [(e,oe)]) (b0 :: suite) (th e oe)) (hz:X.env.scope.names.lookup z=some .local:=by rfl) (hst:X.stack=X.env :: X.outer:=by rfl) (hf:X.env.frame=some X.env.locals:=by rfl) (hnx:X.xe=fun _ _=>False:=by rfl)
    (hdb:(x == ("__debug__":Str))=false:=by decide) (h1:isStar a=false:=by rfl) (h2:as.all (fun e=>!isStar e)=true:=by rfl)
    (hs:swapsWith (.Call (.Attribute o m apos) (a :: as) [] cpos) (some (.Name z pz)) spos.line X.env=pure false:=by rfl)
    (ht:eval (.Call (.Attribute o m apos) (a :: as) [] cpos) X.env=(do
      let ov <- eval o X.env
      standAt apos.atName
      let (f,first) <- holding [ov] (getMethod ov m pl)
      callWith cpos f first (backTo cpos (starEach (a :: as) X.env)) (backToKw cpos (keywordEach [] X.env))):=by rfl) :
    jS X (.Try [.Assign [.Name z pz] (.Call (.Attribute o m apos) (a :: as) [] cpos) spos] [.ExceptHandler (some (.Name x np)) none (b0 :: suite) hpos] [] [] tpos) (tTryM X.K Ch C m j sp ta t th):=by
  constructor
  intro pins s σ H D I h
  obtain ⟨f,fd,G,hb,mt⟩:=F.ex
  have no:∀ (u:Value) (s':Shared),X.xe u s'->∀ {p:Prop},p:=fun u s' z=>by rw [hnx] at z; exact z.elim
  refine wpAny_Try_except (wpAny_execs_cons (wpAny_Assign_Name (PySem.W.methodCall_KW (pl:=pl) (wpAny_mono (he.out pins s σ H _ I h) (fun u s1 ⟨x,H1,I1,rx,p,dx,fs,ex,ea,l,q⟩=>?_) fun u s' z=>no u s' z) ht) hs))
  subst ex
  obtain rfl:u=Value.ref p:=rx
  refine getmeth_ok I1 ea c mt l ?_
  refine PySem.W.callWith_K (first:=[.ref p]) (h₀:=X.base) I.ok.mod.kin mt.kp (wpAny_mono (ha.out cpos pins s1 σ H1 _ I1 q) (fun us s2 ⟨vs,H2,I2,r,q2⟩=>⟨I2.kIn,?_⟩) fun u s' z=>no u s' z) (star_cons h1) (star_any h2)
  have q3:sp (.ref p :: vs) H2 (fun v H2=>D.nx (σ.set j (some v)) H2) (xTakeM X.K Ch th D σ):=by
    have z:=q2
    dsimp only at z
    rw [List.append_nil] at z
    exact z
  have r3:Vals (.ref p :: vs) (.ref p :: us):=.cons rfl r
  have hlen:(Value.ref p :: us).length=ps.length:=by rw [<- r3.length]; exact G.len _ _ _ _ q3
  have bd:=hb s2 (.ref p :: us) I2.kIn (by rw [List.append_nil]; exact hlen)
  rw [List.append_nil] at bd
  refine wpAny_call (codeAny_mono (G.run X.A X.stack s2 H2 ⟨.ref p :: us,[]⟩ (.ref p :: us) (.ref p :: vs) _ _ hr I2.env0 bd r3 q3) fun r s' hq=>?_)
  cases r with
  | error u=>exact catch_okM hst hf hg hm (fun e oe=>(hS e oe).out) hdb (air_of rfl rfl I2 hq)
  | ok fl =>
    cases fl with
    | ret u =>
      obtain ⟨v,H',I3,rv,q4⟩:=I2.after hq
      exact store_ok I3 hN hj (.inl hz) rv (fun s3 I4=>wpAny_execs_nil (wpAny_execs_nil ⟨_,H',I4,q4⟩)) (.inr hz)
    | next=>exact False.elim hq
    | brk=>exact False.elim hq
    | cont=>exact False.elim hq
end
end L2
set_option simprocs false
namespace Hv
open PySem L2 K11 HM
section
variable {X:Cx} {Ch:Addr} {x z m:Str} {j k:Nat} {np hpos tpos pz spos apos cpos:Pos} {b0:Stmt} {suite:List Stmt} {th:Addr->Obj->TS} {ps:List Str} {sp:Adr->Sp} {o a:Expr} {as:List Expr} {ta:TE} {t:TA} {Ad:Adr->Prop}
theorem js_tryMA {pl:Sem Bool} (he:jE X o ta) (c:∀ A,Ad A->Cls X.K A.cH) (F:∀ A,Ad A->Me X.prog X.w X.K X.mg X.base (CXf X.prog X.w) k A.cH m ps (sp A)) (hr:Room k X.A) (ha:jA X (a :: as) t)
    (hN:X.N.Nodup) (hj:X.N[j]?=some z) (hg:Gl X x) (hm:X.mg x=some (.ref Ch)) (hS:∀ e oe,jSs (X.inEx (.ref e) [(e,oe)]) (b0 :: suite) (th e oe)) (hz:X.env.scope.names.lookup z=some .local:=by rfl) (hst:X.stack=X.env :: X.outer:=by rfl) (hf:X.env.frame=some X.env.locals:=by rfl) (hnx:X.xe=fun _ _=>False:=by rfl)
    (hdb:(x == ("__debug__":Str))=false:=by decide) (h1:isStar a=false:=by rfl) (h2:as.all (fun e=>!isStar e)=true:=by rfl)
    (hs:swapsWith (.Call (.Attribute o m apos) (a :: as) [] cpos) (some (.Name z pz)) spos.line X.env=pure false:=by rfl)
    (ht:eval (.Call (.Attribute o m apos) (a :: as) [] cpos) X.env=(do
      let ov <- eval o X.env
      standAt apos.atName
      let (f,first) <- holding [ov] (getMethod ov m pl)
      callWith cpos f first (backTo cpos (starEach (a :: as) X.env)) (backToKw cpos (keywordEach [] X.env))):=by rfl) :
    jS X (.Try [.Assign [.Name z pz] (.Call (.Attribute o m apos) (a :: as) [] cpos) spos] [.ExceptHandler (some (.Name x np)) none (b0 :: suite) hpos] [] [] tpos) (fun D σ H=>∃ A,Ad A/\tTryM X.K Ch A.cH m j (sp A) ta t th D σ H):=⟨fun pins s σ H D I ⟨A,hA,h⟩=>(js_tryM he (c A hA) (F A hA) hr ha hN hj hg hm hS hz hst hf hnx hdb h1 h2 hs ht).out pins s σ H D I h⟩
theorem jg_subL {o i:Expr} {to ti:TE} {pos:Pos} (ho:jE X o to) (hi:jE X i ti)
    (ha:∀ v,assign (.Subscript o i pos) X.env v=(do
      let ov <- holding [v] (eval o X.env)
      let iv <- holding [v,ov] (eval i X.env)
      standAt pos
      holding [v,ov,iv] (setItem ov iv v)
      release [v,ov,iv] []):=by intro _; rfl):jG X (.Subscript o i pos) (gSub to ti rSetL):=⟨pg_sub ho.out hi.out set_list ha⟩
end
theorem in_ints {i:Int} {ks:List Int}:inV (.int i) (ks.map V.int)=decide (i∈ks):=by
  induction ks with
  | nil=>rfl
  | cons k ks ih =>
    show (k == i || inV (.int i) (ks.map V.int))=_
    rw [ih]
    by_cases c:k=i
    · simp [c]
    · have:i≠k:=Ne.symm c
      simp [c,this]
theorem in_non {ks:List Int}:inV .non (ks.map V.int)=false:=by
  induction ks with
  | nil=>rfl
  | cons k ks ih =>
    show (false || inV .non (ks.map V.int))=_
    rw [ih]
    rfl
theorem flat_ints {ks:List Int}:(ks.map V.int).all flatV=true:=by
  rw [List.all_eq_true]
  intro u hu
  obtain ⟨x,_,rfl⟩:=List.mem_map.mp hu
  rfl
theorem flat_v {v:V} (hv:v=.non\/∃ j:Nat,v=.int (j:Int)):flatV v=true:=by
  rcases hv with rfl | ⟨j,rfl⟩ <;> rfl
theorem in_no {ks:List Int} {v:V} (hv:v=.non\/∃ j:Nat,v=.int (j:Int)) (h:∀ j,v=.int j->j ∉ ks):inV v (ks.map V.int)=false:=by
  rcases hv with rfl | ⟨j,rfl⟩
  · exact in_non
  · rw [in_ints,decide_eq_false (h _ rfl)]
theorem fm_eq {g g':V->Option Nat}:∀ {l:List V},(∀ v∈l,g' v=g v)->l.filterMap g'=l.filterMap g
  | [],_=>rfl
  | v :: l,h=>by rw [List.filterMap_cons,List.filterMap_cons,h v List.mem_cons_self,fm_eq fun u hu=>h u (List.mem_cons_of_mem _ hu)]
theorem max_of (rk:Nat->Nat):∀ l:List Nat,∃ M,∀ n∈l,rk n<=M
  | []=>⟨0,fun _ h=>nomatch h⟩
  | x :: l=>by
    obtain ⟨M,h⟩:=max_of rk l
    refine ⟨max M (rk x),fun y hy=>?_⟩
    rcases List.mem_cons.mp hy with e | e
    · rw [e]; exact Nat.le_max_right ..
    · exact Nat.le_trans (h y e) (Nat.le_max_left ..)
section
variable {S:Addr} {A:Adr} {H H':Hp} {a:Ad8} {D:D8}
theorem S8.made (Z:S8 S A H a D) {g':V->Option Nat} {p b pl' tb lq:Addr} {i:Nat} {m2:Nm} {L2:List Bx} {wt2:List Nat} {kv:V} {tag:Str} {ps hs':List V}
    (hZ:Hs S g' A H' a.hp a.d a.nl a.wl (Nm.pk m2 L2.length) (L2 ++ [⟨i,tag,ps,1,b,pl'⟩]) wt2 (D.N + 1)) (pl:Pl8 D.g (cnt D.g D.hs) D.m D.L kv i m2 L2 wt2)
    (hg:∀ v,Gv D.g H v->g' v=D.g v) (hf:∀ v,Flat v->g' v=D.g v) (gp:g' (.ref p)=some i)
    (hd:Hd g' (L2 ++ [⟨i,tag,ps,1,b,pl'⟩]) wt2 (fun q=>if q=i then 1 else cnt D.g D.hs q - (ps.filterMap D.g).count q)) (hp:H' p=some (BX i)) (fr:Fr8 a H H')
    (wo:Wo8 a H' ⟨g',Nm.pk m2 L2.length,L2 ++ [⟨i,tag,ps,1,b,pl'⟩],wt2,hs' ++ [.ref p],D.js,putK D.kvs (.inl (i:Int)) (.ref tb),D.N + 1⟩)
    (opl:¬ Own a pl'/\pl'≠a.ww) (htb:H' tb=some (.tup [.str tag,.ref lq])) (gq:H' lq=some (.lst ps)) (oq:¬ Own a lq) (hgp:∀ v∈ps,Gv D.g H v) (hin:∀ v∈hs',v∈D.hs)
    (hct:∀ n,(D.hs.filterMap D.g).count n=(hs'.filterMap D.g).count n + (ps.filterMap D.g).count n) (hhl:hs'.length<=D.hs.length) (p9:ps.length<=9) :
    S8 S A H' a ⟨g',Nm.pk m2 L2.length,L2 ++ [⟨i,tag,ps,1,b,pl'⟩],wt2,hs' ++ [.ref p],D.js,putK D.kvs (.inl (i:Int)) (.ref tb),D.N + 1⟩:=by
  have mem:∀ {y:Bx},y∈L2 ++ [(⟨i,tag,ps,1,b,pl'⟩:Bx)]->y∈L2\/y=⟨i,tag,ps,1,b,pl'⟩:=fun h=>(List.mem_append.mp h).imp_right fun h=>List.mem_singleton.mp h
  have pu:=Z.pu
  have z0:∀ n,0 < cnt D.g D.hs n + refs D.g L2 n->n≠i:=fun n h e=>by
    obtain ⟨y,hy,ey⟩:=pl.hd.dom n h
    exact pl.ni y hy (by rw [ey,e])
  have ghs:∀ v∈hs',g' v=D.g v:=fun v hv=>hg v (Z.hg v (hin v hv))
  have gps:∀ v∈ps,g' v=D.g v:=fun v hv=>hg v (hgp v hv)
  have prs2:∀ y∈L2,∀ v∈y.parts,Gv D.g H v:=fun y hy v hv=>by
    obtain ⟨x,hx,_,_,e3,_⟩:=pl.sub y hy
    exact Z.hs.prs x hx v (by rw [e3]; exact hv)
  refine ⟨hZ,hd.congr fun n=>?_,wo,Z.sep,fun y hy=>?_,fun y hy=>?_,fun v hv=>?_,⟨pl.srt,?_,?_,?_,?_,?_,?_,?_,?_,?_,fun v hv=>(hf v hv).trans (pu.g0 v hv)⟩⟩
  · show ((hs' ++ [V.ref p]).filterMap g').count n=if n=i then 1 else cnt D.g D.hs n - (ps.filterMap D.g).count n
    rw [List.filterMap_append,List.count_append,fm_eq ghs,show [V.ref p].filterMap g'=[i] from by rw [List.filterMap_cons,gp]; rfl]
    have e:=hct n
    by_cases c:n=i
    · rw [if_pos c]
      have:cnt D.g D.hs n=0:=by
        rcases Nat.eq_zero_or_pos (cnt D.g D.hs n) with z | z
        · exact z
        · exact absurd c (z0 n (by lia))
      have e2:(D.hs.filterMap D.g).count n=0:=this
      rw [c,List.count_cons_self,List.count_nil,<- c]
      lia
    · rw [if_neg c,List.count_cons_of_ne (Ne.symm c),List.count_nil]
      show _=(D.hs.filterMap D.g).count n - _
      lia
  · rcases mem hy with c | c
    · obtain ⟨x,hx,_,_,_,e4⟩:=pl.sub y c
      rw [<- e4]
      exact Z.apl x hx
    · rw [c]
      exact opl
  · show ∃ t q,valV (putK D.kvs (.inl (i:Int)) (.ref tb)) (.inl (y.n:Int))=some (.ref t)/\_
    rw [valV_put]
    rcases mem hy with c | c
    · rw [if_neg (fun z=>pl.ni y c (inl_inj z))]
      exact ((Z.bl.sub pl.sub).fr fr) y c
    · rw [c,if_pos rfl]
      exact ⟨tb,lq,rfl,htb,gq,oq⟩
  · rcases List.mem_append.mp hv with c | c
    · exact (Z.hg v (hin v c)).ext fr.2 (ghs v c)
    · rw [List.mem_singleton.mp c]
      exact .inr ⟨p,i,rfl,hp,gp⟩
  · show m2.kept.length<=D.N + 1
    have:=pl.kl
    have:=pu.kl
    lia
  · intro k hk
    obtain ⟨c1,c2,c3⟩:=pl.out k hk
    refine ⟨fun y hy=>?_,c2,c3⟩
    rcases mem hy with c | c
    · exact c1 y c
    · rw [c]
      exact fun z=>pl.nk (by show ((i:Nat):Int)∈m2.kept; rw [show ((i:Nat):Int)=k from z]; exact hk)
  · show ((L2 ++ [_]).length:Int) + (m2.kept.length:Int)<=m2.sz
    rw [List.length_append,pl.sz]
    have:=pl.room
    show ((L2.length + 1:Nat):Int) + _<=_
    lia
  · intro j hj
    obtain ⟨c1,c2⟩:=pu.js j hj
    refine ⟨c1,?_⟩
    show j < (m2.fresh:Int)
    rcases pl.way with ⟨_,_,e⟩ | ⟨_,_,e⟩ <;> lia
  · have:=pu.jl
    show D.js.length<=D.N + 1
    lia
  · obtain ⟨rk,hr⟩:=pu.rk
    obtain ⟨M,hM⟩:=max_of rk (ps.filterMap D.g)
    refine ⟨fun n=>if n=i then M + 1 else rk n,fun y hy n hn=>?_⟩
    have hn':n∈bxs D.g y:=by
      have:bxs g' y=bxs D.g y:=by
        rcases mem hy with c | c
        · exact fm_eq fun v hv=>hg v (prs2 y c v hv)
        · rw [c]
          exact fm_eq gps
      rw [<- this]
      exact hn
    rcases mem hy with c | c
    · have hni:=z0 n (by have:=refs_mem (g:=D.g) c hn'; lia)
      obtain ⟨x,hx,e1,_,e3,_⟩:=pl.sub y c
      show (if n=i then M + 1 else rk n) < if y.n=i then M + 1 else rk y.n
      rw [if_neg hni,if_neg (pl.ni y c),<- e1]
      exact hr x hx n (by unfold bxs at hn' ⊢; rw [e3]; exact hn')
    · rw [c] at hn' ⊢
      have hn2:n∈ps.filterMap D.g:=hn'
      have hni:=z0 n (by
        have e:=hct n
        have:=List.count_pos_iff.mpr hn2
        show 0 < (D.hs.filterMap D.g).count n + _
        lia)
      show (if n=i then M + 1 else rk n) < if i=i then M + 1 else rk i
      rw [if_neg hni,if_pos rfl]
      have:=hM n hn2
      lia
  · intro y hy
    rcases mem hy with c | c
    · obtain ⟨x,hx,_,_,e3,_⟩:=pl.sub y c
      rw [<- e3]
      exact pu.p9 x hx
    · rw [c]
      exact p9
  · show (hs' ++ [V.ref p]).length<=10 * (D.N + 1)
    rw [List.length_append]
    have:=pu.hl
    show hs'.length + 1<=_
    lia
  · show (putK D.kvs (.inl (i:Int)) (.ref tb)).length<=D.N + 1
    have:=putK_len D.kvs (.inl (i:Int)) (.ref tb)
    have:=pu.vl
    lia
theorem S8.step (Z:S8 S A H a D) (hN:D.N + 1<=64):S8 S A H a { D with N:=D.N + 1 }:=by
  have pu:=Z.pu
  have h1:=pu.kl
  have h2:=pu.jl
  have h3:=pu.hl
  have h4:=pu.vl
  exact ⟨Z.hs.mono (Nat.le_succ _),Z.hd,⟨Z.wo.w,Z.wo.h,Z.wo.p,Z.wo.m,Z.wo.r⟩,Z.sep,Z.apl,Z.bl,Z.hg,⟨pu.ks,Nat.le_succ_of_le h1,pu.ko,pu.ro,pu.js,Nat.le_succ_of_le h2,pu.rk,pu.p9,by show D.hs.length<=10 * (D.N + 1); lia,Nat.le_succ_of_le h4,pu.g0⟩⟩
theorem Rk.sub {g:V->Option Nat} {L L':List Bx} {rk:Nat->Nat} (h:Rk g L rk) (s:Sub L' L):Rk g L' rk:=fun y hy n hn=>by
  obtain ⟨x,hx,e1,_,e3,_⟩:=s y hy
  rw [<- e1]
  exact h x hx n (by unfold bxs at hn ⊢; rw [e3]; exact hn)
theorem Pu8.sub {m':Nm} {L':List Bx} {wt':List Nat} {hs':List V} {js':List Int} {N':Nat} (pu:Pu8 D) (s:Sub L' D.L) (ks:KSrt m'.kept) (kl:m'.kept.length<=N') (ko:KOut m' L') (ro:(L'.length:Int) + (m'.kept.length:Int)<=m'.sz) (js:∀ j∈js',0<=j/\j < (m'.fresh:Int)) (jl:js'.length<=N') (hl:hs'.length<=10 * N') (hN:D.N<=N'):Pu8 ⟨D.g,m',L',wt',hs',js',D.kvs,N'⟩ :=
  ⟨ks,kl,ko,ro,js,jl,let ⟨rk,h⟩:=pu.rk; ⟨rk,h.sub s⟩,fun y hy=>(by obtain ⟨x,hx,_,_,e3,_⟩:=s y hy; rw [<- e3]; exact pu.p9 x hx),hl,Nat.le_trans pu.vl hN,pu.g0⟩
theorem S8.next (Z:S8 S A H a D) {m':Nm} {L':List Bx} {wt':List Nat} {hs':List V} {js':List Int} {N':Nat} (hs:Hs S D.g A H' a.hp a.d a.nl a.wl m' L' wt' N') (hd:Hd D.g L' wt' (cnt D.g hs')) (wo:Wo8 a H' ⟨D.g,m',L',wt',hs',js',D.kvs,N'⟩) (fr:Fr8 a H H') (sub:Sub L' D.L) (hg:∀ v∈hs',Gv D.g H v) (pu:Pu8 ⟨D.g,m',L',wt',hs',js',D.kvs,N'⟩):S8 S A H' a ⟨D.g,m',L',wt',hs',js',D.kvs,N'⟩ :=
  ⟨hs,hd,wo,Z.sep,fun y hy=>(by obtain ⟨x,hx,_,_,_,e4⟩:=sub y hy; rw [<- e4]; exact Z.apl x hx),(Z.bl.sub sub).fr fr,fun v hv=>(hg v hv).fr fr,pu⟩
theorem Wo8.setH (W:Wo8 a H D) (sp:Sep8 a) (hs':List V):Wo8 a (upd H a.lh (.lst hs')) { D with hs:=hs' }:=⟨by rw [upd_ne sp.wh]; exact W.w,upd_same,by rw [upd_ne (Ne.symm sp.hp)]; exact W.p,by rw [upd_ne (Ne.symm sp.hm)]; exact W.m,by rw [upd_ne (ne_of W.r W.h (by intro z; cases z))]; exact W.r⟩
theorem Wo8.setP (W:Wo8 a H D) (sp:Sep8 a) (js':List Int):Wo8 a (upd H a.lp (.lst (js'.map V.int))) { D with js:=js' }:=⟨by rw [upd_ne sp.wp]; exact W.w,by rw [upd_ne sp.hp]; exact W.h,upd_same,by rw [upd_ne (Ne.symm sp.pm)]; exact W.m,by rw [upd_ne (ne_of W.r W.p (by intro z; cases z))]; exact W.r⟩
theorem Wo8.setR (W:Wo8 a H D) (kvs':List (Key × V)):Wo8 a (upd H a.rd (.dK kvs')) { D with kvs:=kvs' }:=⟨by rw [upd_ne (ne_of W.w W.r (by intro z; cases z))]; exact W.w,by rw [upd_ne (ne_of W.h W.r (by intro z; cases z))]; exact W.h,by rw [upd_ne (ne_of W.p W.r (by intro z; cases z))]; exact W.p,by rw [upd_ne (ne_of W.m W.r (by intro z; cases z))]; exact W.m,upd_same⟩
theorem Wo8.setM (W:Wo8 a H D) (sp:Sep8 a) (m':Nm):Wo8 a (upd H a.lm (.lst [.int m'.peak,.int m'.fresh])) { D with m:=m' }:=⟨by rw [upd_ne sp.wm]; exact W.w,by rw [upd_ne sp.hm]; exact W.h,by rw [upd_ne sp.pm]; exact W.p,upd_same,by rw [upd_ne (ne_of W.r W.m (by intro z; cases z))]; exact W.r⟩
theorem Wo8.as (W:Wo8 a H D) {D':D8} (h:D'.hs=D.hs) (j:D'.js=D.js) (k:D'.kvs=D.kvs) (p:D'.m.peak=D.m.peak) (f:D'.m.fresh=D.m.fresh):Wo8 a H D':=⟨W.w,by rw [h]; exact W.h,by rw [j]; exact W.p,by rw [p,f]; exact W.m,by rw [k]; exact W.r⟩
end
end Hv
set_option simprocs false
namespace Hv
open PySem L2 K11 HM
theorem tags4 {i:Nat} (h:i < 4):∃ t:Str,([.str "row",.str "pair",.str "a",.str "longer"]:List V)[i]?=some (.str t):=by
  match i,h with
  | 0,_=>exact ⟨_,rfl⟩
  | 1,_=>exact ⟨_,rfl⟩
  | 2,_=>exact ⟨_,rfl⟩
  | 3,_=>exact ⟨_,rfl⟩
theorem Sep8.own {a:Ad8} {H:Hp} {D:D8} {p:Addr} (W:Wo8 a H D) (hnl:∃ xs,H a.nl=some (.lst xs)) (hwl:∃ xs,H a.wl=some (.lst xs)) (hd:∃ kv,H a.d=some (.dK kv)) (h:H p=none):¬ Own a p/\p≠a.ww:=by
  obtain ⟨xs,h1⟩:=hnl
  obtain ⟨ys,h2⟩:=hwl
  obtain ⟨kv,h3⟩:=hd
  have z:∀ {b:Addr} {o:HO},H b=some o->p≠b:=fun e q=>by rw [q,e] at h; cases h
  exact ⟨fun o=>o.elim (z W.h) fun o=>o.elim (z W.p) fun o=>o.elim (z W.m) fun o=>o.elim (z W.r) fun o=>o.elim (z h1) fun o=>o.elim (z h2) (z h3),z W.w⟩
theorem Hs.wls {S:Addr} {g:V->Option Nat} {A:Adr} {H:Hp} {hp d nl wl:Addr} {m:Nm} {L:List Bx} {wt:List Nat} {N:Nat} (h:Hs S g A H hp d nl wl m L wt N):(∃ xs,H nl=some (.lst xs))/\(∃ xs,H wl=some (.lst xs))/\∃ kv,H d=some (.dK kv):=by
  obtain ⟨dx,r,dr,h1,h2,h3,h4⟩:=h.hb.ex
  refine ⟨⟨_,h3⟩,?_,⟨_,h4⟩⟩
  rcases h.sl with ⟨_,_,e⟩ | ⟨_,_,ws,k,_,e,_⟩
  · rw [e]
    exact ⟨_,h3⟩
  · exact ⟨_,e⟩
theorem S8.new {S:Addr} {A:Adr} {H:Hp} {a:Ad8} {D:D8} {p:Addr} (Z:S8 S A H a D) (h:H p=none):¬ Own a p/\p≠a.ww:=let ⟨x,y,z⟩:=Z.hs.wls; Sep8.own Z.wo x y z h
theorem if_join {c:TT} {x u:TS} {D:Ends} {σ:St} {H:Hp} (M:St->Hp->Prop) (h2:∀ σ H,M σ H->u D σ H) (h1:(∀ σ H,M σ H->u D σ H)->tIfS c x tNext { D with nx:=fun σ H=>u D σ H } σ H):tSeq (tIfS c x tNext) u D σ H:=h1 h2
theorem asg_c {v:V} {i:Nat} {u:TS} {D:Ends} {σ:St} {H:Hp} (h:u D (σ.set i (some v)) H):tSeq (tAsg (tC v) (gName i)) u D σ H:=h
section
variable {P:Program} {w:World} {K:PySem.W.Frag} {mg:Str->Option Value} {base:Heap} {f:Addr} {fd:FuncData} {A:Adr} {G S U:Addr} {Ad:Adr->Prop}
def spStep (S:Addr) (Ad:Adr->Prop):Sp:=fun vs H Q _=>∃ (X:Adr) (a:Ad8) (D:D8) (c:Int),vs=[.ref a.hp,.ref a.ww,.int D.m.sz,.int c]/\Ad X/\S8 S X H a D/\D.N < 63/\∀ H' D',Fr8 a H H'->S8 S X H' a D'->D'.m.sz=D.m.sz->D'.N=D.N + 1->Q (.bl true) H'
theorem scMakeL:FnScope ["_law_heap","_law_world","_law_size","_law_cell","_law_hands","_law_places","_law_built","_law_marks","_law_rest","_law_parts","_law_kept","_law_due","_law_tag","_law_before","_law_full","_law_value"] ["_law_heap","_law_world","_law_size","_law_cell"] (defScope s_make):=⟨rfl,rfl,rfl,by decide +kernel,rfl,by decide +kernel,by decide +kernel⟩
theorem ok_makeL (F:Fun K "_law_make" "_law_make" s_make f fd) (T:Txt K mg A G) (TT:∀ A,Ad A->Txt K mg A G) (m_int:mg "int"=none) (mF:mg "Full"=some (.ref U)) (xF:PySem.W.exmOne K (.ref U) (.ref U)=some true) (MK:∀ A,Ad A->MeD P w K mg base (CXf P w) 8 A.cH "make" ["self","tag","parts","kept"] [.non] (spMake8 S U A)) (GB:∀ X,Ad X->Me P w K mg base CX0 1 X.cH "boxes" ["self"] (spBoxes X)) (GK:∀ X,Ad X->Me P w K mg base CX0 1 X.cH "keeping" ["self"] (spKeep X)) (GS:Ca P w K mg base CX0 1 "_law_some" ["_law_hands","_law_cell"] spSome) (GR:Ca P w K mg base CX0 1 "_law_reached" ["_law_hands","_law_built"] spReached) (GT:Ca P w K mg base CX0 2 "_law_state" ["_law_heap"] (spState S Ad)) (GA:Ca P w K mg base CX0 5 "_law_alike" ["_law_found","_law_due"] (spAlike 5)):FnOk P w K mg base CX0 9 f fd ["_law_heap","_law_world","_law_size","_law_cell"] (spStep S Ad):=by
  refine F.by scMakeL (fun vs H Q E h=>?_) (fun cdv A' outer s H vs Q E hr h=>?_)
  · obtain ⟨X,a,D,c,rfl,_⟩:=h
    rfl
  obtain ⟨X,a,D,c,rfl,hX,Z,hN,q⟩:=h
  have r1:Room 1 _:=hr.mono (by decide)
  have r2:Room 2 _:=hr.mono (by decide)
  have r5:Room 5 _:=hr.mono (by decide)
  have r8:Room 8 _:=hr.mono (by decide)
  refine ⟨_,
    (jss_cons (js_asg (jv 1) (jg_lst rfl (jgs_cons (jg_name (i:=4) scMakeL.nd rfl (Or.inl rfl)) (jgs_cons (jg_name (i:=5) scMakeL.nd rfl (Or.inl rfl)) (jgs_cons (jg_name (i:=6) scMakeL.nd rfl (Or.inl rfl)) (jgs_cons (jg_name (i:=7) scMakeL.nd rfl (Or.inl rfl)) jgs_nil))))))
    (jss_cons (js_set (i:=8) scMakeL.nd rfl (Or.inl rfl) (je_fnTy jc_list_of rfl T.list PyProof.Rows.boot_list (ja_c (jv 4) ja_nil)))
    (jss_cons (js_set (i:=9) scMakeL.nd rfl (Or.inl rfl) (je_ca GS r1 rfl pass0 (ja_c (jv 8) (ja_c (je_op jo_fdiv (jv 3) je_int) ja_nil))))
    (jss_cons (js_set (i:=10) scMakeL.nd rfl (Or.inl rfl) je_non)
    (jss_cons (js_if (jW.pt (jw_and (jt_cmpR (jo_neE hr) (jv 5) (je_lst ja_nil) (by with_unfolding_all rfl)) (jw_and1 (jt_cmpR jo_eq (je_op jo_mod (jv 3) je_int) je_int (by with_unfolding_all rfl))))) 
      (jss_one (js_set (i:=10) scMakeL.nd rfl (Or.inl rfl) (je_ix jx_list (jv 5) (je_op jo_mod (je_op jo_fdiv (jv 3) je_int) (je_fnB jc_len_seq rfl T.len PySem.boot_len (ja_c (jv 5) ja_nil))) (fun _ _=>rfl))))  jss_nil)
    (jss_cons (js_set (i:=11) scMakeL.nd rfl (Or.inl rfl) (je_ix jx_list (jv 7) je_int (fun _ _=>rfl)))
    (jss_cons (js_if (jt_cmpR jo_in_seq (jv 10) (je_me0A (sp:=fun A=>spKeep A) (jv 0) (fun A h=>(TT A h).clH) GK r1 pass0) (by with_unfolding_all rfl)) 
      (jss_one (js_set (i:=11) scMakeL.nd rfl (Or.inl rfl) (jv 10)))  jss_nil)
    (jss_cons (js_set (i:=12) scMakeL.nd rfl (Or.inl rfl) (je_ix jx_list (je_lst (ja_c je_str (ja_c je_str (ja_c je_str (ja_c je_str ja_nil))))) (je_op jo_mod (je_op jo_fdiv (jv 3) je_int) je_int) (fun _ _=>rfl)))
    (jss_cons (js_set (i:=13) scMakeL.nd rfl (Or.inl rfl) (je_ca GT r2 rfl pass0 (ja_c (jv 0) ja_nil)))
    (jss_cons (js_set (i:=14) scMakeL.nd rfl (Or.inl rfl) je_bl)
    (jss_cons (js_set (i:=15) scMakeL.nd rfl (Or.inl rfl) je_non)
    (jss_cons (js_tryMA (Ad:=Ad) (sp:=fun A=>spMake8 S U A) (j:=15) (jv 0) (fun A h=>(TT A h).clH) (fun A h=>MeD.me (MK A h)) r8 (ja_c (jv 12) (ja_c (je_fnTy jc_list_of rfl T.list PyProof.Rows.boot_list (ja_c (jv 9) ja_nil)) (ja_c (jv 10) ja_nil))) scMakeL.nd rfl rfl mF (th:=fun e oe=>_) (fun e oe=>jss_one (js_set (i:=14) scMakeL.nd rfl (Or.inl rfl) je_bl)))
    (jss_cons (js_if (jt_cmpR jo_ne (jv 14) (je_and (je_cmpR (jo_neE hr) (jv 9) (je_lst ja_nil) (by with_unfolding_all rfl)) (je_one (je_cmpR jo_eq (je_ca GR r1 rfl pass0 (ja_c (jv 4) (ja_c (jv 6) ja_nil))) (jv 2) (by with_unfolding_all rfl)))) (by with_unfolding_all rfl)) 
      (jss_one (js_ret je_bl))  jss_nil)
    (jss_cons (js_if (jW.pt (jw_and (jt_cmpR (jo_eqE hr) (jv 9) (je_lst ja_nil) (by with_unfolding_all rfl)) (jw_and1 (jt_not (jt_val (jv 14)))))) 
      (jss_one (js_expr (je_bm PySem.F.plainAttrs_list PySem.F.slot_list_append PySem.F.type_list_append jm_append (jv 4) (ja_c (jv 12) ja_nil))))  jss_nil)
    (jss_cons (js_if (jW.pt (jw_or (jt_val (jv 14)) (jw_or1 (jt_cmpR (jo_eqE hr) (jv 9) (je_lst ja_nil) (by with_unfolding_all rfl))))) 
      (jss_one (js_ret (je_and (je_cmpR (jo_eqD (n:=6) (by decide) hr) (je_ca GT r2 rfl pass0 (ja_c (jv 0) ja_nil)) (jv 13) (by with_unfolding_all rfl)) (je_one (je_or (jv 14) (je_one (je_ca GA r5 rfl pass0 (ja_c (jv 15) (ja_c (jv 12) ja_nil)))))))))  jss_nil)
    (jss_cons (js_dput hr (jv 6) (jv 11) (je_tup (ja_c (jv 12) (ja_c (jv 9) ja_nil))))
    (jss_cons (js_expr (je_bm0 PySem.F.plainAttrs_list PySem.F.slot_list_clear PySem.F.type_list_clear jm_clear (jv 4)))
    (jss_cons (js_expr (je_bm PySem.F.plainAttrs_list PySem.F.slot_list_extend PySem.F.type_list_extend jm_extend (jv 4) (ja_c (je_op jo_cat (jv 8) (je_lst (ja_c (jv 15) ja_nil))) ja_nil)))
    (jss_cons (js_asg (je_fnB (jc_max2 rfl) rfl T.max PyProof.Rows.boot_max (ja_c (je_ix jx_list (jv 7) je_int (fun _ _=>rfl)) (ja_c (je_fnB jc_len_seq rfl T.len PySem.boot_len (ja_c (je_me0A (sp:=fun A=>spBoxes A) (jv 0) (fun A h=>(TT A h).clH) GB r1 pass0) ja_nil)) ja_nil))) (jg_subL (jv 7) je_int))
    (jss_cons (js_asg (je_op jo_add (je_ix jx_list (jv 7) je_int (fun _ _=>rfl)) (je_fnTy jc_int1 rfl m_int PyProof.Rows.boot_int (ja_c (je_cmpR jo_ne (jv 11) (jv 10) (by with_unfolding_all rfl)) ja_nil))) (jg_subL (jv 7) je_int))
    (jss_one (js_ret (je_ca GA r5 rfl pass0 (ja_c (jv 15) (ja_c (je_tup (ja_c je_str (ja_c (jv 11) ja_nil))) ja_nil))))))))))))))))))))))))),?_⟩
  have sl:=line0
  have pu:=Z.pu
  have hjl:=pu.jl
  have hkl:=pu.kl
  have hhl0:=pu.hl
  refine (ex2q rfl ⟨a.ww,(ex2q rfl ⟨SqL.of Z.wo.w,rfl,_,_,rfl,_,_,rfl,_,_,rfl,_,_,rfl,rfl,?_⟩)⟩)
  refine (ex2q rfl ⟨a.lh,(ex2q rfl ⟨.inl (SqL.of Z.wo.h),fun lr hlr=>?_⟩)⟩)
  have s1:=same_new hlr (.lst D.hs)
  refine (ex2q rfl (ex2q rfl (ex4q rfl rfl ⟨⟨by decide,by decide⟩,D.g,lr,D.hs,(ex2q rfl ⟨upd_same,by lia,fun v hv=>(Z.hg v hv).same s1,pu.g0,fun H2 lq ps hs' fr2 gr2 nq gq p9 hgp hin hct hhl=>?_⟩)⟩)))
  have s2:Same H H2:=fun b o e=>fr2 b o (fun z=>by rw [z,hlr] at e; cases e) (s1 _ _ e)
  have hlq:H lq=none:=none_of s1 nq
  have nqr:lq≠lr:=fun z=>by rw [z,upd_same] at nq; cases nq
  have Z2:=Z.same s2
  unfold gName
  dsimp only
  refine asg_c ?_
  dsimp only [List.set,L2.start]
  change (tSeq (tIfS _ _ tNext) _:TS) _ [some (.ref a.hp),some (.ref a.ww),some (.int D.m.sz),some (.int c),some (.ref a.lh),some (.ref a.lp),some (.ref a.rd),some (.ref a.lm),some (.ref lr),some (.ref lq),some (.non),none,none,none,none,none] H2
  refine if_join (fun σ H3=>∃ kv,σ=[some (.ref a.hp),some (.ref a.ww),some (.int D.m.sz),some (.int c),some (.ref a.lh),some (.ref a.lp),some (.ref a.rd),some (.ref a.lm),some (.ref lr),some (.ref lq),some (kv),none,none,none,none,none]/\Same H2 H3/\(kv=.non\/∃ j:Nat,kv=.int (j:Int)/\(j:Int) < D.m.fresh)) ?_ (fun fin=>?_)
  rotate_left
  · refine (ex2q rfl ⟨by show 0<=sizeLine; lia,fun l1 hl1=>?_⟩)
    have s3:=same_new hl1 (.lst [])
    have Z3:=Z2.same s3
    refine ⟨a.lp,l1,(ex2q rfl ⟨rfl,SqL.of Z3.wo.p,SqL.of upd_same,(ex2q rfl ?_)⟩)⟩
    rcases Nat.eq_zero_or_pos D.js.length with hz | hpos
    · rw [List.length_eq_zero_iff.mp hz]
      exact iteF (iteF (fin _ _ (ex2q rfl ⟨s3,.inl rfl⟩)))
    have hemp:(D.js.map V.int).isEmpty=false:=by
      cases e:D.js with
      | nil=>rw [e] at hpos; exact absurd hpos (Nat.lt_irrefl _)
      | cons _ _=>rfl
    rw [if_pos rfl,hemp]
    refine iteT ?_
    refine (ex2q rfl (ex4q rfl rfl ⟨(by show (0:Int) < _; decide),rfl,(ex2q rfl (ite2 (fun _=>?_) (fun _=>fin _ _ (ex2q rfl ⟨s3,.inl rfl⟩))))⟩))
    obtain ⟨i,hi,ei⟩:=mod_ix (c / 3) hpos
    obtain ⟨j,ej⟩:∃ j,D.js[i]?=some j:=⟨_,List.getElem?_eq_getElem hi⟩
    obtain ⟨hj0,hj1⟩:=pu.js j (List.mem_of_getElem? ej)
    refine (ex2q rfl (ex2q rfl (ex4q rfl rfl ⟨⟨by decide,by decide⟩,(ex2q rfl ⟨a.lp,(ex2q rfl ⟨.inl (SqL.of Z3.wo.p),?_⟩)⟩)⟩)))
    rw [List.length_map]
    refine (ex4q rfl rfl ⟨by lia,?_⟩)
    dsimp only
    rw [ei]
    refine ⟨a.lp,_,_,_,rfl,rfl,SqL.of Z3.wo.p,atI_nat (j:=i) (by rw [List.getElem?_map,ej]; rfl),?_⟩
    exact fin _ _ (ex2q rfl ⟨s3,.inr ⟨j.toNat,by congr 1; lia,by lia⟩⟩)
  rintro σ H3 ⟨kv,rfl,s3,hkv0⟩
  have hkv:kv=.non\/∃ j:Nat,kv=.int (j:Int):=hkv0.imp_right fun ⟨j,e,_⟩=>⟨j,e⟩
  have Z3:=Z2.same s3
  refine (ex2q rfl ⟨a.lm,_,_,_,rfl,rfl,SqL.of Z3.wo.m,atI_nat (j:=1) rfl,?_⟩)
  dsimp only
  change (tSeq (tIfS _ _ tNext) _:TS) _ [some (.ref a.hp),some (.ref a.ww),some (.int D.m.sz),some (.int c),some (.ref a.lh),some (.ref a.lp),some (.ref a.rd),some (.ref a.lm),some (.ref lr),some (.ref lq),some (kv),some (.int (D.m.fresh:Int)),none,none,none,none] H3
  refine if_join (fun σ H4=>∃ du:Nat,σ=[some (.ref a.hp),some (.ref a.ww),some (.int D.m.sz),some (.int c),some (.ref a.lh),some (.ref a.lp),some (.ref a.rd),some (.ref a.lm),some (.ref lr),some (.ref lq),some (kv),some (.int (du:Int)),none,none,none,none]/\Same H3 H4/\((kv=.int (du:Int)/\(du:Int)∈D.m.kept)\/(FreK D.m kv/\du=D.m.fresh))) ?_ (fun fin=>?_)
  rotate_left
  · obtain ⟨dx,r,dr,h1,_⟩:=Z3.hs.hb.ex
    refine (ex2q rfl ⟨X,hX,(ex2q rfl ⟨a.hp,dx,(ex2q rfl ⟨h1,Z3.hs.hb.xt.2 _ (by decide) (by decide),a.hp,a.d,a.nl,D.m,D.L,rfl,Z3.hs.hb,fun lk hlk=>?_⟩)⟩)⟩)
    have s4:=same_new hlk (.lst (D.m.kept.map V.int))
    refine ⟨lk,(ex2q rfl ⟨.inl (SqL.of upd_same),flat_v hkv,flat_ints,?_⟩)⟩
    rw [if_neg Bool.false_ne_true]
    by_cases hK:∃ i:Nat,kv=.int (i:Int)/\(i:Int)∈D.m.kept
    · obtain ⟨i,rfl,hi⟩:=hK
      rw [in_ints,decide_eq_true hi]
      exact (ex2q rfl (iteT (ex2q rfl (fin _ _ ⟨i,rfl,s4,.inl ⟨rfl,hi⟩⟩))))
    · rw [in_no hkv fun j e hj=>by
        obtain ⟨_,h0,_⟩:=pu.ko j hj
        exact hK ⟨j.toNat,by rw [e]; congr 1; lia,by rw [show ((j.toNat:Nat):Int)=j by lia]; exact hj⟩]
      refine (ex2q rfl (iteF (fin _ _ ⟨D.m.fresh,rfl,s4,.inr ⟨?_,rfl⟩⟩)))
      rcases hkv with e | ⟨j,e⟩
      · exact .inl e
      · exact .inr ⟨j,e,fun z=>hK ⟨j,e,z⟩⟩
  rintro σ H4 ⟨du,rfl,s4,hdu⟩
  have Z4:=Z3.same s4
  obtain ⟨i4,hi4,ei4⟩:=mod_ix (c / 3) (n:=4) (by decide)
  obtain ⟨tg,etg⟩:=tags4 hi4
  refine ⟨by show 4<=sizeLine; lia,fun lt hlt=>?_⟩
  have s5:=same_new hlt (.lst [.str "row",.str "pair",.str "a",.str "longer"])
  refine (ex2q rfl (ex4q rfl rfl ⟨⟨by decide,by decide⟩,(ex4q rfl rfl ⟨(by show (0:Int) < _; decide),?_⟩)⟩))
  have gt5:upd H4 lt (.lst [.str "row",.str "pair",.str "a",.str "longer"]) lt=some (.lst [.str "row",.str "pair",.str "a",.str "longer"]):=upd_same
  have Z5:=Z4.same s5
  obtain ⟨H5,e5⟩:∃ H5,H5=upd H4 lt (.lst [.str "row",.str "pair",.str "a",.str "longer"]):=⟨_,rfl⟩
  rw [<- e5] at s5 gt5 Z5 ⊢
  change rIxL K (.ref lt) (.int (c / 3 % ((4:Nat):Int))) H5 _
  rw [ei4]
  refine ⟨lt,_,_,_,rfl,rfl,SqL.of gt5,atI_nat (j:=i4) etg,?_⟩
  refine (ex2q rfl ⟨X,D.g,a.hp,a.d,a.nl,a.wl,D.m,D.L,D.wt,D.N,rfl,hX,Z5.hs,by lia,fun H6 lb s6 T6=>?_⟩)
  have s26:Same H2 H6:=((s3.trans s4).trans s5).trans s6
  have Z6:=Z2.same s26
  have gq6:=s26 _ _ gq
  have gr6:=s26 _ _ gr2
  have hgp6:∀ v∈ps,Gv D.g H6 v:=fun v hv=>(hgp v hv).same s26
  have f06:Fr8 a H H6:=.of (s2.trans s26)
  have oq:=Z.new hlq
  have orr:=Z.new hlr
  have ob:¬ Own a lb/\lb≠a.ww:=by
    obtain ⟨_,_,_,_,_,_,_,_,_,_,_,_,_,n1,_⟩:=T6
    exact Z5.new n1
  obtain ⟨dx6,r6,dr6,h6,_⟩:=Z6.hs.hb.ex
  refine ⟨X,hX,(ex2q rfl ⟨a.hp,_,_,rfl,h6,Z6.hs.hb.xt.2 _ (by decide) (by decide),(ex2q rfl (ex2q rfl ⟨lq,(ex2q rfl ⟨.inl (SqL.of gq6),fun l3 hl3=>(ex2q rfl ?_)⟩)⟩))⟩)⟩
  have s7:=same_new hl3 (.lst ps)
  have Z7:=Z6.same s7
  have hgp7:∀ v∈ps,Gv D.g (upd H6 l3 (.lst ps)) v:=fun v hv=>(hgp6 v hv).same s7
  have gl7:upd H6 l3 (.lst ps) l3=some (.lst ps):=upd_same
  obtain ⟨ol3,_⟩:=Z6.new hl3
  have T7:Tl8 H5 (upd H6 l3 (.lst ps)) lb D.m D.L D.wt:=T6.keep (fun _ _ _ e=>s7 _ _ e) (fun _ _ e=>s7 _ _ e)
  have gq7:=s7 _ _ gq6
  have gr7:=s7 _ _ gr6
  have f07:=f06.trans (.of s7)
  obtain ⟨H7,e7⟩:∃ H7,H7=upd H6 l3 (.lst ps):=⟨_,rfl⟩
  rw [<- e7] at s7 Z7 hgp7 gl7 T7 gq7 gr7 f07 ⊢
  obtain ⟨rk,hrk⟩:=pu.rk
  refine ⟨D.g,a.hp,a.d,a.nl,a.wl,l3,D.m,D.L,D.wt,D.N,cnt D.g D.hs,tg,ps,kv,rfl,hkv,Z7.hs,Z7.hd,by lia,pu.ks,by lia,pu.ko,pu.ro,gl7,fun z=>ol3 (.inr (.inr (.inr (.inr (.inl z))))),fun z=>ol3 (.inr (.inr (.inr (.inr (.inr (.inl z)))))),hgp7,fun n=>(by have:=hct n; show _<=(D.hs.filterMap D.g).count n; lia),fun hps=>?_,fun hps ful H8 m8 k8 Z8 em=>?_,fun hps nF H8 g8 p b pl' i m2 L2 wt2 k8 fr8 Z8 pl8 hg8 hf8 gp8 hd8 g8p=>?_⟩
  · subst hps
    have cntE:∀ n,cnt D.g (D.hs ++ [.str tg]) n=cnt D.g D.hs n:=fun n=>by
      show ((D.hs ++ [V.str tg]).filterMap D.g).count n=(D.hs.filterMap D.g).count n
      rw [List.filterMap_append,show [V.str tg].filterMap D.g=[] from by rw [List.filterMap_cons,pu.g0 _ (.inl ⟨_,rfl⟩)]; rfl,List.append_nil]
    refine (ex2q rfl (ex2q rfl ⟨by show 0<=sizeLine; lia,fun l8 hl8=>?_⟩))
    have s8:=same_new hl8 (.lst [])
    refine ⟨lq,l8,(ex2q rfl ⟨rfl,SqL.of (s8 _ _ gq7),SqL.of upd_same,(ex2q rfl (iteF ?_))⟩)⟩
    refine ⟨rfl,(ex2q rfl (iteF ?_))⟩
    refine (ex2q rfl ⟨by show 0<=sizeLine; lia,fun l9 hl9=>?_⟩)
    have s9:=s8.new (o:=.lst []) hl9
    refine ⟨lq,l9,(ex2q rfl ⟨rfl,SqL.of (s9 _ _ gq7),SqL.of upd_same,(ex2q rfl (iteT (ex2q rfl (ex2q rfl (iteT ?_)))))⟩)⟩
    have Z9:=Z7.same s9
    refine (ex2q rfl ⟨.inl ⟨rfl,_,SqL.of Z9.wo.h⟩,(ex2q rfl ⟨a.lh,(ex4q rfl rfl ⟨Z9.wo.h,by lia,?_⟩)⟩)⟩)
    have nqh:lq≠a.lh:=fun z=>oq.1 (.inl z)
    have gq10:upd (upd (upd H7 l8 (.lst [])) l9 (.lst [])) a.lh (.lst (D.hs ++ [.str tg])) lq=some (.lst []):=by rw [upd_ne nqh]; exact s9 _ _ gq7
    have W10:=Z9.wo.setH Z.sep (D.hs ++ [.str tg])
    have Hs10:=Z9.hs.list (ys:=D.hs ++ [.str tg]) Z9.wo.h Z.sep.hn Z.sep.hw Z9.nlh
    have f10:Fr8 a H7 (upd (upd (upd H7 l8 (.lst [])) l9 (.lst [])) a.lh (.lst (D.hs ++ [.str tg]))):=(Fr8.of s9).trans (.put (.inl rfl) Z9.wo.h (fun _ z=>nomatch z) (fun _ _ z=>nomatch z))
    have T10:Tl8 H5 (upd (upd (upd H7 l8 (.lst [])) l9 (.lst [])) a.lh (.lst (D.hs ++ [.str tg]))) lb D.m D.L D.wt:=T7.keep (fun b xs n e=>f10.1 b xs (Z5.new n).1 e) f10.2
    obtain ⟨H10,e10⟩:∃ H10,H10=upd (upd (upd H7 l8 (.lst [])) l9 (.lst [])) a.lh (.lst (D.hs ++ [.str tg])):=⟨_,rfl⟩
    rw [<- e10] at gq10 W10 Hs10 f10 T10 ⊢
    refine (ex2q rfl (ex2q rfl (iteF (ex2q rfl ⟨by show 0<=sizeLine; lia,fun l11 hl11=>⟨lq,l11,(ex2q rfl ⟨rfl,SqL.of (old hl11 gq10),SqL.of upd_same,(ex2q rfl (iteT ?_))⟩)⟩⟩))))
    have s11:=same_new hl11 (.lst [])
    refine (ex2q rfl ⟨X,D.g,a.hp,a.d,a.nl,a.wl,D.m,D.L,D.wt,D.N,rfl,hX,Hs10.same s11,by lia,fun H12 lc s12 T12=>?_⟩)
    have s1012:=s11.trans s12
    have T12':Tl8 H5 H12 lb D.m D.L D.wt:=T10.keep (fun _ _ _ e=>s1012 _ _ e) (fun _ _ e=>s1012 _ _ e)
    have Hs12:=Hs10.same s1012
    refine (ex2q rfl ⟨lc,lb,rfl,rfl,tl8_sme Z.hd.rise T12 T12' .refl (fun x hx v hv=>(Hs12.prs x hx v hv).pr),(ex2q rfl (iteT (ex2q rfl (ex2q rfl (iteF (ex2q rfl (ex2q rfl ⟨_,_,rfl,Alk.str _,fun H13 s13=>?_⟩)))))))⟩)
    have s1013:=s1012.trans s13
    have f13:=f10.trans (.of s1013)
    exact q H13 ⟨D.g,D.m,D.L,D.wt,D.hs ++ [.str tg],D.js,D.kvs,D.N + 1⟩ (f07.trans f13) (Z7.next ((Hs10.same s1013).mono (Nat.le_succ _)) (Z.hd.congr cntE) ((W10.same s1013).as rfl rfl rfl rfl rfl) f13 Sub.refl (fun v hv=>by
      rcases List.mem_append.mp hv with z | z
      · exact Z7.hg v z
      · rw [List.mem_singleton.mp z]
        exact .inl ⟨.inl ⟨_,rfl⟩,pu.g0 _ (.inl ⟨_,rfl⟩)⟩) (pu.sub Sub.refl pu.ks (by lia) pu.ko pu.ro pu.js (by lia) (by rw [List.length_append]; show D.hs.length + 1<=_; lia) (Nat.le_succ _))) rfl rfl
  · have hemp:ps.isEmpty=false:=by
      cases ps with
      | nil=>exact absurd rfl hps
      | cons _ _=>rfl
    have ew:D.wt=[]:=ful.2.1
    have f8:Fr8 a H7 H8:=.ks k8
    have W8:=Z7.wo.ks Z.sep k8
    have gq8:=f8.1 _ _ oq.1 gq7
    have T8:Tl8 H5 H8 lb D.m D.L D.wt:=T7.keep (fun b xs n e=>f8.1 b xs (Z5.new n).1 e) f8.2
    refine ⟨xF,fun e oe vs _ _ _ _ _=>?_⟩
    refine (ex2q rfl (ex2q rfl ⟨by show 0<=sizeLine; lia,fun l9 hl9=>?_⟩))
    have s9:=same_new hl9 (.lst [])
    refine ⟨lq,l9,(ex2q rfl ⟨rfl,SqL.of (s9 _ _ gq8),SqL.of upd_same,(ex2q rfl ?_)⟩)⟩
    rw [if_pos rfl,hemp]
    have f9:=f8.trans (.of s9)
    refine iteT (ex2q rfl (ex2q rfl ⟨D.g,a.lh,a.rd,D.hs,D.kvs,D.L,D.wt,rfl,(W8.same s9).h,(W8.same s9).r,fun v hv=>(Z7.hg v hv).fr f9,fun y hy v hv=>(Z7.hs.prs y hy v hv).fr f9,pu.p9,(Z7.bl.fr f9).blt,Z7.hd,by lia,by have:=Z7.hs.ln; lia,fun H10 seen s10 sn=>(ex2q rfl ⟨rfl,?_⟩)⟩))
    have ef:=(full_iff sn Z.hd hrk pu.ro hkv).mp ful
    rw [show decide (V.int ((seen.length:Nat):Int)=V.int D.m.sz)=true from decide_eq_true (by rw [ef])]
    refine ⟨rfl,(ex2q rfl (iteF ?_))⟩
    have s810:=s9.trans s10
    refine (ex2q rfl ⟨by show 0<=sizeLine; lia,fun l11 hl11=>?_⟩)
    have s11:=s810.new (o:=.lst []) hl11
    refine ⟨lq,l11,(ex2q rfl ⟨rfl,SqL.of (s11 _ _ gq8),SqL.of upd_same,(ex2q rfl ?_)⟩)⟩
    rw [if_neg Bool.false_ne_true,hemp]
    refine iteF (iteF ?_)
    refine (ex2q rfl (ex2q rfl (iteT (iteT ?_))))
    refine (ex2q rfl ⟨X,D.g,a.hp,a.d,a.nl,a.wl,m8,D.L,[],D.N,rfl,hX,Z8.same s11,by lia,fun H12 lc s12 T12=>?_⟩)
    have s812:=s11.trans s12
    have T12':Tl8 H5 H12 lb D.m D.L []:=by
      rw [<- ew]
      exact T8.keep (fun _ _ _ e=>s812 _ _ e) (fun _ _ e=>s812 _ _ e)
    have Hs12:=Z8.same s812
    refine (ex2q rfl ⟨lc,lb,rfl,rfl,tl8_sme Z.hd.rise T12 T12' em (fun x hx v hv=>(Hs12.prs x hx v hv).pr),(ex2q rfl (iteT (ex2q rfl (ex2q rfl (iteT ?_)))))⟩)
    have f12:=f8.trans (.of s812)
    refine q H12 ⟨D.g,m8,D.L,[],D.hs,D.js,D.kvs,D.N + 1⟩ (f07.trans f12) (Z7.next (Hs12.mono (Nat.le_succ _)) (by have:=Z.hd; rw [ew] at this; exact this) ((W8.same s812).as rfl rfl rfl em.peak em.fresh) f12 Sub.refl (fun v hv=>Z7.hg v hv) (pu.sub Sub.refl (by rw [em.kept]; exact pu.ks) (by rw [em.kept]; lia) (pu.ko.sub Sub.refl (fun k hk=>by rw [em.kept] at hk; exact hk) (by rw [em.fresh]; exact Nat.le_refl _)) (by rw [em.kept,em.sz]; exact pu.ro) (fun j hj=>by rw [em.fresh]; exact pu.js j hj) (by lia) (by lia) (Nat.le_succ _))) em.sz rfl
  · have hemp:ps.isEmpty=false:=by
      cases ps with
      | nil=>exact absurd rfl hps
      | cons _ _=>rfl
    have f8:Fr8 a H7 H8:=.ks k8
    have W8:=Z7.wo.ks Z.sep k8
    have gq8:=f8.1 _ _ oq.1 gq7
    have gr8:=f8.1 _ _ orr.1 gr7
    refine (ex2q rfl (ex2q rfl ⟨by show 0<=sizeLine; lia,fun l9 hl9=>?_⟩))
    have s9:=same_new hl9 (.lst [])
    refine ⟨lq,l9,(ex2q rfl ⟨rfl,SqL.of (s9 _ _ gq8),SqL.of upd_same,(ex2q rfl ?_)⟩)⟩
    rw [if_pos rfl,hemp]
    have f9:=f8.trans (.of s9)
    refine iteT (ex2q rfl (ex2q rfl ⟨D.g,a.lh,a.rd,D.hs,D.kvs,D.L,D.wt,rfl,(W8.same s9).h,(W8.same s9).r,fun v hv=>(Z7.hg v hv).fr f9,fun y hy v hv=>(Z7.hs.prs y hy v hv).fr f9,pu.p9,(Z7.bl.fr f9).blt,Z7.hd,by lia,by have:=Z7.hs.ln; lia,fun H10 seen s10 sn=>(ex2q rfl ⟨rfl,?_⟩)⟩))
    have ef:¬ (seen.length:Int)=D.m.sz:=fun z=>nF ((full_iff sn Z.hd hrk pu.ro hkv).mpr z)
    rw [show decide (V.int ((seen.length:Nat):Int)=V.int D.m.sz)=false from decide_eq_false (fun z=>ef (by injection z))]
    refine ⟨rfl,(ex2q rfl (iteF ?_))⟩
    have s810:=s9.trans s10
    refine (ex2q rfl ⟨by show 0<=sizeLine; lia,fun l11 hl11=>?_⟩)
    have s11:=s810.new (o:=.lst []) hl11
    refine ⟨lq,l11,(ex2q rfl ⟨rfl,SqL.of (s11 _ _ gq8),SqL.of upd_same,(ex2q rfl ?_)⟩)⟩
    rw [if_neg Bool.false_ne_true,hemp]
    refine iteF (iteF ?_)
    refine (ex2q rfl (ex2q rfl (iteF (ex2q rfl ⟨by show 0<=sizeLine; lia,fun l12 hl12=>?_⟩))))
    have s12:=s11.new (o:=.lst []) hl12
    refine ⟨lq,l12,(ex2q rfl ⟨rfl,SqL.of (s12 _ _ gq8),SqL.of upd_same,(ex2q rfl ?_)⟩)⟩
    rw [if_neg Bool.false_ne_true,hemp]
    refine iteF ?_
    have W12:=W8.same s12
    have Hs12:=Z8.same s12
    have gq12:=s12 _ _ gq8
    have gr12:=s12 _ _ gr8
    have gp12:=s12 _ _ g8p
    have f12:=f8.trans (.of s12)
    obtain ⟨H12,e12⟩:∃ H12,H12=upd (upd H10 l11 (.lst [])) l12 (.lst []):=⟨_,rfl⟩
    rw [<- e12] at W12 Hs12 gq12 gr12 gp12 f12 ⊢
    have edu:du=i:=by
      rcases hdu with ⟨e1,e2⟩ | ⟨e1,e2⟩
      · rcases pl8.way with ⟨f1,f2,f3⟩ | ⟨f1,f2,f3⟩
        · rw [e1] at f1
          injection f1 with f1
          lia
        · rcases f1 with z | ⟨j,z,hj⟩
          · rw [z] at e1; cases e1
          · rw [z] at e1
            injection e1 with e1
            exact absurd e2 (by rw [<- e1]; exact hj)
      · rcases pl8.way with ⟨f1,f2,f3⟩ | ⟨f1,f2,f3⟩
        · rcases e1 with z | ⟨j,z,hj⟩
          · rw [z] at f1; cases f1
          · rw [z] at f1
            injection f1 with f1
            exact absurd f2 (by rw [<- f1]; exact hj)
        · lia
    subst edu
    obtain ⟨⟨_,wn7⟩,⟨_,ww7⟩,_⟩:=Z7.hs.wls
    obtain ⟨_,_,_,_,_,_,hd8d⟩:=Z8.hb.ex
    obtain ⟨_,_,hpl8⟩:=Z8.hb.box ⟨du,tg,ps,1,b,pl'⟩ (List.mem_append_right _ List.mem_cons_self)
    have opl:¬ Own a pl'/\pl'≠a.ww:=⟨fun o=>o.elim (fr8 _ _ Z7.wo.h) fun o=>o.elim (fr8 _ _ Z7.wo.p) fun o=>o.elim (fr8 _ _ Z7.wo.m) fun o=>o.elim (ne_of hpl8 W8.r (by intro z; cases z)) fun o=>o.elim (fr8 _ _ wn7) fun o=>o.elim (fr8 _ _ ww7) (ne_of hpl8 hd8d (by intro z; cases z)),fr8 _ _ Z7.wo.w⟩
    have apl2:∀ y∈L2 ++ [(⟨du,tg,ps,1,b,pl'⟩:Bx)],¬ Own a y.pl/\y.pl≠a.ww:=fun y hy=>by
      rcases List.mem_append.mp hy with z | z
      · obtain ⟨x,hx,_,_,_,e4⟩:=pl8.sub y z
        rw [<- e4]
        exact Z.apl x hx
      · rw [List.mem_singleton.mp z]
        exact opl
    have nlh2:∀ y∈L2 ++ [(⟨du,tg,ps,1,b,pl'⟩:Bx)],a.lh≠y.pl:=fun y hy z=>(apl2 y hy).1 (.inl z.symm)
    have nlm2:∀ y∈L2 ++ [(⟨du,tg,ps,1,b,pl'⟩:Bx)],a.lm≠y.pl:=fun y hy z=>(apl2 y hy).1 (.inr (.inr (.inl z.symm)))
    have hvl:=pu.vl
    refine (ex2q rfl (ex2q rfl ⟨by show 2<=sizeLine; lia,fun tb htb=>(ex2q rfl (ex2q rfl ⟨a.rd,(ex2q rfl ⟨DPut.k (k:=.inl (du:Int)) (old htb W12.r) (by lia),?_⟩)⟩))⟩))
    have s13:=same_new htb (.tup [.str tg,.ref lq])
    have W13:=W12.same s13
    have W14:=W13.setR (putK D.kvs (.inl (du:Int)) (.ref tb))
    have Hs14:=(Hs12.same s13).dict (kvs':=putK D.kvs (.inl (du:Int)) (.ref tb)) W13.r Z.sep.rd
    have f14:Fr8 a H12 (upd (upd H12 tb (.tup [.str tg,.ref lq])) a.rd (.dK (putK D.kvs (.inl (du:Int)) (.ref tb)))):=(Fr8.of s13).trans (.put (.inr (.inr (.inr (.inl rfl)))) W13.r (fun _ z=>nomatch z) (fun _ _ z=>nomatch z))
    have gtb14:upd (upd H12 tb (.tup [.str tg,.ref lq])) a.rd (.dK (putK D.kvs (.inl (du:Int)) (.ref tb))) tb=some (.tup [.str tg,.ref lq]):=by rw [upd_ne (ne_of (upd_same (H:=H12) (a:=tb) (o:=.tup [.str tg,.ref lq])) W13.r (by intro z; cases z))]; exact upd_same
    obtain ⟨H14,e14⟩:∃ H14,H14=upd (upd H12 tb (.tup [.str tg,.ref lq])) a.rd (.dK (putK D.kvs (.inl (du:Int)) (.ref tb))):=⟨_,rfl⟩
    rw [<- e14] at W14 Hs14 f14 gtb14 ⊢
    refine (ex2q rfl ⟨.inl ⟨rfl,_,SqL.of W14.h⟩,a.lh,(ex2q rfl ⟨rfl,W14.h,?_⟩)⟩)
    have W15:=W14.setH Z.sep []
    have Hs15:=Hs14.list (ys:=[]) W14.h Z.sep.hn Z.sep.hw nlh2
    have f15:Fr8 a H12 (upd H14 a.lh (.lst [])):=f14.trans (.put (.inl rfl) W14.h (fun _ z=>nomatch z) (fun _ _ z=>nomatch z))
    obtain ⟨H15,e15⟩:∃ H15,H15=upd H14 a.lh (.lst []):=⟨_,rfl⟩
    rw [<- e15] at W15 Hs15 f15 ⊢
    have gr15:=f15.1 _ _ orr.1 gr12
    refine (ex2q rfl ⟨.inl ⟨rfl,_,SqL.of W15.h⟩,(ex2q rfl (ex2q rfl ⟨by show 1<=sizeLine; lia,fun l16 hl16=>?_⟩))⟩)
    have s16:=same_new hl16 (.lst [.ref p])
    refine ⟨lr,l16,(ex4q rfl rfl ⟨s16 _ _ gr15,upd_same,by show hs'.length + 1<=sizeLine; lia,fun l17 hl17=>?_⟩)⟩
    have s17:=s16.new (o:=.lst (hs' ++ [.ref p])) hl17
    have W17:=W15.same s17
    refine ⟨a.lh,l17,(ex4q rfl rfl ⟨W17.h,upd_same,by rw [List.length_append]; show 0 + (hs'.length + 1)<=sizeLine; lia,?_⟩)⟩
    have W18:=W17.setH Z.sep (hs' ++ [.ref p])
    have Hs18:=(Hs15.same s17).list (ys:=hs' ++ [.ref p]) W17.h Z.sep.hn Z.sep.hw nlh2
    have f18:Fr8 a H12 (upd (upd (upd H15 l16 (.lst [.ref p])) l17 (.lst (hs' ++ [.ref p]))) a.lh (.lst (hs' ++ [.ref p]))):=(f15.trans (.of s17)).trans (.put (.inl rfl) W17.h (fun _ z=>nomatch z) (fun _ _ z=>nomatch z))
    dsimp only
    rw [List.nil_append]
    obtain ⟨H18,e18⟩:∃ H18,H18=upd (upd (upd H15 l16 (.lst [.ref p])) l17 (.lst (hs' ++ [.ref p]))) a.lh (.lst (hs' ++ [.ref p])):=⟨_,rfl⟩
    rw [<- e18] at W18 Hs18 f18 ⊢
    obtain ⟨_,_,_,h18,_⟩:=Hs18.hb.ex
    have l18:=Hs18.ln
    refine (ex2q rfl ⟨a.lm,_,_,_,rfl,rfl,SqL.of W18.m,atI_nat (j:=0) rfl,X,hX,(ex2q rfl ⟨a.hp,_,_,rfl,h18,Hs18.hb.xt.2 _ (by decide) (by decide),a.hp,a.d,a.nl,_,_,rfl,Hs18.hb,by lia,fun H19 lx ts qs L' pL sL s19 nb gb R nq=>?_⟩)⟩)
    have W19:=W18.same s19
    refine ⟨lx,(ex2q rfl ⟨.inl (SqL.of gb),_,_,rfl,(ex2q rfl ⟨a.lm,_,_,0,rfl,rfl,W19.m,rfl,?_⟩)⟩)⟩
    have lts:(ts.map V.ref).length=L2.length + 1:=by
      rw [List.length_map,R.tl,pL.length_eq,List.length_append]
      rfl
    rw [lts]
    have hsc:scal (.int (du:Int)) kv=true:=by rcases hkv with rfl | ⟨j,rfl⟩ <;> rfl
    obtain ⟨mx,emx⟩:∃ mx:Int,mx=if ((L2.length + 1:Nat):Int) > D.m.peak then ((L2.length + 1:Nat):Int) else D.m.peak:=⟨_,rfl⟩
    have W20:=W19.setM Z.sep { D.m with peak:=mx }
    have Hs19:=Hs18.same s19
    have Hs20:=Hs19.list (ys:=[.int mx,.int D.m.fresh]) W19.m Z.sep.mn Z.sep.mw nlm2
    have f20:Fr8 a H12 (upd H19 a.lm (.lst [.int mx,.int D.m.fresh])):=(f18.trans (.of s19)).trans (.put (.inr (.inr (.inl rfl))) W19.m (fun _ z=>nomatch z) (fun _ _ z=>nomatch z))
    change (tSeq _ _:TS) _ [some (.ref a.hp),some (.ref a.ww),some (.int D.m.sz),some (.int c),some (.ref a.lh),some (.ref a.lp),some (.ref a.rd),some (.ref a.lm),some (.ref lr),some (.ref lq),some kv,some (.int (du:Int)),some (.str tg),some (.ref lb),some (.bl false),some (.ref p)] (upd H19 a.lm (.lst [.int (if ((L2.length + 1:Nat):Int) > D.m.peak then ((L2.length + 1:Nat):Int) else D.m.peak),.int D.m.fresh]))
    rw [<- emx]
    obtain ⟨H20,e20⟩:∃ H20,H20=upd H19 a.lm (.lst [.int mx,.int D.m.fresh]):=⟨_,rfl⟩
    have W20':H20 a.lm=some (.lst [.int mx,.int D.m.fresh]):=by rw [e20]; exact upd_same
    have W20r:Wo8 a H20 { D with m:={ D.m with peak:=mx },hs:=hs' ++ [.ref p],kvs:=putK D.kvs (.inl (du:Int)) (.ref tb) }:=by rw [e20]; exact ⟨W20.w,W20.h,W20.p,W20.m,W20.r⟩
    rw [<- e20] at Hs20 f20 ⊢
    obtain ⟨bb,ebb⟩:∃ bb:Bool,bb=!decide (V.int (du:Int)=kv):=⟨_,rfl⟩
    refine (ex2q rfl ⟨a.lm,_,_,_,rfl,rfl,SqL.of W20',atI_nat (j:=1) rfl,(ex2q rfl (ex2q rfl ⟨hsc,.inr (ex2q rfl (ex4q rfl rfl (ex2q rfl ⟨a.lm,_,_,1,rfl,rfl,W20',rfl,?_⟩)))⟩))⟩)
    have efr:(D.m.fresh:Int) + (if (!decide (V.int (du:Int)=kv))=true then (1:Int) else 0)=((Nm.pk m2 L2.length).fresh:Nat):=by
      show _=((m2.fresh:Nat):Int)
      rcases pl8.way with ⟨f1,_,f3⟩ | ⟨f1,f2,f3⟩
      · rw [f1,decide_eq_true rfl,f3]
        show (D.m.fresh:Int) + 0=_
        lia
      · have hne:V.int (du:Int)≠kv:=fun z=>by
          rcases hkv0 with e | ⟨j,e,hj⟩
          · rw [e] at z; cases z
          · rw [e] at z
            injection z with z
            lia
        rw [decide_eq_false hne,f3]
        show (D.m.fresh:Int) + 1=((D.m.fresh + 1:Nat):Int)
        lia
    have epk:mx=(Nm.pk m2 L2.length).peak:=by
      rw [emx]
      show _=if ((L2.length + 1:Nat):Int) > m2.peak then ((L2.length + 1:Nat):Int) else m2.peak
      rw [pl8.peak]
    dsimp only [List.set]
    rw [efr,epk]
    have W21:=W20r.setM Z.sep (Nm.pk m2 L2.length)
    have Hs21:=Hs20.list (ys:=[.int (Nm.pk m2 L2.length).peak,.int ((Nm.pk m2 L2.length).fresh:Nat)]) W20' Z.sep.mn Z.sep.mw nlm2
    have f21:Fr8 a H12 (upd H20 a.lm (.lst [.int (Nm.pk m2 L2.length).peak,.int ((Nm.pk m2 L2.length).fresh:Nat)])):=f20.trans (.put (.inr (.inr (.inl rfl))) W20' (fun _ z=>nomatch z) (fun _ _ z=>nomatch z))
    obtain ⟨H21,e21⟩:∃ H21,H21=upd H20 a.lm (.lst [.int (Nm.pk m2 L2.length).peak,.int ((Nm.pk m2 L2.length).fresh:Nat)]):=⟨_,rfl⟩
    rw [<- e21] at W21 Hs21 f21 ⊢
    refine (ex2q rfl (ex2q rfl ⟨by show 2<=sizeLine; lia,fun t22 ht22=>?_⟩))
    have s22:=same_new ht22 (.tup [.str "box",.int (du:Int)])
    refine ⟨_,_,rfl,Alk.tup (s22 _ _ (f21.2 _ _ gp12)) upd_same (.cons (.str _) (.cons (.int _) .nil)) (Nat.le_of_ble_eq_true rfl),fun H23 s23=>?_⟩
    have s2123:=s22.trans s23
    have f23:=f21.trans (.of s2123)
    have f723:Fr8 a H7 H23:=f12.trans f23
    have k1421:∀ b xs,H14 b=some (.tup xs)->H21 b=some (.tup xs):=fun b xs e=>by
      have e15':H15 b=some (.tup xs):=by rw [e15,upd_ne (ne_of e W14.h (by intro z; cases z))]; exact e
      have e17':=s17 _ _ e15'
      have e18':H18 b=some (.tup xs):=by rw [e18,upd_ne (ne_of e17' W17.h (by intro z; cases z))]; exact e17'
      have e19':=s19 _ _ e18'
      have e20':H20 b=some (.tup xs):=by rw [e20,upd_ne (ne_of e19' W19.m (by intro z; cases z))]; exact e19'
      rw [e21,upd_ne (ne_of e20' W20' (by intro z; cases z))]
      exact e20'
    have ftb:H23 tb=some (.tup [.str tg,.ref lq]):=s2123 _ _ (k1421 _ _ gtb14)
    exact q H23 _ (f07.trans f723) (Z7.made (Hs21.same s2123) pl8 hg8 hf8 gp8 hd8 (f23.2 _ _ gp12) f723 ((W21.same s2123).as rfl rfl rfl rfl rfl) opl ftb (f23.1 _ _ oq.1 gq12) oq.1 hgp7 hin hct hhl p9) (by show m2.sz=D.m.sz; exact pl8.sz) rfl
end
end Hv
namespace L2
open PySem PySem.Spec PyProof.Rows
section
variable {X:Cx}
def rEq1:R2:=fun x y H Q=>∃ p p' a b,x=.ref p/\y=.ref p'/\H p=some (.lst [a])/\H p'=some (.lst [b])/\flatV a=true/\flatV b=true/\Q (.bl (eqV a b)) H
theorem op_eq1 (hu:X.A.units + 64 < cLine):OpR X (compareOp .Eq) rEq1:=by
  intro pins s σ H x y v u Q I rx ry h
  obtain ⟨p,p',a,b,rfl,rfl,h1,h2,fa,fb,q⟩:=h
  cases rx
  cases ry
  obtain ⟨i1,v1,m1,_⟩:=I.list (SqL.of h1)
  obtain ⟨i2,v2,m2,_⟩:=I.list (SqL.of h2)
  have n1:=v1.length
  have n2:=v2.length
  have main:=SeqAt.RcAt.lists (A:=X.A) (s:=s) (e:=fun _=>eqV a b) m1.isList m2.isList (by simp at n1 n2 ⊢; lia) (by lia) (fun j x y=>by
    have z1:j=0:=by simp at n1 x; lia
    subst z1
    obtain ⟨w1,e1,r1⟩:=v1.get (i:=0) rfl
    obtain ⟨w2,e2,r2⟩:=v2.get (i:=0) rfl
    have g1:i1.toArray[0]=w1:=by
      have:=List.getElem?_eq_some_iff.mp e1
      simpa using this.2
    have g2:i2.toArray[0]=w2:=by
      have:=List.getElem?_eq_some_iff.mp e2
      simpa using this.2
    rw [g1,g2]
    exact eqAt_V r1 r2 fa fb)
  have eb:((List.range i1.toArray.size).all fun _=>eqV a b)=eqV a b:=by
    have:i1.toArray.size=1:=by simp at n1 ⊢; lia
    rw [this]
    show (eqV a b && true)=_
    rw [Bool.and_true]
  rw [eb] at main
  exact main _ _ _ _ ⟨.bl (eqV a b),H,I,rfl,q⟩
theorem jo_eq1 {k:Nat} (hr:Room k X.A):jOp X (compareOp .Eq) rEq1:=⟨op_eq1 hr.units⟩
end
end L2
set_option simprocs false
namespace Hv
open PySem L2 K11 HM
theorem take_lt {ks:List Int} (h:KSrt ks) (n:Int):∀ k∈ks.take (plc ks n),k < n:=by
  induction ks with
  | nil=>intro k hk; cases hk
  | cons k0 ks ih =>
    have h1:=List.pairwise_cons.mp h
    intro k hk
    unfold plc at hk
    by_cases c:k0 < n
    · rw [List.filter_cons_of_pos (by simpa using c),List.length_cons,List.take_succ_cons] at hk
      rcases List.mem_cons.mp hk with z | z
      · lia
      · exact ih h1.2 k z
    · rw [List.filter_cons_of_neg (by simpa using c),List.filter_eq_nil_iff.mpr (fun z hz=>by have:=h1.1 z hz; simp; lia)] at hk
      cases hk
theorem drop_ge {ks:List Int} (h:KSrt ks) (n:Int):∀ k∈ks.drop (plc ks n),n<=k:=by
  induction ks with
  | nil=>intro k hk; unfold plc at hk; cases hk
  | cons k0 ks ih =>
    have h1:=List.pairwise_cons.mp h
    intro k hk
    unfold plc at hk
    by_cases c:k0 < n
    · rw [List.filter_cons_of_pos (by simpa using c),List.length_cons,List.drop_succ_cons] at hk
      exact ih h1.2 k hk
    · rw [List.filter_cons_of_neg (by simpa using c),List.filter_eq_nil_iff.mpr (fun z hz=>by have:=h1.1 z hz; simp; lia)] at hk
      have hk':k∈k0 :: ks:=hk
      rcases List.mem_cons.mp hk' with z | z
      · lia
      · have:=h1.1 k z
        lia
theorem insK_srt {ks:List Int} (h:KSrt ks) {n:Int} (hn:n ∉ ks):KSrt (insK ks n):=by
  have ht:=take_lt h n
  have hd:=drop_ge h n
  have hs:KSrt (ks.take (plc ks n) ++ ks.drop (plc ks n)):=by rw [List.take_append_drop]; exact h
  obtain ⟨s1,s2,s3⟩:=List.pairwise_append.mp hs
  refine List.pairwise_append.mpr ⟨s1,List.pairwise_cons.mpr ⟨fun k hk=>?_,s2⟩,fun k hk j hj=>?_⟩
  · have h1:=hd k hk
    have h2:k≠n:=fun z=>hn (by rw [<- z]; exact List.mem_of_mem_drop hk)
    lia
  · rcases List.mem_cons.mp hj with z | z
    · rw [z]; exact ht k hk
    · exact s3 k hk j z
theorem Alk.pr {n:Nat} {H:Hp} {v:V} (h:Pr6 H v):Alk (n + 2) H v v:=by
  rcases h with (⟨z,rfl⟩ | ⟨z,rfl⟩) | ⟨a,j,rfl,g⟩
  · exact Alk.str _
  · exact Alk.int _
  · exact Alk.tup g g (.cons (Alk.str _) (.cons (Alk.int _) .nil)) (Nat.le_of_ble_eq_true rfl)
theorem only_one {L:List Bx} (r:Rise L) {x:Bx} (hx:x∈L):(L.filter fun y=>decide (V.int (y.n:Int)=V.int (x.n:Int)))=[x]:=by
  induction L with
  | nil=>cases hx
  | cons y L ih =>
    have h1:=List.pairwise_cons.mp r
    rcases List.mem_cons.mp hx with z | z
    · subst z
      rw [List.filter_cons_of_pos (by simp),List.filter_eq_nil_iff.mpr (fun w hw=>by
        have:=h1.1 w hw
        simp
        lia)]
    · have hne:=h1.1 x z
      rw [List.filter_cons_of_neg (by simp; lia),ih h1.2 z]
section
variable {P:Program} {w:World} {K:PySem.W.Frag} {mg:Str->Option Value} {base:Heap} {f:Addr} {fd:FuncData} {A:Adr} {G S U:Addr} {Ad:Adr->Prop}
def spWorkedL (S:Addr) (Ad:Adr->Prop):Sp:=fun vs H Q _=>∃ (X:Adr) (g:V->Option Nat) (hp d nl wl:Addr) (m:Nm) (L:List Bx) (wt:List Nat) (N:Nat) (hf:Nat->Nat) (many:Nat),vs=[.ref hp,.int (many:Int)]/\Ad X/\Hs S g X H hp d nl wl m L wt N/\Hd g L wt hf/\N < 64/\∀ H' m' L' wt',KS nl wl d H H'->Hs S g X H' hp d nl wl m' L' wt' N->Eqm m' m->Hd g L' wt' hf->Sub L' L->L'.length<=L.length->Q (.bl true) H'
theorem scWorkedL:FnScope ["_law_heap","_law_many","_law_before","_law_found"] ["_law_heap","_law_many"] (defScope s_worked):=⟨rfl,rfl,rfl,by decide +kernel,rfl,by decide +kernel,by decide +kernel⟩
theorem ok_workedL (F:Fun K "_law_worked" "_law_worked" s_worked f fd) (T:Txt K mg A G) (TT:∀ A,Ad A->Txt K mg A G) (GB:∀ X,Ad X->Me P w K mg base CX0 1 X.cH "boxes" ["self"] (spBoxes X)) (GW:∀ X,Ad X->Me P w K mg base CX0 1 X.cH "waits" ["self"] (spWaitsG S X)) (GX:∀ X,Ad X->Me P w K mg base CX0 5 X.cH "work" ["self","many"] (spWork8 S X)) (GA:Ca P w K mg base CX0 5 "_law_alike" ["_law_found","_law_due"] (spAlike 5)):FnOk P w K mg base CX0 6 f fd ["_law_heap","_law_many"] (spWorkedL S Ad):=by
  refine F.by scWorkedL (fun vs H Q E h=>?_) (fun cdv A' outer s H vs Q E hr h=>?_)
  · obtain ⟨X,g,hp,d,nl,wl,m,L,wt,N,hf,many,rfl,_⟩:=h
    rfl
  obtain ⟨X,g,hp,d,nl,wl,m,L,wt,N,hf,many,rfl,hX,Z,hd,hN,q⟩:=h
  have r1:Room 1 _:=hr.mono (by decide)
  have r5:Room 5 _:=hr.mono (by decide)
  refine ⟨_,
    (jss_cons (js_set (i:=2) scWorkedL.nd rfl (Or.inl rfl) (je_fnB jc_len_seq rfl T.len PySem.boot_len (ja_c (je_me0A (sp:=fun A=>spBoxes A) (jv 0) (fun A h=>(TT A h).clH) GB r1 pass0) ja_nil)))
    (jss_cons (js_set (i:=3) scWorkedL.nd rfl (Or.inl rfl) (je_meA (sp:=fun A=>spWork8 S A) (jv 0) (fun A h=>(TT A h).clH) GX r5 pass0 (ja_c (jv 1) ja_nil)))
    (jss_cons (js_if (jt_not (jt_val (je_ca GA r5 rfl pass0 (ja_c (jv 3) (ja_c (je_op jo_sub (jv 2) (je_fnB jc_len_seq rfl T.len PySem.boot_len (ja_c (je_me0A (sp:=fun A=>spBoxes A) (jv 0) (fun A h=>(TT A h).clH) GB r1 pass0) ja_nil))) ja_nil))))) 
      (jss_one (js_ret je_bl))  jss_nil)
    (jss_one (js_ret (je_or (je_cmpR jo_eq (jv 3) (jv 1) (by with_unfolding_all rfl)) (je_one (je_and (je_cmpR jo_lt (jv 3) (jv 1) (by with_unfolding_all rfl)) (je_one (je_cmpR (jo_eqE hr) (je_me0A (sp:=fun A=>spWaitsG S A) (jv 0) (fun A h=>(TT A h).clH) GW r1 pass0) (je_lst ja_nil) (by with_unfolding_all rfl))))))))))),?_⟩
  have sl:=line0
  have hLN:=Z.ln
  obtain ⟨dx,r,dr,h1,_⟩:=Z.hb.ex
  have no:=Z.hb.xt.2
  refine ⟨X,hX,(ex2q rfl ⟨hp,dx,(ex2q rfl ⟨h1,no _ (by decide) (by decide),hp,d,nl,m,L,rfl,Z.hb,by lia,fun H1 l ts qs L' pL sL s1 _ gl R _=>⟨l,(ex2q rfl ⟨.inl (SqL.of gl),?_⟩)⟩⟩)⟩)⟩
  have Z1:=Z.same s1
  refine ⟨X,hX,(ex2q rfl ⟨hp,_,_,rfl,s1 _ _ h1,no _ (by decide) (by decide),(ex2q rfl ⟨g,hp,d,nl,wl,m,L,wt,N,hf,many,rfl,Z1,hd,by lia,fun H2 m2 L2 wt2 rr k2 Z2 em hd2 hsub hrl hre _ _=>?_⟩)⟩)⟩
  obtain ⟨_,_,_,h2,_⟩:=Z2.hb.ex
  have no2:=Z2.hb.xt.2
  have l2:=Z2.ln
  refine (ex2q rfl (ex2q rfl ⟨X,hX,(ex2q rfl ⟨hp,_,_,rfl,h2,no2 _ (by decide) (by decide),hp,d,nl,m2,L2,rfl,Z2.hb,by lia,fun H3 l3 ts3 qs3 L3 pL3 sL3 s3 _ gl3 R3 _=>⟨l3,(ex2q rfl ⟨.inl (SqL.of gl3),(ex4q rfl rfl ?_)⟩)⟩⟩)⟩))
  have e:((ts.map V.ref).length:Int) - ((ts3.map V.ref).length:Int)=(rr:Int):=by
    rw [List.length_map,List.length_map,R.tl,R3.tl,pL.length_eq,pL3.length_eq]
    lia
  refine ⟨_,_,rfl,(by dsimp only; rw [e]; exact Alk.int _),fun H4 s4=>(ex2q rfl (iteF ?_))⟩
  have s24:=s3.trans s4
  have k4:KS nl wl d H H4:=((KS.of s1).trans k2).trans (.of s24)
  have fin:∀ {H5:Hp},Same H4 H5->Q (.bl true) H5:=fun {H5} s5=>q H5 m2 L2 wt2 (k4.trans (.of s5)) (Z2.same (s24.trans s5)) em hd2 hsub (by lia)
  rcases hre with er | ⟨er,ew⟩
  · refine (ex2q rfl (ex2q rfl ⟨rfl,?_⟩))
    rw [decide_eq_true (by rw [er])]
    exact (ex2q rfl (iteT (fin (Same.refl _))))
  · refine (ex2q rfl (ex2q rfl ⟨rfl,?_⟩))
    rw [decide_eq_false (by intro z; injection z with z; lia)]
    refine (ex2q rfl (iteF (ex2q rfl (ex2q rfl (ex4q rfl rfl ?_)))))
    dsimp only
    rw [decide_eq_true (show (rr:Int) < (many:Int) by lia)]
    have Z4:=Z2.same s24
    refine (ex2q rfl (iteT ⟨X,hX,(ex2q rfl ⟨hp,_,_,rfl,s24 _ _ h2,no2 _ (by decide) (by decide),hp,d,nl,m2,L2,(ex2q rfl ⟨Z4.hb,Z4.wt,fun lw hlw=>?_⟩)⟩)⟩))
    subst ew
    refine ⟨by show 0<=sizeLine; lia,fun l6 hl6=>⟨lw,l6,(ex2q rfl ⟨rfl,SqL.of (old hl6 upd_same),SqL.of upd_same,?_⟩)⟩⟩
    rw [if_neg Bool.false_ne_true]
    exact fin ((same_new hlw _).new hl6)
def spTakeL (S:Addr) (Ad:Adr->Prop):Sp:=fun vs H Q _=>∃ (X:Adr) (a:Ad8) (D:D8) (H0:Hp) (i:Nat) (v:V) (k:Bool),vs=[.ref a.hp,.ref a.ww,v,.bl k]/\Ad X/\S8 S X H0 a D/\D.hs[i]?=some v/\H=upd H0 a.lh (.lst (D.hs.eraseIdx i))/\D.N < 63/\∀ H' D',Fr8 a H0 H'->S8 S X H' a D'->D'.m.sz=D.m.sz->D'.N=D.N + 1->Q (.bl true) H'
theorem scTakeL:FnScope ["_law_heap","_law_world","_law_value","_law_keep","_law_hands","_law_places","_law_built","_law_marks","_law_tag","_law_parts","_law_counts","_law_due"] ["_law_heap","_law_world","_law_value","_law_keep"] (defScope s_take):=⟨rfl,rfl,rfl,by decide +kernel,rfl,by decide +kernel,by decide +kernel⟩
theorem ndTakeL:(["_law_heap","_law_world","_law_value","_law_keep","_law_hands","_law_places","_law_built","_law_marks","_law_tag","_law_parts","_law_counts","_law_due","_law_row"]:List Str).Nodup:=by decide +kernel
theorem ok_takeL (F:Fun K "_law_take" "_law_take" s_take f fd) (T:Txt K mg A G) (TT:∀ A,Ad A->Txt K mg A G) (GB:∀ X,Ad X->Me P w K mg base CX0 1 X.cH "boxes" ["self"] (spBoxes X)) (GL:∀ X,Ad X->Me P w K mg base CX0 2 X.cH "look" ["self","value"] (spLook8 X)) (GK:∀ X,Ad X->MeD P w K mg base CX0 4 X.cH "take" ["self","value","keep"] [.bl false] (spTake8 S X)) (GA:Ca P w K mg base CX0 5 "_law_alike" ["_law_found","_law_due"] (spAlike 5)):FnOk P w K mg base CX0 6 f fd ["_law_heap","_law_world","_law_value","_law_keep"] (spTakeL S Ad):=by
  refine F.by scTakeL (fun vs H Q E h=>?_) (fun cdv A' outer s H vs Q E hr h=>?_)
  · obtain ⟨X,a,D,H0,i,v,k,rfl,_⟩:=h
    rfl
  obtain ⟨X,a,D,H0,i,v,k,rfl,hX,Z,hv,eH,hN,q⟩:=h
  have r1:Room 1 _:=hr.mono (by decide)
  have r2:Room 2 _:=hr.mono (by decide)
  have r4:Room 4 _:=hr.mono (by decide)
  have r5:Room 5 _:=hr.mono (by decide)
  refine ⟨_,
    (jss_cons (js_asg (jv 1) (jg_lst rfl (jgs_cons (jg_name (i:=4) scTakeL.nd rfl (Or.inl rfl)) (jgs_cons (jg_name (i:=5) scTakeL.nd rfl (Or.inl rfl)) (jgs_cons (jg_name (i:=6) scTakeL.nd rfl (Or.inl rfl)) (jgs_cons (jg_name (i:=7) scTakeL.nd rfl (Or.inl rfl)) jgs_nil))))))
    (jss_cons (js_if (jt_not (jt_val (je_fnB jc_isinst rfl T.isi PyProof.Rows.boot_isinstance (ja_c (jv 2) (ja_c (je_bltn (v:=.ty "tuple") rfl T.tuple PyProof.Rows.boot_tuple rfl) ja_nil))))) 
      (jss_one (js_ret (je_ca GA r5 rfl pass0 (ja_c (je_meA (sp:=fun A=>spTake8 S A) (jv 0) (fun A h=>(TT A h).clH) (fun A h=>MeD.me (GK A h)) r4 pass0 (ja_c (jv 2) (ja_c (jv 3) ja_nil))) (ja_c (je_tup (ja_c (je_lst ja_nil) (ja_c je_non ja_nil))) ja_nil)))))  jss_nil)
    (jss_cons (js_asg (je_dget hr (jv 6) (je_ix jx_tup (jv 2) je_int (fun _ _=>rfl)) (fun _ _=>rfl)) (jg_tup rfl (jgs_cons (jg_name (i:=8) scTakeL.nd rfl (Or.inl rfl)) (jgs_cons (jg_name (i:=9) scTakeL.nd rfl (Or.inl rfl)) jgs_nil))))
    (jss_cons (js_if (jt_not (jt_val (je_ca GA r5 rfl pass0 (ja_c (je_meA (sp:=fun A=>spLook8 A) (jv 0) (fun A h=>(TT A h).clH) GL r2 pass0 (ja_c (jv 2) ja_nil)) (ja_c (je_tup (ja_c (jv 8) (ja_c (jv 9) ja_nil))) ja_nil))))) 
      (jss_one (js_ret je_bl))  jss_nil)
    (jss_cons (js_comp ["_law_row"] (i:=10) scTakeL.nd rfl (Or.inl rfl) rfl (ji_list (je_me0A (sp:=fun A=>spBoxes A) (jv 0) (fun A h=>(TT A h).clH) GB r1 pass0)) (fun _ _ _ _ _=>(jg_name (i:=12) ndTakeL rfl (Or.inl rfl))) (fun _ _ _ _ _=>(jts_one (jt_cmpR jo_eq (je_ix (jx_tupK K) (jv 12) je_int (fun _ _=>rfl)) (je_ix (jx_tupK K) (jv 2) je_int (fun _ _=>rfl)) (by with_unfolding_all rfl)))) (fun _ _ _ _ _=>(je_ix (jx_tupK K) (jv 12) je_int (fun _ _=>rfl))))
    (jss_cons (js_set (i:=11) scTakeL.nd rfl (Or.inl rfl) je_non)
    (jss_cons (js_if (jW.pt (jw_and (jt_cmpR (jo_eq1 hr) (jv 10) (je_lst (ja_c je_int ja_nil)) (by with_unfolding_all rfl)) (jw_and1 (jt_val (jv 3))))) 
      (jss_cons (js_set (i:=11) scTakeL.nd rfl (Or.inl rfl) (je_ix jx_tup (jv 2) je_int (fun _ _=>rfl)))
      (jss_one (js_expr (je_bm PySem.F.plainAttrs_list PySem.F.slot_list_append PySem.F.type_list_append jm_append (jv 5) (ja_c (jv 11) ja_nil)))))  jss_nil)
    (jss_cons (js_expr (je_bm PySem.F.plainAttrs_list PySem.F.slot_list_extend PySem.F.type_list_extend jm_extend (jv 4) (ja_c (jv 9) ja_nil)))
    (jss_one (js_ret (je_ca GA r5 rfl pass0 (ja_c (je_meA (sp:=fun A=>spTake8 S A) (jv 0) (fun A h=>(TT A h).clH) (fun A h=>MeD.me (GK A h)) r4 pass0 (ja_c (jv 2) (ja_c (jv 3) ja_nil))) (ja_c (je_tup (ja_c (jv 9) (ja_c (jv 11) ja_nil))) ja_nil))))))))))))),?_⟩
  have sl:=line0
  have pu:=Z.pu
  have hjl:=pu.jl
  have hkl:=pu.kl
  have hhl0:=pu.hl
  have W:=Z.wo.setH Z.sep (D.hs.eraseIdx i)
  have Hs0:=Z.hs.list (ys:=D.hs.eraseIdx i) Z.wo.h Z.sep.hn Z.sep.hw Z.nlh
  have f0:Fr8 a H0 (upd H0 a.lh (.lst (D.hs.eraseIdx i))):=.put (.inl rfl) Z.wo.h (fun _ z=>nomatch z) (fun _ _ z=>nomatch z)
  rw [<- eH] at W Hs0 f0
  have hvm:=List.mem_of_getElem? hv
  have hgv:=(Z.hg v hvm).fr f0
  have hel:(D.hs.eraseIdx i).length<=D.hs.length:=List.length_eraseIdx_le ..
  have hmem:∀ u∈D.hs.eraseIdx i,u∈D.hs:=fun u hu=>List.mem_of_mem_eraseIdx hu
  have hcn:=er_mapV D.g D.hs i v hv
  have hpos:∀ n,D.g v=some n->0 < cnt D.g D.hs n:=fun n e=>List.count_pos_iff.mpr (List.mem_filterMap.mpr ⟨v,hvm,e⟩)
  have no:=Hs0.hb.xt.2
  obtain ⟨dx,r,dr,h1,_⟩:=Hs0.hb.ex
  refine (ex2q rfl ⟨a.ww,(ex2q rfl ⟨SqL.of W.w,rfl,_,_,rfl,_,_,rfl,_,_,rfl,_,_,rfl,rfl,?_⟩)⟩)
  rcases id hgv with ⟨fl,gn⟩ | ⟨p,n,rfl,hpn,gn⟩
  · have cntE:∀ n,cnt D.g (D.hs.eraseIdx i) n=cnt D.g D.hs n:=fun n=>by
      have:=hcn n
      rw [show [v].filterMap D.g=[] from by rw [List.filterMap_cons,gn]; rfl,List.count_nil] at this
      exact this.symm
    have go:∃ t,TyOf K H v (.type t)/\PySem.W.kitOne K (.type t) (.type "tuple")=some false:=by
      rcases fl with ⟨z,rfl⟩ | ⟨z,rfl⟩
      · exact ⟨_,.str z,kit_st _⟩
      · exact ⟨_,.int z,kit_it _⟩
    obtain ⟨t,ty,kt⟩:=go
    refine (ex2q rfl ⟨_,_,_,_,rfl,ty,kt,(ex2q rfl (iteT ?_))⟩)
    refine ⟨X,hX,(ex2q rfl ⟨a.hp,dx,(ex2q rfl ⟨h1,no _ (by decide) (by decide),(ex2q rfl (ex2q rfl ⟨D.g,a.hp,a.d,a.nl,a.wl,v,k,D.m,D.L,D.wt,D.N,cnt D.g D.hs,rfl,Hs0,Z.hd,by lia,pu.ks,by lia,hgv,hpos,fun _ H2 l2 t2 s2 gl2 gt2=>?_,fun x hx e=>by rw [gn] at e; cases e⟩))⟩)⟩)⟩
    refine ⟨by show 0<=sizeLine; lia,fun l3 hl3=>⟨by show 2<=sizeLine; lia,fun t3 ht3=>?_⟩⟩
    have s3:=(same_new hl3 (.lst [])).new (o:=.tup [.ref l3,.non]) ht3
    refine ⟨_,_,rfl,Alk.tup (s3 _ _ gt2) upd_same (.cons (Alk.lst (s3 _ _ gl2) (old ht3 upd_same) .nil (Nat.zero_le _)) (.cons Alk.non .nil)) (Nat.le_of_ble_eq_true rfl),fun H4 s4=>?_⟩
    have s04:=(s2.trans s3).trans s4
    have f4:=f0.trans (.of s04)
    exact q H4 ⟨D.g,D.m,D.L,D.wt,D.hs.eraseIdx i,D.js,D.kvs,D.N + 1⟩ f4 (Z.next ((Hs0.same s04).mono (Nat.le_succ _)) (Z.hd.congr cntE) ((W.same s04).as rfl rfl rfl rfl rfl) f4 Sub.refl (fun u hu=>Z.hg u (hmem u hu)) (pu.sub Sub.refl pu.ks (by lia) pu.ko pu.ro pu.js (by lia) (by lia) (Nat.le_succ _))) rfl rfl
  · obtain ⟨x,hx,en,hc⟩:=hd_look Z.hd (hpos n gn)
    subst en
    obtain ⟨tb,qb,b1,b2,b3,b4⟩:=(Z.bl.fr f0) x hx
    have gg:DGet H a.rd (.int (x.n:Int)) (some (.ref tb)):=by
      rw [<- b1]
      exact DGet.k (k:=.inl (x.n:Int)) W.r
    have hx9:=pu.p9 x hx
    have hLN:=Z.hs.ln
    refine (ex2q rfl ⟨_,_,_,_,rfl,.tup hpn,kit_tt _,(ex2q rfl (iteF ?_))⟩)
    refine (ex2q rfl (ex2q rfl ⟨p,_,_,_,rfl,rfl,SqT.of hpn,atI_nat (j:=1) rfl,a.rd,(ex2q rfl ⟨gg,tb,(ex2q rfl ⟨SqT.of b2,rfl,_,_,rfl,_,_,rfl,rfl,?_⟩)⟩)⟩))
    refine ⟨X,hX,(ex2q rfl ⟨a.hp,dx,(ex2q rfl ⟨h1,no _ (by decide) (by decide),(ex2q rfl ⟨a.hp,a.d,a.nl,p,D.m,D.L,x,rfl,Hs0.hb,hpn,hx,hc,fun H2 p2 q2 s2 g1 g2 _=>?_⟩)⟩)⟩)⟩
    refine (ex2q rfl (ex2q rfl ⟨by show 2<=sizeLine; lia,fun t3 ht3=>?_⟩))
    have s3:=same_new ht3 (.tup [.str x.tag,.ref qb])
    have s23:=s2.trans s3
    have Hs3:=Hs0.same s23
    refine ⟨_,_,rfl,Alk.tup (s3 _ _ g1) upd_same (.cons (Alk.str _) (.cons (Alk.lst (s3 _ _ g2) (s23 _ _ b3) (A2.refl fun u hu=>Alk.pr (Hs3.prs x hx u hu).pr) (by lia)) .nil)) (Nat.le_of_ble_eq_true rfl),fun H4 s4=>(ex2q rfl (iteF ?_))⟩
    have s04:=s23.trans s4
    have Hs4:=Hs0.same s04
    have hp4:=s04 _ _ hpn
    refine ⟨X,hX,(ex2q rfl ⟨a.hp,_,_,rfl,s04 _ _ h1,no _ (by decide) (by decide),a.hp,a.d,a.nl,D.m,D.L,rfl,Hs4.hb,by lia,fun H5 l5 ts qs L' pL sL s5 nb gb R nq=>?_⟩)⟩
    have rL:Rise L':=(pL.pairwise_iff (R:=fun x y:Bx=>x.n≠y.n) (fun h=>Ne.symm h)).mpr Z.hd.rise
    have tl:=R.tl
    have ql:=R.ql
    have hp5:=s5 _ _ hp4
    refine ⟨l5,rfl,⟨_,SqL.of gb⟩,lc_list (K:=K) (xs:=ts.map V.ref) (fun j τ ys H'=>H'=H5/\(∃ v,τ=[some (.ref a.hp),some (.ref a.ww),some (.ref p),some (.bl k),some (.ref a.lh),some (.ref a.lp),some (.ref a.rd),some (.ref a.lm),some (.str x.tag),some (.ref qb),none,none,v])/\ys=((L'.take j).filter fun y=>decide (V.int (y.n:Int)=V.int (x.n:Int))).map fun y=>V.int y.count) ⟨rfl,⟨none,rfl⟩,rfl⟩ ?_ ?_ ?_⟩
    · rintro j τ ys H' hj ⟨rfl,_⟩
      exact SqL.of gb
    · rintro j u τ ys H' hu ⟨rfl,⟨v,rfl⟩,rfl⟩
      rw [List.getElem?_map] at hu
      obtain ⟨t,ht,rfl⟩:=Option.map_eq_some_iff.mp hu
      have hj:j < ts.length:=(List.getElem?_eq_some_iff.mp ht).1
      obtain ⟨q',hq⟩:∃ q',qs[j]?=some q':=⟨_,List.getElem?_eq_getElem (by lia)⟩
      obtain ⟨y,hy⟩:∃ y,L'[j]?=some y:=⟨_,List.getElem?_eq_getElem (by lia)⟩
      obtain ⟨c1,c2⟩:=R.row j t q' y ht hq hy
      have et:L'.take (j + 1)=L'.take j ++ [y]:=by rw [List.take_add_one,hy]; rfl
      have hlen:(((L'.take j).filter fun y=>decide (V.int (y.n:Int)=V.int (x.n:Int))).map fun y=>V.int y.count).length < 64:=by
        rw [List.length_map]
        have:=List.length_filter_le (fun y:Bx=>decide (V.int (y.n:Int)=V.int (x.n:Int))) (L'.take j)
        rw [List.length_take] at this
        have:=pL.length_eq
        lia
      refine (ex2q rfl ⟨t,_,_,_,rfl,rfl,SqT.of c1,atI_nat (j:=0) rfl,(ex2q rfl ⟨p,_,_,_,rfl,rfl,SqT.of hp5,atI_nat (j:=1) rfl,rfl,(ex2q rfl (ite2 (fun c=>?_) (fun c=>?_)))⟩)⟩)
      · refine (ex2q rfl ⟨t,_,_,_,rfl,rfl,SqT.of c1,atI_nat (j:=3) rfl,by lia,rfl,⟨_,rfl⟩,?_⟩)
        rw [et,List.filter_append,List.map_append,List.filter_cons_of_pos (p:=fun y:Bx=>decide (V.int (y.n:Int)=V.int (x.n:Int))) (a:=y) (l:=[]) c]
        rfl
      · refine ⟨rfl,⟨_,rfl⟩,?_⟩
        rw [et,List.filter_append,List.filter_cons_of_neg (p:=fun y:Bx=>decide (V.int (y.n:Int)=V.int (x.n:Int))) (a:=y) (l:=[]) c,List.filter_nil,List.append_nil]
    rintro τ ys H' ⟨rfl,_,rfl⟩ lc hlc
    have eL:((L'.take (ts.map V.ref).length).filter fun y=>decide (V.int (y.n:Int)=V.int (x.n:Int))).map (fun y=>V.int y.count)=[.int x.count]:=by
      rw [List.length_map,tl,List.take_length,only_one rL (pL.mem_iff.mpr hx)]
      rfl
    rw [eL]
    have s6:=s5.new (o:=.lst [.int x.count]) hlc
    have s06:=s04.trans s6
    have gc6:upd H' lc (.lst [.int x.count]) lc=some (.lst [.int x.count]):=upd_same
    have W6:=W.same s06
    have Hs6:=Hs0.same s06
    obtain ⟨H6,e6⟩:∃ H6,H6=upd H' lc (.lst [.int x.count]):=⟨_,rfl⟩
    rw [<- e6] at s6 s06 gc6 W6 Hs6 ⊢
    unfold gName
    dsimp only
    refine asg_c ?_
    dsimp only [List.set,L2.start]
    change (tSeq (tIfS _ _ tNext) _:TS) _ [some (.ref a.hp),some (.ref a.ww),some (.ref p),some (.bl k),some (.ref a.lh),some (.ref a.lp),some (.ref a.rd),some (.ref a.lm),some (.str x.tag),some (.ref qb),some (.ref lc),some (.non)] H6
    obtain ⟨dv,edv⟩:∃ dv:V,dv=if x.count=1/\k=true then .int (x.n:Int) else .non:=⟨_,rfl⟩
    obtain ⟨js',ejs⟩:∃ js':List Int,js'=if x.count=1/\k=true then D.js ++ [(x.n:Int)] else D.js:=⟨_,rfl⟩
    have hps:∀ y∈D.L,a.lp≠y.pl:=Z.nlp
    refine if_join (fun σ H8=>σ=[some (.ref a.hp),some (.ref a.ww),some (.ref p),some (.bl k),some (.ref a.lh),some (.ref a.lp),some (.ref a.rd),some (.ref a.lm),some (.str x.tag),some (.ref qb),some (.ref lc),some (dv)]/\Fr8 a H6 H8/\Wo8 a H8 ⟨D.g,D.m,D.L,D.wt,D.hs.eraseIdx i,js',D.kvs,D.N⟩/\Hs S D.g X H8 a.hp a.d a.nl a.wl D.m D.L D.wt D.N) ?_ (fun fin=>?_)
    rotate_left
    · refine (ex2q rfl ⟨by show 1<=sizeLine; lia,fun l7 hl7=>?_⟩)
      have s7:=same_new hl7 (.lst [.int 1])
      have W7:=W6.same s7
      refine ⟨lc,l7,(ex4q rfl rfl ⟨s7 _ _ gc6,upd_same,rfl,rfl,(ex2q rfl ?_)⟩)⟩
      have nok:¬ (x.count=1/\k=true)->([some (.ref a.hp),some (.ref a.ww),some (.ref p),some (.bl k),some (.ref a.lh),some (.ref a.lp),some (.ref a.rd),some (.ref a.lm),some (.str x.tag),some (.ref qb),some (.ref lc),some (.non)]=[some (.ref a.hp),some (.ref a.ww),some (.ref p),some (.bl k),some (.ref a.lh),some (.ref a.lp),some (.ref a.rd),some (.ref a.lm),some (.str x.tag),some (.ref qb),some (.ref lc),some (dv)]/\Fr8 a H6 (upd H6 l7 (.lst [.int 1]))/\Wo8 a (upd H6 l7 (.lst [.int 1])) ⟨D.g,D.m,D.L,D.wt,D.hs.eraseIdx i,js',D.kvs,D.N⟩/\Hs S D.g X (upd H6 l7 (.lst [.int 1])) a.hp a.d a.nl a.wl D.m D.L D.wt D.N):=fun z=>by
        rw [edv,ejs,if_neg z,if_neg z]
        exact ⟨rfl,.of s7,W7.as rfl rfl rfl rfl rfl,Hs6.same s7⟩
      refine ite2 (fun c=>?_) (fun c=>iteF (fin _ _ (nok fun z=>c (by rw [z.1]; rfl))))
      have c1:x.count=1:=by simpa [eqV] using c
      refine (ex2q rfl (ex2q rfl (ite2 (fun ck=>?_) (fun ck=>fin _ _ (nok fun z=>ck z.2)))))
      refine (ex2q rfl ⟨p,_,_,_,rfl,rfl,SqT.of (s7 _ _ (s06 _ _ hpn)),atI_nat (j:=1) rfl,?_⟩)
      refine (ex2q rfl ⟨.inl ⟨rfl,_,SqL.of W7.p⟩,(ex2q rfl ⟨a.lp,(ex4q rfl rfl ⟨W7.p,by dsimp only; rw [List.length_map]; lia,?_⟩)⟩)⟩)
      have W8:=W7.setP Z.sep (D.js ++ [(x.n:Int)])
      have Hs8:=(Hs6.same s7).list (ys:=(D.js ++ [(x.n:Int)]).map V.int) W7.p Z.sep.pn Z.sep.pw hps
      rw [show (D.js.map V.int ++ [V.int (x.n:Int)])=(D.js ++ [(x.n:Int)]).map V.int from by rw [List.map_append]; rfl]
      refine fin _ _ ⟨?_,(Fr8.of s7).trans (.put (.inr (.inl rfl)) W7.p (fun _ z=>nomatch z) (fun _ _ z=>nomatch z)),?_,Hs8⟩
      · rw [edv,if_pos ⟨c1,ck⟩]
        rfl
      · rw [ejs,if_pos ⟨c1,ck⟩]
        exact W8.as rfl rfl rfl rfl rfl
    rintro σ H8 ⟨rfl,f8,W8,Hs8⟩
    have f68:=((Fr8.of s06).trans f8)
    have gq8:=f68.1 _ _ b4 b3
    refine (ex2q rfl ⟨.inl ⟨rfl,_,SqL.of W8.h⟩,(ex2q rfl ⟨a.lh,qb,(ex4q rfl rfl ⟨W8.h,gq8,by dsimp only; lia,?_⟩)⟩)⟩)
    have W9:=W8.setH Z.sep (D.hs.eraseIdx i ++ x.parts)
    have Hs9:=Hs8.list (ys:=D.hs.eraseIdx i ++ x.parts) W8.h Z.sep.hn Z.sep.hw Z.nlh
    have f9:Fr8 a H (upd H8 a.lh (.lst (D.hs.eraseIdx i ++ x.parts))):=f68.trans (.put (.inl rfl) W8.h (fun _ z=>nomatch z) (fun _ _ z=>nomatch z))
    have hp9:=f9.2 _ _ hpn
    have gq9:=f9.1 _ _ b4 b3
    dsimp only
    obtain ⟨H9,e9⟩:∃ H9,H9=upd H8 a.lh (.lst (D.hs.eraseIdx i ++ x.parts)):=⟨_,rfl⟩
    rw [<- e9] at W9 Hs9 f9 hp9 gq9 ⊢
    obtain ⟨_,_,_,h9,_⟩:=Hs9.hb.ex
    refine ⟨X,hX,(ex2q rfl ⟨a.hp,_,_,rfl,h9,no _ (by decide) (by decide),(ex2q rfl (ex2q rfl ⟨D.g,a.hp,a.d,a.nl,a.wl,.ref p,k,D.m,D.L,D.wt,D.N,cnt D.g D.hs,rfl,Hs9,Z.hd,by lia,pu.ks,by lia,.inr ⟨p,x.n,rfl,hp9,gn⟩,hpos,fun fl=>(by rcases fl with ⟨z,e⟩ | ⟨z,e⟩ <;> cases e),fun x' hx' e' hc' H10 l10 t10 m10 L10 k10 n10 gl10 gt10 Hs10 em hd10 sub10 ll10 hne10=>?_⟩))⟩)⟩
    have exx:x'=x:=rise_eq Z.hd.rise hx' hx (by rw [gn] at e'; injection e' with e'; exact e'.symm)
    subst exx
    rw [<- edv] at gt10
    have W10:=W9.ks Z.sep k10
    have f10:Fr8 a H9 H10:=.ks k10
    refine (ex2q rfl (ex2q rfl ⟨by show 2<=sizeLine; lia,fun t11 ht11=>?_⟩))
    have s11:=same_new ht11 (.tup [.ref qb,dv])
    have adv:Alk 4 (upd H10 t11 (.tup [.ref qb,dv])) dv dv:=by
      rw [edv]
      split
      · exact Alk.int _
      · exact Alk.non
    refine ⟨_,_,rfl,Alk.tup (s11 _ _ gt10) upd_same (.cons (Alk.lst (s11 _ _ gl10) (s11 _ _ (f10.1 _ _ b4 gq9)) (A2.refl fun u hu=>Alk.pr ?_) (by lia)) (.cons adv .nil)) (Nat.le_of_ble_eq_true rfl),fun H12 s12=>?_⟩
    · exact ((((Z.hs.prs x' hx u hu).fr f0).fr f9).fr (f10.trans (.of s11))).pr
    have s1012:=s11.trans s12
    have f12:Fr8 a H0 H12:=(f0.trans f9).trans (f10.trans (.of s1012))
    have hnk:(x'.n:Int) ∉ D.m.kept:=fun z=>(pu.ko _ z).1 x' hx rfl
    have hless:=Z.hs.hb.less x' hx
    have emf:m10.fresh=D.m.fresh/\m10.peak=D.m.peak/\m10.sz=D.m.sz:=by
      rw [em]
      split <;> exact ⟨rfl,rfl,rfl⟩
    refine q H12 ⟨D.g,m10,L10,D.wt,D.hs.eraseIdx i ++ x'.parts,js',D.kvs,D.N + 1⟩ f12 (Z.next ((Hs10.same s1012).mono (Nat.le_succ _)) (hd10.congr fun n=>?_) ((W10.same s1012).as rfl rfl rfl emf.2.1 emf.1) f12 sub10 (fun u hu=>?_) (pu.sub sub10 ?_ ?_ (fun kk hk=>?_) ?_ (fun j hj=>?_) ?_ ?_ (Nat.le_succ _))) emf.2.2 rfl
    · have e1:=hcn n
      rw [show [V.ref p].filterMap D.g=[x'.n] from by rw [List.filterMap_cons,gn]; rfl] at e1
      show ((D.hs.eraseIdx i ++ x'.parts).filterMap D.g).count n=(if n=x'.n then (D.hs.filterMap D.g).count n - 1 else (D.hs.filterMap D.g).count n) + _
      rw [List.filterMap_append,List.count_append]
      by_cases c:n=x'.n
      · rw [if_pos c,e1,c,List.count_cons_self,List.count_nil]
        lia
      · rw [if_neg c,e1,List.count_cons_of_ne (Ne.symm c),List.count_nil]
        lia
    · rcases List.mem_append.mp hu with z | z
      · exact Z.hg u (hmem u z)
      · exact Z.hs.prs x' hx u z
    · rw [em]
      split
      · exact insK_srt pu.ks hnk
      · exact pu.ks
    · rw [em]
      split
      · show (insK D.m.kept (x'.n:Int)).length<=_
        rw [insK_len]
        lia
      · show D.m.kept.length<=_
        lia
    · rw [em] at hk ⊢
      by_cases z:x'.count=1/\k=true
      · rw [if_pos z] at hk ⊢
        rcases insK_mem.mp hk with e | e
        · rw [e]
          exact ⟨fun y hy w=>hne10 z.1 y hy (by lia),by lia,by show (x'.n:Int) < (D.m.fresh:Int); lia⟩
        · exact (pu.ko.sub (m':=D.m) sub10 (fun _ h=>h) (Nat.le_refl _)) kk e
      · rw [if_neg z] at hk ⊢
        exact (pu.ko.sub (m':=D.m) sub10 (fun _ h=>h) (Nat.le_refl _)) kk hk
    · rw [emf.2.2]
      exact Int.le_trans ll10 pu.ro
    · rw [emf.1]
      rw [ejs] at hj
      split at hj
      · rcases List.mem_append.mp hj with e | e
        · exact pu.js j e
        · rw [List.mem_singleton.mp e]
          exact ⟨by lia,by lia⟩
      · exact pu.js j hj
    · rw [ejs]
      split
      · rw [List.length_append]
        show D.js.length + 1<=_
        lia
      · lia
    · rw [List.length_append]
      lia
end
end Hv
set_option simprocs false
namespace Hv
open PySem L2 K11 HM
theorem nx_c {E:Ends} {σ:St} {H:Hp} (h:E.nx σ H):tNext E σ H:=h
section
variable {P:Program} {w:World} {K:PySem.W.Frag} {mg:Str->Option Value} {base:Heap} {f:Addr} {fd:FuncData} {A:Adr} {G S U:Addr} {Ad:Adr->Prop}
theorem scDoneL:FnScope ["_law_heap","_law_world","_law_size","_law_cell","_law_hands","_law_places","_law_built","_law_marks","_law_way","_law_at","_law_value"] ["_law_heap","_law_world","_law_size","_law_cell"] (defScope s_done):=⟨rfl,rfl,rfl,by decide +kernel,rfl,by decide +kernel,by decide +kernel⟩
theorem ok_doneL (F:Fun K "_law_done" "_law_done" s_done f fd) (T:Txt K mg A G) (TT:∀ A,Ad A->Txt K mg A G) (GM:Ca P w K mg base CX0 9 "_law_make" ["_law_heap","_law_world","_law_size","_law_cell"] (spStep S Ad)) (GW:Ca P w K mg base CX0 6 "_law_worked" ["_law_heap","_law_many"] (spWorkedL S Ad)) (GT:Ca P w K mg base CX0 6 "_law_take" ["_law_heap","_law_world","_law_value","_law_keep"] (spTakeL S Ad)) (GO:∀ X,Ad X->Me P w K mg base CX0 3 X.cH "loose" ["self","kept"] (spLoose8 S X)) (GH:∀ X,Ad X->Me P w K mg base CX0 2 X.cH "hold" ["self","value"] (spHold8 S X)) (GL:∀ X,Ad X->Me P w K mg base CX0 4 X.cH "let_go" ["self","value"] (spLet8 S X)):FnOk P w K mg base CX0 10 f fd ["_law_heap","_law_world","_law_size","_law_cell"] (spStep S Ad):=by
  refine F.by scDoneL (fun vs H Q E h=>?_) (fun cdv A' outer s H vs Q E hr h=>?_)
  · obtain ⟨X,a,D,c,rfl,_⟩:=h
    rfl
  obtain ⟨X,a,D,c,rfl,hX,Z,hN,q⟩:=h
  have r2:Room 2 _:=hr.mono (by decide)
  have r3:Room 3 _:=hr.mono (by decide)
  have r4:Room 4 _:=hr.mono (by decide)
  have r6:Room 6 _:=hr.mono (by decide)
  have r9:Room 9 _:=hr.mono (by decide)
  refine ⟨_,
    (jss_cons (js_asg (jv 1) (jg_lst rfl (jgs_cons (jg_name (i:=4) scDoneL.nd rfl (Or.inl rfl)) (jgs_cons (jg_name (i:=5) scDoneL.nd rfl (Or.inl rfl)) (jgs_cons (jg_name (i:=6) scDoneL.nd rfl (Or.inl rfl)) (jgs_cons (jg_name (i:=7) scDoneL.nd rfl (Or.inl rfl)) jgs_nil))))))
    (jss_cons (js_set (i:=8) scDoneL.nd rfl (Or.inl rfl) (je_op jo_mod (jv 3) je_int))
    (jss_cons (js_if (jW.pt (jw_or (jt_cmpR jo_lt (jv 8) je_int (by with_unfolding_all rfl)) (jw_or1 (jt_cmpR (jo_eqE hr) (jv 4) (je_lst ja_nil) (by with_unfolding_all rfl))))) 
      (jss_one (js_ret (je_ca GM r9 rfl pass0 (ja_c (jv 0) (ja_c (jv 1) (ja_c (jv 2) (ja_c (je_op jo_fdiv (jv 3) je_int) ja_nil)))))))  jss_nil)
    (jss_cons (js_if (jt_cmpR jo_eq (jv 8) je_int (by with_unfolding_all rfl)) 
      (jss_one (js_ret (je_ca GW r6 rfl pass0 (ja_c (jv 0) (ja_c (je_op jo_mod (je_op jo_fdiv (jv 3) je_int) je_int) ja_nil)))))  jss_nil)
    (jss_cons (js_if (jW.pt (jw_and (jt_cmpR jo_eq (jv 8) je_int (by with_unfolding_all rfl)) (jw_and (jt_cmpR (jo_neE hr) (jv 5) (je_lst ja_nil) (by with_unfolding_all rfl)) (jw_and1 (jt_cmpR jo_eq (je_op jo_mod (je_op jo_fdiv (jv 3) je_int) je_int) je_int (by with_unfolding_all rfl)))))) 
      (jss_one (js_ret (je_isN (je_meA (sp:=fun A=>spLoose8 S A) (jv 0) (fun A h=>(TT A h).clH) GO r3 pass0 (ja_c (je_ix jx_list (jv 5) (je_op jo_mod (je_op jo_fdiv (jv 3) je_int) (je_fnB jc_len_seq rfl T.len PySem.boot_len (ja_c (jv 5) ja_nil))) (fun _ _=>rfl)) ja_nil)))))  jss_nil)
    (jss_cons (js_set (i:=9) scDoneL.nd rfl (Or.inl rfl) (je_op jo_mod (je_op jo_fdiv (jv 3) je_int) (je_fnB jc_len_seq rfl T.len PySem.boot_len (ja_c (jv 4) ja_nil))))
    (jss_cons (js_if (jt_cmpR jo_eq (jv 8) je_int (by with_unfolding_all rfl)) 
      (jss_cons (js_expr (je_bm PySem.F.plainAttrs_list PySem.F.slot_list_append PySem.F.type_list_append jm_append (jv 4) (ja_c (je_ix jx_list (jv 4) (jv 9) (fun _ _=>rfl)) ja_nil)))
      (jss_one (js_ret (je_isN (je_meA (sp:=fun A=>spHold8 S A) (jv 0) (fun A h=>(TT A h).clH) GH r2 pass0 (ja_c (je_ix jx_list (jv 4) (jv 9) (fun _ _=>rfl)) ja_nil))))))  jss_nil)
    (jss_cons (js_set (i:=10) scDoneL.nd rfl (Or.inl rfl) (je_bm PySem.F.plainAttrs_list PySem.F.slot_list_pop PySem.F.type_list_pop jm_popAt (jv 4) (ja_c (jv 9) ja_nil)))
    (jss_cons (js_if (jt_cmpR jo_eq (jv 8) je_int (by with_unfolding_all rfl)) 
      (jss_one (js_ret (je_isN (je_meA (sp:=fun A=>spLet8 S A) (jv 0) (fun A h=>(TT A h).clH) GL r4 pass0 (ja_c (jv 10) ja_nil)))))  jss_nil)
    (jss_one (js_ret (je_ca GT r6 rfl pass0 (ja_c (jv 0) (ja_c (jv 1) (ja_c (jv 10) (ja_c (je_cmpR jo_eq (je_op jo_mod (je_op jo_fdiv (jv 3) je_int) je_int) je_int (by with_unfolding_all rfl)) ja_nil)))))))))))))))),?_⟩
  have sl:=line0
  have pu:=Z.pu
  have hjl:=pu.jl
  have hkl:=pu.kl
  have hhl0:=pu.hl
  refine (ex2q rfl ⟨a.ww,(ex2q rfl ⟨SqL.of Z.wo.w,rfl,_,_,rfl,_,_,rfl,_,_,rfl,_,_,rfl,rfl,?_⟩)⟩)
  refine (ex2q rfl (ex4q rfl rfl ⟨(by show (0:Int) < _; decide),?_⟩))
  dsimp only
  obtain ⟨wy,ewy⟩:∃ wy:Int,wy=c % 8:=⟨_,rfl⟩
  rw [<- ewy]
  refine (ex2q rfl (ex4q rfl rfl (ex2q rfl (ite2 (fun _=>iteT ?_) (fun _=>?_)))))
  · exact (ex2q rfl (ex2q rfl (ex2q rfl (ex2q rfl (ex4q rfl rfl ⟨⟨by decide,by decide⟩,X,a,D,(ex2q rfl ⟨hX,Z,hN,q⟩)⟩)))))
  refine (ex2q rfl ⟨by show 0<=sizeLine; lia,fun l1 hl1=>?_⟩)
  have s1:=same_new hl1 (.lst [])
  have Z1:=Z.same s1
  refine ⟨a.lh,l1,(ex2q rfl ⟨rfl,SqL.of Z1.wo.h,SqL.of upd_same,(ex2q rfl ?_)⟩)⟩
  have q1:∀ H' D',Fr8 a (upd H l1 (.lst [])) H'->S8 S X H' a D'->D'.m.sz=D.m.sz->D'.N=D.N + 1->Q (.bl true) H':=fun H' D' fr Z' e1 e2=>q H' D' ((Fr8.of s1).trans fr) Z' e1 e2
  obtain ⟨H1,e1⟩:∃ H1,H1=upd H l1 (.lst []):=⟨_,rfl⟩
  rw [<- e1] at s1 Z1 q1 ⊢
  rcases Nat.eq_zero_or_pos D.hs.length with hz | hpos
  · have ez:=List.length_eq_zero_iff.mp hz
    rw [ez]
    refine iteT ?_
    exact (ex2q rfl (ex2q rfl (ex2q rfl (ex2q rfl (ex4q rfl rfl ⟨⟨by decide,by decide⟩,X,a,D,(ex2q rfl ⟨hX,Z1,hN,q1⟩)⟩)))))
  have hemp:D.hs.isEmpty=false:=by
    cases e:D.hs with
    | nil=>rw [e] at hpos; exact absurd hpos (Nat.lt_irrefl _)
    | cons _ _=>rfl
  rw [if_neg Bool.false_ne_true,hemp]
  refine iteF ?_
  have no:=Z1.hs.hb.xt.2
  obtain ⟨dx,r,dr,h1,_⟩:=Z1.hs.hb.ex
  refine (ex2q rfl ⟨rfl,(ex2q rfl (ite2 (fun _=>?_) (fun _=>?_)))⟩)
  · obtain ⟨i4,hi4,ei4⟩:=mod_ix (c / 8) (n:=4) (by decide)
    refine (ex2q rfl (ex2q rfl (ex4q rfl rfl ⟨⟨by decide,by decide⟩,(ex4q rfl rfl ⟨(by show (0:Int) < _; decide),X,D.g,a.hp,a.d,a.nl,a.wl,D.m,D.L,D.wt,D.N,cnt D.g D.hs,i4,?_,hX,Z1.hs,Z1.hd,by lia,fun H2 m2 L2 wt2 k2 Hs2 em hd2 sub2 ll2=>?_⟩)⟩)))
    · show [V.ref a.hp,V.int (c / 8 % ((4:Nat):Int))]=_
      rw [ei4]
    · have f2:Fr8 a H1 H2:=.ks k2
      exact q1 H2 ⟨D.g,m2,L2,wt2,D.hs,D.js,D.kvs,D.N + 1⟩ f2 (Z1.next (Hs2.mono (Nat.le_succ _)) hd2 ((Z1.wo.ks Z.sep k2).as rfl rfl rfl em.peak em.fresh) f2 sub2 (fun v hv=>Z1.hg v hv) (pu.sub sub2 (by rw [em.kept]; exact pu.ks) (by rw [em.kept]; lia) (pu.ko.sub sub2 (fun k hk=>by rw [em.kept] at hk; exact hk) (by rw [em.fresh]; exact Nat.le_refl _)) (by rw [em.kept,em.sz]; have:=pu.ro; lia) (fun j hj=>by rw [em.fresh]; exact pu.js j hj) (by lia) (by lia) (Nat.le_succ _))) em.sz rfl
  refine nx_c ?_
  dsimp only [List.set,L2.start]
  change (tSeq (tIfS _ _ tNext) _:TS) _ [some (.ref a.hp),some (.ref a.ww),some (.int D.m.sz),some (.int c),some (.ref a.lh),some (.ref a.lp),some (.ref a.rd),some (.ref a.lm),some (.int wy),none,none] H1
  refine if_join (fun σ H2=>σ=[some (.ref a.hp),some (.ref a.ww),some (.int D.m.sz),some (.int c),some (.ref a.lh),some (.ref a.lp),some (.ref a.rd),some (.ref a.lm),some (.int wy),none,none]/\Same H1 H2) ?_ (fun fin=>?_)
  rotate_left
  · refine (ex2q rfl ⟨rfl,(ex2q rfl (ite2 (fun _=>?_) (fun _=>iteF (fin _ _ ⟨rfl,Same.refl _⟩))))⟩)
    refine (ex2q rfl ⟨by show 0<=sizeLine; lia,fun l2 hl2=>?_⟩)
    have s2:=same_new hl2 (.lst [])
    have Z2:=Z1.same s2
    refine ⟨a.lp,l2,(ex2q rfl ⟨rfl,SqL.of Z2.wo.p,SqL.of upd_same,(ex2q rfl ?_)⟩)⟩
    rcases Nat.eq_zero_or_pos D.js.length with hz | hjp
    · rw [List.length_eq_zero_iff.mp hz]
      exact iteF (iteF (fin _ _ ⟨rfl,s2⟩))
    have hje:(D.js.map V.int).isEmpty=false:=by
      cases e:D.js with
      | nil=>rw [e] at hjp; exact absurd hjp (Nat.lt_irrefl _)
      | cons _ _=>rfl
    rw [if_pos rfl,hje]
    refine iteT ?_
    refine (ex2q rfl (ex4q rfl rfl ⟨⟨by decide,by decide⟩,(ex4q rfl rfl ⟨(by show (0:Int) < _; decide),rfl,(ex2q rfl (ite2 (fun _=>?_) (fun _=>fin _ _ ⟨rfl,s2⟩)))⟩)⟩))
    obtain ⟨i,hi,ei⟩:=mod_ix (c / 16) hjp
    obtain ⟨j,ej⟩:∃ j,D.js[i]?=some j:=⟨_,List.getElem?_eq_getElem hi⟩
    refine ⟨X,hX,(ex2q rfl ⟨a.hp,dx,(ex2q rfl ⟨s2 _ _ h1,no _ (by decide) (by decide),(ex2q rfl (ex2q rfl (ex4q rfl rfl ⟨⟨by decide,by decide⟩,(ex2q rfl ⟨a.lp,(ex2q rfl ⟨.inl (SqL.of Z2.wo.p),?_⟩)⟩)⟩)))⟩)⟩)⟩
    rw [List.length_map]
    refine (ex4q rfl rfl ⟨by lia,?_⟩)
    dsimp only
    rw [ei]
    refine ⟨a.lp,_,_,_,rfl,rfl,SqL.of Z2.wo.p,atI_nat (j:=i) (by rw [List.getElem?_map,ej]; rfl),?_⟩
    refine ⟨D.g,a.hp,a.d,a.nl,a.wl,D.m,D.L,D.wt,D.N,j,rfl,Z2.hs,pu.ks,by lia,fun H3 k3 Hs3=>?_⟩
    have f3:Fr8 a H1 H3:=(Fr8.of s2).trans (.ks k3)
    have fl:=List.length_filter_le (fun k=>k != j) D.m.kept
    exact q1 H3 ⟨D.g,_,D.L,D.wt,D.hs,D.js,D.kvs,D.N + 1⟩ f3 (Z1.next (Hs3.mono (Nat.le_succ _)) Z.hd ((Z2.wo.ks Z.sep k3).as rfl rfl rfl rfl rfl) f3 Sub.refl (fun v hv=>Z1.hg v hv) (pu.sub Sub.refl (List.Pairwise.filter _ pu.ks) (by dsimp only; lia) (pu.ko.sub Sub.refl (fun k hk=>(List.mem_filter.mp hk).1) (Nat.le_refl _)) (by have:=pu.ro; dsimp only; lia) pu.js (by lia) (by lia) (Nat.le_succ _))) rfl rfl
  rintro σ H2 ⟨rfl,s2⟩
  have Z2:=Z1.same s2
  have q2:∀ H' D',Fr8 a H2 H'->S8 S X H' a D'->D'.m.sz=D.m.sz->D'.N=D.N + 1->Q (.bl true) H':=fun H' D' fr Z' e1 e2=>q1 H' D' ((Fr8.of s2).trans fr) Z' e1 e2
  obtain ⟨i,hi,ei⟩:=mod_ix (c / 16) hpos
  obtain ⟨v,ev⟩:∃ v,D.hs[i]?=some v:=⟨_,List.getElem?_eq_getElem hi⟩
  have hvm:=List.mem_of_getElem? ev
  have hcn:=er_mapV D.g D.hs i v ev
  have hp0:∀ n,D.g v=some n->0 < cnt D.g D.hs n:=fun n e=>List.count_pos_iff.mpr (List.mem_filterMap.mpr ⟨v,hvm,e⟩)
  have hone:∀ n,([v].filterMap D.g).count n=if D.g v=some n then 1 else 0:=fun n=>by
    rw [List.filterMap_cons]
    cases e:D.g v with
    | none=>rfl
    | some k =>
      show [k].count n=if some k=some n then 1 else 0
      by_cases z:k=n
      · rw [z,List.count_cons_self,if_pos rfl]
        rfl
      · rw [List.count_cons_of_ne z,if_neg (fun h=>z (by injection h))]
        rfl
  refine (ex2q rfl (ex4q rfl rfl ⟨⟨by decide,by decide⟩,(ex2q rfl ⟨a.lh,(ex2q rfl ⟨.inl (SqL.of Z2.wo.h),(ex4q rfl rfl ⟨by lia,?_⟩)⟩)⟩)⟩))
  dsimp only
  rw [ei]
  refine (ex2q rfl ⟨rfl,(ex2q rfl (ite2 (fun _=>?_) (fun _=>?_)))⟩)
  · refine (ex2q rfl ⟨.inl ⟨rfl,_,SqL.of Z2.wo.h⟩,(ex2q rfl (ex2q rfl ⟨a.lh,_,_,_,rfl,rfl,SqL.of Z2.wo.h,atI_nat (j:=i) ev,a.lh,(ex4q rfl rfl ⟨Z2.wo.h,by lia,?_⟩)⟩))⟩)
    have W3:=Z2.wo.setH Z.sep (D.hs ++ [v])
    have Hs3:=Z2.hs.list (ys:=D.hs ++ [v]) Z2.wo.h Z.sep.hn Z.sep.hw Z2.nlh
    have f3:Fr8 a H2 (upd H2 a.lh (.lst (D.hs ++ [v]))):=.put (.inl rfl) Z2.wo.h (fun _ z=>nomatch z) (fun _ _ z=>nomatch z)
    obtain ⟨H3,e3⟩:∃ H3,H3=upd H2 a.lh (.lst (D.hs ++ [v])):=⟨_,rfl⟩
    rw [<- e3] at W3 Hs3 f3 ⊢
    obtain ⟨_,_,_,h3,_⟩:=Hs3.hb.ex
    have ev3:(D.hs ++ [v])[i]?=some v:=by rw [List.getElem?_append_left hi]; exact ev
    refine ⟨X,hX,(ex2q rfl ⟨a.hp,_,_,rfl,h3,no _ (by decide) (by decide),(ex2q rfl (ex2q rfl ⟨a.lh,_,_,_,rfl,rfl,SqL.of W3.h,atI_nat (j:=i) ev3,?_⟩))⟩)⟩
    refine ⟨D.g,a.hp,a.d,a.nl,a.wl,v,D.m,D.L,D.wt,D.N,cnt D.g D.hs,rfl,Hs3,Z.hd,(Z2.hg v hvm).fr f3,hp0,fun H4 L4 k4 Hs4 hd4 sub4=>?_⟩
    have f4:Fr8 a H2 H4:=f3.trans (.ks k4)
    have ll:L4.length<=D.L.length:=by
      have nd:(L4.map (·.n)).Nodup:=List.pairwise_map.mpr hd4.rise
      have:=nodup_len (l':=D.L.map (·.n)) nd fun n hn=>by
        obtain ⟨y,hy,rfl⟩:=List.mem_map.mp hn
        obtain ⟨x,hx,e,_⟩:=sub4 y hy
        exact List.mem_map.mpr ⟨x,hx,e⟩
      rwa [List.length_map,List.length_map] at this
    exact q2 H4 ⟨D.g,D.m,L4,D.wt,D.hs ++ [v],D.js,D.kvs,D.N + 1⟩ f4 (Z2.next (Hs4.mono (Nat.le_succ _)) (hd4.congr fun n=>by
      show ((D.hs ++ [v]).filterMap D.g).count n=_
      rw [List.filterMap_append,List.count_append,hone n]
      show (D.hs.filterMap D.g).count n + _=if D.g v=some n then (D.hs.filterMap D.g).count n + 1 else (D.hs.filterMap D.g).count n
      split <;> lia) ((W3.ks Z.sep k4).as rfl rfl rfl rfl rfl) f4 sub4 (fun u hu=>by
      rcases List.mem_append.mp hu with z | z
      · exact Z2.hg u z
      · rw [List.mem_singleton.mp z]
        exact Z2.hg v hvm) (pu.sub sub4 pu.ks (by lia) (pu.ko.sub sub4 (fun k hk=>hk) (Nat.le_refl _)) (by have:=pu.ro; lia) pu.js (by lia) (by rw [List.length_append]; show D.hs.length + 1<=_; lia) (Nat.le_succ _))) rfl rfl
  refine (ex2q rfl ⟨.inl ⟨rfl,_,SqL.of Z2.wo.h⟩,(ex2q rfl ⟨a.lh,_,_,i,(ex2q rfl ⟨rfl,Z2.wo.h,by lia,by lia,seqIx hi,ev,?_⟩)⟩)⟩)
  have W3:=Z2.wo.setH Z.sep (D.hs.eraseIdx i)
  have Hs3:=Z2.hs.list (ys:=D.hs.eraseIdx i) Z2.wo.h Z.sep.hn Z.sep.hw Z2.nlh
  have f3:Fr8 a H2 (upd H2 a.lh (.lst (D.hs.eraseIdx i))):=.put (.inl rfl) Z2.wo.h (fun _ z=>nomatch z) (fun _ _ z=>nomatch z)
  have hel:(D.hs.eraseIdx i).length<=D.hs.length:=List.length_eraseIdx_le ..
  refine (ex2q rfl ⟨rfl,(ex2q rfl (ite2 (fun _=>?_) (fun _=>?_)))⟩)
  · obtain ⟨_,_,_,h3,_⟩:=Hs3.hb.ex
    refine ⟨X,hX,(ex2q rfl ⟨a.hp,_,_,rfl,h3,no _ (by decide) (by decide),(ex2q rfl ⟨D.g,a.hp,a.d,a.nl,a.wl,v,D.m,D.L,D.wt,D.N,cnt D.g D.hs,rfl,Hs3,Z.hd,by lia,(Z2.hg v hvm).fr f3,hp0,fun H4 L4 wt4 k4 Hs4 hd4 sub4=>?_⟩)⟩)⟩
    have f4:Fr8 a H2 H4:=f3.trans (.ks k4)
    have ll:L4.length<=D.L.length:=by
      have nd:(L4.map (·.n)).Nodup:=List.pairwise_map.mpr hd4.rise
      have:=nodup_len (l':=D.L.map (·.n)) nd fun n hn=>by
        obtain ⟨y,hy,rfl⟩:=List.mem_map.mp hn
        obtain ⟨x,hx,e,_⟩:=sub4 y hy
        exact List.mem_map.mpr ⟨x,hx,e⟩
      rwa [List.length_map,List.length_map] at this
    exact q2 H4 ⟨D.g,D.m,L4,wt4,D.hs.eraseIdx i,D.js,D.kvs,D.N + 1⟩ f4 (Z2.next (Hs4.mono (Nat.le_succ _)) (hd4.congr fun n=>by
      show ((D.hs.eraseIdx i).filterMap D.g).count n=if D.g v=some n then (D.hs.filterMap D.g).count n - 1 else (D.hs.filterMap D.g).count n
      have:=hcn n
      rw [hone n] at this
      split <;> rename_i z
      · rw [if_pos z] at this
        lia
      · rw [if_neg z] at this
        lia) ((W3.ks Z.sep k4).as rfl rfl rfl rfl rfl) f4 sub4 (fun u hu=>Z2.hg u (List.mem_of_mem_eraseIdx hu)) (pu.sub sub4 pu.ks (by lia) (pu.ko.sub sub4 (fun k hk=>hk) (Nat.le_refl _)) (by have:=pu.ro; lia) pu.js (by lia) (by lia) (Nat.le_succ _))) rfl rfl
  · exact (ex2q rfl (ex2q rfl (ex2q rfl (ex2q rfl (ex4q rfl rfl ⟨⟨by decide,by decide⟩,(ex4q rfl rfl ⟨(by show (0:Int) < _; decide),rfl,X,a,D,H2,i,v,(ex2q rfl ⟨hX,Z2,ev,rfl,hN,q2⟩)⟩)⟩)))))
end
end Hv
set_option simprocs false
namespace Hv
open PySem L2 K11 HM
theorem cut63 (ns:List Int):∃ cs:List Int,cutV (ns.map V.int) (some 1) (some 64)=cs.map V.int/\cs.length<=63:=by
  refine ⟨(ns.drop (HT.sIx (ns.map V.int).length 0 (some 1))).take (HT.sIx (ns.map V.int).length (ns.map V.int).length (some 64) - HT.sIx (ns.map V.int).length 0 (some 1)),?_,?_⟩
  · unfold cutV
    rw [List.map_take,List.map_drop]
  · rw [List.length_take]
    have h1:HT.sIx (ns.map V.int).length (ns.map V.int).length (some 64)<=64:=by
      rw [show (64:Int)=((64:Nat):Int) from rfl,HT.sIx_nat]
      lia
    have h2:HT.sIx (ns.map V.int).length 0 (some 1)=min 1 (ns.map V.int).length:=by
      rw [show (1:Int)=((1:Nat):Int) from rfl,HT.sIx_nat]
    rw [List.length_drop,h2]
    rw [List.length_map] at h1 ⊢
    lia
abbrev Two (A:Adr) (S:Addr):Adr->Prop:=fun X=>X=A\/X={ A with cH:=S }
theorem if_nx {i:Nat} {x:V} {c:TT} {t u:TS} {D:Ends} {σ:St} {H:Hp} (M:St->Hp->Prop) (h2:∀ σ H,M σ H->u D σ H) (h1:(∀ σ H,M σ H->u D σ H)->tIfS c t tNext { D with nx:=fun σ H=>u D σ H } (σ.set i (some x)) H):gName i x σ H (tSeq (tIfS c t tNext) u D):=h1 h2
theorem hd_nil {g:V->Option Nat}:Hd g [] [] (cnt g []):=⟨List.Pairwise.nil,(fun x h=>nomatch h),(fun n h=>absurd h (Nat.lt_irrefl _)),List.nodup_nil,(fun x h=>nomatch h),(fun n h=>nomatch h)⟩
section
variable {P:Program} {w:World} {K:PySem.W.Frag} {mg:Str->Option Value} {base:Heap} {f:Addr} {fd:FuncData} {A:Adr} {G S U:Addr} {Ad:Adr->Prop}
def spCell (K:PySem.W.Frag):Sp:=fun vs H Q _=>∃ (a:Addr) (ns:List Int) (i:Int) (k:Nat),vs=[.ref a,.int i]/\i=(k:Int)/\SqL K H a (ns.map V.int)/\Q (.int (ns.getD k 0)) H
theorem scCell:FnScope ["_law_script","_law_k"] ["_law_script","_law_k"] (defScope s_cell_at):=⟨rfl,rfl,rfl,by decide +kernel,rfl,by decide +kernel,by decide +kernel⟩
theorem ok_cell (F:Fun K "_law_cell_at" "_law_cell_at" s_cell_at f fd) (T:Txt K mg A G):FnOk P w K mg base CX0 1 f fd ["_law_script","_law_k"] (spCell K):=by
  refine F.by scCell (fun vs H Q E h=>?_) (fun cdv A' outer s H vs Q E hr h=>?_)
  · obtain ⟨a,ns,i,k,rfl,_⟩:=h
    rfl
  obtain ⟨a,ns,i,k,rfl,rfl,hS,q⟩:=h
  refine ⟨_,
    (jss_cons (js_if (jt_cmpR jo_lt (jv 1) (je_fnB jc_len_seq rfl T.len PySem.boot_len (ja_c (jv 0) ja_nil)) (by with_unfolding_all rfl)) 
      (jss_one (js_ret (je_ix jx_list (jv 0) (jv 1) (fun _ _=>rfl))))  jss_nil)
    (jss_one (js_ret je_int))),?_⟩
  refine (ex2q rfl (ex2q rfl ⟨a,(ex2q rfl ⟨.inl hS,(ex4q rfl rfl (ex2q rfl ?_))⟩)⟩))
  rw [List.length_map]
  refine ite2 (fun c=>?_) (fun c=>?_)
  · rw [decide_eq_true_eq] at c
    have hk:k < ns.length:=by lia
    refine (ex2q rfl (ex2q rfl ⟨a,_,_,_,rfl,rfl,hS,atI_nat (j:=k) (by rw [List.getElem?_map,List.getElem?_eq_getElem hk]; rfl),?_⟩))
    rw [List.getD_eq_getElem?_getD,List.getElem?_eq_getElem hk] at q
    exact q
  · rw [decide_eq_true_eq] at c
    rw [List.getD_eq_getElem?_getD,List.getElem?_eq_none (by lia)] at q
    exact q
theorem scLaw:FnScope ["_law_script","_law_first","_law_size","_law_heap","_law_world","_law_cell","_law_value"] ["_law_script"] (defScope s_law):=⟨rfl,rfl,rfl,by decide +kernel,rfl,by decide +kernel,by decide +kernel⟩
theorem ok_law (F:Fun K "law" "law" s_law f fd) (T:Txt K mg A G) (TT:∀ X,Two A S X->Txt K mg X G) (hS0:A.cH≠S) (GC:Ca P w K mg base CX0 1 "_law_cell_at" ["_law_script","_law_k"] (spCell K)) (MH:Ma P w K mg base CX0 3 "Heap" A.cH ["self","size"] (spHInit A)) (MS:Ma P w K mg base CX0 4 "SlowHeap" S ["self","size"] (spSInit { A with cH:=S })) (GD:Ca P w K mg base CX0 10 "_law_done" ["_law_heap","_law_world","_law_size","_law_cell"] (spStep S (Two A S))) (GN:Ca P w K mg base CX0 2 "_law_counted" ["_law_heap","_law_hands","_law_built","_law_size"] (spCounted S (Two A S))) (GL:∀ X,Two A S X->Me P w K mg base CX0 4 X.cH "let_go" ["self","value"] (spLet8 S X)) (GX:∀ X,Two A S X->Me P w K mg base CX0 5 X.cH "work" ["self","many"] (spWork8 S X)) (GB:∀ X,Two A S X->Me P w K mg base CX0 1 X.cH "boxes" ["self"] (spBoxes X)) (GW:∀ X,Two A S X->Me P w K mg base CX0 1 X.cH "waits" ["self"] (spWaitsG S X)) (GA:Ca P w K mg base CX0 5 "_law_alike" ["_law_found","_law_due"] (spAlike 5)):FnOk P w K mg base CX0 11 f fd ["_law_script"] (spTop K):=by
  refine F.by scLaw (fun vs H Q E h=>?_) (fun cdv A' outer s H vs Q E hr h=>?_)
  · obtain ⟨a,ns,rfl,_⟩:=h
    rfl
  obtain ⟨a0,ns,rfl,hS,hn,q⟩:=h
  have r1:Room 1 _:=hr.mono (by decide)
  have r2:Room 2 _:=hr.mono (by decide)
  have r4:Room 4 _:=hr.mono (by decide)
  have r5:Room 5 _:=hr.mono (by decide)
  have r10:Room 10 _:=hr.mono (by decide)
  refine ⟨_,
    (jss_cons (js_set (i:=1) scLaw.nd rfl (Or.inl rfl) (je_ca GC r1 rfl pass0 (ja_c (jv 0) (ja_c je_int ja_nil))))
    (jss_cons (js_set (i:=2) scLaw.nd rfl (Or.inl rfl) (je_op jo_mod (je_op jo_fdiv (jv 1) je_int) je_int))
    (jss_cons (js_if (jt_cmpR jo_eq (je_op jo_mod (je_op jo_fdiv (jv 1) je_int) je_int) je_int (by with_unfolding_all rfl)) 
      (jss_one (js_set (i:=2) scLaw.nd rfl (Or.inl rfl) (je_op jo_pow je_int je_int)))  jss_nil)
    (jss_cons (js_set (i:=3) scLaw.nd rfl (Or.inl rfl) (je_ix jx_list (je_lst (ja_c (je_ma MH r4 rfl pass0 (ja_c (jv 2) ja_nil)) (ja_c (je_ma MS r5 rfl pass0 (ja_c (jv 2) ja_nil)) ja_nil))) (je_op jo_mod (jv 1) je_int) (fun _ _=>rfl)))
    (jss_cons (js_set (i:=4) scLaw.nd rfl (Or.inl rfl) (je_lst (ja_c (je_lst ja_nil) (ja_c (je_lst ja_nil) (ja_c je_dnewK (ja_c (je_lst (ja_c je_int (ja_c je_int ja_nil))) ja_nil))))))
    (jss_cons (js_for PassesOwn.never rfl (ji_list (je_slice jl_list (jv 0) (jo_some je_int) (jo_some je_int))) (jg_name (i:=5) scLaw.nd rfl (Or.inl rfl))
      (jss_cons (js_if (jW.pt (jw_or (jt_not (jt_val (je_ca GD r10 rfl pass0 (ja_c (jv 3) (ja_c (jv 4) (ja_c (jv 2) (ja_c (jv 5) ja_nil))))))) (jw_or1 (jt_not (jt_val (je_ca GN r2 rfl pass0 (ja_c (jv 3) (ja_c (je_ix jx_list (jv 4) je_int (fun _ _=>rfl)) (ja_c (je_ix jx_list (jv 4) je_int (fun _ _=>rfl)) (ja_c (jv 2) ja_nil)))))))))) 
        (jss_one (js_ret je_bl))  jss_nil)
      (jss_one (js_if (jW.pt (jw_or (jt_cmpR (jo_neS hr) (je_lst (ja_c (je_fld (jv 3)) (ja_c (je_fld (jv 3)) ja_nil))) (je_ix jx_list (jv 4) je_int (fun _ _=>rfl)) (by with_unfolding_all rfl)) (jw_or1 (jW.pt (jw_and (jt_cmpR jo_eq (je_op jo_mod (jv 1) je_int) je_int (by with_unfolding_all rfl)) (jw_and1 (jt_cmpR (jo_neE hr) (je_me0A (sp:=fun A=>spWaitsG S A) (jv 3) (fun A h=>(TT A h).clH) GW r1 pass0) (je_lst ja_nil) (by with_unfolding_all rfl)))))))) 
        (jss_one (js_ret je_bl))  jss_nil))))
    (jss_cons (js_for PassesOwn.never rfl (ji_list (je_ix jx_list (jv 4) je_int (fun _ _=>rfl))) (jg_name (i:=6) scLaw.nd rfl (Or.inl rfl))
      (jss_one (js_expr (je_meA (sp:=fun A=>spLet8 S A) (jv 3) (fun A h=>(TT A h).clH) GL r4 pass0 (ja_c (jv 6) ja_nil)))))
    (jss_cons (js_expr (je_meA (sp:=fun A=>spWork8 S A) (jv 3) (fun A h=>(TT A h).clH) GX r5 pass0 (ja_c (je_op jo_pow je_int je_int) ja_nil)))
    (jss_one (js_ret (je_ca GA r5 rfl pass0 (ja_c (je_lst (ja_c (je_fld (jv 3)) (ja_c (je_me0A (sp:=fun A=>spBoxes A) (jv 3) (fun A h=>(TT A h).clH) GB r1 pass0) (ja_c (je_me0A (sp:=fun A=>spWaitsG S A) (jv 3) (fun A h=>(TT A h).clH) GW r1 pass0) ja_nil)))) (ja_c (je_lst (ja_c (jv 2) (ja_c (je_lst ja_nil) (ja_c (je_lst ja_nil) ja_nil)))) ja_nil))))))))))))),?_⟩
  have sl:=line0
  refine (ex2q rfl ⟨a0,ns,_,0,rfl,rfl,hS,?_⟩)
  obtain ⟨c0,ec0⟩:∃ c0:Int,c0=ns.getD 0 0:=⟨_,rfl⟩
  rw [<- ec0]
  refine (ex2q rfl (ex4q rfl rfl ⟨⟨by decide,by decide⟩,(ex4q rfl rfl ⟨(by show (0:Int) < _; decide),?_⟩)⟩))
  dsimp only
  obtain ⟨sz0,hsz0,esz0⟩:∃ sz0:Int,0<=sz0/\c0 / 2 % 21=sz0:=⟨_,Int.emod_nonneg _ (by decide),rfl⟩
  rw [esz0]
  refine if_nx (fun σ H1=>∃ sz:Int,σ=[some (.ref a0),some (.int c0),some (.int sz),none,none,none,none]/\0<=sz/\H1=H) ?_ (fun fin=>?_)
  rotate_left
  · refine (ex2q rfl (ex4q rfl rfl ⟨⟨by decide,by decide⟩,(ex4q rfl rfl ⟨(by show (0:Int) < _; decide),rfl,(ex2q rfl (ite2 (fun _=>?_) (fun _=>fin _ _ ⟨sz0,rfl,hsz0,rfl⟩)))⟩)⟩))
    exact (ex4q rfl rfl ⟨⟨by decide,by decide,by decide⟩,fin _ _ (ex2q rfl ⟨by decide,rfl⟩)⟩)
  rintro σ H1 ⟨sz,rfl,hsz,rfl⟩
  refine (ex2q rfl (fun hp1 dx1 n1 n1' ne1=>⟨hp1,dx1,sz,rfl,upd_same,fun H2 d1 nl1 k1 hd1 hnl1 B1=>⟨rfl,?_⟩⟩))
  have s1:Same H1 H2:=fun x o z=>k1 x o (ne_of_none z n1) (by rw [upd_ne (ne_of_none z n1),upd_ne (ne_of_none z n1')]; exact z)
  refine (ex2q rfl (fun hp2 dx2 n2 n2' ne2=>⟨hp2,dx2,sz,rfl,upd_same,fun H3 d2 nl2 wl2 k2 hd2 hnl2 gw wn hfw B2=>⟨rfl,?_⟩⟩))
  have s2:Same H2 H3:=fun x o z=>k2 x o (ne_of_none z n2) (by rw [upd_ne (ne_of_none z n2),upd_ne (ne_of_none z n2')]; exact z)
  refine ⟨by show 2<=sizeLine; lia,fun lx hlx=>?_⟩
  have s3:=same_new hlx (.lst [.ref hp1,.ref hp2])
  have s13:=(s1.trans s2).trans s3
  have gx3:upd H3 lx (.lst [.ref hp1,.ref hp2]) lx=some (.lst [.ref hp1,.ref hp2]):=upd_same
  have B1':=(B1.same s2).same s3
  have B2':=B2.same s3
  have gw':=s3 _ _ gw
  obtain ⟨H4,e4⟩:∃ H4,H4=upd H3 lx (.lst [.ref hp1,.ref hp2]):=⟨_,rfl⟩
  rw [<- e4] at s3 s13 gx3 B1' B2' gw' ⊢
  clear k1 hd1 hnl1 k2 hd2 hnl2 hfw s1 s2 s3 B1 B2 gw e4 hlx n1 n1' ne1 n2 n2' ne2
  obtain ⟨i2,hi2,ei2⟩:=mod_ix c0 (n:=2) (by decide)
  have Hs1:Hs S (fun _=>none) A H4 hp1 d1 nl1 nl1 ⟨sz,0,0,0,[],[]⟩ [] [] 0:=Pn.hs ⟨B1',(fun y h=>nomatch h)⟩ hS0 (Nat.le_refl _)
  have Hs2:Hs S (fun _=>none) { A with cH:=S } H4 hp2 d2 nl2 wl2 ⟨sz,0,0,0,[],slowX wl2 0⟩ [] [] 0:=Sl.hs (ws:=[]) (k:=0) ⟨B2',rfl,gw',wn,(fun y h=>nomatch h),(fun y h=>nomatch h),Nat.le_refl _⟩ rfl (Nat.le_refl _)
  have both:∃ (X:Adr) (hp d nl wl:Addr) (x:List (Str × V)),Two A S X/\([V.ref hp1,V.ref hp2]:List V)[i2]?=some (.ref hp)/\Hs S (fun _=>none) X H4 hp d nl wl ⟨sz,0,0,0,[],x⟩ [] [] 0/\(i2=0->X.cH≠S):=by
    match i2,hi2 with
    | 0,_=>exact ⟨A,hp1,d1,nl1,nl1,[],.inl rfl,rfl,Hs1,fun _=>hS0⟩
    | 1,_=>exact ⟨{ A with cH:=S },hp2,d2,nl2,wl2,_,.inr rfl,rfl,Hs2,fun z=>nomatch z⟩
  obtain ⟨X,hp,d,nl,wl,x,hX,ehp,HsX,hpl⟩:=both
  refine (ex2q rfl (ex4q rfl rfl ⟨(by show (0:Int) < _; decide),?_⟩))
  change rIxL K (.ref lx) (.int (c0 % ((2:Nat):Int))) H4 _
  rw [ei2]
  refine ⟨lx,_,_,_,rfl,rfl,SqL.of gx3,atI_nat (j:=i2) ehp,?_⟩
  clear Hs1 Hs2 B1' B2' gw' wn gx3
  refine ⟨by show 0<=sizeLine; lia,fun lh hlh=>⟨by show 0<=sizeLine; lia,fun lp hlp=>fun rd hrd=>⟨by show 2<=sizeLine; lia,fun lm hlm=>⟨by show 4<=sizeLine; lia,fun ww hww=>?_⟩⟩⟩⟩
  have t1:=same_new hlh (.lst [])
  have t2:=same_new hlp (.lst [])
  have t3:=same_new hrd (.dK [])
  have t4:=same_new hlm (.lst [.int 0,.int 0])
  have t5:=same_new hww (.lst [.ref lh,.ref lp,.ref rd,.ref lm])
  have g1:upd H4 lh (.lst []) lh=some (.lst []):=upd_same
  have g2:upd (upd H4 lh (.lst [])) lp (.lst []) lp=some (.lst []):=upd_same
  have g3:upd (upd (upd H4 lh (.lst [])) lp (.lst [])) rd (.dK []) rd=some (.dK []):=upd_same
  have g4:upd (upd (upd (upd H4 lh (.lst [])) lp (.lst [])) rd (.dK [])) lm (.lst [.int 0,.int 0]) lm=some (.lst [.int 0,.int 0]):=upd_same
  have g12:=t2 _ _ g1
  have g13:=t3 _ _ g12
  have g14:=t4 _ _ g13
  have g23:=t3 _ _ g2
  have g24:=t4 _ _ g23
  have g34:=t4 _ _ g3
  have t15:=(((t1.trans t2).trans t3).trans t4).trans t5
  obtain ⟨⟨xn,hnl⟩,⟨xw,hwl⟩,⟨xd,hdd⟩⟩:=HsX.wls
  have up:∀ {b:Addr} {o:HO},H4 b=some o->b≠lh/\b≠lp/\b≠rd/\b≠lm/\b≠ww:=fun {b o} e=>by
    have e1:=t1 _ _ e
    have e2:=t2 _ _ e1
    have e3:=t3 _ _ e2
    have e4:=t4 _ _ e3
    exact ⟨ne_of_none e hlh,ne_of_none e1 hlp,ne_of_none e2 hrd,ne_of_none e3 hlm,ne_of_none e4 hww⟩
  obtain ⟨u1,u2,u3,u4,u5⟩:=up hnl
  obtain ⟨w1,w2,w3,w4,w5⟩:=up hwl
  obtain ⟨v1,v2,v3,v4,v5⟩:=up hdd
  obtain ⟨a,ea⟩:∃ a:Ad8,a=⟨ww,lh,lp,rd,lm,hp,d,nl,wl⟩:=⟨_,rfl⟩
  have sep:Sep8 a:=by
    rw [ea]
    exact ⟨Ne.symm (ne_of_none g14 hww),Ne.symm (ne_of_none g24 hww),Ne.symm (ne_of_none g4 hww),Ne.symm u5,Ne.symm w5,ne_of_none g1 hlp,ne_of_none g13 hlm,Ne.symm u1,Ne.symm w1,ne_of_none g23 hlm,Ne.symm u2,Ne.symm w2,Ne.symm u4,Ne.symm w4,Ne.symm v3⟩
  obtain ⟨D,eD⟩:∃ D:D8,D=⟨fun _=>none,⟨sz,0,0,0,[],x⟩,[],[],[],[],[],0⟩:=⟨_,rfl⟩
  have Z5:S8 S X (upd (upd (upd (upd (upd H4 lh (.lst [])) lp (.lst [])) rd (.dK [])) lm (.lst [.int 0,.int 0])) ww (.lst [.ref lh,.ref lp,.ref rd,.ref lm])) a D:=by
    have hz:=HsX.same t15
    have wo:Wo8 a (upd (upd (upd (upd (upd H4 lh (.lst [])) lp (.lst [])) rd (.dK [])) lm (.lst [.int 0,.int 0])) ww (.lst [.ref lh,.ref lp,.ref rd,.ref lm])) D:=by
      rw [ea,eD]
      exact ⟨upd_same,t5 _ _ g14,t5 _ _ g24,t5 _ _ g4,t5 _ _ g34⟩
    rw [eD] at wo ⊢
    rw [ea] at sep wo ⊢
    exact ⟨hz,hd_nil,wo,sep,(fun y h=>nomatch h),(fun y h=>nomatch h),(fun v h=>nomatch h),⟨List.Pairwise.nil,Nat.le_refl _,(fun k h=>nomatch h),by show (0:Int) + 0<=sz; lia,(fun j h=>nomatch h),Nat.le_refl _,⟨fun _=>0,fun y h=>nomatch h⟩,(fun y h=>nomatch h),Nat.zero_le _,Nat.le_refl _,fun _ _=>rfl⟩⟩
  have s15:=s13.trans t15
  have eww:ww=a.ww:=by rw [ea]
  have ehp':hp=a.hp:=by rw [ea]
  have hDs:D.m.sz=sz:=by rw [eD]
  have hDN:D.N=0:=by rw [eD]
  obtain ⟨H5,e5⟩:∃ H5,H5=upd (upd (upd (upd (upd H4 lh (.lst [])) lp (.lst [])) rd (.dK [])) lm (.lst [.int 0,.int 0])) ww (.lst [.ref lh,.ref lp,.ref rd,.ref lm]):=⟨_,rfl⟩
  rw [<- e5] at Z5 s15 ⊢
  rw [eww,ehp']
  clear e5 ea eD t1 t2 t3 t4 t5 t15 g1 g2 g3 g4 g12 g13 g14 g23 g24 g34 hlh hlp hrd hlm hww up u1 u2 u3 u4 u5 w1 w2 w3 w4 w5 v1 v2 v3 v4 v5 HsX hnl hwl hdd eww ehp'
  obtain ⟨cs,ec,hcs⟩:=cut63 ns
  refine (ex2q rfl (ex2q rfl (ex2q rfl ⟨a0,(ex2q rfl ⟨sq_same hS s15,fun ls hls=>?_⟩)⟩)))
  rw [ec]
  have s6:=same_new hls (.lst (cs.map V.int))
  have Z6:=Z5.same s6
  have ols:=Z5.new hls
  have gls:upd H5 ls (.lst (cs.map V.int)) ls=some (.lst (cs.map V.int)):=upd_same
  obtain ⟨H6,e6⟩:∃ H6,H6=upd H5 ls (.lst (cs.map V.int)):=⟨_,rfl⟩
  rw [<- e6] at Z6 gls ⊢
  refine ⟨ls,rfl,⟨_,SqL.of gls⟩,for_list (K:=K) (xs:=cs.map V.int) (fun j σ H'=>∃ (vc:Option V) (D:D8),σ=[some (.ref a0),some (.int c0),some (.int sz),some (.ref a.hp),some (.ref a.ww),vc,none]/\S8 S X H' a D/\D.m.sz=sz/\D.N=j/\H' ls=some (.lst (cs.map V.int))) ⟨_,D,rfl,Z6,hDs,hDN,gls⟩ ?_ ?_ ?_⟩
  · rintro i σ H' hi ⟨_,_,_,_,_,_,g⟩
    exact SqL.of g
  · rintro j u σ H' hu ⟨vc,D,rfl,Z,hms,hNj,gc⟩
    rw [List.getElem?_map] at hu
    obtain ⟨c,hci,rfl⟩:=Option.map_eq_some_iff.mp hu
    have hj:j < cs.length:=(List.getElem?_eq_some_iff.mp hci).1
    subst hNj
    refine (ex2q rfl (ex2q rfl (ex2q rfl (ex2q rfl ⟨X,a,D,c,by rw [hms]; rfl,hX,Z,by lia,fun H7 D7 f7 Z7 es eN=>(ex2q rfl (iteF ?_))⟩))))
    have pu:=Z7.pu
    have hhl:=pu.hl
    refine (ex2q rfl (ex2q rfl ⟨a.ww,_,_,_,rfl,rfl,SqL.of Z7.wo.w,atI_nat (j:=0) rfl,(ex2q rfl ⟨a.ww,_,_,_,rfl,rfl,SqL.of Z7.wo.w,atI_nat (j:=2) rfl,(ex2q rfl ⟨X,D7.g,a.hp,a.d,a.nl,a.wl,a.lh,a.rd,D7.m,D7.L,D7.wt,D7.N,D7.hs,D7.kvs,by rw [es,hms]; rfl,hX,Z7.hs,Z7.hd,Z7.wo.h,Z7.wo.r,Z7.hg,pu.p9,Z7.bl.blt,by lia,by lia,by have:=pu.kl; lia,pu.ro,fun H8 s8=>(ex2q rfl (iteF ?_))⟩)⟩)⟩))
    have Z8:=Z7.same s8
    have TX:=TT X hX
    obtain ⟨dx,r,dr,h8,_⟩:=Z8.hs.hb.ex
    have no:=Z8.hs.hb.xt.2
    refine (ex2q rfl ⟨a.hp,_,_,_,_,rfl,h8,TX.clH,TX.nPeak,rfl,(ex2q rfl ⟨a.hp,_,_,_,_,rfl,h8,TX.clH,TX.nFresh,rfl,by show 2<=sizeLine; lia,fun l9 hl9=>?_⟩)⟩)
    have s9:=same_new hl9 (.lst [.int D7.m.peak,.int (D7.m.fresh:Nat)])
    have Z9:=Z8.same s9
    refine (ex2q rfl ⟨a.ww,_,_,_,rfl,rfl,SqL.of Z9.wo.w,atI_nat (j:=3) rfl,l9,a.lm,(ex2q rfl ⟨rfl,SqL.of upd_same,SqL.of Z9.wo.m,rfl,(ex2q rfl (iteF ?_))⟩)⟩)
    have done:∀ {H10:Hp},Same H7 H10->∃ (vc:Option V) (D:D8),[some (.ref a0),some (.int c0),some (.int sz),some (.ref a.hp),some (.ref a.ww),some (.int c),none]=[some (.ref a0),some (.int c0),some (.int sz),some (.ref a.hp),some (.ref a.ww),vc,none]/\S8 S X H10 a D/\D.m.sz=sz/\D.N=D7.N/\H10 ls=some (.lst (cs.map V.int)):=fun {H10} s10=>⟨_,D7,rfl,Z7.same s10,by rw [es,hms],rfl,s10 _ _ (f7.1 _ _ ols.1 gc)⟩
    rw [eN] at done
    refine (ex2q rfl (ex4q rfl rfl ⟨(by show (0:Int) < _; decide),rfl,(ex2q rfl (ite2 (fun ce=>?_) (fun _=>iteF (done (s8.trans s9)))))⟩))
    have i20:i2=0:=by
      rw [decide_eq_true_eq] at ce
      injection ce with ce
      have ce':c0 % ((2:Nat):Int)=0:=ce
      rw [ei2] at ce'
      lia
    have ewt:D7.wt=[]:=by
      rcases Z7.hs.sl with ⟨_,e,_⟩ | ⟨e,_⟩
      · exact e
      · exact absurd e (hpl i20)
    refine ⟨X,hX,(ex2q rfl ⟨a.hp,_,_,rfl,s9 _ _ h8,no _ (by decide) (by decide),a.hp,a.d,a.nl,D7.m,D7.L,(ex2q rfl ⟨Z9.hs.hb,Z9.hs.wt,fun lw hlw=>?_⟩)⟩)⟩
    have s10:=same_new hlw (.lst ((D7.wt.map fun (n:Nat)=>(n:Int)).map V.int))
    refine ⟨by show 0<=sizeLine; lia,fun l11 hl11=>⟨lw,l11,(ex2q rfl ⟨rfl,SqL.of (old hl11 upd_same),SqL.of upd_same,(ex2q rfl ?_)⟩)⟩⟩
    have s11:=s10.new (o:=.lst []) hl11
    rw [ewt] at s11 ⊢
    exact iteF (done ((s8.trans s9).trans s11))
  rintro σ H7 ⟨vc,D,rfl,Z,hms,hNj,gc⟩
  rw [List.length_map] at hNj
  have pu:=Z.pu
  have hgl:H7 a.lh=some (.lst D.hs):=Z.wo.h
  refine (ex2q rfl ⟨a.ww,_,_,_,rfl,rfl,SqL.of Z.wo.w,atI_nat (j:=0) rfl,a.lh,rfl,⟨_,SqL.of hgl⟩,for_list (K:=K) (xs:=D.hs) (fun i σ H'=>∃ (vv:Option V) (L:List Bx) (wt:List Nat),σ=[some (.ref a0),some (.int c0),some (.int sz),some (.ref a.hp),some (.ref a.ww),vc,vv]/\KS a.nl a.wl a.d H7 H'/\Hs S D.g X H' a.hp a.d a.nl a.wl D.m L wt D.N/\Hd D.g L wt (cnt D.g (D.hs.drop i))/\Sub L D.L) ⟨_,D.L,D.wt,rfl,.refl,Z.hs,Z.hd,Sub.refl⟩ ?_ ?_ ?_⟩)
  · rintro i σ H' hi ⟨_,_,_,_,k,_⟩
    exact SqL.of (k.1 _ _ sep.hn sep.hw hgl)
  · rintro i v σ H' hv ⟨vv,L,wt,rfl,k8,Hs8,hd8,sub8⟩
    have hi:i < D.hs.length:=(List.getElem?_eq_some_iff.mp hv).1
    have ed:D.hs.drop i=v :: D.hs.drop (i + 1):=by
      rw [List.drop_eq_getElem_cons hi]
      congr 1
      exact (List.getElem?_eq_some_iff.mp hv).2
    have hone:∀ n,cnt D.g (D.hs.drop i) n=(if D.g v=some n then 1 else 0) + cnt D.g (D.hs.drop (i + 1)) n:=fun n=>by
      show ((D.hs.drop i).filterMap D.g).count n=_ + ((D.hs.drop (i + 1)).filterMap D.g).count n
      rw [ed,List.filterMap_cons]
      cases e:D.g v with
      | none=>rw [if_neg (fun z=>nomatch z),Nat.zero_add]
      | some k =>
        show (k :: _).count n=_
        by_cases z:k=n
        · rw [z,List.count_cons_self,if_pos rfl]
          lia
        · rw [List.count_cons_of_ne z,if_neg (fun h=>z (by injection h)),Nat.zero_add]
    obtain ⟨_,_,_,h8,_⟩:=Hs8.hb.ex
    refine ⟨X,hX,(ex2q rfl ⟨a.hp,_,_,rfl,h8,Hs8.hb.xt.2 _ (by decide) (by decide),(ex2q rfl ⟨D.g,a.hp,a.d,a.nl,a.wl,v,D.m,L,wt,D.N,cnt D.g (D.hs.drop i),rfl,Hs8,hd8,by lia,(Z.hg v (List.mem_of_getElem? hv)).ks k8,fun n e=>(by rw [hone n,if_pos e]; lia),fun H9 L9 wt9 k9 Hs9 hd9 sub9=>?_⟩)⟩)⟩
    refine ⟨_,L9,wt9,rfl,k8.trans k9,Hs9,hd9.congr fun n=>?_,sub9.trans sub8⟩
    rw [hone n]
    split
    · lia
    · lia
  rintro σ H8 ⟨vv,L,wt,rfl,k8,Hs8,hd8,sub8⟩
  rw [List.drop_length] at hd8
  obtain ⟨_,_,_,h8,_⟩:=Hs8.hb.ex
  have l8:=Hs8.ln
  refine ⟨X,hX,(ex2q rfl ⟨a.hp,_,_,rfl,h8,Hs8.hb.xt.2 _ (by decide) (by decide),(ex4q rfl rfl ⟨⟨by decide,by decide,by decide⟩,D.g,a.hp,a.d,a.nl,a.wl,D.m,L,wt,D.N,cnt D.g [],1000000000000000000,rfl,Hs8,hd8,by lia,fun H9 m9 L9 wt9 r9 k9 Hs9 em hd9 sub9 hrl hre _ _=>?_⟩)⟩)⟩
  have ew:wt9=[]:=by
    rcases hre with e | ⟨_,e⟩
    · lia
    · exact e
  subst ew
  obtain ⟨rk,hrk⟩:=pu.rk
  have eL:L9=[]:=gone_all hd9 ((hrk.sub sub8).sub sub9) (fun _=>rfl)
  subst eL
  have TX:=TT X hX
  obtain ⟨_,_,_,h9,_⟩:=Hs9.hb.ex
  have no:=Hs9.hb.xt.2
  refine (ex2q rfl ⟨a.hp,_,_,_,_,rfl,h9,TX.clH,TX.nSize,rfl,X,hX,(ex2q rfl ⟨a.hp,_,_,rfl,h9,no _ (by decide) (by decide),a.hp,a.d,a.nl,m9,[],rfl,Hs9.hb,by show 0 < 64; decide,fun H10 lb ts qs L' pL sL s10 _ gb R _=>?_⟩)⟩)
  have ets:ts=[]:=by
    have e1:=R.tl
    have e2:=pL.length_eq
    exact List.length_eq_zero_iff.mp (by rw [e1,e2]; rfl)
  subst ets
  have Hs10:=Hs9.same s10
  refine ⟨X,hX,(ex2q rfl ⟨a.hp,_,_,rfl,s10 _ _ h9,no _ (by decide) (by decide),a.hp,a.d,a.nl,m9,[],(ex2q rfl ⟨Hs10.hb,Hs10.wt,fun lw hlw=>⟨by show 3<=sizeLine; lia,fun l12 hl12=>?_⟩⟩)⟩)⟩
  have s12:=(same_new hlw (.lst [])).new (o:=.lst [.int m9.sz,.ref lb,.ref lw]) hl12
  refine (ex2q rfl ⟨by show 0<=sizeLine; lia,fun l13 hl13=>⟨by show 0<=sizeLine; lia,fun l14 hl14=>⟨by show 3<=sizeLine; lia,fun l15 hl15=>?_⟩⟩⟩)
  have s15':=((same_new hl13 (.lst [])).new (o:=.lst []) hl14).new (o:=.lst [.int sz,.ref l13,.ref l14]) hl15
  have e9:m9.sz=sz:=by rw [em.sz,hms]
  refine ⟨_,_,rfl,Alk.lst (s15' _ _ upd_same) upd_same (.cons (by rw [e9]; exact Alk.int _) (.cons (Alk.lst (s15' _ _ (s12 _ _ gb)) (old hl15 (old hl14 upd_same)) .nil (Nat.zero_le _)) (.cons (Alk.lst (s15' _ _ (old hl12 upd_same)) (old hl15 upd_same) .nil (Nat.zero_le _)) .nil))) (Nat.le_of_ble_eq_true rfl),fun H16 _=>q _⟩
end
theorem OcIn.mk {K:PySem.W.Frag} {C f:Addr} {m:Str} (a:PySem.W.findIn K (.ref C) m=some (some (.ref f))) (b:PySem.W.findCls K (.ref C) (.type "type") m=some (.val (.ref f))):∃ f,PySem.W.findIn K (.ref C) m=some (some (.ref f))/\PySem.W.findCls K (.ref C) (.type "type") m=some (.val (.ref f)):=⟨f,a,b⟩
end Hv
namespace Hv
open PySem L2 K11 HM
structure TopK (K:PySem.W.Frag) (cB cR cH cS D D2 cG U:Addr):Prop where
  qav:OwnIn K "Box" cB
  q8:PySem.W.findIn K (.ref cB) "tag"=some none
  qS:PySem.W.findIn K (.ref cB) "parts"=some none
  qT:PySem.W.findIn K (.ref cB) "count"=some none
  qaa:OwnIn K "Rising" cR
  qn:PySem.W.findIn K (.ref cR) "numbers"=some none
  qaj:OwnIn K "Heap" cH
  qU:PySem.W.findIn K (.ref cH) "size"=some none
  qJ:PySem.W.findIn K (.ref cH) "fresh"=some none
  qV:PySem.W.findIn K (.ref cH) "anew"=some none
  qW:PySem.W.findIn K (.ref cH) "peak"=some none
  qo:PySem.W.findIn K (.ref cH) "by_number"=some none
  qi:PySem.W.findIn K (.ref cH) "kept_places"=some none
  q6:OwnIn K "SlowHeap" cS
  qu:PySem.W.findIn K (.ref cS) "size"=some none
  qp:PySem.W.findIn K (.ref cS) "fresh"=some none
  qv:PySem.W.findIn K (.ref cS) "anew"=some none
  qw:PySem.W.findIn K (.ref cS) "peak"=some none
  qd:PySem.W.findIn K (.ref cS) "by_number"=some none
  qc:PySem.W.findIn K (.ref cS) "kept_places"=some none
  qj:PySem.W.findIn K (.ref cS) "waiting"=some none
  qq:PySem.W.findIn K (.ref cS) "first"=some none
  qak:MdIn K cH "make" "Heap.make" sMake D
  qal:MdIn K cS "make" "Heap.make" sMake D
  dt:DnIn K D
  qam:MdIn K cH "take" "Heap.take" sTake D2
  qan:MdIn K cS "take" "Heap.take" sTake D2
  dt2:DbIn K D2
  qao:PySem.W.nsIn K mainGlobals "Gone"=some (some (.ref cG))
  qaD:xIn0 K cG=true
  qaE:PySem.W.keepIn K (.ref cG)=true
  qap:PySem.W.nsIn K mainGlobals "Full"=some (some (.ref U))
  qaF:xIn0 K U=true
  u_x:PySem.W.exmOne K (.ref U) (.ref U)=some true
  qaG:PySem.W.keepIn K (.ref U)=true
  qaH:PySem.W.specialIn K (.ref cH) "__getattribute__"=some (some (.builtin "type.__getattribute__"))
  qaI:PySem.W.readsIn K cH (.type "type")=true
  qaJ:∃ f,PySem.W.findIn K (.ref cH) "__init__"=some (some (.ref f))/\PySem.W.findCls K (.ref cH) (.type "type") "__init__"=some (.val (.ref f))
  neR:cR≠cH
  neB:cB≠cH
  qaK:cB≠cR
  qaL:cR≠cS
  qaM:cB≠cS
  qaN:cH≠cS
  qae:MeIn K cS "there" "Heap.there" sThere
  qaq:MeIn K cS "hold" "Heap.hold" sHold
  qG:MeIn K cS "taken_place" "Heap.taken_place" sTaken
  qx:MeIn K cS "place_for_one" "Heap.place_for_one" sPlace
  qaf:MeIn K cS "boxes" "Heap.boxes" sBoxes
  q9:MeIn K cS "keeping" "Heap.keeping" sKeeping
  qag:MeIn K cS "loose" "Heap.loose" sLoose
  qX:MeIn K cS "make_room" "Heap.make_room" sRoom
  qar:MeIn K cS "work" "Heap.work" sWork
  qab:MeIn K cS "let_go" "Heap.let_go" sLetGo
  q7:MeIn K cS "lessened" "Heap.lessened" sLess
  qas:MeIn K cS "look" "Heap.look" sLook
  qA:MeIn K cB "__init__" "Box.__init__" sBox
  ql:MeIn K cR "__init__" "Rising.__init__" sRis
  qy:MeIn K cH "__init__" "Heap.__init__" sHInit
  qf:MeIn K cS "__init__" "SlowHeap.__init__" sSInit
  qac:DfIn K "is_box" sIsBox
  qm:MeIn K cR "place_of" "Rising.place_of" sPlaceOf
  qr:MeIn K cR "discard" "Rising.discard" sDiscard
  qB:MeIn K cS "cut" "SlowHeap.cut" sCut
  qK:MeIn K cH "there" "Heap.there" sThere
  qz:MeIn K cH "lessened" "Heap.lessened" sLess
  qg:MeIn K cH "let_parts_go" "Heap.let_parts_go" sParts
  qa:MeIn K cS "let_parts_go" "SlowHeap.let_parts_go" sSParts
  qH:MeIn K cH "let_go" "Heap.let_go" sLetGo
  qh:MeIn K cH "let_first_go" "Heap.let_first_go" sFirst
  qb:MeIn K cS "let_first_go" "SlowHeap.let_first_go" sSFirst
  qY:MeIn K cH "work" "Heap.work" sWork
  qs:MeIn K cH "make_room" "Heap.make_room" sRoom
  qe:MeIn K cH "place_for_one" "Heap.place_for_one" sPlace
  qZ:MeIn K cH "hold" "Heap.hold" sHold
  qL:MeIn K cR "add" "Rising.add" sAdd
  qk:MeIn K cH "taken_place" "Heap.taken_place" sTaken
  q0:MeIn K cH "look" "Heap.look" sLook
  qM:MeIn K cH "boxes" "Heap.boxes" sBoxes
  qC:MeIn K cH "keeping" "Heap.keeping" sKeeping
  qN:MeIn K cH "waits" "Heap.waits" sWaits
  qt:MeIn K cS "waits" "SlowHeap.waits" sSWaits
  qO:MeIn K cH "loose" "Heap.loose" sLoose
  qP:DfIn K "_law_alike" s_alike
  qD:DfIn K "_law_cell_at" s_cell_at
  q1:DfIn K "_law_some" s_some
  qE:DfIn K "_law_reached" s_reached
  qF:DfIn K "_law_counted" s_counted
  qQ:DfIn K "_law_state" s_state
  q2:DfIn K "_law_make" s_make
  qI:DfIn K "_law_worked" s_worked
  q3:DfIn K "_law_take" s_take
  q4:DfIn K "_law_done" s_done
  qaw:DfIn K "law" s_law
  qax:PySem.W.nsIn K mainGlobals "len"=some none
  qat:PySem.W.nsIn K mainGlobals "list"=some none
  qah:PySem.W.nsIn K mainGlobals "tuple"=some none
  qR:PySem.W.nsIn K mainGlobals "isinstance"=some none
  qay:PySem.W.nsIn K mainGlobals "max"=some none
  qad:PySem.W.nsIn K mainGlobals "sorted"=some none
  qaz:PySem.W.nsIn K mainGlobals "str"=some none
  qaA:PySem.W.nsIn K mainGlobals "int"=some none
  qau:PySem.W.nsIn K mainGlobals "bool"=some none
  qaB:PySem.W.nsIn K mainGlobals "all"=some none
  qaC:PySem.W.nsIn K mainGlobals "zip"=some none
  qai:PySem.W.nsIn K mainGlobals "range"=some none
  q5:∃ t,PySem.W.nsIn K mainGlobals "MOST_GONE"=some (some (.int 1000 t))
theorem top_ok {l:PySem.W.OpenLaw} {w:World} {K:PySem.W.Frag} {h:Heap} {mg:Str->Option Value} {fa cB cR cH cS D D2 cG U:Addr} (T:TopK K cB cR cH cS D D2 cG U) (X:K.In h) (G:h.Ns mainGlobals mg) (hfa:mg "law"=some (.ref fa)) :
    ∃ fd:FuncData,(∀ (s:Shared) (u:Value),BindsTo s fd ⟨[u],[]⟩ [("_law_script",u)])/\∀ base:Heap,K.In base->base.Ns mainGlobals mg->FnOk l.prog w K mg base CX0 11 fa fd ["_law_script"] (spTop K):=by
  refine law_in T.qaw X G hfa (fun _ _ _ _ _ _ s v=>.of_eq rfl) fun base fd FL=>?_
  have qax:mg "len"=none:=PySem.W.mg_none_of X G T.qax
  have qat:mg "list"=none:=PySem.W.mg_none_of X G T.qat
  have qah:mg "tuple"=none:=PySem.W.mg_none_of X G T.qah
  have qR:mg "isinstance"=none:=PySem.W.mg_none_of X G T.qR
  have qay:mg "max"=none:=PySem.W.mg_none_of X G T.qay
  have qad:mg "sorted"=none:=PySem.W.mg_none_of X G T.qad
  have qaz:mg "str"=none:=PySem.W.mg_none_of X G T.qaz
  have qaA:mg "int"=none:=PySem.W.mg_none_of X G T.qaA
  have qau:mg "bool"=none:=PySem.W.mg_none_of X G T.qau
  have qaB:mg "all"=none:=PySem.W.mg_none_of X G T.qaB
  have qaC:mg "zip"=none:=PySem.W.mg_none_of X G T.qaC
  have qai:mg "range"=none:=PySem.W.mg_none_of X G T.qai
  have n_Box:mg "Box"=some (.ref cB):=PySem.W.mg_of X G T.qav.n
  have n_Rising:mg "Rising"=some (.ref cR):=PySem.W.mg_of X G T.qaa.n
  have n_Heap:mg "Heap"=some (.ref cH):=PySem.W.mg_of X G T.qaj.n
  have n_SlowHeap:mg "SlowHeap"=some (.ref cS):=PySem.W.mg_of X G T.q6.n
  obtain ⟨t_MOST_GONE,h_MOST_GONE⟩:=T.q5
  have m_MOST_GONE:=PySem.W.mg_of X G h_MOST_GONE
  obtain ⟨A,rfl,rfl,rfl⟩:∃ A:Adr,A.cB=cB/\A.cR=cR/\A.cH=cH:=⟨⟨cB,cR,cH⟩,rfl,rfl,rfl⟩
  have tx:Txt K mg A cG:=⟨T.qav.cls,T.qaa.cls,T.qaj.cls,T.q8,T.qS,T.qT,T.qn,T.qU,T.qJ,T.qV,T.qW,T.qo,T.qi,T.neR,T.neB,T.qaK,qax,qat,qah,qR,qay,qad,qaz,PySem.W.mg_of X G T.qao,⟨T.qaD,T.qaE⟩⟩
  have tx2:Txt K mg { A with cH:=cS } cG:=⟨T.qav.cls,T.qaa.cls,T.q6.cls,T.q8,T.qS,T.qT,T.qn,T.qu,T.qp,T.qv,T.qw,T.qd,T.qc,T.qaL,T.qaM,T.qaK,qax,qat,qah,qR,qay,qad,qaz,PySem.W.mg_of X G T.qao,⟨T.qaD,T.qaE⟩⟩
  have TT:∀ Y,Two A cS Y->Txt K mg Y cG:=fun Y h=>by
    rcases h with rfl | rfl
    · exact tx
    · exact tx2
  have nU:=PySem.W.mg_of X G T.qap
  have MB:=T.qA.ma (P:=l.prog) (w:=w) (mg:=mg) (base:=base) (x:="Box") (ps:=["self","tag","parts"]) (fun _ _ _ _ _ _=>us3 fun _ _ _=>rfl) T.qav.mks T.qav.kp n_Box fun f fd F=>ok_box F tx
  have MR:=T.ql.ma (P:=l.prog) (w:=w) (mg:=mg) (base:=base) (x:="Rising") (ps:=["self"]) (fun _ _ _ _ _ _=>us1 fun _=>rfl) T.qaa.mks T.qaa.kp n_Rising fun f fd F=>ok_ris F tx
  have MH:=T.qy.ma (P:=l.prog) (w:=w) (mg:=mg) (base:=base) (x:="Heap") (ps:=["self","size"]) (fun _ _ _ _ _ _=>us2 fun _ _=>rfl) T.qaj.mks T.qaj.kp n_Heap fun f fd F=>ok_hinit F tx MR
  have OH:Oa l.prog w K mg base CX0 3 "Heap" A.cH "__init__" ["self","size"] (spHInit { A with cH:=cS }):=by
    obtain ⟨f,a,n,g⟩:=T.qy
    obtain ⟨fd,F,kp⟩:=g.fn
    obtain ⟨f',a',b'⟩:=T.qaJ
    have e:f=f':=by
      rw [a'] at a
      injection a with a
      injection a with a
      injection a with a
      exact a.symm
    subst e
    exact ⟨f,fd,⟨T.qaH,T.qaI,b',kp⟩,ok_hinit F tx2 MR,F.binds (ps:=["self","size"]) (fun _ _ _ _ _ _=>us2 fun _ _=>rfl),n_Heap⟩
  have MS:=T.qf.ma (P:=l.prog) (w:=w) (mg:=mg) (base:=base) (x:="SlowHeap") (ps:=["self","size"]) (fun _ _ _ _ _ _=>us2 fun _ _=>rfl) T.q6.mks T.q6.kp n_SlowHeap fun f fd F=>ok_sinit F tx2 T.qj T.qq OH
  have GI:=DfIn.ca (P:=l.prog) (w:=w) (base:=base) X G T.qac (ps:=["value"]) (fun _ _ _ _ _ _=>us1 fun _=>rfl) fun f fd F=>ok_isbox F tx
  have PO:=T.qm.me (P:=l.prog) (w:=w) (mg:=mg) (base:=base) (ps:=["self","number"]) (fun _ _ _ _ _ _=>us2 fun _ _=>rfl) fun f fd F=>ok_placeof F tx
  have DI:=T.qr.me (P:=l.prog) (w:=w) (mg:=mg) (base:=base) (ps:=["self","number"]) (fun _ _ _ _ _ _=>us2 fun _ _=>rfl) fun f fd F=>ok_disc F tx PO
  have CU:=T.qB.me (P:=l.prog) (w:=w) (mg:=mg) (base:=base) (ps:=["self"]) (fun _ _ _ _ _ _=>us1 fun _=>rfl) fun f fd F=>ok_cut F tx2 T.qq m_MOST_GONE
  have TH:=T.qK.me (P:=l.prog) (w:=w) (mg:=mg) (base:=base) (ps:=["self","value"]) (fun _ _ _ _ _ _=>us2 fun _ _=>rfl) fun f fd F=>ok_there F tx
  have TH2:=T.qae.me (P:=l.prog) (w:=w) (mg:=mg) (base:=base) (ps:=["self","value"]) (fun _ _ _ _ _ _=>us2 fun _ _=>rfl) fun f fd F=>ok_there F tx2
  have LS:=T.qz.me (P:=l.prog) (w:=w) (mg:=mg) (base:=base) (ps:=["self","value"]) (fun _ _ _ _ _ _=>us2 fun _ _=>rfl) fun f fd F=>ok_less F tx TH
  have LS2:=T.q7.me (P:=l.prog) (w:=w) (mg:=mg) (base:=base) (ps:=["self","value"]) (fun _ _ _ _ _ _=>us2 fun _ _=>rfl) fun f fd F=>ok_less F tx2 TH2
  have PA_:=T.qg.me (P:=l.prog) (w:=w) (mg:=mg) (base:=base) (ps:=["self","at"]) (fun _ _ _ _ _ _=>us2 fun _ _=>rfl) fun f fd F=>ok_partsP F tx GI LS
  have PA2:=T.qa.me (P:=l.prog) (w:=w) (mg:=mg) (base:=base) (ps:=["self","at"]) (fun _ _ _ _ _ _=>us2 fun _ _=>rfl) fun f fd F=>ok_sparts F tx2 T.qj
  have LG:=T.qH.me (P:=l.prog) (w:=w) (mg:=mg) (base:=base) (ps:=["self","value"]) (fun _ _ _ _ _ _=>us2 fun _ _=>rfl) fun f fd F=>ok_let8P (S:=cS) F tx T.qaN GI LS PA_
  have LG2:=T.qab.me (P:=l.prog) (w:=w) (mg:=mg) (base:=base) (ps:=["self","value"]) (fun _ _ _ _ _ _=>us2 fun _ _=>rfl) fun f fd F=>ok_let8S (S:=cS) F tx2 rfl GI LS2 PA2
  have LF2:=T.qab.me (P:=l.prog) (w:=w) (mg:=mg) (base:=base) (ps:=["self","value"]) (fun _ _ _ _ _ _=>us2 fun _ _=>rfl) fun f fd F=>ok_letS F tx2 GI LS2 PA2
  have FI:=T.qh.me (P:=l.prog) (w:=w) (mg:=mg) (base:=base) (ps:=["self"]) (fun _ _ _ _ _ _=>us1 fun _=>rfl) fun f fd F=>ok_first0 F
  have FI2:=T.qb.me (P:=l.prog) (w:=w) (mg:=mg) (base:=base) (ps:=["self"]) (fun _ _ _ _ _ _=>us1 fun _=>rfl) fun f fd F=>ok_firstS F tx2 T.qj T.qq CU LF2
  have WK:=T.qY.me (P:=l.prog) (w:=w) (mg:=mg) (base:=base) (ps:=["self","many"]) (fun _ _ _ _ _ _=>us2 fun _ _=>rfl) fun f fd F=>ok_work8P (S:=cS) F tx T.qaN FI
  have WK2:=T.qar.me (P:=l.prog) (w:=w) (mg:=mg) (base:=base) (ps:=["self","many"]) (fun _ _ _ _ _ _=>us2 fun _ _=>rfl) fun f fd F=>ok_work8S (S:=cS) F tx2 rfl FI2
  have RO:=T.qs.me (P:=l.prog) (w:=w) (mg:=mg) (base:=base) (ps:=["self"]) (fun _ _ _ _ _ _=>us1 fun _=>rfl) fun f fd F=>ok_room8 F tx nU ⟨T.qaF,T.qaG⟩ WK DI
  have RO2:=T.qX.me (P:=l.prog) (w:=w) (mg:=mg) (base:=base) (ps:=["self"]) (fun _ _ _ _ _ _=>us1 fun _=>rfl) fun f fd F=>ok_room8 F tx2 nU ⟨T.qaF,T.qaG⟩ WK2 DI
  have PL:=T.qe.me (P:=l.prog) (w:=w) (mg:=mg) (base:=base) (ps:=["self","kept"]) (fun _ _ _ _ _ _=>us2 fun _ _=>rfl) fun f fd F=>ok_place8 F tx DI RO
  have PL2:=T.qx.me (P:=l.prog) (w:=w) (mg:=mg) (base:=base) (ps:=["self","kept"]) (fun _ _ _ _ _ _=>us2 fun _ _=>rfl) fun f fd F=>ok_place8 F tx2 DI RO2
  have MK1:=T.qak.meX (P:=l.prog) (w:=w) (mg:=mg) (base:=base) (CX:=CXf l.prog w) (ps:=["self","tag","parts","kept"]) (dvs:=[.non]) (fun kV doc pm an cdv ct=>bd_make4 T.dt kV doc pm an cdv ct) (fun kV doc pm an cdv ct=>bd_make3 T.dt kV doc pm an cdv ct) fun f fd F=>ok_make8 F tx PL MB
  have MK2:=T.qal.meX (P:=l.prog) (w:=w) (mg:=mg) (base:=base) (CX:=CXf l.prog w) (ps:=["self","tag","parts","kept"]) (dvs:=[.non]) (fun kV doc pm an cdv ct=>bd_make4 T.dt kV doc pm an cdv ct) (fun kV doc pm an cdv ct=>bd_make3 T.dt kV doc pm an cdv ct) fun f fd F=>ok_make8 F tx2 PL2 MB
  have HO_:=T.qZ.me (P:=l.prog) (w:=w) (mg:=mg) (base:=base) (ps:=["self","value"]) (fun _ _ _ _ _ _=>us2 fun _ _=>rfl) fun f fd F=>ok_hold F tx GI TH
  have HO2:=T.qaq.me (P:=l.prog) (w:=w) (mg:=mg) (base:=base) (ps:=["self","value"]) (fun _ _ _ _ _ _=>us2 fun _ _=>rfl) fun f fd F=>ok_hold F tx2 GI TH2
  have HH1:=T.qZ.me (P:=l.prog) (w:=w) (mg:=mg) (base:=base) (ps:=["self","value"]) (fun _ _ _ _ _ _=>us2 fun _ _=>rfl) fun f fd F=>ok_hold8 (S:=cS) F tx GI TH
  have HH2:=T.qaq.me (P:=l.prog) (w:=w) (mg:=mg) (base:=base) (ps:=["self","value"]) (fun _ _ _ _ _ _=>us2 fun _ _=>rfl) fun f fd F=>ok_hold8 (S:=cS) F tx2 GI TH2
  have AD:=T.qL.me (P:=l.prog) (w:=w) (mg:=mg) (base:=base) (ps:=["self","number"]) (fun _ _ _ _ _ _=>us2 fun _ _=>rfl) fun f fd F=>ok_add F tx PO
  have TP:=T.qk.me (P:=l.prog) (w:=w) (mg:=mg) (base:=base) (ps:=["self","at","keep"]) (fun _ _ _ _ _ _=>us3 fun _ _ _=>rfl) fun f fd F=>ok_taken F tx AD
  have TP2:=T.qG.me (P:=l.prog) (w:=w) (mg:=mg) (base:=base) (ps:=["self","at","keep"]) (fun _ _ _ _ _ _=>us3 fun _ _ _=>rfl) fun f fd F=>ok_taken F tx2 AD
  have TK1:=T.qam.meX (P:=l.prog) (w:=w) (mg:=mg) (base:=base) (CX:=CX0) (ps:=["self","value","keep"]) (dvs:=[.bl false]) (fun kV doc pm an cdv ct=>bd_take3 T.dt2 kV doc pm an cdv ct) (fun kV doc pm an cdv ct=>bd_take2 T.dt2 kV doc pm an cdv ct) fun f fd F=>ok_take8 (S:=cS) F tx GI TH HO_ TP
  have TK2:=T.qan.meX (P:=l.prog) (w:=w) (mg:=mg) (base:=base) (CX:=CX0) (ps:=["self","value","keep"]) (dvs:=[.bl false]) (fun kV doc pm an cdv ct=>bd_take3 T.dt2 kV doc pm an cdv ct) (fun kV doc pm an cdv ct=>bd_take2 T.dt2 kV doc pm an cdv ct) fun f fd F=>ok_take8 (S:=cS) F tx2 GI TH2 HO2 TP2
  have LK1:=T.q0.me (P:=l.prog) (w:=w) (mg:=mg) (base:=base) (ps:=["self","value"]) (fun _ _ _ _ _ _=>us2 fun _ _=>rfl) fun f fd F=>ok_look8 F tx GI TH
  have LK2:=T.qas.me (P:=l.prog) (w:=w) (mg:=mg) (base:=base) (ps:=["self","value"]) (fun _ _ _ _ _ _=>us2 fun _ _=>rfl) fun f fd F=>ok_look8 F tx2 GI TH2
  have BO:=T.qM.me (P:=l.prog) (w:=w) (mg:=mg) (base:=base) (ps:=["self"]) (fun _ _ _ _ _ _=>us1 fun _=>rfl) fun f fd F=>ok_boxes F tx
  have BO2:=T.qaf.me (P:=l.prog) (w:=w) (mg:=mg) (base:=base) (ps:=["self"]) (fun _ _ _ _ _ _=>us1 fun _=>rfl) fun f fd F=>ok_boxes F tx2
  have KE_:=T.qC.me (P:=l.prog) (w:=w) (mg:=mg) (base:=base) (ps:=["self"]) (fun _ _ _ _ _ _=>us1 fun _=>rfl) fun f fd F=>ok_keeping F tx
  have KE2:=T.q9.me (P:=l.prog) (w:=w) (mg:=mg) (base:=base) (ps:=["self"]) (fun _ _ _ _ _ _=>us1 fun _=>rfl) fun f fd F=>ok_keeping F tx2
  have WA:=T.qN.me (P:=l.prog) (w:=w) (mg:=mg) (base:=base) (ps:=["self"]) (fun _ _ _ _ _ _=>us1 fun _=>rfl) fun f fd F=>ok_waitsG (A:=A) (S:=cS) F T.qaN
  have WA2:=T.qt.me (P:=l.prog) (w:=w) (mg:=mg) (base:=base) (ps:=["self"]) (fun _ _ _ _ _ _=>us1 fun _=>rfl) fun f fd F=>ok_swaitsG F tx2 T.qj T.qq
  have LS_:=T.qO.me (P:=l.prog) (w:=w) (mg:=mg) (base:=base) (ps:=["self","kept"]) (fun _ _ _ _ _ _=>us2 fun _ _=>rfl) fun f fd F=>ok_loose8 (S:=cS) F tx DI
  have LS3:=T.qag.me (P:=l.prog) (w:=w) (mg:=mg) (base:=base) (ps:=["self","kept"]) (fun _ _ _ _ _ _=>us2 fun _ _=>rfl) fun f fd F=>ok_loose8 (S:=cS) F tx2 DI
  have MK:∀ Y,Two A cS Y->MeD l.prog w K mg base (CXf l.prog w) 8 Y.cH "make" ["self","tag","parts","kept"] [.non] (spMake8 cS U Y):=fun Y h=>by
    rcases h with rfl | rfl
    · exact MK1
    · exact MK2
  have LT:∀ Y,Two A cS Y->Me l.prog w K mg base CX0 4 Y.cH "let_go" ["self","value"] (spLet8 cS Y):=fun Y h=>by
    rcases h with rfl | rfl
    · exact LG
    · exact LG2
  have HH:∀ Y,Two A cS Y->Me l.prog w K mg base CX0 2 Y.cH "hold" ["self","value"] (spHold8 cS Y):=fun Y h=>by
    rcases h with rfl | rfl
    · exact HH1
    · exact HH2
  have TK:∀ Y,Two A cS Y->MeD l.prog w K mg base CX0 4 Y.cH "take" ["self","value","keep"] [.bl false] (spTake8 cS Y):=fun Y h=>by
    rcases h with rfl | rfl
    · exact TK1
    · exact TK2
  have LK:∀ Y,Two A cS Y->Me l.prog w K mg base CX0 2 Y.cH "look" ["self","value"] (spLook8 Y):=fun Y h=>by
    rcases h with rfl | rfl
    · exact LK1
    · exact LK2
  have BX_:∀ Y,Two A cS Y->Me l.prog w K mg base CX0 1 Y.cH "boxes" ["self"] (spBoxes Y):=fun Y h=>by
    rcases h with rfl | rfl
    · exact BO
    · exact BO2
  have KP:∀ Y,Two A cS Y->Me l.prog w K mg base CX0 1 Y.cH "keeping" ["self"] (spKeep Y):=fun Y h=>by
    rcases h with rfl | rfl
    · exact KE_
    · exact KE2
  have WT:∀ Y,Two A cS Y->Me l.prog w K mg base CX0 1 Y.cH "waits" ["self"] (spWaitsG cS Y):=fun Y h=>by
    rcases h with rfl | rfl
    · exact WA
    · exact WA2
  have LO_:∀ Y,Two A cS Y->Me l.prog w K mg base CX0 3 Y.cH "loose" ["self","kept"] (spLoose8 cS Y):=fun Y h=>by
    rcases h with rfl | rfl
    · exact LS_
    · exact LS3
  have WX:∀ Y,Two A cS Y->Me l.prog w K mg base CX0 5 Y.cH "work" ["self","many"] (spWork8 cS Y):=fun Y h=>by
    rcases h with rfl | rfl
    · exact WK
    · exact WK2
  have GA:∀ n,Ca l.prog w K mg base CX0 n "_law_alike" ["_law_found","_law_due"] (spAlike n):=fun n=>by
    induction n with
    | zero=>exact DfIn.ca (P:=l.prog) (w:=w) (base:=base) X G T.qP (ps:=["_law_found","_law_due"]) (fun _ _ _ _ _ _=>us2 fun _ _=>rfl) fun f fd F=>⟨fun _ _ _ _ ⟨_,_,_,h,_⟩=>h.elim,fun _ _ _ _ _ _ _ _ _ _ _ _ _ ⟨_,_,_,h,_⟩=>h.elim⟩
    | succ n ih=>exact DfIn.ca (P:=l.prog) (w:=w) (base:=base) X G T.qP (ps:=["_law_found","_law_due"]) (fun _ _ _ _ _ _=>us2 fun _ _=>rfl) fun f fd F=>ok_alike F tx qaA qau qaB qaC ih
  have GC:=DfIn.ca (P:=l.prog) (w:=w) (base:=base) X G T.qD (ps:=["_law_script","_law_k"]) (fun _ _ _ _ _ _=>us2 fun _ _=>rfl) fun f fd F=>ok_cell F tx
  have GS:=DfIn.ca (P:=l.prog) (w:=w) (base:=base) X G T.q1 (ps:=["_law_hands","_law_cell"]) (fun _ _ _ _ _ _=>us2 fun _ _=>rfl) fun f fd F=>ok_some F tx qai
  have GR:=DfIn.ca (P:=l.prog) (w:=w) (base:=base) X G T.qE (ps:=["_law_hands","_law_built"]) (fun _ _ _ _ _ _=>us2 fun _ _=>rfl) fun f fd F=>ok_reached F tx
  have GN:=DfIn.ca (P:=l.prog) (w:=w) (base:=base) X G T.qF (ps:=["_law_heap","_law_hands","_law_built","_law_size"]) (fun _ _ _ _ _ _=>us4 fun _ _ _ _=>rfl) fun f fd F=>ok_counted F tx TT BX_ KP WT
  have GT:=DfIn.ca (P:=l.prog) (w:=w) (base:=base) X G T.qQ (ps:=["_law_heap"]) (fun _ _ _ _ _ _=>us1 fun _=>rfl) fun f fd F=>ok_state F TT BX_ KP WT
  have GM:=DfIn.ca X G T.q2 (ps:=["_law_heap","_law_world","_law_size","_law_cell"]) (fun _ _ _ _ _ _=>us4 fun _ _ _ _=>rfl) fun f fd F=>ok_makeL F tx TT qaA nU T.u_x MK BX_ KP GS GR GT (GA 5)
  have GW:=DfIn.ca (P:=l.prog) (w:=w) (base:=base) X G T.qI (ps:=["_law_heap","_law_many"]) (fun _ _ _ _ _ _=>us2 fun _ _=>rfl) fun f fd F=>ok_workedL F tx TT BX_ WT WX (GA 5)
  have GK:=DfIn.ca (P:=l.prog) (w:=w) (base:=base) X G T.q3 (ps:=["_law_heap","_law_world","_law_value","_law_keep"]) (fun _ _ _ _ _ _=>us4 fun _ _ _ _=>rfl) fun f fd F=>ok_takeL F tx TT BX_ LK TK (GA 5)
  have GD:=DfIn.ca X G T.q4 (ps:=["_law_heap","_law_world","_law_size","_law_cell"]) (fun _ _ _ _ _ _=>us4 fun _ _ _ _=>rfl) fun f fd F=>ok_doneL F tx TT GM GW GK LO_ HH LT
  exact ok_law FL tx TT T.qaN GC MH MS GD GN LT WX BX_ WT (GA 5)
end Hv
namespace PySem.W.Fast
def tw17967275708195083890:=()
def tw8034334387046941376:=()
def tw17437565462483621568:=()
def tw3072199679278162275:=()
def tw5255274492397700421:=()
def tw5314710884787360876:=()
def tw9396806266758611995:=()
def tw10244627562138780566:=()
def tw9347969781746575697:=()
def tw14968018062797983072:=()
def tw10332278973257817650:=()
def tw8697782640159206102:=()
def tw2927559647429875856:=()
def tw5396180146356655418:=()
def tw9237607006213524273:=()
def tw1755363758447011780:=()
def tw11907229388507111616:=()
def tw14827964180025738043:=()
def tw11620815623441564767:=()
def tw6110703297470059530:=()
def tw11818473871185124410:=()
def tw13389392376149782592:=()
def tw9832080805471533117:=()
def tw12141319721077953376:=()
def tw11791795452553082030:=()
def tw7059005534377732894:=()
def tw10161725284307941093:=()
def tw12458824298916466232:=()
def tw8606100237082842262:=()
def tw10133618598266857446:=()
def tw15503245193655180099:=()
def tw1917843072606657790:=()
def tw9241134202718989013:=()
def tw10745212680091783554:=()
def tw11930340906918024872:=()
def tw8696705856530114622:=()
def tw17950068242712069630:=()
def tw5095567116482703020:=()
def tw10262000472149168075:=()
def tw376289902159062544:=()
def tw3311231404867841599:=()
def tw16647752782919951829:=()
def tw17221463297683800960:=()
def tw16261505222549829292:=()
def tw14368872133456027431:=()
def tw13190732286982803955:=()
def tw3290822329928826079:=()
def tw351411935729707328:=()
def tw2314482128927584942:=()
def tw13083611344418677824:=()
def tw10387738306381804147:=()
def tw9746917296547137544:=()
def tw11236905831852981695:=()
def tw9657968542480510088:=()
def tw3411869350093251860:=()
def tw404851513398665760:=()
def tw2094602615409468393:=()
def tw16658577608956377654:=()
def tw12241436001070972065:=()
def tw15961274854881849330:=()
def tw10886899735272103622:=()
def tw1468485778932248125:=()
def tw9236594400014559081:=()
def tw3440716180864640670:=()
def tw9832664088681160247:=()
def tw14241697611609217790:=()
def tw10403152775293742461:=()
def tw7912075844720702660:=()
def tw1281294690370152601:=()
def tw7459706976826616133:=()
def tw17914364714310820457:=()
def tw12318490286149155373:=()
def tw2058615367140322465:=()
def tw10931180971168234489:=()
def tw7139677908299799876:=()
def tw17868986726974905311:=()
def tw15550305719905292580:=()
def tw2482409522611148771:=()
def tw8504887391965530700:=()
def tw16531972897729529510:=()
def tw427233065838242467:=()
def tw2753589224445396605:=()
def tw11625315419742368355:=()
def tw11327108556577713149:=()
def tw8193394756302930465:=()
def tw5000353738126550099:=()
def tw16874787067320712843:=()
def tw2098030734443919860:=()
def tw660221202878168037:=()
def tw15456486166435941155:=()
def tw8071872687520436951:=()
def tw17375645608995036900:=()
def tw9452460786786234999:=()
def tw7250110911418202127:=()
def tw9979979618111924809:=()
def tw3725673859203215495:=()
def tw15616566358767073173:=()
def tw2128541054096296175:=()
def tw17442785578967644765:=()
def tw14200606391687364452:=()
def tw11498194513340735611:=()
def tw7544454790279178830:=()
def tw706744747179700115:=()
def tw8745580810632705214:=()
def tw10264249876998583816:=()
def tw17043287061813474785:=()
def tw11964529743047679276:=()
def tw6590484480779237058:=()
def tw17808302025199311715:=()
def tw9497760462483667780:=()
def tw10301530354562608973:=()
def tw11437186484537965204:=()
def tw1876833480546636958:=()
def tw7715775830547577527:=()
def tw1962840402604147173:=()
def tw6078111587860395253:=()
def tw8064195206369788750:=()
def tw9446486081470173085:=()
def tw7824401903977611479:=()
def tw3703463734352026818:=()
def tw3303663505324352204:=()
def tw1369125833359214803:=()
def tw2126995169868631999:=()
def tw14264691920359969374:=()
def tw14262044642335953238:=()
def tw14065263213855010773:=()
def tw6408200195560814591:=()
def tw2367602544086699579:=()
def tw5700548610812892427:=()
def tw10861723466833621876:=()
def tw15020051274274395408:=()
def tw16614043392785044128:=()
def tw17730104692076363325:=()
def tw14194198347283178388:=()
def tw16316327370583313421:=()
def tw2198254430181036712:=()
def tw1332522342589170678:=()
def tw13615885520599079898:=()
def tw8125790163011891235:=()
def tw15388774248960131299:=()
def tw276737562055658812:=()
def tw1714032884686021894:=()
def tw14505434763176884430:=()
def tw7752440926147617589:=()
def tw14953278982511596641:=()
def tw11913320972612588965:=()
def tw1741685898800721299:=()
def tw15290140591039711481:=()
def tw4153848203036083196:=()
def tw8842841474119345432:=()
def tw12415177512228013287:=()
def tw2873905028065243213:=()
def tw2819319851258368699:=()
def tw12810578707831633897:=()
def tw5959074021621692728:=()
def tw4134725837715309221:=()
def tw9293007678032089525:=()
def tw2177019931629714690:=()
def tw12387105697873203851:=()
def tw14584023075444593451:=()
def tw17429138575960478121:=()
def tw15076046864901384624:=()
def tw17670408745780630505:=()
def tw8750938564637615143:=()
def tw2819281961686589142:=()
def tw17417577769934251512:=()
def tw7852070601565024903:=()
def tw16043818675983166037:=()
def tw10070253805677052132:=()
def tw17304528126169709242:=()
def tw103420192163697466:=()
def tw2092627249740097952:=()
def tw14049506808397053675:=()
def tw13379488899014012501:=()
def tw5149139058857600377:=()
def tw15226735690583029637:=()
def tw7571572461297063132:=()
def tw12856315047609342114:=()
def tw11407862630224911519:=()
def tw3262926798275043376:=()
def tw9502759713703406375:=()
def tw9359551770763555168:=()
def tw16155082360802675317:=()
def tw463029859647835497:=()
def tw1462761855463805118:=()
def tw14441873064831488522:=()
def tw6352490704061903390:=()
def tw11192530411913283484:=()
def tw16445417565059238811:=()
def tw14158163008785088126:=()
def tw17999214295637345488:=()
def tw5130626383537051892:=()
def tw16642000134580295551:=()
def tw5266269931732664784:=()
def tw8676931543571978814:=()
def tw7656038196026246796:=()
def tw16258600423932614249:=()
def tw13159038435685194869:=()
def tw8198585800715083152:=()
def tw11936779204008779910:=()
def tw10859024709984899612:=()
def tw11023728938873618047:=()
def tw2756963827864519156:=()
def tw17873137994611494032:=()
def tw6696074701983151515:=()
def tw13801916448247931212:=()
def tw18343731447991996472:=()
def tw6457385349318985200:=()
def tw2551195557577270274:=()
def tw6294930771632365701:=()
def tw11193895490556504169:=()
def tw12798763060928329677:=()
def tw4854325399720512919:=()
def tw2450855216097634638:=()
def tw2410555514718601316:=()
def tw4825653978178599719:=()
def tw9261744864937286413:=()
def tw15399668530234401175:=()
def tw5809002495574292301:=()
def tw12855920944691380487:=()
def tw12514761944624875942:=()
def tw10145365516214913795:=()
def tw14255082955867742174:=()
def tw16348278787563488109:=()
def tw12400956729647926509:=()
def tw4582476523115019442:=()
def tw17988106408015095084:=()
def tw3133785154774305723:=()
def tw4885393640418522104:=()
def tw16680972143607170764:=()
def tw7792477853013058326:=()
def tw14242093874361094678:=()
def tw16451862370720674730:=()
def tw12931664251143093469:=()
def tw2454558573733714988:=()
def tw4992792329695409755:=()
def tw13812200184660210019:=()
def tw13353368744659961814:=()
def tw9783232955966204442:=()
def tw16335213630220517584:=()
def tw13120246785894439331:=()
def tw2023943501610940885:=()
def tw5010519466891799928:=()
def tw6037093929759440368:=()
def tw7852518327130201436:=()
def tw8199079347965723217:=()
def tw6357319561696570557:=()
def tw14598161829889397524:=()
def tw11284483948492177571:=()
def tw11219396799246213538:=()
def tw8173820027515310184:=()
def tw3571802147023949753:=()
def tw8492292237764632028:=()
def tw1280688318003788760:=()
def tw1446174053219143852:=()
def tw16267023760129609333:=()
def tw370394342458432098:=()
def tw4231546565883277060:=()
def tw14526672275984808448:=()
def tw2430449815512521045:=()
def tw2601992802094205966:=()
def tw2861970633900513301:=()
def tw4868920878512891457:=()
def tw12283515048626444941:=()
def tw5717806280731118759:=()
def tw16530821092510729109:=()
def tw16339519531615513305:=()
def tw5680533788299763296:=()
def tw981342633474109522:=()
def tw8686453700864145775:=()
def tw13974737768134215651:=()
def tw11461450810084996169:=()
def tw30023331420411612:=()
def tw13713638633866316992:=()
def tw11632243763360281802:=()
def tw11603988915214159861:=()
def tw2327256046856198738:=()
def tw17206559309074386638:=()
def tw8595305077526609852:=()
def tw17369830846104757330:=()
def tw7985765150532110618:=()
def tw13997174298040852867:=()
def tw1287502326332618317:=()
def tw14201936911521048306:=()
def tw4329938305663437233:=()
def tw14720399500237591075:=()
def tw6549396275935321222:=()
def tw3551172460601373453:=()
def tw8112333510813509998:=()
def tw7286777912523956838:=()
def tw4520762900441429965:=()
def tw96444913308448693:=()
def tw605537526717061925:=()
def tw14608451868604313427:=()
def tw14604501180153532924:=()
end PySem.W.Fast
open PySem PySem.W PyProof.Rows
set_option maxRecDepth 100000 in
set_option maxHeartbeats 0 in
theorem PySem.Challenge.cw_reusewise_k78_whole_counts_are_holders_holds : PySem.Challenge.rw_reusewise_k78_whole_counts_are_holders.Holds := by
  w_on; o_law; k_head; (case hw=>w_witness2)
  k_fill
  refine L2.walk1 (l:=PySem.Challenge.rw_reusewise_k78_whole_counts_are_holders) (k:=11) rfl ⟨rfl,by decide,by decide⟩ rfl rfl (fun w h Y=>PySem.W.kIn_of Y) ?F
  case F =>
    intro w mg fa h KX G hm
    refine' Hv.top_ok (Hv.TopK.mk ?qav ?q8 ?qS ?qT ?qaa ?qn ?qaj ?qU ?qJ ?qV ?qW ?qo ?qi ?q6 ?qu ?qp ?qv ?qw ?qd ?qc ?qj ?qq ?qak ?qal ?dt ?qam ?qan ?dt2 ?qao ?qaD ?qaE ?qap ?qaF ?u_x ?qaG ?qaH ?qaI ?qaJ ?neR ?neB ?qaK ?qaL ?qaM ?qaN ?qae ?qaq ?qG ?qx ?qaf ?q9 ?qag ?qX ?qar ?qab ?q7 ?qas ?qA ?ql ?qy ?qf ?qac ?qm ?qr ?qB ?qK ?qz ?qg ?qa ?qH ?qh ?qb ?qY ?qs ?qe ?qZ ?qL ?qk ?q0 ?qM ?qC ?qN ?qt ?qO ?qP ?qD ?q1 ?qE ?qF ?qQ ?q2 ?qI ?q3 ?q4 ?qaw ?qax ?qat ?qah ?qR ?qay ?qad ?qaz ?qaA ?qau ?qaB ?qaC ?qai ?q5) KX G hm
    (case qav | qaa | qaj | q6=>(refine' L2.OwnIn.mk ?n ?pg ?hd ?po ?sa ?mks ?kp; (case n=>k_is); (case pg=>k_is); (case hd=>k_is); (case po=>k_is); (case sa=>k_is); (case mks=>k_is); (case kp=>k_is)))
    (case q8 | qS | qT | qn | qU | qJ | qV | qW | qo | qi | qu | qp | qv | qw | qd | qc | qj | qq | qao | qaE | qap | qaG | qaH | qaI | qax | qat | qah | qR | qay | qad | qaz | qaA | qau | qaB | qaC | qai=>k_is)
    (case qak | qal | qam | qan=>(refine' L2.MdIn.mk ?a ?l ?c ?k ?n; (case a=>k_is); (case l=>k_is); (case c=>k_is); (case k=>k_is); (case n=>k_is)))
    (case dt=>(refine' L2.DnIn.mk ?a; (case a=>k_is)))
    (case dt2=>(refine' L2.DbIn.mk ?a; (case a=>k_is)))
    (case qaD | qaF | u_x=>(first | kernel_rfl | rfl | decide +kernel))
    (case qaJ=>(refine' Hv.OcIn.mk ?a ?b; (case a=>k_is); (case b=>k_is)))
    (case neR | neB | qaK | qaL | qaM | qaN=>decide)
    (case qae | qaq | qG | qx | qaf | q9 | qag | qX | qar | qab | q7 | qas | qA | ql | qy | qf | qm | qr | qB | qK | qz | qg | qa | qH | qh | qb | qY | qs | qe | qZ | qL | qk | q0 | qM | qC | qN | qt | qO=>(refine' L2.MeIn.mk ?a ?l ?c ?k ?n; (case a=>k_is); (case l=>k_is); (case c=>k_is); (case k=>k_is); (case n=>k_is)))
    (case qac | qP | qD | q1 | qE | qF | qQ | q2 | qI | q3 | q4 | qaw=>(refine' L2.DfIn.mk ?a ?l ?c ?k; (case a=>k_is); (case l=>k_is); (case c=>k_is); (case k=>k_is)))
    (case q5=>(refine' L2.GiIn.mk ?a ?e; (case a=>k_is); (case e=>rfl)))
#print axioms PySem.Challenge.cw_reusewise_k78_whole_counts_are_holders_holds
