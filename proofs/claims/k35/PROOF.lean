import PyProof.Rows.All
import Wide.All
import OpenK.AllK
import Wide.FinOn
import Lean
import PyProof.EqAt
import PyProof.EqKinds
import PyProof.TupleCall
import PyProof.PassesOwn
import PyProof.StationsW
import OpenK.KCls
import PyProof.ExcAttrAll.ValueError
import PyProof.ExcClass3
import PyProof.WalksEnum
import PyProof.EnumMake
import PyProof.EnumFor
import PyProof.EnumStmt
import KE.KRevIter
import PyProof.AutoSeq1
import PyProof.FactsAll.list
import PyProof.MeetsStr
import PyProof.StrLawsTight
import PyProof.NeKinds
import PyProof.Rows.SumAny
import PyProof.SeqI3
import PyProof.ZipIter
import PyProof.WalksMore
import PyProof.ListNew
import PyProof.IsRules
import KE.KItemsList
import PyProof.StrBlockL
import PyProof.StrBlockI
import PyProof.StrBlock2
import PyProof.StrLawsIn
import PyProof.StrLawsChain
import PyProof.Rows.StrLast
import PyProof.Rows.StrItems
import KE.IntTextText
import KE.KLam
import KE.KNestM
import PyProof.FactsAll.object_1
import PyProof.CallType
import KE.KIntText
import KE.KDictList
import PyProof.IsiTupleOf
import KE.KDictSum
import PyProof.Rows.SortWalk
import KE.KDictOf
import PyProof.AttrMissHeap
import PyProof.Walks
import PyProof.DictUpdate
import PyProof.Cells
import PySem.Challenge.RW_reusewise_k35_ifs_and_cases
set_option Elab.async false
set_option linter.all false
set_option maxRecDepth 100000
set_option maxHeartbeats 4000000
namespace L2
open PySem PySem.Spec PyProof.Rows
abbrev Key := Sum Int Str
def wJ : Key -> Value -> Bool
 | .inl k, v => Value.isInt k v
 | .inr x, v => Value.isStrOf x v
def keyH (w : World) : Key -> Int
 | .inl k => hashInt k
 | .inr x => hashStr w x
theorem zS : ∀ {k : Key} {v : Value}, wJ k v = true -> (∃ i t, k = Sum.inl i /\ v = Value.int i t) \/ (∃ x t, k = Sum.inr x /\ v = Value.str x t)
 | .inl i, v, h => by
  obtain ⟨t, e⟩ := Value.isInt_shape (k := i) (v := v) h
  exact .inl ⟨i, t, rfl, e⟩
 | .inr x, v, h => by
  obtain ⟨t, e⟩ := Value.isStrOf_shape (x := x) (v := v) h
  exact .inr ⟨x, t, rfl, e⟩
theorem Yk (i : Int) (t : Tok) : wJ (.inl i) (.int i t) = true := by simp [wJ, Value.isInt]
theorem Yl (x : Str) (t : Tok) : wJ (.inr x) (.str x t) = true := by simp [wJ, Value.isStrOf]
theorem JK (a b : Int) : decide ((Sum.inl a : Key) = Sum.inl b) = (a == b) := by
 by_cases e : a = b
 ·subst e; simp
 ·have h : ¬ (Sum.inl a : Key) = Sum.inl b := fun q => e (Sum.inl.inj q)
  rw [decide_eq_false h]
  exact (beq_eq_false_iff_ne.mpr e).symm
theorem JL (a b : Str) : decide ((Sum.inr a : Key) = Sum.inr b) = decide (a = b) := by
 by_cases e : a = b
 ·subst e; simp
 ·have h : ¬ (Sum.inr a : Key) = Sum.inr b := fun q => e (Sum.inr.inj q)
  rw [decide_eq_false h, decide_eq_false e]
theorem JM (a : Int) (b : Str) : decide ((Sum.inl a : Key) = Sum.inr b) = false := decide_eq_false (fun q => nomatch q)
theorem JN (a : Str) (b : Int) : decide ((Sum.inr a : Key) = Sum.inl b) = false := decide_eq_false (fun q => nomatch q)
def zP (prog : Program) (w : World) : PySem.KeyKind prog w Key where
 is := wJ
 hash := keyH w
 inj := fun v a b ha hb => by
  rcases zS ha with ⟨i, t, rfl, rfl⟩ | ⟨x, t, rfl, rfl⟩
  ·rcases zS hb with ⟨j, u, rfl, e⟩ | ⟨y, u, rfl, e⟩
   ·injection e with e1 _; rw [e1]
   ·exact nomatch e
  ·rcases zS hb with ⟨j, u, rfl, e⟩ | ⟨y, u, rfl, e⟩
   ·exact nomatch e
   ·injection e with e1 _; rw [e1]
 byValue := fun k v h => by
  rcases zS h with ⟨i, t, rfl, rfl⟩ | ⟨x, t, rfl, rfl⟩ <;> rfl
 pyHash := fun hv h => by
  rcases zS hv with ⟨i, t, rfl, rfl⟩ | ⟨x, t, rfl, rfl⟩
  ·exact wpAny_pyHash_int h
  ·exact wpAny_pyHash_str h
 eqBool := fun hu hv h => by
  rcases zS hu with ⟨i, t, rfl, rfl⟩ | ⟨x, t, rfl, rfl⟩
  ·rcases zS hv with ⟨j, u, rfl, rfl⟩ | ⟨y, u, rfl, rfl⟩
   ·rw [JK] at h; exact wpAny_eqBool_int h
   ·rw [JM] at h; exact SeqAt.EqAt.int_str i t y u _ _ _ _ h
  ·rcases zS hv with ⟨j, u, rfl, rfl⟩ | ⟨y, u, rfl, rfl⟩
   ·rw [JN] at h; exact SeqAt.EqAt.str_int x t j u _ _ _ _ h
   ·rw [JL] at h; exact wpAny_eqBool_str h
 «strs» := fun k x t v h => by
  rcases zS h with ⟨i, u, rfl, e⟩ | ⟨y, u, rfl, e⟩
  ·exact nomatch e
  ·injection e with e1 _
   subst e1
   cases v <;> rfl
theorem vZ (prog : Program) (w : World) (i : Int) (t : Tok) : (zP prog w).is (.inl i) (.int i t) = true := Yk i t
theorem xT (prog : Program) (w : World) (x : Str) (t : Tok) : (zP prog w).is (.inr x) (.str x t) = true := Yl x t
end L2
namespace L2
open PySem PySem.Spec PyProof.Rows
inductive V where
 | non | bl (b : Bool) | int (i : Int) | str (x : Str) | byt (b : Array UInt8) | flt (b : UInt64) | ref (a : Addr) | ty (n : String)
 deriving DecidableEq
def RelV : V -> Value -> Prop
 | .non, u => u = Value.none
 | .bl b, u => u = Value.bool b
 | .int i, u => ∃ t, u = Value.int i t
 | .str x, u => ∃ t, u = Value.str x t
 | .byt b, u => ∃ t, u = Value.bytes b t
 | .flt b, u => ∃ t, u = Value.float b t
 | .ref a, u => u = Value.ref a
 | .ty n, u => u = Value.type n
abbrev Vals : List V -> List Value -> Prop := Paired RelV
theorem Vals.length {xs : List V} {us : List Value} (r : Vals xs us) : xs.length = us.length := Paired.length r
theorem Vals.get : ∀ {xs : List V} {us : List Value} {i : Nat} {x : V}, Vals xs us -> xs[i]? = some x -> ∃ u, us[i]? = some u /\ RelV x u
 | _, _, _, _, .nil, e => by simp at e
 | _, _, 0, _, .cons r _, e => by simp at e; subst e; exact ⟨_, rfl, r⟩
 | _, _, i + 1, x, .cons _ t, e => by
  obtain ⟨u, h1, h2⟩ := Vals.get (i := i) (x := x) t (by simpa using e)
  exact ⟨u, by simpa using h1, h2⟩
theorem Vals.set {x : V} {u : Value} (r : RelV x u) : ∀ {xs : List V} {us : List Value} (i : Nat), Vals xs us -> Vals (xs.set i x) (us.set i u)
 | _, _, _, .nil => .nil
 | _, _, 0, .cons _ t => .cons r t
 | _, _, i + 1, .cons q t => .cons q (Vals.set r i t)
theorem Vals.append : ∀ {xs ys : List V} {us ws : List Value}, Vals xs us -> Vals ys ws -> Vals (xs ++ ys) (us ++ ws)
 | _, _, _, _, .nil, s => s
 | _, _, _, _, .cons r t, s => .cons r (Vals.append t s)
theorem Vals.take : ∀ {xs : List V} {us : List Value} (n : Nat), Vals xs us -> Vals (xs.take n) (us.take n)
 | _, _, 0, _ => .nil
 | _, _, _ + 1, .nil => .nil
 | _, _, n + 1, .cons r t => .cons r (Vals.take n t)
theorem Vals.drop : ∀ {xs : List V} {us : List Value} (n : Nat), Vals xs us -> Vals (xs.drop n) (us.drop n)
 | _, _, 0, r => r
 | _, _, _ + 1, .nil => .nil
 | _, _, n + 1, .cons _ t => Vals.drop n t
def RelO : Option V -> Option Value -> Prop
 | some v, some u => RelV v u
 | none, none => True
 | _, _ => False
def KV {κ : Type} : List (κ × V) -> List (κ × Value) -> Prop := Paired fun (p : κ × V) (q : κ × Value) => p.1 = q.1 /\ RelV p.2 q.2
def kV : Key -> V
 | .inl i => .int i
 | .inr x => .str x
inductive HO where
 | lst (xs : List V)
 | tup (xs : List V)
 | dK (kvs : List (Key × V)) | dT (kvs : List (List Key × V))
 | set (S : Int -> Bool) (n : Nat)
 | ins (C dx : Addr) (fs : List (Str × V))
 | own (x : Addr)
 | xd (fs : List (Str × V))
 | met (f x : Addr)
 | rng (lo hi : Int)
 | frz (o : Obj) (u : HO)
 | tbl (ps : Array Value)
 | ext (φ : Heap -> Prop)
abbrev Hp := Addr -> Option HO
def upd (H : Hp) (a : Addr) (o : HO) : Hp := fun b => if b = a then some o else H b
theorem zg {H : Hp} {a : Addr} {o : HO} : upd H a o a = some o := by unfold upd; rw [if_pos rfl]
theorem zm {H : Hp} {a b : Addr} {o : HO} (h : b ≠ a) : upd H a o b = H b := by unfold upd; rw [if_neg h]
theorem ye {H : Hp} {a b : Addr} {o u : HO} (h : H a = some o) (h' : H b = some u) (d : o ≠ u) : a ≠ b := by
 intro e; subst e; rw [h] at h'; exact d (Option.some.inj h')
theorem zn {H : Hp} {a b : Addr} {o : HO} (h : H a = some o) (h' : H b = none) : a ≠ b := by
 intro e; subst e; rw [h] at h'; cases h'
def IsTupN (h : Heap) (a : Addr) (items : Array Value) : Prop := ∃ o, h.get? a = some o /\ o.cls = .type "tuple" /\ o.dict = none /\ ∃ n, o.data = .seq items n
theorem IsTupN.is {h : Heap} {a : Addr} {items : Array Value} (x : IsTupN h a items) : IsTup h a items := let ⟨o, a, b, _, c⟩ := x; ⟨o, a, b, c⟩
theorem IsTupN.new (h : Heap) (items : Array Value) : IsTupN (h.push { cls := .type "tuple", data := .seq items }) h.objs.size items := ⟨_, Heap.get?_push_size _ rfl, rfl, rfl, _, rfl⟩
section
variable (P : Program) (w : World)
def ObjOk (H : Hp) (h : Heap) (a : Addr) : HO -> Prop
 | .lst xs => xs.length <= sizeLine /\ ∃ (its : List Value) (n : Nat), Vals xs its /\ h.get? a = some { cls := .type "list", data := .seq its.toArray n }
 | .tup xs => xs.length <= sizeLine /\ ∃ its : List Value, Vals xs its /\ IsTupN h a its.toArray
 | .dK kvs => kvs.length <= sizeLine /\ (a == sysModules) = false /\ ∃ vs, KV kvs vs /\ h.DictOf (zP P w) a vs
 | .dT kvs => kvs.length <= sizeLine /\ (a == sysModules) = false /\ ∃ xs : List (List Key × Addr × Value),
   Paired (fun (p : List Key × V) (q : List Key × Addr × Value) => p.1 = q.1 /\ H q.2.1 = some (.tup (p.1.map kV)) /\ RelV p.2 q.2.2) kvs xs /\
   ∃ o es ep, h.get? a = some o /\ o.ExactDict /\ o.data = .dict es ep /\ es.toList = xs.map (entryOfKey (tupleKind (zP P w))) /\ (xs.map (·.1)).Nodup
 | .set S n => h.SetOf (intKind P w) a S n
 | .ins C dx fs => H dx = some (.own a) /\ fs.length <= 1000 /\ dx ≠ a /\ h.get? a = some (PySem.W.instObj C dx) /\
   ∃ mA, h.Ns1 dx mA /\ (∀ f, RelO (fs.lookup f) (mA f)) /\ PySem.Within mA (fs.map (·.1))
 | .own _ => ∃ o, h.get? a = some o
 | .xd fs => ∃ mA, h.Ns1 a mA /\ ∀ f, RelO (fs.lookup f) (mA f)
 | .rng lo hi => ∃ t u v, h.get? a = some { cls := .type "range", data := .fields #[.int lo t, .int hi u, .int 1 v] }
 | .frz o u => h.get? a = some o /\ ObjOk H h a u
 | .tbl ps => h.get? a = some { cls := .none, data := .fields ps }
 | .met f x => h.get? a = some (PySem.W.methodObj (.ref f) (.ref x))
 | .ext φ => φ h /\ (∃ o, h.get? a = some o) /\ ∀ h1 h2 : Heap, φ h1 -> (∀ o, h1.get? a = some o -> h2.get? a = some o) -> φ h2
def HOk (H : Hp) (h : Heap) : Prop := ∀ a o, H a = some o -> ObjOk P w H h a o
end
section
variable {P : Program} {w : World} {H H' : Hp} {h h' : Heap} {a : Addr} {o : HO}
theorem ObjOk.lt (x : ObjOk P w H h a o) : a < h.objs.size := by
 cases o with
 | lst xs => obtain ⟨_, _, _, _, e⟩ := x; exact Heap.lt_size e
 | tup xs => obtain ⟨_, _, _, p⟩ := x; exact p.is.lt
 | dK kvs => obtain ⟨_, _, _, _, o, _, _, e, _⟩ := x; exact Heap.lt_size e
 | dT kvs => obtain ⟨_, _, _, _, o, _, _, e, _⟩ := x; exact Heap.lt_size e
 | set S n => obtain ⟨o, _, _, _, e, _⟩ := x; exact Heap.lt_size e
 | ins C dx fs => obtain ⟨_, _, _, e, _⟩ := x; exact Heap.lt_size e
 | own y => obtain ⟨_, e⟩ := x; exact Heap.lt_size e
 | xd fs => obtain ⟨_, ⟨_, _, _, e, _⟩, _⟩ := x; exact Heap.lt_size e
 | rng lo hi => obtain ⟨_, _, _, e⟩ := x; exact Heap.lt_size e
 | frz ob u => obtain ⟨e, _⟩ := x; exact Heap.lt_size e
 | tbl ps => exact Heap.lt_size (show h.get? a = some _ from x)
 | met f y => exact Heap.lt_size (show h.get? a = some _ from x)
 | ext φ => obtain ⟨_, ⟨_, e⟩, _⟩ := x; exact Heap.lt_size e
theorem Paired.mapP {α β : Type} {F G : α -> β -> Prop} : ∀ {l₁ : List α} {l₂ : List β}, Paired F l₁ l₂ -> (∀ a b, F a b -> G a b) -> Paired G l₁ l₂
 | _, _, .nil, _ => .nil
 | _, _, .cons r t, f => .cons (f _ _ r) (Paired.mapP t f)
theorem ObjOk.stay (x : ObjOk P w H h a o) (k : ∀ b u, (b = a \/ H b = some (.own a)) -> h.get? b = some u -> h'.get? b = some u)
  (ho : ∀ b, H b = some (.own a) -> H' b = some (.own a)) (ht : ∀ b xs, H b = some (.tup xs) -> H' b = some (.tup xs)) : ObjOk P w H' h' a o := by
 induction o with
 | lst xs => obtain ⟨z, its, n, r, e⟩ := x; exact ⟨z, its, n, r, k _ _ (.inl rfl) e⟩
 | tup xs => obtain ⟨z, its, r, ob, e, c⟩ := x; exact ⟨z, its, r, ob, k _ _ (.inl rfl) e, c⟩
 | dK kvs => obtain ⟨z, y, vs, r, ob, es, ep, e, c⟩ := x; exact ⟨z, y, vs, r, ob, es, ep, k _ _ (.inl rfl) e, c⟩
 | dT kvs =>
  obtain ⟨z, y, xs, r, ob, es, ep, e, c⟩ := x
  exact ⟨z, y, xs, Paired.mapP r fun p q z => ⟨z.1, ht _ _ z.2.1, z.2.2⟩, ob, es, ep, k _ _ (.inl rfl) e, c⟩
 | set S n => obtain ⟨ob, es, ep, t, e, c⟩ := x; exact ⟨ob, es, ep, t, k _ _ (.inl rfl) e, c⟩
 | ins C dx fs =>
  obtain ⟨d, z, ne, e, mA, ⟨od, es, ep, e2, c⟩, r⟩ := x
  exact ⟨ho _ d, z, ne, k _ _ (.inl rfl) e, mA, ⟨od, es, ep, k _ _ (.inr d) e2, c⟩, r⟩
 | own y => obtain ⟨ob, e⟩ := x; exact ⟨ob, k _ _ (.inl rfl) e⟩
 | xd fs => obtain ⟨mA, ⟨od, es, ep, e, c⟩, r⟩ := x; exact ⟨mA, ⟨od, es, ep, k _ _ (.inl rfl) e, c⟩, r⟩
 | rng lo hi => obtain ⟨t, u, v, e⟩ := x; exact ⟨t, u, v, k _ _ (.inl rfl) e⟩
 | frz ob u ih => obtain ⟨e, q⟩ := x; exact ⟨k _ _ (.inl rfl) e, ih q⟩
 | tbl ps =>
  have e : h.get? a = some { cls := .none, data := .fields ps } := x
  show h'.get? a = some { cls := .none, data := .fields ps }
  exact k a _ (.inl rfl) e
 | met f y =>
  have e : h.get? a = some (PySem.W.methodObj (.ref f) (.ref y)) := x
  show h'.get? a = some (PySem.W.methodObj (.ref f) (.ref y))
  exact k a _ (.inl rfl) e
 | ext φ => obtain ⟨p, ⟨o, e⟩, st⟩ := x; exact ⟨st _ _ p fun o q => k _ _ (.inl rfl) q, ⟨o, k _ _ (.inl rfl) e⟩, st⟩
theorem HOk.lt (x : HOk P w H h) (e : H a = some o) : a < h.objs.size := (x a o e).lt
theorem HOk.fresh (x : HOk P w H h) (e : h.objs.size <= a) : H a = none := by
 cases q : H a with
 | none => rfl
 | some u => exact absurd (Nat.lt_of_lt_of_le (x.lt q) e) (Nat.lt_irrefl _)
theorem HOk.kept (x : HOk P w H h) (k : ∀ b u, h.get? b = some u -> h'.get? b = some u) : HOk P w H h' := fun a o e =>
 (x a o e).stay (fun b u _ q => k b u q) (fun _ q => q) fun _ _ q => q
theorem HOk.laid (x : HOk P w H h) (k : ∀ b u, h.get? b = some u -> h'.get? b = some u) (hp : h.objs.size <= a) (new : ObjOk P w (upd H a o) h' a o) : HOk P w (upd H a o) h' := fun b u e => by
 have hn := x.fresh hp
 by_cases hb : b = a
 ·subst hb; rw [zg] at e; cases e; exact new
 ·rw [zm hb] at e
  exact (x b u e).stay (fun c v _ q => k c v q) (fun c q => by rw [zm (zn q hn)]; exact q) fun c xs q => by rw [zm (zn q hn)]; exact q
end
def Rd (H : Hp) (a : Addr) (u : HO) : Prop := H a = some u \/ ∃ o, H a = some (.frz o u)
theorem Rd.ok {P : Program} {w : World} {H : Hp} {h : Heap} {a : Addr} {u : HO} (r : Rd H a u) (x : HOk P w H h) : ObjOk P w H h a u := by
 rcases r with r | ⟨o, r⟩
 ·exact x a u r
 ·obtain ⟨_, q⟩ := x a _ r
  exact q
def Mut : Option HO -> Prop
 | some (.lst _) => True
 | some (.dK _) => True
 | some (.dT _) => True
 | some (.set _ _) => True
 | some (.ins _ _ _) => True
 | some (.ext _) => True
 | _ => False
section
variable {P : Program} {w : World} {H : Hp} {h h' : Heap} {x e : Addr} {o' : HO}
theorem HOk.write (ok : HOk P w H h) (mu : Mut (H x)) (he : e = x \/ H e = some (.own x)) (k : ∀ b u, b ≠ e -> h.get? b = some u -> h'.get? b = some u) (heo : ∃ u, h'.get? e = some u)
  (new : ObjOk P w (upd H x o') h' x o') : HOk P w (upd H x o') h' := fun b u q => by
 have nown : ∀ c y, H c = some (.own y) -> c ≠ x := fun c y r z => by subst z; rw [r] at mu; exact mu
 have ntup : ∀ c xs, H c = some (.tup xs) -> c ≠ x := fun c xs r z => by subst z; rw [r] at mu; exact mu
 by_cases hb : b = x
 ·subst hb; rw [zg] at q; cases q; exact new
 ·rw [zm hb] at q
  by_cases hbe : b = e
  ·have q' : H b = some (.own x) := by
    rcases he with z | z
    ·exact absurd (hbe.trans z) hb
    ·rw [hbe]; exact z
   rw [q] at q'; cases q'
   obtain ⟨v, hv⟩ := heo
   exact ⟨v, by rw [hbe]; exact hv⟩
  ·refine (ok b u q).stay (fun c v hc r => k c v ?_ r) (fun c r => by rw [zm (nown c b r)]; exact r) fun c xs r => by rw [zm (ntup c xs r)]; exact r
   rcases hc with rfl | hc
   ·exact hbe
   ·rintro rfl
    rcases he with z | z
    ·exact nown c b hc z
    ·rw [hc] at z; cases z; exact hb rfl
end
structure Un (fs ex : List Addr) (H H' : Hp) (h h' : Heap) : Prop where
 keep : ∀ b o, h.get? b = some o -> H b = none -> b ∉ fs -> b ∉ ex -> h'.get? b = some o
 slot : ∀ b o, h.get? b = some o -> H b = none -> b ∈ fs -> b ∉ ex -> ∃ sl, h'.get? b = some { o with slots := sl }
 free : ∀ b o, h.get? b = some o -> H b = none -> b ∉ ex -> H' b = none
 there : ∀ b o, h.get? b = some o -> b ∉ ex -> ∃ o', h'.get? b = some o'
 tups : ∀ b xs, H b = some (.tup xs) -> H' b = some (.tup xs)
 frzs : ∀ b o u, H b = some (.frz o u) -> H' b = some (.frz o u)
 tbls : ∀ b ps, H b = some (.tbl ps) -> ∃ more, H' b = some (.tbl (ps ++ more))
section
variable {fs fs' ex ex' : List Addr} {H H1 H2 : Hp} {h h1 h2 h' : Heap} {a x e : Addr} {o : HO}
theorem Un.any (u : Un fs ex H H1 h h1) {b : Addr} {ob : Obj} (q : h.get? b = some ob) (n : H b = none) (hx : b ∉ ex) : ∃ sl, h1.get? b = some { ob with slots := sl } := by
 by_cases hb : b ∈ fs
 ·exact u.slot b ob q n hb hx
 ·exact ⟨ob.slots, u.keep b ob q n hb hx⟩
theorem Un.kept (k : ∀ b u, h.get? b = some u -> h'.get? b = some u) : Un fs ex H H h h' :=
 ⟨fun b ob q _ _ _ => k b ob q, fun b ob q _ _ _ => ⟨ob.slots, k b ob q⟩, fun _ _ _ n _ => n, fun b ob q _ => ⟨ob, k b ob q⟩, fun _ _ q => q, fun _ _ _ q => q, fun _ ps q => ⟨#[], by rw [q]; simp⟩⟩
theorem Un.refl : Un fs ex H H h h := Un.kept fun _ _ q => q
theorem Un.laid (k : ∀ b u, h.get? b = some u -> h'.get? b = some u) (hp : h.objs.size <= a) (hn : H a = none) : Un fs ex H (upd H a o) h h' where
 keep := fun b u q _ _ _ => k b u q
 slot := fun b u q _ _ _ => ⟨u.slots, k b u q⟩
 free := fun b u q n _ => by rw [zm (Nat.ne_of_lt (Nat.lt_of_lt_of_le (Heap.lt_size q) hp))]; exact n
 there := fun b u q _ => ⟨u, k b u q⟩
 tups := fun b xs q => by rw [zm (zn q hn)]; exact q
 frzs := fun b u xs q => by rw [zm (zn q hn)]; exact q
 tbls := fun b ps q => ⟨#[], by rw [zm (zn q hn), q]; simp⟩
theorem Un.write (mu : Mut (H x)) (he : e = x \/ H e = some (.own x)) (k : ∀ b u, b ≠ e -> h.get? b = some u -> h'.get? b = some u) (heo : ∃ u, h'.get? e = some u) : Un fs ex H (upd H x o) h h' := by
 have hx : ∀ b, H b = none -> b ≠ x := fun b n z => by subst z; rw [n] at mu; exact mu
 have hb : ∀ b, H b = none -> b ≠ e := fun b n z => by
  subst z
  rcases he with r | r
  ·exact hx b n r
  ·rw [n] at r; cases r
 have hm : ∀ b u, H b = some u -> ¬ Mut (some u) -> b ≠ x := fun b u q nm z => by subst z; rw [q] at mu; exact nm mu
 refine ⟨fun b u q n _ _ => k b u (hb b n) q, fun b u q n _ _ => ⟨u.slots, k b u (hb b n) q⟩, fun b u q n _ => by rw [zm (hx b n)]; exact n, fun b u q _ => ?_,
  fun b xs q => by rw [zm (hm b _ q fun z => z)]; exact q, fun b u xs q => by rw [zm (hm b _ q fun z => z)]; exact q, fun b ps q => ⟨#[], by rw [zm (hm b _ q fun z => z), q]; simp⟩⟩
 by_cases hbe : b = e
 ·subst hbe; exact heo
 ·exact ⟨u, k b u hbe q⟩
end
def trk (h : Heap) (H : Hp) : List Addr := (List.range h.objs.size).filter fun a => (H a).isSome
def hidT (h : Heap) (H : Hp) : Heap := PySem.W.hideAll h (trk h H)
theorem Ym (h : Heap) (H : Hp) : (hidT h H).objs.size = h.objs.size := PySem.W.hideAll_size _ _
theorem YT {h : Heap} {H : Hp} {b : Addr} {o : Obj} (e : h.get? b = some o) (n : H b = none) : (hidT h H).get? b = some o :=
 PySem.W.hideAll_get _ e fun hm => by
  have q : (H b).isSome = true := (List.mem_filter.mp hm).2
  rw [n] at q; simp at q
theorem WT {h : Heap} {H : Hp} {b : Addr} {o : Obj} (e : (hidT h H).get? b = some o) : h.get? b = some o /\ H b = none := by
 have e' : h.get? b = some o := PySem.W.of_hideAll (trk h H) e
 refine ⟨e', ?_⟩
 cases q : H b with
 | none => rfl
 | some x =>
  have hm : b ∈ trk h H := List.mem_filter.mpr ⟨List.mem_range.mpr (Heap.lt_size e'), by simp [q]⟩
  have z : (hidT h H).get? b = none := PySem.W.hideAll_none (trk h H) hm
  rw [z] at e; cases e
def WU (g h : Heap) (L : Addr) : List (Addr × Obj) := (List.range h.objs.size).filterMap fun a => if a = L \/ (g.get? a).isSome = true then none else (h.get? a).map fun o => (a, o)
def rest (g h : Heap) (L d : Addr) : List (Addr × Obj) := (WU g h L).filter fun p => decide (p.1 ≠ d)
end L2
namespace L2
open PySem PySem.Spec PyProof.Rows
structure Mod (K : PySem.W.Frag) (mg : Str -> Option Value) (base : Heap) : Prop where
 kin : K.In base
 glob : base.Ns mainGlobals mg
 blt : ∃ mb, base.Ns builtinsNs mb /\ ∀ x : Str, x ≠ "__name__" -> mb x = bootBuiltins x
 nolimit : base.NoLimit
structure Cx where
 prog : Program
 w : World
 K : PySem.W.Frag
 mg : Str -> Option Value
 base : Heap
 A : Around
 N : List Str
 s₀ : Shared
 H₀ : Hp
 env : Env
 outer : List Env
 stack : List Env
 ex : List Addr
 fn : Str -> Bool
 calm : Bool
 pn : List (Addr × Obj)
 xe : Value -> Shared -> Prop
def frs (l : List Env) : List Addr := l.filterMap (·.frame)
abbrev Cx.fs (X : Cx) : List Addr := frs X.outer
def Vis (sc : Scope) (x : Str) : Prop := sc.names.lookup x = some .local \/ sc.names.lookup x = some .cell \/ sc.names.lookup x = some .free
def Loc (sc : Scope) (x : Str) : Prop := sc.names.lookup x = some .local \/ sc.names.lookup x = some .cell
def Look (env : Env) (h : Heap) (m : Str -> Option Value) (x : Str) (u : Value) : Prop :=
 (env.kindOf x = some .local /\ m x = some u) \/ ((env.kindOf x = some .cell \/ env.kindOf x = some .free) /\ ∃ c, env.cells.lookup x = some c /\ h.IsCell c (some u))
structure Cx.Ok (X : Cx) : Prop where
 mod : Mod X.K X.mg X.base
 kind : X.env.scope.kind = .function
 glob : X.env.globals = mainGlobals
 blt : X.env.builtins = builtinsNs
 above : X.s₀.heap.objs.size <= X.env.locals
 inj : ∀ x y c, X.env.cells.lookup x = some c -> X.env.cells.lookup y = some c -> x = y
 has : ∀ x, (X.env.kindOf x = some .cell \/ X.env.kindOf x = some .free) -> ∃ c, X.env.cells.lookup x = some c
 cab : ∀ x c, X.fn x = true -> X.env.cells.lookup x = some c -> X.s₀.heap.objs.size <= c
 hd : X.calm = true -> X.A.handled = none
 frames : X.A.frames = some X.stack
 stk : X.stack = X.outer \/ (X.stack = X.env :: X.outer /\ X.env.frame = some X.env.locals)
 exf : ∀ b ∈ X.ex, b ≠ X.env.locals /\ ∀ x c, X.env.cells.lookup x = some c -> c ≠ b
 bs : ∀ b o, X.base.get? b = some o -> X.s₀.heap.get? b = some o /\ X.H₀ b = none
 bsz : X.base.objs.size <= X.s₀.heap.objs.size
 noex : ∀ b o, X.base.get? b = some o -> b ∉ X.ex
 exfs : ∀ b ∈ X.ex, b ∉ X.fs
 funs : X.s₀.heap.FunFrames X.base X.outer
 frf : ∀ b ∈ X.fs, X.H₀ b = none
structure Inv (X : Cx) (pins : List (Addr × Obj)) (σ : List (Option V)) (H : Hp) (s : Shared) : Prop where
 ok : X.Ok
 os : s.os = X.s₀.os
 bare : AllBare s.gens
 base : Un X.fs X.ex X.H₀ H X.s₀.heap s.heap
 loc : ∃ m, s.heap.Ns X.env.locals m /\ ∀ (i : Nat) (x : Str) (v : V), X.N[i]? = some x -> σ[i]? = some (some v) -> Vis X.env.scope x -> ∃ u, RelV v u /\ Look X.env s.heap m x u
 cell : ∀ x c, X.env.cells.lookup x = some c -> ∃ v, s.heap.IsCell c v
 free : H X.env.locals = none
 freeC : ∀ x c, X.env.cells.lookup x = some c -> H c = none
 pin : ∀ p ∈ X.pn ++ pins, s.heap.get? p.1 = some p.2 /\ H p.1 = none /\ p.1 ≠ X.env.locals /\ p.1 ∉ X.fs /\ ∀ v, p.2.data ≠ .cell v
 hok : HOk X.prog X.w H s.heap
 len : σ.length = X.N.length
section
variable {X : Cx} {pins : List (Addr × Obj)} {σ : List (Option V)} {H H' : Hp} {s : Shared} {h' : Heap}
theorem Cx.Ok.nofr (ok : X.Ok) {b : Addr} {o : Obj} (e : X.base.get? b = some o) : b ∉ X.fs := fun hb => by
 have := (ok.funs.mem hb).1
 rw [e] at this; cases this
theorem Inv.bs (I : Inv X pins σ H s) : ∀ b o, X.base.get? b = some o -> s.heap.get? b = some o /\ H b = none := fun b o e =>
 ⟨I.base.keep b o (I.ok.bs b o e).1 (I.ok.bs b o e).2 (I.ok.nofr e) (I.ok.noex b o e), I.base.free b o (I.ok.bs b o e).1 (I.ok.bs b o e).2 (I.ok.noex b o e)⟩
theorem Inv.bk (I : Inv X pins σ H s) : ∀ b o, X.base.get? b = some o -> s.heap.get? b = some o := fun b o e => (I.bs b o e).1
theorem Inv.mod (I : Inv X pins σ H s) : Mod X.K X.mg X.base := I.ok.mod
theorem Inv.kIn (I : Inv X pins σ H s) : X.K.In s.heap := I.ok.mod.kin.keeps I.bk
theorem Inv.lt (I : Inv X pins σ H s) : X.env.locals < s.heap.objs.size := let ⟨_, hn, _⟩ := I.loc; hn.lt
theorem Inv.sz (I : Inv X pins σ H s) : X.s₀.heap.objs.size <= s.heap.objs.size := Nat.le_trans I.ok.above (Nat.le_of_lt I.lt)
theorem Inv.nofs (I : Inv X pins σ H s) {a : Addr} (h : s.heap.objs.size <= a) : a ∉ X.fs := fun hb => by
 obtain ⟨_, o, ho, _⟩ := I.ok.funs.mem hb
 exact absurd (Nat.lt_of_lt_of_le (Heap.lt_size ho) (Nat.le_trans I.sz h)) (Nat.lt_irrefl _)
theorem Inv.cne (I : Inv X pins σ H s) : ∀ x c, X.env.cells.lookup x = some c -> c ≠ X.env.locals := fun x c e z => by
 obtain ⟨v, o, ho, hd⟩ := I.cell x c e
 obtain ⟨m, ⟨o', es, ep, ho', hd', _⟩, _⟩ := I.loc
 rw [z, ho'] at ho; cases ho; rw [hd'] at hd; cases hd
theorem Inv.funs (I : Inv X pins σ H s) : s.heap.FunFrames X.base X.outer := by
 have all : ∀ (l : List Env), (∀ b ∈ frs l, b ∈ X.fs) -> X.s₀.heap.FunFrames X.base l -> s.heap.FunFrames X.base l := by
  intro l
  induction l with
  | nil => intro _ _; trivial
  | cons env r ih =>
   intro hs hl
   obtain ⟨hk, ⟨L, o, hf, hn, ho, hd⟩, hr⟩ := hl
   have hL : L ∈ X.fs := hs L (by unfold frs; rw [List.filterMap_cons, hf]; exact List.mem_cons_self)
   obtain ⟨sl, e⟩ := I.base.slot L o ho (I.ok.frf L hL) hL fun z => I.ok.exfs L z hL
   exact ⟨hk, ⟨L, _, hf, hn, e, hd⟩, ih (fun b hb => hs b (by unfold frs; rw [List.filterMap_cons, hf]; exact List.mem_cons_of_mem _ hb)) hr⟩
 exact all X.outer (fun _ hb => hb) I.ok.funs
theorem Inv.stack (I : Inv X pins σ H s) : s.heap.FunFrames X.base X.stack := by
 rcases I.ok.stk with e | ⟨e, hf⟩
 ·rw [e]; exact I.funs
 ·rw [e]
  obtain ⟨m, hn, _⟩ := I.loc
  refine .cons (by rw [I.ok.kind]; decide) hf hn ?_ I.funs
  exact Heap.get?_none_of_le (Nat.le_trans I.ok.bsz I.ok.above)
theorem Inv.stkSub (I : Inv X pins σ H s) : ∀ b ∈ frs X.stack, b ∈ X.env.locals :: X.fs := fun b hb => by
 rcases I.ok.stk with e | ⟨e, hf⟩
 ·rw [e] at hb; exact List.mem_cons_of_mem _ hb
 ·rw [e] at hb
  unfold frs at hb
  rw [List.filterMap_cons, hf] at hb
  exact hb
theorem Inv.stkFree (I : Inv X pins σ H s) : ∀ b ∈ frs X.stack, H b = none := fun b hb => by
 rcases List.mem_cons.mp (I.stkSub b hb) with e | hb
 ·rw [e]; exact I.free
 ·obtain ⟨_, o, ho, _⟩ := I.ok.funs.mem hb
  exact I.base.free b o ho (I.ok.frf b hb) fun z => I.ok.exfs b z hb
theorem Inv.step {g' : Array GenState} {t' : Nat} {d' : Drawn} {ch : List Addr} (I : Inv X pins σ H s)
  (hch : ∀ b ∈ ch, (b ∈ X.ex \/ X.s₀.heap.objs.size <= b) /\ b ≠ X.env.locals /\ (∀ x c, X.env.cells.lookup x = some c -> c ≠ b) /\ ∀ p ∈ X.pn ++ pins, p.1 ≠ b)
  (keep : ∀ b o, b ≠ X.env.locals -> b ∉ X.fs -> b ∉ ch -> s.heap.get? b = some o -> H b = none -> h'.get? b = some o)
  (slot : ∀ b o, b ≠ X.env.locals -> b ∈ X.fs -> b ∉ ch -> s.heap.get? b = some o -> H b = none -> ∃ sl, h'.get? b = some { o with slots := sl }) (free : ∀ b o, b ∉ ch -> s.heap.get? b = some o -> H b = none -> H' b = none)
  (there : ∀ b o, b ∉ ch -> s.heap.get? b = some o -> ∃ o', h'.get? b = some o')
  (tups : ∀ b xs, H b = some (.tup xs) -> H' b = some (.tup xs)) (frzs : ∀ b o u, H b = some (.frz o u) -> H' b = some (.frz o u)) (tbls : ∀ b ps, H b = some (.tbl ps) -> ∃ more, H' b = some (.tbl (ps ++ more)))
  (ns : ∀ m, s.heap.Ns X.env.locals m -> h'.Ns X.env.locals m) (hok : HOk X.prog X.w H' h') (hg : AllBare g') :
  Inv X pins σ H' { s with heap := h', gens := g', drawn := d', toks := t' } := by
 have neL : ∀ b o, X.s₀.heap.get? b = some o -> b ≠ X.env.locals := fun b o e => Nat.ne_of_lt (Nat.lt_of_lt_of_le (Heap.lt_size e) I.ok.above)
 have neC : ∀ b o, X.s₀.heap.get? b = some o -> b ∉ X.ex -> b ∉ ch := fun b o e hx hb => by
  rcases (hch b hb).1 with z | z
  ·exact hx z
  ·exact absurd (Nat.lt_of_lt_of_le (Heap.lt_size e) z) (Nat.lt_irrefl _)
 have cellK : ∀ x c, X.env.cells.lookup x = some c -> ∀ v, s.heap.IsCell c v -> h'.IsCell c v := fun x c e v ⟨o, ho, hd⟩ => by
  have nch : c ∉ ch := fun z => (hch c z).2.2.1 x c e rfl
  by_cases hc : c ∈ X.fs
  ·obtain ⟨sl, q⟩ := slot c o (I.cne x c e) hc nch ho (I.freeC x c e)
   exact ⟨_, q, hd⟩
  ·exact ⟨o, keep c o (I.cne x c e) hc nch ho (I.freeC x c e), hd⟩
 refine ⟨I.ok, I.os, hg, ⟨fun b o e n hb hx => ?_, fun b o e n hb hx => ?_, fun b o e n hx => ?_, fun b o e hx => ?_, fun b xs e => tups b xs (I.base.tups b xs e), fun b o xs e => frzs b o xs (I.base.frzs b o xs e), fun b ps e => ?_⟩, ?_, fun x c e => ?_, ?_, fun x c e => ?_, fun p hp => ?_, hok, I.len⟩
 ·exact keep b o (neL b o e) hb (neC b o e hx) (I.base.keep b o e n hb hx) (I.base.free b o e n hx)
 ·obtain ⟨sl, e1⟩ := I.base.slot b o e n hb hx
  obtain ⟨sl', e2⟩ := slot b _ (neL b o e) hb (neC b o e hx) e1 (I.base.free b o e n hx)
  exact ⟨sl', e2⟩
 ·obtain ⟨o', e1⟩ := I.base.there b o e hx
  exact free b o' (neC b o e hx) e1 (I.base.free b o e n hx)
 ·obtain ⟨o', e1⟩ := I.base.there b o e hx
  exact there b o' (neC b o e hx) e1
 ·obtain ⟨m1, e1⟩ := I.base.tbls b ps e
  obtain ⟨m2, e2⟩ := tbls b _ e1
  exact ⟨m1 ++ m2, by rw [e2, Array.append_assoc]⟩
 ·obtain ⟨m, hn, hl⟩ := I.loc
  refine ⟨m, ns m hn, fun i x v e1 e2 e3 => ?_⟩
  obtain ⟨u, r, l⟩ := hl i x v e1 e2 e3
  refine ⟨u, r, ?_⟩
  rcases l with l | ⟨k, c, e, z⟩
  ·exact .inl l
  ·exact .inr ⟨k, c, e, cellK x c e _ z⟩
 ·obtain ⟨v, z⟩ := I.cell x c e
  exact ⟨v, cellK x c e v z⟩
 ·obtain ⟨m, ⟨o, _, _, ho, _⟩, _⟩ := I.loc
  exact free _ o (fun z => (hch _ z).2.1 rfl) ho I.free
 ·obtain ⟨v, o, ho, hd⟩ := I.cell x c e
  exact free c o (fun z => (hch c z).2.2.1 x c e rfl) ho (I.freeC x c e)
 ·obtain ⟨e, n, ne, nf, d⟩ := I.pin p hp
  have nch : p.1 ∉ ch := fun z => (hch p.1 z).2.2.2 p hp rfl
  exact ⟨keep p.1 p.2 ne nf nch e n, free p.1 p.2 nch e n, ne, nf, d⟩
theorem Inv.un {t' : Nat} (I : Inv X pins σ H s) (u : Un X.fs [] H H' s.heap h') (hok : HOk X.prog X.w H' h') : Inv X pins σ H' { s with heap := h', toks := t' } := by
 obtain ⟨m, ⟨o, es, ep, ho, r⟩, _⟩ := id I.loc
 obtain ⟨sl, hL⟩ := u.any ho I.free (by simp)
 exact I.step (g' := s.gens) (d' := s.drawn) (ch := []) (fun _ z => nomatch z) (fun b o _ hb _ e n => u.keep b o e n hb (by simp)) (fun b o _ hb _ e n => u.slot b o e n hb (by simp)) (fun b o _ e n => u.free b o e n (by simp)) (fun b o _ e => u.there b o e (by simp)) u.tups u.frzs u.tbls (fun m' hm => by
  obtain ⟨o', es', ep', ho', r'⟩ := hm
  rw [ho] at ho'; cases ho'
  exact ⟨_, es', ep', hL, r'⟩) hok I.bare
theorem Inv.call {g' : Array GenState} {t' : Nat} {d' : Drawn} {ch : List Addr} (I : Inv X pins σ H s) (u : Un (frs X.stack) ch H H' s.heap h') (hok : HOk X.prog X.w H' h') (hg : AllBare g')
  (hch : ∀ b ∈ ch, (b ∈ X.ex \/ X.s₀.heap.objs.size <= b) /\ b ≠ X.env.locals /\ (∀ x c, X.env.cells.lookup x = some c -> c ≠ b) /\ ∀ p ∈ X.pn ++ pins, p.1 ≠ b) :
  Inv X pins σ H' { s with heap := h', gens := g', drawn := d', toks := t' } := by
 obtain ⟨m, ⟨o, es, ep, ho, r⟩, _⟩ := id I.loc
 obtain ⟨sl, hL⟩ := u.any ho I.free fun z => (hch _ z).2.1 rfl
 exact I.step (ch := ch) hch (fun b o hL hb hc e n => u.keep b o e n (fun z => (List.mem_cons.mp (I.stkSub b z)).elim hL hb) hc) (fun b o _ _ hc e n => u.any e n hc) (fun b o hc e n => u.free b o e n hc) (fun b o hc e => u.there b o e hc) u.tups u.frzs u.tbls (fun m' hm => by
  obtain ⟨o', es', ep', ho', r'⟩ := hm
  rw [ho] at ho'; cases ho'
  exact ⟨_, es', ep', hL, r'⟩) hok hg
theorem Inv.turned {t' : Nat} {it : Addr} (I : Inv X pins σ H s) (k : ∀ b o, b ≠ it -> s.heap.get? b = some o -> h'.get? b = some o) (hn : H it = none) (hL : it ≠ X.env.locals)
  (h1 : it ∈ X.ex \/ X.s₀.heap.objs.size <= it) (h2 : ∀ x c, X.env.cells.lookup x = some c -> c ≠ it) (h3 : ∀ p ∈ X.pn ++ pins, p.1 ≠ it) : Inv X pins σ H { s with heap := h', toks := t' } := by
 have nit : ∀ b u, H b = some u -> b ≠ it := fun b u e z => by rw [z, hn] at e; cases e
 refine I.step (g' := s.gens) (d' := s.drawn) (ch := [it]) (fun b hb => ?_) (fun b o _ _ hc e _ => k b o (fun z => hc (by simp [z])) e) (fun b o _ _ hc e _ => ⟨o.slots, k b o (fun z => hc (by simp [z])) e⟩) (fun _ _ _ _ n => n)
  (fun b o hc e => ⟨o, k b o (fun z => hc (by simp [z])) e⟩) (fun _ _ e => e) (fun _ _ _ e => e) (fun b ps e => ⟨#[], by rw [e]; simp⟩) (fun m hm => ?_) (fun b u e => ?_) I.bare
 ·have e : b = it := by simpa using hb
  subst e
  exact ⟨h1, hL, h2, h3⟩
 ·obtain ⟨o, es, ep, ho, r⟩ := hm
  exact ⟨o, es, ep, k _ o (Ne.symm hL) ho, r⟩
 ·refine (I.hok b u e).stay (fun c v hc q => k c v ?_ q) (fun _ q => q) fun _ _ q => q
  rcases hc with z | z
  ·rw [z]; exact nit b u e
  ·exact nit c _ z
theorem Inv.tok (I : Inv X pins σ H s) (t : Nat) : Inv X pins σ H { s with toks := t } := I.un (h' := s.heap) (t' := t) Un.refl I.hok
theorem Inv.kept {t' : Nat} (I : Inv X pins σ H s) (k : ∀ b u, s.heap.get? b = some u -> h'.get? b = some u) : Inv X pins σ H { s with heap := h', toks := t' } := I.un (Un.kept k) (I.hok.kept k)
theorem Inv.laid {a : Addr} {o : HO} {t' : Nat} (I : Inv X pins σ H s) (k : ∀ b u, s.heap.get? b = some u -> h'.get? b = some u) (hp : s.heap.objs.size <= a) (new : ObjOk X.prog X.w (upd H a o) h' a o) :
  Inv X pins σ (upd H a o) { s with heap := h', toks := t' } := I.un (Un.laid k hp (I.hok.fresh hp)) (I.hok.laid k hp new)
theorem Inv.write {x e : Addr} {o : HO} {t' : Nat} (I : Inv X pins σ H s) (mu : Mut (H x)) (he : e = x \/ H e = some (.own x)) (k : ∀ b u, b ≠ e -> s.heap.get? b = some u -> h'.get? b = some u) (heo : ∃ u, h'.get? e = some u)
  (new : ObjOk X.prog X.w (upd H x o) h' x o) : Inv X pins σ (upd H x o) { s with heap := h', toks := t' } := I.un (Un.write mu he k heo) (I.hok.write mu he k heo new)
theorem Inv.pins_of {pins' : List (Addr × Obj)} (I : Inv X pins σ H s) (h : ∀ p ∈ pins', s.heap.get? p.1 = some p.2 /\ H p.1 = none /\ p.1 ≠ X.env.locals /\ p.1 ∉ X.fs /\ ∀ v, p.2.data ≠ .cell v) : Inv X pins' σ H s :=
 ⟨I.ok, I.os, I.bare, I.base, I.loc, I.cell, I.free, I.freeC, fun p hp => (List.mem_append.mp hp).elim (fun z => I.pin p (List.mem_append_left _ z)) (h p), I.hok, I.len⟩
theorem wc {N : List Str} (hN : N.Nodup) {i j : Nat} {x : Str} (a : N[i]? = some x) (b : N[j]? = some x) : i = j := by
 obtain ⟨h1, e1⟩ := List.getElem?_eq_some_iff.mp a
 obtain ⟨h2, e2⟩ := List.getElem?_eq_some_iff.mp b
 exact (List.getElem_inj hN).mp (e1.trans e2.symm)
theorem wK {M : Model} {A : Around} {E : Value -> Shared -> Prop} {i : Nat} {x : Str} {v : V} {u : Value} {Q : Unit -> Shared -> Prop} (I : Inv X pins σ H s) (hN : X.N.Nodup) (hi : X.N[i]? = some x) (hx : Loc X.env.scope x) (r : RelV v u)
  (h : ∀ s', Inv X pins (σ.set i (some v)) H s' -> (∃ a, Heap.SameBut a s.heap s'.heap /\ (a = X.env.locals \/ X.env.cells.lookup x = some a)) -> Q () s') (hf : X.fn x = true \/ X.env.scope.names.lookup x = some .local := by first | exact .inl rfl | exact .inr rfl | assumption) : wpAny M A (storeName X.env x u) Q E s := by
 obtain ⟨m, hn, hl⟩ := id I.loc
 have hcls : (X.env.scope.kind == .class || (X.env.scope.kind == .module && X.env.locals != X.env.globals)) = false := by rw [I.ok.kind]; rfl
 have hiσ : i < σ.length := by rw [I.len]; exact (List.getElem?_eq_some_iff.mp hi).1
 have cne := I.cne
 have tracked : ∀ {a : Addr} {h' : Heap}, (∃ o, s.heap.get? a = some o /\ H a = none) -> Heap.SameBut a s.heap h' -> HOk X.prog X.w H h' := fun {a h'} ha hs b ob e => by
  obtain ⟨_, _, hfree⟩ := ha
  refine (I.hok b ob e).stay (fun c w' hc q => (hs.2 c ?_).trans q) (fun _ q => q) fun _ _ q => q
  rintro rfl
  rcases hc with rfl | hc
  ·rw [hfree] at e; cases e
  ·rw [hfree] at hc; cases hc
 rcases hx with hk | hk
 ·refine wpAny_storeName_local hk hn (fun h' hn' hs => ?_) hcls
  obtain ⟨oL, _, _, hoL, _⟩ := id hn
  refine h _ ⟨I.ok, I.os, I.bare, ⟨fun b o e n hb hx => ?_, fun b o e n hb hx => ?_, I.base.free, fun b o e hx => ?_, I.base.tups, I.base.frzs, I.base.tbls⟩, ⟨_, hn', fun j y v' e1 e2 e3 => ?_⟩, fun y c e => ?_, I.free, I.freeC, fun p hp => ?_, tracked ⟨oL, hoL, I.free⟩ hs, by simpa using I.len⟩ ⟨_, hs, .inl rfl⟩
  ·exact (hs.2 b (Nat.ne_of_lt (Nat.lt_of_lt_of_le (Heap.lt_size e) I.ok.above))).trans (I.base.keep b o e n hb hx)
  ·obtain ⟨sl, e1⟩ := I.base.slot b o e n hb hx
   exact ⟨sl, (hs.2 b (Nat.ne_of_lt (Nat.lt_of_lt_of_le (Heap.lt_size e) I.ok.above))).trans e1⟩
  ·obtain ⟨o', e1⟩ := I.base.there b o e hx
   exact ⟨o', (hs.2 b (Nat.ne_of_lt (Nat.lt_of_lt_of_le (Heap.lt_size e) I.ok.above))).trans e1⟩
  ·by_cases hj : j = i
   ·subst hj
    rw [hi] at e1; cases e1
    rw [List.getElem?_set_self hiσ] at e2
    cases e2
    exact ⟨u, r, .inl ⟨hk, by simp⟩⟩
   ·rw [List.getElem?_set_ne (Ne.symm hj)] at e2
    obtain ⟨u', r', q⟩ := hl j y v' e1 e2 e3
    refine ⟨u', r', ?_⟩
    rcases q with ⟨k, e⟩ | ⟨k, c, e, z⟩
    ·refine .inl ⟨k, ?_⟩
     have : y ≠ x := fun e => hj (wc hN e1 (e ▸ hi))
     simp [this, e]
    ·exact .inr ⟨k, c, e, z.sameBut hs (cne y c e)⟩
  ·obtain ⟨w', z⟩ := I.cell y c e
   exact ⟨w', z.sameBut hs (cne y c e)⟩
  ·obtain ⟨e, n, ne, nf, d⟩ := I.pin p hp
   exact ⟨(hs.2 p.1 ne).trans e, n, ne, nf, d⟩
 ·have hfn : X.fn x = true := by
   rcases hf with z | z
   ·exact z
   ·rw [z] at hk; cases hk
  obtain ⟨c, hc⟩ := I.ok.has x (.inl hk)
  obtain ⟨w', z⟩ := I.cell x c hc
  refine wpAny_storeName_cell I.ok.kind hk hc z (fun h' hc' hs => ?_)
  obtain ⟨oc, hoc, hocd⟩ := id z
  refine h { s with heap := h' } ⟨I.ok, I.os, I.bare, ⟨fun b o e n hb hx => ?_, fun b o e n hb hx => ?_, I.base.free, fun b o e hx => ?_, I.base.tups, I.base.frzs, I.base.tbls⟩, ⟨m, hn.sameBut hs (Ne.symm (cne x c hc)), fun j y v' e1 e2 e3 => ?_⟩, fun y c' e => ?_, I.free, I.freeC, fun p hp => ?_, tracked ⟨oc, hoc, I.freeC x c hc⟩ hs, by simpa using I.len⟩ ⟨c, hs, .inr hc⟩
  ·exact (hs.2 b (Nat.ne_of_lt (Nat.lt_of_lt_of_le (Heap.lt_size e) (I.ok.cab x c hfn hc)))).trans (I.base.keep b o e n hb hx)
  ·obtain ⟨sl, e1⟩ := I.base.slot b o e n hb hx
   exact ⟨sl, (hs.2 b (Nat.ne_of_lt (Nat.lt_of_lt_of_le (Heap.lt_size e) (I.ok.cab x c hfn hc)))).trans e1⟩
  ·obtain ⟨o', e1⟩ := I.base.there b o e hx
   exact ⟨o', (hs.2 b (Nat.ne_of_lt (Nat.lt_of_lt_of_le (Heap.lt_size e) (I.ok.cab x c hfn hc)))).trans e1⟩
  ·by_cases hj : j = i
   ·subst hj
    rw [hi] at e1; cases e1
    rw [List.getElem?_set_self hiσ] at e2
    cases e2
    exact ⟨u, r, .inr ⟨.inl hk, c, hc, hc'⟩⟩
   ·rw [List.getElem?_set_ne (Ne.symm hj)] at e2
    obtain ⟨u', r', q⟩ := hl j y v' e1 e2 e3
    refine ⟨u', r', ?_⟩
    rcases q with q | ⟨k, c', e, z'⟩
    ·exact .inl q
    ·refine .inr ⟨k, c', e, z'.sameBut hs ?_⟩
     rintro rfl
     exact hj (wc hN e1 (I.ok.inj _ _ _ e hc ▸ hi))
  ·by_cases hcc : c' = c
   ·subst hcc; exact ⟨_, hc'⟩
   ·obtain ⟨w2, z2⟩ := I.cell y c' e
    exact ⟨w2, z2.sameBut hs hcc⟩
  ·obtain ⟨e, n, ne, nf, d⟩ := I.pin p hp
   refine ⟨(hs.2 p.1 ?_).trans e, n, ne, nf, d⟩
   intro q
   rw [q, hoc] at e
   have q' : oc = p.2 := Option.some.inj e
   exact d w' (by rw [<- q']; exact hocd)
theorem wd {M : Model} {A : Around} {E : Value -> Shared -> Prop} {i : Nat} {x : Str} {v : V} {u : Value} {Q : Unit -> Shared -> Prop} (I : Inv X pins σ H s) (hN : X.N.Nodup) (hi : X.N[i]? = some x) (hx : Loc X.env.scope x) (r : RelV v u)
  (h : ∀ s', Inv X pins (σ.set i (some v)) H s' -> Q () s') (hf : X.fn x = true \/ X.env.scope.names.lookup x = some .local := by first | exact .inl rfl | exact .inr rfl | assumption) : wpAny M A (storeName X.env x u) Q E s :=
 wK I hN hi hx r (fun s' I' _ => h s' I') hf
theorem Inv.call' {s' : Shared} {ch : List Addr} (I : Inv X pins σ H s) (ho : s'.os = s.os) (u : Un (frs X.stack) ch H H' s.heap s'.heap) (hok : HOk X.prog X.w H' s'.heap) (hg : AllBare s'.gens)
  (hch : ∀ b ∈ ch, (b ∈ X.ex \/ X.s₀.heap.objs.size <= b) /\ b ≠ X.env.locals /\ (∀ x c, X.env.cells.lookup x = some c -> c ≠ b) /\ ∀ p ∈ X.pn ++ pins, p.1 ≠ b) : Inv X pins σ H' s' := by
 obtain ⟨h', g', d', t', o'⟩ := s'
 have e : o' = s.os := ho
 subst e
 exact I.call (g' := g') (t' := t') (d' := d') u hok hg hch
end
abbrev XK := Value -> Option Addr -> Hp -> Prop
abbrev St := List (Option V)
abbrev VK := V -> Hp -> Prop
abbrev TE := St -> Hp -> VK -> Prop
abbrev TT := St -> Hp -> (Bool -> Hp -> Prop) -> Prop
abbrev TA := St -> Hp -> (List V -> Hp -> Prop) -> Prop
structure Ends where
 nx : St -> Hp -> Prop
 rt : VK
 bk : St -> Hp -> Prop := fun _ _ => False
 ct : St -> Hp -> Prop := fun _ _ => False
abbrev TS := Ends -> St -> Hp -> Prop
def EP (X : Cx) (pins : List (Addr × Obj)) (σ : St) (Q : VK) (u : Value) (s' : Shared) : Prop := ∃ v H', Inv X pins σ H' s' /\ RelV v u /\ Q v H'
def TP (X : Cx) (pins : List (Addr × Obj)) (σ : St) (Q : Bool -> Hp -> Prop) (b : Bool) (s' : Shared) : Prop := ∃ H', Inv X pins σ H' s' /\ Q b H'
def AP (X : Cx) (pins : List (Addr × Obj)) (σ : St) (Q : List V -> Hp -> Prop) (us : List Value) (s' : Shared) : Prop := ∃ vs H', Inv X pins σ H' s' /\ Vals vs us /\ Q vs H'
def SP (X : Cx) (pins : List (Addr × Obj)) (D : Ends) (f : Flow) (s' : Shared) : Prop :=
 match f with
 | .next => ∃ σ' H', Inv X pins σ' H' s' /\ D.nx σ' H'
 | .brk => ∃ σ' H', Inv X pins σ' H' s' /\ D.bk σ' H'
 | .cont => ∃ σ' H', Inv X pins σ' H' s' /\ D.ct σ' H'
 | .ret u => ∃ v σ' H', Inv X pins σ' H' s' /\ RelV v u /\ D.rt v H'
def PE (X : Cx) (e : Expr) (t : TE) : Prop :=
 ∀ (pins : List (Addr × Obj)) (s : Shared) (σ : St) (H : Hp) (Q : VK), Inv X pins σ H s -> t σ H Q -> wpAny (model X.prog X.w) X.A (eval e X.env) (EP X pins σ Q) X.xe s
def PT (X : Cx) (e : Expr) (t : TT) : Prop :=
 ∀ (pins : List (Addr × Obj)) (s : Shared) (σ : St) (H : Hp) (Q : Bool -> Hp -> Prop), Inv X pins σ H s -> t σ H Q -> wpAny (model X.prog X.w) X.A (isTrue e X.env (eval e X.env)) (TP X pins σ Q) X.xe s
def PW (X : Cx) (e : Expr) (t : TT) : Prop :=
 ∀ (whole : Sem Value) (pins : List (Addr × Obj)) (s : Shared) (σ : St) (H : Hp) (Q : Bool -> Hp -> Prop), Inv X pins σ H s -> t σ H Q -> wpAny (model X.prog X.w) X.A (isTrue e X.env whole) (TP X pins σ Q) X.xe s
theorem PW.pt {X : Cx} {e : Expr} {t : TT} (h : PW X e t) : PT X e t := h _
def PA (X : Cx) (es : List Expr) (t : TA) : Prop :=
 ∀ (pos : Pos) (pins : List (Addr × Obj)) (s : Shared) (σ : St) (H : Hp) (Q : List V -> Hp -> Prop), Inv X pins σ H s -> t σ H Q -> wpAny (model X.prog X.w) X.A (spliced (backTo pos (starEach es X.env))) (AP X pins σ Q) X.xe s
def PS (X : Cx) (st : Stmt) (t : TS) : Prop :=
 ∀ (pins : List (Addr × Obj)) (s : Shared) (σ : St) (H : Hp) (D : Ends), Inv X pins σ H s -> t D σ H -> wpAny (model X.prog X.w) X.A (exec st X.env) (SP X pins D) X.xe s
def PSs (X : Cx) (st : List Stmt) (t : TS) : Prop :=
 ∀ (pins : List (Addr × Obj)) (s : Shared) (σ : St) (H : Hp) (D : Ends), Inv X pins σ H s -> t D σ H -> wpAny (model X.prog X.w) X.A (execs st X.env) (SP X pins D) X.xe s
theorem thn {α : Type} {t : Sem α} {Q Q' : α -> Shared -> Prop} {M : Model} {A : Around} {E : Value -> Shared -> Prop} {s : Shared} (h : wpAny M A t Q E s) (hQ : ∀ a s, Q a s -> Q' a s) : wpAny M A t Q' E s := wpAny_mono h hQ fun _ _ x => x
end L2
namespace L2
open PySem PySem.Spec PyProof.Rows
section
variable {X : Cx}
def tVar (i : Nat) : TE := fun σ H Q => ∃ v, σ[i]? = some (some v) /\ Q v H
def tC (v : V) : TE := fun _ H Q => Q v H
theorem JO {i : Nat} {x : Str} {pos : Pos} (hN : X.N[i]? = some x) (hv : Vis X.env.scope x) (hd : (x == ("__debug__" : Str)) = false := by decide) (hcd : (x == ("__classdict__" : Str)) = false := by decide) : PE X (.Name x pos) (tVar i) := by
 intro pins s σ H Q I h
 obtain ⟨v, e, h⟩ := h
 obtain ⟨m, hn, hl⟩ := I.loc
 obtain ⟨u, r, l⟩ := hl i x v hN e hv
 have fin : EP X pins σ Q u s := ⟨v, H, I, r, h⟩
 rcases l with ⟨hk, hm⟩ | ⟨hk, c, hc, hcell⟩
 ·exact wpAny_Name (wpAny_loadName_local I.ok.kind hk hn hm fin) hd
 ·rcases hk with hk | hk
  ·exact wpAny_Name (wpAny_loadName_cell I.ok.kind hk hc hcell fin) hd
  ·exact wpAny_Name (wpAny_loadName_free I.ok.kind hk hc hcell fin hcd) hd
theorem JP {i j pos} : PE X (.Constant (.int i) j pos) (tC (.int i)) := fun _ _ _ H _ I h => wpAny_Constant_int ⟨.int i, H, I.tok _, ⟨_, rfl⟩, h⟩
theorem Qt {b j pos} : PE X (.Constant (.bool b) j pos) (tC (.bl b)) := fun _ _ _ H _ I h => Constant_bool ⟨.bl b, H, I, rfl, h⟩
theorem JQ {j pos} : PE X (.Constant .none j pos) (tC .non) := fun _ _ _ H _ I h => Constant_none ⟨.non, H, I, rfl, h⟩
theorem JR {x j pos} : PE X (.Constant (.str x) j pos) (tC (.str x)) := fun _ _ _ H _ I h => Calls.Constant_str ⟨.str x, H, I.tok _, ⟨_, rfl⟩, h⟩
def Gl (X : Cx) (x : Str) : Prop := X.env.kindOf x = some .globalImplicit
theorem y8 {E : Value -> Shared -> Prop} {pins : List (Addr × Obj)} {s : Shared} {σ : St} {H : Hp} {x : Str} {u : Value} {pos : Pos} {Q : Value -> Shared -> Prop} (I : Inv X pins σ H s) (hg : Gl X x) (hm : X.mg x = some u) (h : Q u s)
  (hd : (x == ("__debug__" : Str)) = false := by decide) : wpAny (model X.prog X.w) X.A (eval (.Name x pos) X.env) Q E s :=
 Calls.Name_function_global I.ok.kind hg (Calls.loadGlobal_global (by rw [I.ok.glob]; exact I.mod.glob.keeps I.bk) hm h) hd
theorem yF {E : Value -> Shared -> Prop} {pins : List (Addr × Obj)} {s : Shared} {σ : St} {H : Hp} {x : Str} {u : Value} {pos : Pos} {Q : Value -> Shared -> Prop} (I : Inv X pins σ H s) (hg : Gl X x) (hm : X.mg x = none) (hv : bootBuiltins x = some u) (h : Q u s)
  (hn : x ≠ "__name__" := by decide) (hd : (x == ("__debug__" : Str)) = false := by decide) : wpAny (model X.prog X.w) X.A (eval (.Name x pos) X.env) Q E s := by
 obtain ⟨mb, h1, h2⟩ := I.mod.blt
 exact Calls.Name_function_global I.ok.kind hg (Calls.loadGlobal_builtin (by rw [I.ok.glob]; exact I.mod.glob.keeps I.bk) hm (by rw [I.ok.blt]; exact h1.keeps I.bk) ((h2 x hn).trans hv) h) hd
theorem WV {x : Str} {v : V} {u : Value} {pos : Pos} (hg : Gl X x) (hm : X.mg x = none) (hv : bootBuiltins x = some u) (r : RelV v u) (hn : x ≠ "__name__" := by decide) (hd : (x == ("__debug__" : Str)) = false := by decide) : PE X (.Name x pos) (tC v) :=
 fun _ _ _ H _ I h => yF I hg hm hv ⟨v, H, I, r, h⟩ hn hd
variable {a b : Expr} {ta tb : TE} {pos : Pos}
def PC (X : Cx) (op : CmpOp) (a b : Expr) (t : TE) : Prop :=
 ∀ (pins : List (Addr × Obj)) (s : Shared) (σ : St) (H : Hp) (Q : VK), Inv X pins σ H s -> t σ H Q ->
  wpAny (model X.prog X.w) X.A (eval a X.env) (fun v s₁ => wpAny (model X.prog X.w) X.A (eval b X.env) (fun u s₂ => wpAny (model X.prog X.w) X.A (compareOp op v u) (EP X pins σ Q) X.xe s₂) X.xe s₁) X.xe s
theorem YU (b : Expr) {op : CmpOp} (h : op ≠ .In) (h2 : op ≠ .NotIn) : behindInMarks op b = false := by
 have e1 : (op == CmpOp.In) = false := by cases op <;> first | rfl | exact absurd rfl h
 have e2 : (op == CmpOp.NotIn) = false := by cases op <;> first | rfl | exact absurd rfl h2
 cases b <;> simp [behindInMarks, e1, e2]
def tIsN (ta : TE) : TE := fun σ H Q => ta σ H fun x H1 => Q (.bl (decide (x = .non))) H1
theorem RelV.none_iff {x : V} {v : Value} (r : RelV x v) : (v == Value.none) = decide (x = .non) := by
 cases x with
 | non => cases r; rfl
 | bl _ => cases r; rfl
 | int _ => obtain ⟨t, rfl⟩ := r; rfl
 | str _ => obtain ⟨t, rfl⟩ := r; rfl
 | byt _ => obtain ⟨t, rfl⟩ := r; rfl
 | flt _ => obtain ⟨t, rfl⟩ := r; rfl
 | ref _ => cases r; rfl
 | ty _ => cases r; rfl
theorem JS {j pos'} (ha : PE X a ta) : PC X .Is a (.Constant .none j pos') (tIsN ta) := by
 intro pins s σ H Q I h
 refine thn (ha pins s σ H _ I h) fun v s1 ⟨x, H1, I1, r1, q1⟩ => ?_
 exact Constant_none (is_none_gen ⟨.bl _, H1, I1, by rw [r1.none_iff]; rfl, q1⟩)
def tB (t : TE) : TT := fun σ H Q => t σ H fun x H1 => ∃ c, x = .bl c /\ Q c H1
theorem YV {op : CmpOp} {t : TE} (h : PC X op a b t) (h1 : behindInMarks op b = false := by first | exact YU _ (by decide) (by decide) | rfl) : PT X (.Compare a [op] [b] pos) (tB t) := by
 intro pins s σ H Q I hw
 refine wpAny_isTrue_Compare1 (thn (h pins s σ H _ I hw) fun v s1 h1 => thn h1 fun u s2 h2 => thn h2 fun c s3 ⟨x, H1, I1, r1, q1⟩ => ?_) h1
 obtain ⟨d, rfl, q⟩ := q1
 cases r1
 exact wpAny_truthy_bool ⟨H1, I1, q⟩
theorem JT {e : Expr} {t : TE} (h : PE X e t) (he : ∀ whole, isTrue e X.env whole = (do let v <- whole; standAt e.pos; holding [v] (truthy v)) := by intro _; rfl) : PT X e (tB t) := by
 intro pins s σ H Q I hw
 refine isTrue_plain (thn (h pins s σ H _ I hw) fun v s1 ⟨x, H1, I1, r1, q1⟩ => ?_) (he _)
 obtain ⟨d, rfl, q⟩ := q1
 cases r1
 exact wpAny_truthy_bool ⟨H1, I1, q⟩
variable {tA tB' : TT} {rest : List Expr}
def tAnd (t u : TT) : TT := fun σ H Q => t σ H fun c H1 => if c = true then u σ H1 Q else Q false H1
def tOr (t u : TT) : TT := fun σ H Q => t σ H fun c H1 => if c = true then Q true H1 else u σ H1 Q
def tNot (t : TT) : TT := fun σ H Q => t σ H fun c H1 => Q (!c) H1
theorem pw_and1 (ha : PT X a tA) : PW X (.BoolOp .And [a] pos) tA := by
 intro wh pins s σ H Q I h
 refine isTrue_and (thn (ha pins s σ H Q I h) fun c s1 e => ?_)
 cases c with
 | true => exact isTrue_and_nil e
 | false => exact e
theorem pw_or1 (ha : PT X a tA) : PW X (.BoolOp .Or [a] pos) tA := by
 intro wh pins s σ H Q I h
 refine isTrue_or (thn (ha pins s σ H Q I h) fun c s1 e => ?_)
 cases c with
 | false => exact isTrue_or_nil e
 | true => exact e
theorem pw_and (ha : PT X a tA) (hb : PW X (.BoolOp .And (b :: rest) pos) tB') : PW X (.BoolOp .And (a :: b :: rest) pos) (tAnd tA tB') := by
 intro wh pins s σ H Q I h
 refine isTrue_and (thn (ha pins s σ H _ I h) fun c s1 ⟨H1, I1, q1⟩ => ?_)
 cases c with
 | true => exact hb wh pins s1 σ H1 Q I1 q1
 | false => exact ⟨H1, I1, q1⟩
theorem pw_or (ha : PT X a tA) (hb : PW X (.BoolOp .Or (b :: rest) pos) tB') : PW X (.BoolOp .Or (a :: b :: rest) pos) (tOr tA tB') := by
 intro wh pins s σ H Q I h
 refine isTrue_or (thn (ha pins s σ H _ I h) fun c s1 ⟨H1, I1, q1⟩ => ?_)
 cases c with
 | true => exact ⟨H1, I1, q1⟩
 | false => exact hb wh pins s1 σ H1 Q I1 q1
theorem JU (ha : PT X a tA) : PT X (.UnaryOp .Not a pos) (tNot tA) := by
 intro pins s σ H Q I h
 exact isTrue_not (ha pins s σ H (fun c H1 => Q (!c) H1) I h)
def Jl (ta tb : TE) : TE := fun σ H Q => ta σ H fun x H1 => ∃ c, x = .bl c /\ if c = true then tb σ H1 Q else Q (.bl false) H1
def Jn (ta : TE) : TE := fun σ H Q => ta σ H fun x H1 => ∃ c, x = .bl c /\ Q (.bl (!c)) H1
theorem JV {op} {t : TE} (h : PE X a t) : PE X (.BoolOp op [a] pos) t := fun pins s σ H Q I hw => BoolOp_one (h pins s σ H Q I hw)
theorem JW (ha : PE X a ta) (hb : PE X (.BoolOp .And (b :: rest) pos) tb) : PE X (.BoolOp .And (a :: b :: rest) pos) (Jl ta tb) := by
 intro pins s σ H Q I h
 refine BoolOp_and (thn (ha pins s σ H _ I h) fun v s1 ⟨x, H1, I1, r1, q1⟩ => ?_)
 obtain ⟨c, rfl, q1⟩ := q1
 cases r1
 refine wpAny_truthy_bool ?_
 cases c with
 | true => exact hb pins s1 σ H1 Q I1 q1
 | false => exact ⟨.bl false, H1, I1, rfl, q1⟩
theorem JX (ha : PE X a ta) : PE X (.UnaryOp .Not a pos) (Jn ta) := by
 intro pins s σ H Q I h
 refine UnaryOp_ (thn (ha pins s σ H _ I h) fun v s1 ⟨x, H1, I1, r1, q1⟩ => ?_)
 obtain ⟨c, rfl, q1⟩ := q1
 cases r1
 exact not_of (wpAny_truthy_bool ⟨.bl (!c), H1, I1, rfl, q1⟩)
def tIf (t : TT) (ta tb : TE) : TE := fun σ H Q => t σ H fun c H1 => if c = true then ta σ H1 Q else tb σ H1 Q
theorem YW {c : Expr} (hc : PT X c tA) (ha : PE X a ta) (hb : PE X b tb) : PE X (.IfExp c a b pos) (tIf tA ta tb) := by
 intro pins s σ H Q I h
 refine wpAny_IfExp (thn (hc pins s σ H _ I h) fun d s1 ⟨H1, I1, q1⟩ => ?_)
 cases d with
 | true => exact ha pins s1 σ H1 Q I1 q1
 | false => exact hb pins s1 σ H1 Q I1 q1
end
end L2
namespace L2
open PySem PySem.Spec PyProof.Rows
def SqL (K : PySem.W.Frag) (H : Hp) (a : Addr) (xs : List V) : Prop :=
 Rd H a (.lst xs) \/
  ∃ (o : Obj) (its : Array Value) (n : Nat), K.lookup a = some o /\ o.cls = .type "list" /\ o.dict = none /\ o.data = .seq its n /\ its.size <= sizeLine /\ Vals xs its.toList
def SqT (K : PySem.W.Frag) (H : Hp) (a : Addr) (xs : List V) : Prop :=
 Rd H a (.tup xs) \/
  ∃ (o : Obj) (its : Array Value) (n : Nat), K.lookup a = some o /\ o.cls = .type "tuple" /\ o.data = .seq its n /\ its.size <= sizeLine /\ Vals xs its.toList
def absV : Value -> Option V
 | .none => some .non
 | .bool b => some (.bl b)
 | .int i _ => some (.int i)
 | .str x _ => some (.str x)
 | .bytes b _ => some (.byt b)
 | .float b _ => some (.flt b)
 | .ref a => some (.ref a)
 | .type n => some (.ty n)
 | _ => none
theorem RelV.abs {x : V} {u : Value} (r : RelV x u) : absV u = some x := by
 cases x with
 | non => cases r; rfl
 | bl _ => cases r; rfl
 | int _ => obtain ⟨t, rfl⟩ := r; rfl
 | str _ => obtain ⟨t, rfl⟩ := r; rfl
 | byt _ => obtain ⟨t, rfl⟩ := r; rfl
 | flt _ => obtain ⟨t, rfl⟩ := r; rfl
 | ref _ => cases r; rfl
 | ty _ => cases r; rfl
theorem RelV.inj {x y : V} {u : Value} (r : RelV x u) (q : RelV y u) : x = y := Option.some.inj (r.abs.symm.trans q.abs)
theorem Vals.inj : ∀ {xs ys : List V} {us : List Value}, Vals xs us -> Vals ys us -> xs = ys
 | _, _, _, .nil, .nil => rfl
 | _, _, _, .cons r t, .cons r' t' => by rw [r.inj r', Vals.inj t t']
section
variable {X : Cx} {pins : List (Addr × Obj)} {σ : St} {H : Hp} {s : Shared} {a : Addr} {xs ys : List V}
theorem SqL.of {K : PySem.W.Frag} (h : H a = some (.lst xs)) : SqL K H a xs := .inl (.inl h)
theorem SqT.of {K : PySem.W.Frag} (h : H a = some (.tup xs)) : SqT K H a xs := .inl (.inl h)
theorem Inv.list (I : Inv X pins σ H s) (h : SqL X.K H a xs) : ∃ its : List Value, Vals xs its /\ PlainL s.heap a its.toArray /\ xs.length <= sizeLine := by
 rcases h with h | ⟨o, its, n, hk, hc, hd, hs, hz, r⟩
 ·obtain ⟨z, its, n, r, e⟩ := h.ok I.hok
  exact ⟨its, r, ⟨_, n, e, rfl, rfl, rfl⟩, z⟩
 ·refine ⟨its.toList, r, ⟨o, n, I.kIn a o hk, hc, hd, by simpa using hs⟩, ?_⟩
  have e := r.length
  simp only [Array.length_toList] at e
  omega
theorem Inv.tuple (I : Inv X pins σ H s) (h : SqT X.K H a xs) : ∃ its : List Value, Vals xs its /\ IsTup s.heap a its.toArray /\ xs.length <= sizeLine := by
 rcases h with h | ⟨o, its, n, hk, hc, hs, hz, r⟩
 ·obtain ⟨z, its, r, p⟩ := h.ok I.hok
  exact ⟨its, r, p.is, z⟩
 ·refine ⟨its.toList, r, ⟨o, I.kIn a o hk, hc, n, by simpa using hs⟩, ?_⟩
  have e := r.length
  simp only [Array.length_toList] at e
  omega
theorem Inv.list_inj (I : Inv X pins σ H s) (h : SqL X.K H a xs) (h' : SqL X.K H a ys) : xs = ys := by
 obtain ⟨its, r, ⟨o, n, e, _, _, d⟩, _⟩ := I.list h
 obtain ⟨its', r', ⟨o', n', e', _, _, d'⟩, _⟩ := I.list h'
 rw [e] at e'; cases e'
 rw [d] at d'
 injection d' with d1 _
 have : its = its' := by simpa using congrArg Array.toList d1
 subst this
 exact r.inj r'
theorem Inv.tuple_inj (I : Inv X pins σ H s) (h : SqT X.K H a xs) (h' : SqT X.K H a ys) : xs = ys := by
 obtain ⟨its, r, ⟨o, e, _, n, d⟩, _⟩ := I.tuple h
 obtain ⟨its', r', ⟨o', e', _, n', d'⟩, _⟩ := I.tuple h'
 rw [e] at e'; cases e'
 rw [d] at d'
 injection d' with d1 _
 have : its = its' := by simpa using congrArg Array.toList d1
 subst this
 exact r.inj r'
end
abbrev Cx.wish (X : Cx) (E : Value -> Shared -> Prop) : Cx := { X with xe := E }
abbrev Cx.nox (X : Cx) : Cx := X.wish fun _ _ => False
theorem Cx.Ok.wish {X : Cx} (ok : X.Ok) (E : Value -> Shared -> Prop) : (X.wish E).Ok :=
 ⟨ok.mod, ok.kind, ok.glob, ok.blt, ok.above, ok.inj, ok.has, ok.cab, ok.hd, ok.frames, ok.stk, ok.exf, ok.bs, ok.bsz, ok.noex, ok.exfs, ok.funs, ok.frf⟩
theorem Cx.Ok.unwish {X : Cx} {E : Value -> Shared -> Prop} (ok : (X.wish E).Ok) : X.Ok :=
 ⟨ok.mod, ok.kind, ok.glob, ok.blt, ok.above, ok.inj, ok.has, ok.cab, ok.hd, ok.frames, ok.stk, ok.exf, ok.bs, ok.bsz, ok.noex, ok.exfs, ok.funs, ok.frf⟩
section
variable {X : Cx} {pins : List (Addr × Obj)} {σ : St} {H : Hp} {s : Shared} {E : Value -> Shared -> Prop}
theorem Inv.wish (I : Inv X pins σ H s) (E : Value -> Shared -> Prop) : Inv (X.wish E) pins σ H s := ⟨I.ok.wish E, I.os, I.bare, I.base, I.loc, I.cell, I.free, I.freeC, I.pin, I.hok, I.len⟩
theorem Inv.unwish (I : Inv (X.wish E) pins σ H s) : Inv X pins σ H s := ⟨I.ok.unwish, I.os, I.bare, I.base, I.loc, I.cell, I.free, I.freeC, I.pin, I.hok, I.len⟩
theorem SP.unwish {D : Ends} {f : Flow} {s' : Shared} (h : SP (X.wish E) pins D f s') : SP X pins D f s' := by
 cases f with
 | next => obtain ⟨σ', H', I, q⟩ := h; exact ⟨σ', H', I.unwish, q⟩
 | brk => obtain ⟨σ', H', I, q⟩ := h; exact ⟨σ', H', I.unwish, q⟩
 | cont => obtain ⟨σ', H', I, q⟩ := h; exact ⟨σ', H', I.unwish, q⟩
 | ret u => obtain ⟨v, σ', H', I, r, q⟩ := h; exact ⟨v, σ', H', I.unwish, r, q⟩
theorem PSs.nox {st : List Stmt} {t : TS} (h : PSs X.nox st t) : PSs X st t := fun pins s σ H D I hw =>
 wpAny_mono (h pins s σ H D (I.wish _) hw) (fun _ _ q => q.unwish) fun _ _ z => False.elim z
end
section
variable {X : Cx} {st : Stmt} {rest : List Stmt} {t u : TS} {e : Expr} {te : TE} {pos : Pos}
def YX : TS := fun D σ H => D.nx σ H
def tSeq (t u : TS) : TS := fun D σ H => t { D with nx := u D } σ H
theorem WW : PSs X [] YX := fun _ _ σ H _ I h => wpAny_execs_nil ⟨σ, H, I, h⟩
theorem YY (h1 : PS X st t) (h2 : PSs X rest u) : PSs X (st :: rest) (tSeq t u) := by
 intro pins s σ H D I h
 refine wpAny_execs_cons (thn (h1 pins s σ H { D with nx := u D } I h) fun f s1 q => ?_)
 cases f with
 | next =>
  obtain ⟨σ', H', I', q⟩ := q
  exact h2 pins s1 σ' H' D I' q
 | ret v => exact q
 | brk => exact q
 | cont => exact q
theorem WX (h1 : PS X st t) : PSs X [st] t := by
 intro pins s σ H D I h
 refine wpAny_execs_cons (thn (h1 pins s σ H D I h) fun f s1 q => ?_)
 cases f with
 | next => exact wpAny_execs_nil q
 | ret v => exact q
 | brk => exact q
 | cont => exact q
theorem Inv.quiet {pins : List (Addr × Obj)} {σ : St} {H : Hp} {s : Shared} (I : Inv X pins σ H s) : interactive X.env = false := by simp [interactive, I.ok.kind]
def Jo (te : TE) : TS := fun D σ H => te σ H fun _ H1 => D.nx σ H1
theorem WY (he : PE X e te) (hs : swapsWith e none pos.line X.env = pure false := by rfl) : PS X (.Expr e pos) (Jo te) := by
 intro pins s σ H D I h
 exact wpAny_Expr_any (thn (he pins s σ H _ I h) fun v s1 ⟨x, H1, I1, r1, q1⟩ => ⟨σ, H1, I1, q1⟩) I.quiet hs
def tRet (te : TE) : TS := fun D σ H => te σ H D.rt
theorem JY (he : PE X e te) : PS X (.Return (some e) pos) (tRet te) := by
 intro pins s σ H D I h
 exact wpAny_Return_some (thn (he pins s σ H _ I h) fun v s1 ⟨x, H1, I1, r1, q1⟩ => ⟨x, σ, H1, I1, r1, q1⟩)
def tIfS (c : TT) (t u : TS) : TS := fun D σ H => c σ H fun b H1 => if b = true then t D σ H1 else u D σ H1
theorem Qu {c : Expr} {a b : List Stmt} {tc : TT} (hc : PT X c tc) (ha : PSs X a t) (hb : PSs X b u) : PS X (.If c a b pos) (tIfS tc t u) := by
 intro pins s σ H D I h
 refine wpAny_If (thn (hc pins s σ H _ I h) fun d s1 ⟨H1, I1, q1⟩ => ?_)
 cases d with
 | true => exact ha pins s1 σ H1 D I1 q1
 | false => exact hb pins s1 σ H1 D I1 q1
end
abbrev TG := V -> St -> Hp -> (St -> Hp -> Prop) -> Prop
abbrev TGs := List V -> St -> Hp -> (St -> Hp -> Prop) -> Prop
def PG (X : Cx) (target : Expr) (t : TG) : Prop :=
 ∀ (pins : List (Addr × Obj)) (s : Shared) (σ : St) (H : Hp) (v : V) (u : Value) (Q : St -> Hp -> Prop), Inv X pins σ H s -> RelV v u -> t v σ H Q ->
  wpAny (model X.prog X.w) X.A (assign target X.env u) (fun _ s' => ∃ σ' H', Inv X pins σ' H' s' /\ Q σ' H') X.xe s
def PGs (X : Cx) (ts : List Expr) (t : TGs) : Prop :=
 ∀ (pins : List (Addr × Obj)) (s : Shared) (σ : St) (H : Hp) (vs : List V) (us : List Value) (Q : St -> Hp -> Prop), Inv X pins σ H s -> Vals vs us -> t vs σ H Q ->
  wpAny (model X.prog X.w) X.A (assignInOrder ((assignEach ts X.env).map (·.2)) us) (fun _ s' => ∃ σ' H', Inv X pins σ' H' s' /\ Q σ' H') X.xe s
abbrev TSet := V -> V -> V -> Hp -> (Hp -> Prop) -> Prop
def PSet (X : Cx) (t : TSet) : Prop :=
 ∀ (pins : List (Addr × Obj)) (s : Shared) (σ : St) (H : Hp) (o i v : V) (ov iv u : Value) (Q : Hp -> Prop), Inv X pins σ H s -> RelV o ov -> RelV i iv -> RelV v u -> t o i v H Q ->
  wpAny (model X.prog X.w) X.A (setItem ov iv u) (fun _ s' => ∃ H', Inv X pins σ H' s' /\ Q H') X.xe s
section
variable {X : Cx} {pos : Pos}
def wL (i : Nat) : TG := fun v σ H Q => Q (σ.set i (some v)) H
theorem WZ {i : Nat} {x : Str} (hN : X.N.Nodup) (hi : X.N[i]? = some x) (hx : Loc X.env.scope x) (hf : X.fn x = true \/ X.env.scope.names.lookup x = some .local := by first | exact .inl rfl | exact .inr rfl | assumption) : PG X (.Name x pos) (wL i) := by
 intro pins s σ H v u Q I r h
 exact wpAny_assign_Name (wd I hN hi hx r (fun s' I' => ⟨_, H, I', h⟩) hf)
def gNil : TGs := fun vs σ H Q => vs = [] /\ Q σ H
def Zt (t : TG) (u : TGs) : TGs := fun vs σ H Q => ∃ v r, vs = v :: r /\ t v σ H fun σ' H' => u r σ' H' Q
theorem W0 : PGs X [] gNil := by
 intro pins s σ H vs us Q I r h
 obtain ⟨e, h⟩ := h
 subst e
 cases r
 exact assignInOrder_nil ⟨σ, H, I, h⟩
theorem YZ {e : Expr} {es : List Expr} {t : TG} {u : TGs} (h1 : PG X e t) (h2 : PGs X es u)
  (hs : (assignEach (e :: es) X.env).map (·.2) = assign e X.env :: (assignEach es X.env).map (·.2) := by rfl) : PGs X (e :: es) (Zt t u) := by
 intro pins s σ H vs us Q I r h
 obtain ⟨v, vr, e1, h⟩ := h
 subst e1
 cases r with
 | cons r rr =>
  rw [hs]
  refine assignInOrder_cons (thn (h1 pins s σ H _ _ _ I r h) fun _ s1 ⟨σ1, H1, I1, q1⟩ => ?_)
  exact h2 pins s1 σ1 H1 _ _ Q I1 rr q1
def gTup (K : PySem.W.Frag) (n : Nat) (t : TGs) : TG := fun v σ H Q => ∃ a xs, v = .ref a /\ SqT K H a xs /\ xs.length = n /\ t xs σ H Q
theorem JZ {es : List Expr} {k : Nat} {t : TGs} {n : Nat} (hc : X.calm = true) (h : PGs X es t)
  (hn : (assignEach es X.env).length = n := by rfl) (hst : (assignEach es X.env).findIdx? (·.1) = none := by rfl) : PG X (.Tuple es k pos) (gTup X.K n t) := by
 intro pins s σ H v u Q I r hw
 obtain ⟨a, xs, e1, hq, hl, hw⟩ := hw
 subst e1
 cases r
 obtain ⟨its, rv, ht, hz⟩ := I.tuple hq
 refine assign_Tuple_tuple (I.ok.hd hc) ht (by simp [hn, <- hl, rv.length]) hst fun h' hx => ?_
 have I1 : Inv X pins σ H { s with heap := h' } := I.kept (t' := s.toks) fun b o e => hx b o (Nat.ne_of_lt (Heap.lt_size e)) e
 exact h pins _ σ H xs _ Q I1 (by simpa using rv) hw
def gSub (to ti : TE) (t : TSet) : TG := fun v σ H Q => to σ H fun o H1 => ti σ H1 fun i H2 => t o i v H2 fun H3 => Q σ H3
theorem J0 {o i : Expr} {to ti : TE} {t : TSet} (ho : PE X o to) (hi : PE X i ti) (hs : PSet X t)
  (ha : ∀ v, assign (.Subscript o i pos) X.env v = (do
   let ov <- holding [v] (eval o X.env)
   let iv <- holding [v, ov] (eval i X.env)
   standAt pos
   holding [v, ov, iv] (setItem ov iv v)
   release [v, ov, iv] []) := by intro _; rfl) : PG X (.Subscript o i pos) (gSub to ti t) := by
 intro pins s σ H v u Q I r h
 rw [ha]
 refine wpAny_bind (wpAny_holding (thn (ho pins s σ H _ I h) fun ov s1 ⟨x, H1, I1, r1, q1⟩ => ?_))
 refine wpAny_bind (wpAny_holding (thn (hi pins s1 σ H1 _ I1 q1) fun iv s2 ⟨y, H2, I2, r2, q2⟩ => ?_))
 refine wpAny_bind (wpAny_standAt (wpAny_bind (wpAny_holding (thn (hs pins s2 σ H2 x y v ov iv u _ I2 r1 r2 r q2) fun _ s3 ⟨H3, I3, q3⟩ => ?_))))
 exact wpAny_release ⟨σ, H3, I3, q3⟩
def tAsg (te : TE) (g : TG) : TS := fun D σ H => te σ H fun x H1 => g x σ H1 D.nx
theorem J2 {tg e : Expr} {te : TE} {g : TG} (he : PE X e te) (hg : PG X tg g) (hs : swapsWithSole [tg] e pos.line X.env = pure false := by rfl) (hw : swappedStores [tg] e X.env = pure none := by rfl)
  (h1 : (assignEach [tg] X.env).map (·.2) = [assign tg X.env] := by rfl) : PS X (.Assign [tg] e pos) (tAsg te g) := by
 intro pins s σ H D I h
 refine wpAny_Assign_stores (thn (he pins s σ H _ I h) fun v s1 ⟨x, H1, I1, r1, q1⟩ => ?_) hs hw
 rw [h1]
 exact thn (hg pins s1 σ H1 x v _ I1 r1 q1) fun _ s2 q => q
theorem J6 {i : Nat} {x : Str} {e : Expr} {te : TE} {pos' : Pos} (hN : X.N.Nodup) (hi : X.N[i]? = some x) (hx : Loc X.env.scope x) (he : PE X e te) (hs : swapsWith e (some (.Name x pos')) pos.line X.env = pure false := by rfl) (hf : X.fn x = true \/ X.env.scope.names.lookup x = some .local := by first | exact .inl rfl | exact .inr rfl | assumption) :
  PS X (.Assign [.Name x pos'] e pos) (tAsg te (wL i)) := by
 intro pins s σ H D I h
 refine wpAny_Assign_Name (thn (he pins s σ H _ I h) fun v s1 ⟨y, H1, I1, r1, q1⟩ => ?_) hs
 exact wd I1 hN hi hx r1 (fun s2 I2 => ⟨_, H1, I2, q1⟩) hf
end
section
variable {X : Cx} {pos : Pos}
def vm (c : TT) (tb : TS) : TS := fun D σ H => ∃ W : Nat -> St -> Hp -> Prop, (∃ m, W m σ H) /\ ∀ m σ H, W m σ H ->
 c σ H fun b H1 => if b = true then ∃ N : St -> Hp -> Prop, (∀ σ' H', N σ' H' -> ∃ m', m' < m /\ W m' σ' H') /\ tb { D with nx := N, ct := N, bk := D.nx } σ H1 else D.nx σ H1
theorem Y0 {c : Expr} {body : List Stmt} {tc : TT} {tb : TS} (hp : PassesOwn (model X.prog X.w) X.A X.env X.xe) (hc : PT X c tc) (hb : PSs X body tb) : PS X (.While c body [] pos) (vm tc tb) := by
 intro pins s σ H D I h
 obtain ⟨W, ⟨m0, w0⟩, turn⟩ := h
 refine wpAny_While (codeAny_whileLoop (fun n s' => ∃ σ' H', Inv X pins σ' H' s' /\ W n σ' H') ?_ m0 ⟨σ, H, I, w0⟩)
 rintro n s1 ⟨σ1, H1, I1, w1⟩
 refine wpAny_passesOwn hp (thn (hc pins s1 σ1 H1 _ I1 (turn n σ1 H1 w1)) fun b s2 ⟨H2, I2, q2⟩ => ?_)
 cases b with
 | true =>
  obtain ⟨N, hN, q2⟩ := q2
  rw [if_pos rfl]
  refine wpAny_passesOwn hp (thn (hb pins s2 σ1 H2 _ I2 q2) fun f s3 q3 => ?_)
  cases f with
  | next =>
   obtain ⟨σ3, H3, I3, n3⟩ := q3
   obtain ⟨m', hm, w3⟩ := hN σ3 H3 n3
   exact ⟨m', hm, σ3, H3, I3, w3⟩
  | cont =>
   obtain ⟨σ3, H3, I3, n3⟩ := q3
   obtain ⟨m', hm, w3⟩ := hN σ3 H3 n3
   exact ⟨m', hm, σ3, H3, I3, w3⟩
  | brk => exact q3
  | ret v => exact q3
 | false =>
  rw [if_neg Bool.false_ne_true]
  exact wpAny_execs_nil ⟨σ1, H2, I2, q2⟩
end
structure It where
 go : Nat -> Hp -> Prop
 yld : Nat -> Hp -> V -> Hp -> Prop
 stop : Nat -> Hp -> Prop
def FpOk (X : Cx) (pins : List (Addr × Obj)) (H : Hp) (b : Addr) : Prop :=
 H b = none /\ b ≠ X.env.locals /\ b ∉ X.fs /\ (b ∈ X.ex \/ X.s₀.heap.objs.size <= b) /\ (∀ x c, X.env.cells.lookup x = some c -> c ≠ b) /\ ∀ p ∈ X.pn ++ pins, p.1 ≠ b
theorem Inv.fpOk {X : Cx} {pins : List (Addr × Obj)} {σ : St} {H H' : Hp} {s : Shared} {b : Addr} (I : Inv X pins σ H s) (hb : s.heap.objs.size <= b) (hn : H' b = none) : FpOk X pins H' b := by
 refine ⟨hn, Nat.ne_of_gt (Nat.lt_of_lt_of_le I.lt hb), I.nofs hb, .inr (Nat.le_trans I.sz hb), fun x c e z => ?_, fun p hp z => ?_⟩
 ·obtain ⟨v, q⟩ := I.cell x c e
  exact absurd (Nat.lt_of_lt_of_le q.lt (by rw [z]; exact hb)) (Nat.lt_irrefl _)
 ·exact absurd (Nat.lt_of_lt_of_le (Heap.lt_size (I.pin p hp).1) (by rw [z]; exact hb)) (Nat.lt_irrefl _)
structure Turn (P : Program) (w : World) (K : PySem.W.Frag) (tg : Expr) (J : It) (fp : List Addr) (it : Addr) (tn : Nat -> Heap -> Prop) : Prop where
 mem : it ∈ fp
 obj : ∀ i h, tn i h -> ∀ b ∈ fp, ∃ o, h.get? b = some o /\ ∀ v, o.data ≠ .cell v
 keep : ∀ i h h', tn i h -> (∀ b ∈ fp, ∀ o, h.get? b = some o -> h'.get? b = some o) -> tn i h'
 item : ∀ (X : Cx), X.prog = P -> X.w = w -> X.K = K -> X.calm = true -> ∀ (i : Nat) (pins : List (Addr × Obj)) (s : Shared) (σ : St) (H : Hp) (E : Value -> Shared -> Prop), Inv X pins σ H s -> (∀ b ∈ fp, FpOk X pins H b) -> tn i s.heap -> J.go i H ->
  wpAny (model P w) X.A (pyNext (.ref it)) (fun r s1 => ∃ u, r = some u /\
   wpAny (model P w) X.A (letOwnedTupleGo tg (.ref it) u) (fun _ s2 => ∃ x H', Inv X pins σ H' s2 /\ RelV x u /\ J.yld i H x H' /\ tn (i + 1) s2.heap /\ ∀ b ∈ fp, H' b = none) E s1) E s
 done : ∀ (X : Cx), X.prog = P -> X.w = w -> X.K = K -> X.calm = true -> ∀ (i : Nat) (pins : List (Addr × Obj)) (s : Shared) (σ : St) (H : Hp) (E : Value -> Shared -> Prop), Inv X pins σ H s -> (∀ b ∈ fp, FpOk X pins H b) -> tn i s.heap -> J.stop i H ->
  wpAny (model P w) X.A (pyNext (.ref it)) (fun r s1 => r = none /\ Inv X pins σ H s1) E s
 self : ∀ (A : Around) (i : Nat) (s : Shared) (Q : Value -> Shared -> Prop) (E : Value -> Shared -> Prop), tn i s.heap -> Q (.ref it) s -> wpAny (model P w) A (pyIter (.ref it)) Q E s
abbrev TI := St -> Hp -> (It -> Hp -> Prop) -> Prop
def PIE (X : Cx) (pins : List (Addr × Obj)) (σ : St) (tg : Expr) (R : It -> Hp -> Prop) (itv : Value) (s2 : Shared) : Prop :=
 ∃ (it : Addr) (fp : List Addr) (tn : Nat -> Heap -> Prop) (J : It) (H' : Hp), itv = .ref it /\ Inv X pins σ H' s2 /\ Turn X.prog X.w X.K tg J fp it tn /\ tn 0 s2.heap /\ (∀ b ∈ fp, FpOk X pins H' b) /\ R J H'
def PI (X : Cx) (tg iter : Expr) (wi : TI) : Prop :=
 ∀ (pins : List (Addr × Obj)) (s : Shared) (σ : St) (H : Hp) (R : It -> Hp -> Prop), Inv X pins σ H s -> wi σ H R ->
  wpAny (model X.prog X.w) X.A (eval iter X.env) (fun v s1 => wpAny (model X.prog X.w) X.A (pyIter v) (PIE X pins σ tg R) X.xe s1) X.xe s
theorem v0 {M : Model} {A : Around} {E : Value -> Shared -> Prop} {s : Shared} {tg : Expr} {it : Addr} {u : Value} {o : Obj} {n : String} {vs : Array Value} {Q : Unit -> Shared -> Prop} (ho : s.heap.get? it = some o) (hc : o.cls = .type n) (hd : o.data = .fields vs)
  (hn : ["enumerate", "zip", "dict_itemiterator", "dict_reverseitemiterator", "odict_iterator", "itertools.zip_longest", "itertools.pairwise"].contains n = false) (hQ : Q () s) : wpAny M A (letOwnedTupleGo tg (.ref it) u) Q E s := by
 unfold letOwnedTupleGo
 cases tg <;> first
  | exact wpAny_pure hQ
  | (cases u <;> first
    | exact wpAny_pure hQ
    | (refine wpAny_bind (wpAny_load ho ?_)
       rw [hc, hd]
       show wpAny M A (if (["enumerate", "zip", "dict_itemiterator", "dict_reverseitemiterator", "odict_iterator", "itertools.zip_longest", "itertools.pairwise"].contains n && vs[0]? == some (rawInt _)) = true then _ else _) Q E s
       rw [if_neg (by intro h; rw [hn, Bool.false_and] at h; cases h)]
       exact wpAny_pure hQ))
def Itl (K : PySem.W.Frag) (a : Addr) : It :=
 ⟨fun i H => ∃ xs x, SqL K H a xs /\ xs[i]? = some x, fun i H x H' => H' = H /\ ∀ xs, SqL K H a xs -> xs[i]? = some x, fun i H => ∃ xs, SqL K H a xs /\ xs.length <= i⟩
def Itt (K : PySem.W.Frag) (a : Addr) : It :=
 ⟨fun i H => ∃ xs x, SqT K H a xs /\ xs[i]? = some x, fun i H x H' => H' = H /\ ∀ xs, SqT K H a xs -> xs[i]? = some x, fun i H => ∃ xs, SqT K H a xs /\ xs.length <= i⟩
def Itr (lo : Int) (n : Nat) : It := ⟨fun i _ => i < n, fun i H x H' => H' = H /\ x = .int (lo + i), fun i _ => n <= i⟩
theorem Yn {P : Program} {w : World} {K : PySem.W.Frag} {tg : Expr} (a it : Addr) : Turn P w K tg (Itl K a) [it] it (fun i h => h.IsListIter it a i) where
 mem := by simp
 obj := fun i h st b hb => by
  have e : b = it := by simpa using hb
  subst e
  obtain ⟨o, e, c, d⟩ := st
  exact ⟨o, e, fun v z => by rw [d] at z; cases z⟩
 keep := fun i h h' st k => st.at fun o e => k it (by simp) o e
 item := by
  intro X hP hw hK hc i pins s σ H E I hf st hg
  subst hP hw hK
  obtain ⟨xs, x, hq, hx⟩ := hg
  obtain ⟨its, rv, p, hz⟩ := I.list hq
  obtain ⟨u, hu, ru⟩ := rv.get hx
  obtain ⟨f0, f1, f2, f3, f4, f5⟩ := hf it (by simp)
  refine wpAny_pyNext_list_item st p.isList (x := u) (by simpa using hu) fun h' st' sb => ?_
  have I1 : Inv X pins σ H { s with heap := h' } := I.turned (t' := s.toks) (fun b o hb e => (sb.2 b hb).trans e) f0 f1 f3 f4 f5
  obtain ⟨o, e, c, d⟩ := id st'
  exact ⟨u, rfl, v0 (s := { s with heap := h' }) e c d (by decide) ⟨x, H, I1, ru, ⟨rfl, fun ys hy => by rw [I.list_inj hy hq]; exact hx⟩, st', fun b hb => (hf b hb).1⟩⟩
 done := by
  intro X hP hw hK hc i pins s σ H E I hf st hg
  subst hP hw hK
  obtain ⟨xs, hq, hx⟩ := hg
  obtain ⟨its, rv, p, hz⟩ := I.list hq
  obtain ⟨f0, f1, f2, f3, f4, f5⟩ := hf it (by simp)
  have hl := rv.length
  exact wpAny_pyNext_list_end (I.ok.hd hc) st p.isList (by simp; omega) fun h' eb => ⟨rfl, I.turned (t' := s.toks) (fun b o hb e => eb b o hb e) f0 f1 f3 f4 f5⟩
 self := fun _ _ _ _ _ st h => wpAny_pyIter_listiter st h
theorem jQ {P : Program} {w : World} {K : PySem.W.Frag} {tg : Expr} (a it : Addr) : Turn P w K tg (Itt K a) [it] it (fun i h => h.IsTupleIter it a i) where
 mem := by simp
 obj := fun i h st b hb => by
  have e : b = it := by simpa using hb
  subst e
  obtain ⟨o, e, c, d⟩ := st
  exact ⟨o, e, fun v z => by rw [d] at z; cases z⟩
 keep := fun i h h' st k => st.at fun o e => k it (by simp) o e
 item := by
  intro X hP hw hK hc i pins s σ H E I hf st hg
  subst hP hw hK
  obtain ⟨xs, x, hq, hx⟩ := hg
  obtain ⟨its, rv, p, hz⟩ := I.tuple hq
  obtain ⟨u, hu, ru⟩ := rv.get hx
  obtain ⟨f0, f1, f2, f3, f4, f5⟩ := hf it (by simp)
  refine wpAny_pyNext_tuple_item st (show s.heap.IsTuple a its.toArray from p) (x := u) (by simpa using hu) fun h' st' sb => ?_
  have I1 : Inv X pins σ H { s with heap := h' } := I.turned (t' := s.toks) (fun b o hb e => (sb.2 b hb).trans e) f0 f1 f3 f4 f5
  obtain ⟨o, e, c, d⟩ := id st'
  exact ⟨u, rfl, v0 (s := { s with heap := h' }) e c d (by decide) ⟨x, H, I1, ru, ⟨rfl, fun ys hy => by rw [I.tuple_inj hy hq]; exact hx⟩, st', fun b hb => (hf b hb).1⟩⟩
 done := by
  intro X hP hw hK hc i pins s σ H E I hf st hg
  subst hP hw hK
  obtain ⟨xs, hq, hx⟩ := hg
  obtain ⟨its, rv, p, hz⟩ := I.tuple hq
  obtain ⟨f0, f1, f2, f3, f4, f5⟩ := hf it (by simp)
  have hl := rv.length
  exact wpAny_pyNext_tuple_end (I.ok.hd hc) st (show s.heap.IsTuple a its.toArray from p) (by simp; omega) fun h' eb => ⟨rfl, I.turned (t' := s.toks) (fun b o hb e => eb b o hb e) f0 f1 f3 f4 f5⟩
 self := fun _ _ _ _ _ st h => wpAny_pyIter_tupleiter st h
theorem jR {P : Program} {w : World} {K : PySem.W.Frag} {tg : Expr} (it : Addr) (lo : Int) (n : Nat) : Turn P w K tg (Itr lo n) [it] it (fun i h => IsRangeIter h it (lo + (i : Nat) * 1) ((n : Int) - (i : Nat)) 1) where
 mem := by simp
 obj := fun i h st b hb => by
  have e : b = it := by simpa using hb
  subst e
  exact ⟨_, st, fun v z => by
   have z' : Data.fields _ = Data.cell v := z
   cases z'⟩
 keep := fun i h h' st k => k it (by simp) _ st
 item := by
  intro X hP hw hK hc i pins s σ H E I hf st hg
  subst hP hw hK
  obtain ⟨f0, f1, f2, f3, f4, f5⟩ := hf it (by simp)
  have W := Walks.range (prog := X.prog) (w := X.w) (I.ok.hd hc) it lo 1 n
  refine W.item i s _ _ hg st fun v h' tk hv st' kk => ?_
  obtain ⟨t, rfl⟩ := hv
  have I1 : Inv X pins σ H { s with heap := h', toks := tk } := I.turned (fun b o hb e => kk b o (by simpa using hb) e) f0 f1 f3 f4 f5
  refine ⟨_, rfl, v0 (s := { s with heap := h', toks := tk }) (n := "range_iterator") st' rfl rfl (by decide) ⟨.int (lo + i), H, I1, ⟨t, ?_⟩, ⟨rfl, rfl⟩, st', fun b hb => (hf b hb).1⟩⟩
  rw [Int.mul_one]
 done := by
  intro X hP hw hK hc i pins s σ H E I hf st hg
  subst hP hw hK
  obtain ⟨f0, f1, f2, f3, f4, f5⟩ := hf it (by simp)
  exact wpAny_pyNext_range_end (I.ok.hd hc) st (by have : n <= i := hg; omega) fun h' eb => ⟨rfl, I.turned (t' := s.toks) (fun b o hb e => eb b o hb e) f0 f1 f3 f4 f5⟩
 self := fun _ _ _ _ _ st h => wpAny_pyIter_rangeiter st h
end L2
namespace L2
open PySem PySem.Spec PyProof.Rows
section
variable {X : Cx} {tg : Expr}
def Zu (K : PySem.W.Frag) (tl : TE) : TI := fun σ H R => tl σ H fun x H1 => ∃ a, x = .ref a /\ (∃ xs, SqL K H1 a xs) /\ R (Itl K a) H1
def iTup (K : PySem.W.Frag) (tl : TE) : TI := fun σ H R => tl σ H fun x H1 => ∃ a, x = .ref a /\ (∃ xs, SqT K H1 a xs) /\ R (Itt K a) H1
theorem W4 {l : Expr} {tl : TE} (hl : PE X l tl) : PI X tg l (Zu X.K tl) := by
 intro pins s σ H R I h
 refine thn (hl pins s σ H _ I h) fun v s1 ⟨x, H1, I1, r1, q1⟩ => ?_
 obtain ⟨a, e, ⟨xs, hq⟩, q⟩ := q1
 subst e
 cases r1
 obtain ⟨its, rv, p, hz⟩ := I1.list hq
 refine wpAny_pyIter_list p.isList ?_
 refine ⟨s1.heap.objs.size, [s1.heap.objs.size], _, _, H1, rfl, I1.kept (t' := s1.toks) fun b o e => Heap.get?_push_of_some _ e, Yn a _, ⟨_, Heap.get?_push_size _ rfl, rfl, rfl⟩, fun b hb => ?_, q⟩
 have e : b = s1.heap.objs.size := by simpa using hb
 subst e
 exact I1.fpOk (Nat.le_refl _) (I1.hok.fresh (Nat.le_refl _))
theorem J7 {l : Expr} {tl : TE} (hl : PE X l tl) : PI X tg l (iTup X.K tl) := by
 intro pins s σ H R I h
 refine thn (hl pins s σ H _ I h) fun v s1 ⟨x, H1, I1, r1, q1⟩ => ?_
 obtain ⟨a, e, ⟨xs, hq⟩, q⟩ := q1
 subst e
 cases r1
 obtain ⟨its, rv, p, hz⟩ := I1.tuple hq
 refine wpAny_pyIter_tuple (show s1.heap.IsTuple a its.toArray from p) ?_
 refine ⟨s1.heap.objs.size, [s1.heap.objs.size], _, _, H1, rfl, I1.kept (t' := s1.toks) fun b o e => Heap.get?_push_of_some _ e, jQ a _, ⟨_, Heap.get?_push_size _ rfl, rfl, rfl⟩, fun b hb => ?_, q⟩
 have e : b = s1.heap.objs.size := by simpa using hb
 subst e
 exact I1.fpOk (Nat.le_refl _) (I1.hok.fresh (Nat.le_refl _))
theorem Y1 {pins : List (Addr × Obj)} {σ : St} {H : Hp} {s : Shared} {R : It -> Hp -> Prop} {E : Value -> Shared -> Prop} {lo hi : Int} {t u v : Tok} {tk : Nat} (I : Inv X pins σ H s) (h1 : -(2 ^ 62) <= lo) (h2 : lo < 2 ^ 62) (h3 : -(2 ^ 62) <= hi) (h4 : hi < 2 ^ 62)
  (q : R (Itr lo (hi - lo).toNat) H) : wpAny (model X.prog X.w) X.A (pyIter (.ref s.heap.objs.size)) (PIE X pins σ tg R) E { s with heap := s.heap.push { cls := .type "range", data := .fields #[.int lo t, .int hi u, .int 1 v] }, toks := tk } := by
 refine wpAny_pyIter_range (IsRange.new ..) (small_one h1 h2 h3 h4) ?_
 have I1 : Inv X pins σ H { s with heap := s.heap.push { cls := .type "range", data := .fields #[.int lo t, .int hi u, .int 1 v] }, toks := tk } := I.kept fun b o e => Heap.get?_push_of_some _ e
 refine ⟨(s.heap.push { cls := .type "range", data := .fields #[.int lo t, .int hi u, .int 1 v] }).objs.size, [(s.heap.push { cls := .type "range", data := .fields #[.int lo t, .int hi u, .int 1 v] }).objs.size], _, _, H, rfl,
  I1.kept (t' := tk) fun b o e => Heap.get?_push_of_some _ e, jR _ lo (hi - lo).toNat, ?_, fun b hb => ?_, q⟩
 ·have e1 : lo + ((0 : Nat) : Int) * 1 = lo := by simp
  have e2 : (((hi - lo).toNat : Nat) : Int) - ((0 : Nat) : Int) = Builtin.Range.rangeSize lo hi 1 := by rw [rangeSize_one]; split <;> omega
  show IsRangeIter _ _ (lo + ((0 : Nat) : Int) * 1) ((((hi - lo).toNat : Nat) : Int) - ((0 : Nat) : Int)) 1
  rw [e1, e2]
  exact Heap.get?_push_size _ rfl
 ·have e : b = (s.heap.push { cls := .type "range", data := .fields #[.int lo t, .int hi u, .int 1 v] }).objs.size := by simpa using hb
  subst e
  exact I1.fpOk (Nat.le_refl _) (I1.hok.fresh (Nat.le_refl _))
def Jp (ta : TA) : TI := fun σ H R => ta σ H fun vs H1 => ∃ j : Int, vs = [.int j] /\ -(2 ^ 62) <= j /\ j < 2 ^ 62 /\ R (Itr 0 j.toNat) H1
theorem Yo {a : Expr} {ta : TA} {p pos : Pos} (hg : Gl X "range") (hm : X.mg "range" = none) (ha : PA X [a] ta) (hs : starEach [a] X.env = [(false, eval a X.env)] := by rfl) : PI X tg (.Call (.Name "range" p) [a] [] pos) (Jp ta) := by
 intro pins s σ H R I h
 refine Call_ (yF I hg hm boot_range (PyProof.Rows.callWith_type1 (thn (ha pos pins s σ H _ I h) fun us s1 ⟨vs, H1, I1, r1, q1⟩ => ?_) hs rfl))
 obtain ⟨j, e, q1, q2, q⟩ := q1
 subst e
 cases r1 with
 | cons r rr =>
  cases rr
  obtain ⟨t, rfl⟩ := r
  exact call_range_1 (Y1 I1 (by omega) (by omega) q1 q2 (by simpa using q))
def tFor (wi : TI) (g : TG) (tb : TS) : TS := fun D σ H => wi σ H fun J H1 => ∃ W : Nat -> Nat -> St -> Hp -> Prop, (∃ m, W 0 m σ H1) /\ ∀ i m σ H, W i m σ H ->
 (J.stop i H /\ D.nx σ H) \/ (J.go i H /\ ∃ N : St -> Hp -> Prop, (∀ σ' H', N σ' H' -> ∃ m', m' < m /\ W (i + 1) m' σ' H') /\ ∀ x H', J.yld i H x H' -> g x σ H' fun σ2 H2 => tb { D with nx := N, ct := N, bk := D.nx } σ2 H2)
def xK (fp : List Addr) (h : Heap) : List (Addr × Obj) := fp.filterMap fun b => (h.get? b).map fun o => (b, o)
theorem yP {fp : List Addr} {h : Heap} {b : Addr} {o : Obj} (hb : b ∈ fp) (e : h.get? b = some o) : (b, o) ∈ xK fp h := List.mem_filterMap.mpr ⟨b, hb, by rw [e]; rfl⟩
theorem Yp {fp : List Addr} {h : Heap} {p : Addr × Obj} (hp : p ∈ xK fp h) : p.1 ∈ fp /\ h.get? p.1 = some p.2 := by
 obtain ⟨b, hb, e⟩ := List.mem_filterMap.mp hp
 cases q : h.get? b with
 | none => rw [q] at e; cases e
 | some o =>
  rw [q] at e
  have e' : (b, o) = p := Option.some.inj e
  subst e'
  exact ⟨hb, q⟩
theorem Inv.pinned {pins : List (Addr × Obj)} {σ : St} {H : Hp} {s : Shared} {fp : List Addr} (I : Inv X pins σ H s) (hf : ∀ b ∈ fp, FpOk X pins H b) (ho : ∀ b ∈ fp, ∃ o, s.heap.get? b = some o /\ ∀ v, o.data ≠ .cell v) : Inv X (pins ++ xK fp s.heap) σ H s :=
 I.pins_of fun p hp => (List.mem_append.mp hp).elim (fun z => I.pin p (List.mem_append_right _ z)) fun z => by
  obtain ⟨hb, e⟩ := Yp z
  obtain ⟨f0, f1, f2, _⟩ := hf p.1 hb
  obtain ⟨o, e', d⟩ := ho p.1 hb
  rw [e] at e'; cases e'
  exact ⟨e, f0, f1, f2, d⟩
theorem Inv.unpinned {pins pl : List (Addr × Obj)} {σ : St} {H : Hp} {s : Shared} (I : Inv X (pins ++ pl) σ H s) : Inv X pins σ H s := I.pins_of fun p hp => I.pin p (List.mem_append_right _ (List.mem_append_left _ hp))
theorem J8 {iter : Expr} {body : List Stmt} {wi : TI} {g : TG} {tb : TS} {pos : Pos} (hp : PassesOwn (model X.prog X.w) X.A X.env X.xe) (hc : X.calm = true) (hi : PI X tg iter wi) (hg : PG X tg g) (hb : PSs X body tb)
  (hs : ∀ x, foldedSetIterable iter X.env x = pure x := by intro _; rfl) : PS X (.For tg iter body [] pos) (tFor wi g tb) := by
 intro pins s σ H D I h
 refine wpAny_For (thn (hi pins s σ H _ I h) fun v s1 h1 => thn h1 fun itv s2 h2 => ?_) hs
 obtain ⟨it, fp, tn, J, H2, e, I2, T, st2, f2, W, ⟨m0, w0⟩, turn⟩ := h2
 subst e
 have stat : ∀ {H' : Hp}, (∀ b ∈ fp, H' b = none) -> ∀ b ∈ fp, FpOk X pins H' b := fun hn b hb => ⟨hn b hb, (f2 b hb).2⟩
 refine codeAny_forLoop_any (fun n s' => ∃ i σ' H', Inv X pins σ' H' s' /\ tn i s'.heap /\ (∀ b ∈ fp, H' b = none) /\ W i n σ' H') ?_ m0 ⟨0, σ, H2, I2, st2, fun b hb => (f2 b hb).1, w0⟩
 rintro n s3 ⟨i, σ3, H3, I3, st3, fr3, w3⟩
 rcases turn i n σ3 H3 w3 with ⟨stop, qn⟩ | ⟨go, N, hN, step⟩
 ·refine wpAny_passesOwn hp (thn (T.done X rfl rfl rfl hc i pins s3 σ3 H3 X.xe I3 (stat fr3) st3 stop) fun r s4 ⟨hr, I4⟩ => ?_)
  subst hr
  exact wpAny_execs_nil ⟨σ3, H3, I4, qn⟩
 ·refine wpAny_passesOwn hp (thn (T.item X rfl rfl rfl hc i pins s3 σ3 H3 X.xe I3 (stat fr3) st3 go) fun r s4 ⟨u, hr, h4⟩ => ?_)
  subst hr
  refine wpAny_passesOwn hp (thn h4 fun _ s5 ⟨x, H5, I5, r5, y5, st5, fr5⟩ => ?_)
  have I5' := I5.pinned (stat fr5) (T.obj _ _ st5)
  refine wpAny_passesOwn hp (thn (hg _ s5 σ3 H5 x u _ I5' r5 (step x H5 y5)) fun _ s6 ⟨σ6, H6, I6, q6⟩ => ?_)
  refine wpAny_passesOwn hp (thn (hb _ s6 σ6 H6 _ I6 q6) fun f s7 q7 => ?_)
  have again : ∀ {σ7 : St} {H7 : Hp}, Inv X (pins ++ xK fp s5.heap) σ7 H7 s7 -> N σ7 H7 -> ∃ m, m < n /\ ∃ i σ' H', Inv X pins σ' H' s7 /\ tn i s7.heap /\ (∀ b ∈ fp, H' b = none) /\ W i m σ' H' := fun {σ7 H7} I7 n7 => by
   obtain ⟨m', hm, w7⟩ := hN σ7 H7 n7
   refine ⟨m', hm, i + 1, σ7, H7, I7.unpinned, T.keep _ _ _ st5 fun b hb o e => (I7.pin (b, o) (List.mem_append_right _ (List.mem_append_right _ (yP hb e)))).1, fun b hb => ?_, w7⟩
   obtain ⟨o, e, d⟩ := T.obj _ _ st5 b hb
   exact (I7.pin (b, o) (List.mem_append_right _ (List.mem_append_right _ (yP hb e)))).2.1
  cases f with
  | next => obtain ⟨σ7, H7, I7, n7⟩ := q7; exact again I7 n7
  | cont => obtain ⟨σ7, H7, I7, n7⟩ := q7; exact again I7 n7
  | brk => obtain ⟨σ7, H7, I7, q7⟩ := q7; exact ⟨σ7, H7, I7.unpinned, q7⟩
  | ret v => obtain ⟨x7, σ7, H7, I7, r7, q7⟩ := q7; exact ⟨x7, σ7, H7, I7.unpinned, r7, q7⟩
end
theorem yV {K : PySem.W.Frag} {a : Addr} {xs : List V} {g : TG} {tb : TS} {D : Ends} {σ : St} {H : Hp} (Pv : Nat -> St -> Hp -> Prop) (h0 : Pv 0 σ H) (hl : ∀ i σ H, i <= xs.length -> Pv i σ H -> SqL K H a xs)
  (hs : ∀ i x σ H, xs[i]? = some x -> Pv i σ H -> g x σ H fun σ2 H2 => tb { D with nx := Pv (i + 1), ct := Pv (i + 1), bk := D.nx } σ2 H2) (hd : ∀ σ H, Pv xs.length σ H -> D.nx σ H) :
  ∃ W : Nat -> Nat -> St -> Hp -> Prop, (∃ m, W 0 m σ H) /\ ∀ i m σ H, W i m σ H ->
   ((Itl K a).stop i H /\ D.nx σ H) \/ ((Itl K a).go i H /\ ∃ N : St -> Hp -> Prop, (∀ σ' H', N σ' H' -> ∃ m', m' < m /\ W (i + 1) m' σ' H') /\ ∀ x H', (Itl K a).yld i H x H' -> g x σ H' fun σ2 H2 => tb { D with nx := N, ct := N, bk := D.nx } σ2 H2) := by
 refine ⟨fun i m σ H => m = xs.length - i /\ i <= xs.length /\ Pv i σ H, ⟨xs.length, by simp, Nat.zero_le _, h0⟩, ?_⟩
 rintro i m σ H ⟨rfl, hi, p⟩
 have q := hl i σ H hi p
 by_cases hlt : i < xs.length
 ·refine .inr ⟨⟨xs, xs[i], q, by simp [hlt]⟩, Pv (i + 1), fun σ' H' p' => ⟨xs.length - (i + 1), by omega, rfl, hlt, p'⟩, fun x H' y => ?_⟩
  obtain ⟨e, y⟩ := y
  subst e
  exact hs i x σ _ (y xs q) p
 ·have e : i = xs.length := by omega
  subst e
  exact .inl ⟨⟨xs, q, Nat.le_refl _⟩, hd σ H p⟩
theorem x5 {K : PySem.W.Frag} {a : Addr} {xs : List V} {g : TG} {tb : TS} {D : Ends} {σ : St} {H : Hp} (Pv : Nat -> St -> Hp -> Prop) (h0 : Pv 0 σ H) (hl : ∀ i σ H, i <= xs.length -> Pv i σ H -> SqT K H a xs)
  (hs : ∀ i x σ H, xs[i]? = some x -> Pv i σ H -> g x σ H fun σ2 H2 => tb { D with nx := Pv (i + 1), ct := Pv (i + 1), bk := D.nx } σ2 H2) (hd : ∀ σ H, Pv xs.length σ H -> D.nx σ H) :
  ∃ W : Nat -> Nat -> St -> Hp -> Prop, (∃ m, W 0 m σ H) /\ ∀ i m σ H, W i m σ H ->
   ((Itt K a).stop i H /\ D.nx σ H) \/ ((Itt K a).go i H /\ ∃ N : St -> Hp -> Prop, (∀ σ' H', N σ' H' -> ∃ m', m' < m /\ W (i + 1) m' σ' H') /\ ∀ x H', (Itt K a).yld i H x H' -> g x σ H' fun σ2 H2 => tb { D with nx := N, ct := N, bk := D.nx } σ2 H2) := by
 refine ⟨fun i m σ H => m = xs.length - i /\ i <= xs.length /\ Pv i σ H, ⟨xs.length, by simp, Nat.zero_le _, h0⟩, ?_⟩
 rintro i m σ H ⟨rfl, hi, p⟩
 have q := hl i σ H hi p
 by_cases hlt : i < xs.length
 ·refine .inr ⟨⟨xs, xs[i], q, by simp [hlt]⟩, Pv (i + 1), fun σ' H' p' => ⟨xs.length - (i + 1), by omega, rfl, hlt, p'⟩, fun x H' y => ?_⟩
  obtain ⟨e, y⟩ := y
  subst e
  exact hs i x σ _ (y xs q) p
 ·have e : i = xs.length := by omega
  subst e
  exact .inl ⟨⟨xs, q, Nat.le_refl _⟩, hd σ H p⟩
theorem wM {lo : Int} {n : Nat} {g : TG} {tb : TS} {D : Ends} {σ : St} {H : Hp} (Pv : Nat -> St -> Hp -> Prop) (h0 : Pv 0 σ H)
  (hs : ∀ i σ H, i < n -> Pv i σ H -> g (.int (lo + i)) σ H fun σ2 H2 => tb { D with nx := Pv (i + 1), ct := Pv (i + 1), bk := D.nx } σ2 H2) (hd : ∀ σ H, Pv n σ H -> D.nx σ H) :
  ∃ W : Nat -> Nat -> St -> Hp -> Prop, (∃ m, W 0 m σ H) /\ ∀ i m σ H, W i m σ H ->
   ((Itr lo n).stop i H /\ D.nx σ H) \/ ((Itr lo n).go i H /\ ∃ N : St -> Hp -> Prop, (∀ σ' H', N σ' H' -> ∃ m', m' < m /\ W (i + 1) m' σ' H') /\ ∀ x H', (Itr lo n).yld i H x H' -> g x σ H' fun σ2 H2 => tb { D with nx := N, ct := N, bk := D.nx } σ2 H2) := by
 refine ⟨fun i m σ H => m = n - i /\ i <= n /\ Pv i σ H, ⟨n, by simp, Nat.zero_le _, h0⟩, ?_⟩
 rintro i m σ H ⟨rfl, hi, p⟩
 by_cases hlt : i < n
 ·refine .inr ⟨hlt, Pv (i + 1), fun σ' H' p' => ⟨n - (i + 1), by omega, rfl, hlt, p'⟩, fun x H' y => ?_⟩
  obtain ⟨e, y⟩ := y
  subst e y
  exact hs i σ _ hlt p
 ·have e : i = n := by omega
  subst e
  exact .inl ⟨Nat.le_refl _, hd σ H p⟩
end L2
namespace L2
open PySem PySem.Spec PyProof.Rows
abbrev R2 := V -> V -> Hp -> VK -> Prop
def OpR (X : Cx) (f : Value -> Value -> Sem Value) (r : R2) : Prop :=
 ∀ (pins : List (Addr × Obj)) (s : Shared) (σ : St) (H : Hp) (x y : V) (v u : Value) (Q : VK), Inv X pins σ H s -> RelV x v -> RelV y u -> r x y H Q ->
  wpAny (model X.prog X.w) X.A (f v u) (EP X pins σ Q) X.xe s
def UnR (X : Cx) (f : Value -> Sem Value) (r : V -> Hp -> VK -> Prop) : Prop :=
 ∀ (pins : List (Addr × Obj)) (s : Shared) (σ : St) (H : Hp) (x : V) (v : Value) (Q : VK), Inv X pins σ H s -> RelV x v -> r x H Q ->
  wpAny (model X.prog X.w) X.A (f v) (EP X pins σ Q) X.xe s
def xl (X : Cx) (f : Value) (r : List V -> Hp -> VK -> Prop) : Prop :=
 ∀ (pins : List (Addr × Obj)) (s : Shared) (σ : St) (H : Hp) (xs : List V) (us : List Value) (Q : VK), Inv X pins σ H s -> Vals xs us -> r xs H Q ->
  wpAny (model X.prog X.w) X.A (call f us) (EP X pins σ Q) X.xe s
def tOp (r : R2) (ta tb : TE) : TE := fun σ H Q => ta σ H fun x H1 => tb σ H1 fun y H2 => r x y H2 Q
def tUn (r : V -> Hp -> VK -> Prop) (ta : TE) : TE := fun σ H Q => ta σ H fun x H1 => r x H1 Q
def rI (C : Int -> Int -> Prop) (g : Int -> Int -> V) : R2 := fun x y H Q => ∃ i j, x = .int i /\ y = .int j /\ C i j /\ Q (g i j) H
def rI0 (g : Int -> Int -> V) : R2 := fun x y H Q => ∃ i j, x = .int i /\ y = .int j /\ Q (g i j) H
def rU (g : Int -> V) : V -> Hp -> VK -> Prop := fun x H Q => ∃ i, x = .int i /\ Q (g i) H
section
variable {X : Cx} {a b c : Expr} {ta tb tc : TE} {pos : Pos}
theorem binT (ha : PE X a ta) (hb : PE X b tb) {pins : List (Addr × Obj)} {s : Shared} {σ : St} {H : Hp} {R : V -> V -> Hp -> Prop} (I : Inv X pins σ H s)
  (h : ta σ H fun x H1 => tb σ H1 fun y H2 => R x y H2) {Q : Value -> Shared -> Prop} {f : Value -> Value -> Sem Value}
  (hf : ∀ v u s2 x y H2, Inv X pins σ H2 s2 -> RelV x v -> RelV y u -> R x y H2 -> wpAny (model X.prog X.w) X.A (f v u) Q X.xe s2) :
  wpAny (model X.prog X.w) X.A (eval a X.env) (fun v s₁ => wpAny (model X.prog X.w) X.A (eval b X.env) (fun u s₂ => wpAny (model X.prog X.w) X.A (f v u) Q X.xe s₂) X.xe s₁) X.xe s := by
 refine thn (ha pins s σ H _ I h) fun v s1 ⟨x, H1, I1, r1, q1⟩ => ?_
 refine thn (hb pins s1 σ H1 _ I1 q1) fun u s2 ⟨y, H2, I2, r2, q2⟩ => ?_
 exact hf v u s2 x y H2 I2 r1 r2 q2
theorem Qv {op : Operator} {r : R2} (ho : OpR X (binaryOp op) r) (ha : PE X a ta) (hb : PE X b tb) : PE X (.BinOp a op b pos) (tOp r ta tb) := by
 intro pins s σ H Q I h
 exact wpAny_BinOp (binT ha hb I h fun v u s2 x y H2 I2 rx ry q => ho pins s2 σ H2 x y v u Q I2 rx ry q)
theorem Qw {op : UnaryOp} {r : V -> Hp -> VK -> Prop} (ho : UnR X (unaryOp op) r) (ha : PE X a ta) : PE X (.UnaryOp op a pos) (tUn r ta) := by
 intro pins s σ H Q I h
 exact UnaryOp_ (thn (ha pins s σ H _ I h) fun v s1 ⟨x, H1, I1, r1, q1⟩ => ho pins s1 σ H1 x v Q I1 r1 q1)
theorem opI {f : Value -> Value -> Sem Value} {C : Int -> Int -> Prop} {g : Int -> Int -> Int}
  (rule : ∀ (i j : Int) (t u : Tok) (s : Shared) (Q : Value -> Shared -> Prop) (E : Value -> Shared -> Prop), C i j -> Q (.int (g i j) s.toks) { s with toks := s.toks + 1 } -> wpAny (model X.prog X.w) X.A (f (.int i t) (.int j u)) Q E s) :
  OpR X f (rI C fun i j => .int (g i j)) := by
 intro pins s σ H x y v u Q I rx ry h
 obtain ⟨i, j, rfl, rfl, hc, q⟩ := h
 obtain ⟨t, rfl⟩ := rx
 obtain ⟨t', rfl⟩ := ry
 exact rule i j t t' s _ _ hc ⟨.int (g i j), H, I.tok _, ⟨_, rfl⟩, q⟩
theorem opI0 {f : Value -> Value -> Sem Value} {g : Int -> Int -> Int}
  (rule : ∀ (i j : Int) (t u : Tok) (s : Shared) (Q : Value -> Shared -> Prop) (E : Value -> Shared -> Prop), Q (.int (g i j) s.toks) { s with toks := s.toks + 1 } -> wpAny (model X.prog X.w) X.A (f (.int i t) (.int j u)) Q E s) :
  OpR X f (rI0 fun i j => .int (g i j)) := by
 intro pins s σ H x y v u Q I rx ry h
 obtain ⟨i, j, rfl, rfl, q⟩ := h
 obtain ⟨t, rfl⟩ := rx
 obtain ⟨t', rfl⟩ := ry
 exact rule i j t t' s _ _ ⟨.int (g i j), H, I.tok _, ⟨_, rfl⟩, q⟩
theorem opB0 {f : Value -> Value -> Sem Value} {g : Int -> Int -> Bool}
  (rule : ∀ (i j : Int) (t u : Tok) (s : Shared) (Q : Value -> Shared -> Prop) (E : Value -> Shared -> Prop), Q (.bool (g i j)) s -> wpAny (model X.prog X.w) X.A (f (.int i t) (.int j u)) Q E s) :
  OpR X f (rI0 fun i j => .bl (g i j)) := by
 intro pins s σ H x y v u Q I rx ry h
 obtain ⟨i, j, rfl, rfl, q⟩ := h
 obtain ⟨t, rfl⟩ := rx
 obtain ⟨t', rfl⟩ := ry
 exact rule i j t t' s _ _ ⟨.bl (g i j), H, I, rfl, q⟩
def CDiv (i j : Int) : Prop := 0 < j /\ j < 1073741824
def CPow (i j : Int) : Prop := 0 <= j /\ j <= 1000000 /\ i.natAbs < 2 ^ 64
def CMul (i j : Int) : Prop := (-(2 ^ 64) < i /\ i < 2 ^ 64) \/ (-(2 ^ 64) < j /\ j < 2 ^ 64)
theorem CMul.ok {i j : Int} (h : CMul i j) : IntMulOk i j := by
 rcases h with ⟨h1, h2⟩ | ⟨h1, h2⟩
 ·exact .of_left (intBits_le_64 h1 h2)
 ·exact .of_right (intBits_le_64 h1 h2)
theorem J9 : OpR X (binaryOp .Add) (rI0 fun i j => .int (i + j)) := opI0 fun _ _ _ _ _ _ _ q => add_int q
theorem qb : OpR X (binaryOp .Sub) (rI0 fun i j => .int (i - j)) := opI0 fun _ _ _ _ _ _ _ q => sub_int q
theorem qc : OpR X (binaryOp .Mult) (rI CMul fun i j => .int (i * j)) := opI fun _ _ _ _ _ _ _ hc q => mul_int q hc.ok
theorem W5 : OpR X (binaryOp .FloorDiv) (rI CDiv fun i j => .int (i / j)) := opI fun i j _ _ _ _ _ hc q => by
 have h1 : (0 : Int) < j := hc.1
 have h2 : j < 1073741824 := hc.2
 exact floordiv_int (by omega) (by rw [Int.fdiv_eq_ediv_of_nonneg i (by omega)]; exact q) (.inl (PyProof.noPylong_small (by omega)))
theorem qd : OpR X (binaryOp .Mod) (rI (fun _ j => 0 < j) fun i j => .int (i % j)) := opI fun i j _ _ _ _ _ hc q => by
 have h1 : (0 : Int) < j := hc
 exact mod_int' (by omega) (by rw [Int.fmod_eq_emod_of_nonneg i (by omega)]; exact q)
theorem qe : OpR X (binaryOp .Pow) (rI CPow fun i j => .int (i ^ j.toNat)) := opI fun _ _ _ _ _ _ _ hc q => pow_int_small hc.1 hc.2.1 hc.2.2 q
theorem unI {f : Value -> Sem Value} {g : Int -> Int}
  (rule : ∀ (i : Int) (t : Tok) (s : Shared) (Q : Value -> Shared -> Prop) (E : Value -> Shared -> Prop), Q (.int (g i) s.toks) { s with toks := s.toks + 1 } -> wpAny (model X.prog X.w) X.A (f (.int i t)) Q E s) :
  UnR X f (rU fun i => .int (g i)) := by
 intro pins s σ H x v Q I rx h
 obtain ⟨i, rfl, q⟩ := h
 obtain ⟨t, rfl⟩ := rx
 exact rule i t s _ _ ⟨.int (g i), H, I.tok _, ⟨_, rfl⟩, q⟩
theorem qf : UnR X (unaryOp .USub) (rU fun i => .int (-i)) := unI fun _ _ _ _ _ q => neg_int q
end
def scal : V -> V -> Bool
 | .non, .non => true | .non, .int _ => true | .int _, .non => true | .non, .bl _ => true | .bl _, .non => true | .non, .str _ => true | .str _, .non => true
 | .int _, .int _ => true | .bl _, .bl _ => true | .str _, .str _ => true | .byt _, .byt _ => true
 | .int _, .str _ => true | .str _, .int _ => true | .bl _, .str _ => true | .str _, .bl _ => true
 | _, _ => false
def rEq : R2 := fun x y H Q => scal x y = true /\ Q (.bl (decide (x = y))) H
def rNe : R2 := fun x y H Q => scal x y = true /\ Q (.bl (!decide (x = y))) H
theorem Zv {i j : Int} : decide (V.int i = V.int j) = (i == j) := by
 rw [Bool.eq_iff_iff]
 simp
theorem Y2 {i j : Bool} : decide (V.bl i = V.bl j) = (i == j) := by
 rw [Bool.eq_iff_iff]
 simp
theorem Zw {i j : Str} : decide (V.str i = V.str j) = (i == j) := by
 rw [Bool.eq_iff_iff]
 simp
theorem Zx {i j : Array UInt8} : decide (V.byt i = V.byt j) = (i.toList == j.toList) := by
 rw [Bool.eq_iff_iff]
 cases i
 cases j
 simp
section
variable {X : Cx} {a b c : Expr} {ta tb tc : TE} {pos : Pos}
theorem zJ {pins : List (Addr × Obj)} {σ : St} {H : Hp} {s : Shared} {Q : VK} {k k' : Bool} (I : Inv X pins σ H s) (q : Q (.bl k) H) (e : k = k') : EP X pins σ Q (.bool k') s := by
 subst e
 exact ⟨.bl k, H, I, rfl, q⟩
theorem Qx : OpR X (compareOp .Eq) rEq := by
 intro pins s σ H x y v u Q I rx ry h
 obtain ⟨hs, q⟩ := h
 cases x with
 | non =>
  cases rx
  cases y with
  | non => cases ry; exact PySem.EqNone.eq_none_none (zJ I q (by simp))
  | bl j => cases ry; exact PySem.EqNone.eq_none_bool (zJ I q (by simp))
  | int j => obtain ⟨t', rfl⟩ := ry; exact PySem.EqNone.eq_none_int (zJ I q (by simp))
  | str j => obtain ⟨t', rfl⟩ := ry; exact PySem.EqNone.eq_none_str (zJ I q (by simp))
  | _ => exact absurd (show false = true from hs) Bool.false_ne_true
 | bl i =>
  cases rx
  cases y with
  | non => cases ry; exact PySem.EqNone.eq_bool_none (zJ I q (by simp))
  | bl j => cases ry; exact eq_bool (zJ I q Y2)
  | str j => obtain ⟨t', rfl⟩ := ry; exact PySem.EqMixed.eq_bool_str (zJ I q (by simp))
  | _ => exact absurd (show false = true from hs) Bool.false_ne_true
 | int i =>
  obtain ⟨t, rfl⟩ := rx
  cases y with
  | non => cases ry; exact PySem.EqNone.eq_int_none (zJ I q (by simp))
  | int j => obtain ⟨t', rfl⟩ := ry; exact eq_int (zJ I q Zv)
  | str j => obtain ⟨t', rfl⟩ := ry; exact PySem.EqMixed.eq_int_str (zJ I q (by simp))
  | _ => exact absurd (show false = true from hs) Bool.false_ne_true
 | str i =>
  obtain ⟨t, rfl⟩ := rx
  cases y with
  | non => cases ry; exact PySem.EqNone.eq_str_none (zJ I q (by simp))
  | bl j => cases ry; exact PySem.EqMixed.eq_str_bool (zJ I q (by simp))
  | int j => obtain ⟨t', rfl⟩ := ry; exact PySem.EqMixed.eq_str_int (zJ I q (by simp))
  | str j => obtain ⟨t', rfl⟩ := ry; exact eq_str (zJ I q Zw)
  | _ => exact absurd (show false = true from hs) Bool.false_ne_true
 | byt i =>
  obtain ⟨t, rfl⟩ := rx
  cases y with
  | byt j => obtain ⟨t', rfl⟩ := ry; exact PySem.W.eq_bytes (zJ I q Zx)
  | _ => exact absurd (show false = true from hs) Bool.false_ne_true
 | _ => cases y <;> exact absurd (show false = true from hs) Bool.false_ne_true
theorem Qy : OpR X (compareOp .NotEq) rNe := by
 intro pins s σ H x y v u Q I rx ry h
 obtain ⟨hs, q⟩ := h
 cases x with
 | non =>
  cases rx
  cases y with
  | non => cases ry; exact PySem.EqNone.ne_none_none (zJ I q (by simp))
  | bl j => cases ry; exact PySem.EqNone.ne_none_bool (zJ I q (by simp))
  | int j => obtain ⟨t', rfl⟩ := ry; exact PySem.EqNone.ne_none_int (zJ I q (by simp))
  | str j => obtain ⟨t', rfl⟩ := ry; exact PySem.EqNone.ne_none_str (zJ I q (by simp))
  | _ => exact absurd (show false = true from hs) Bool.false_ne_true
 | bl i =>
  cases rx
  cases y with
  | non => cases ry; exact PySem.EqNone.ne_bool_none (zJ I q (by simp))
  | bl j => cases ry; exact ne_bool (zJ I q (congrArg not Y2))
  | str j => obtain ⟨t', rfl⟩ := ry; exact PySem.EqMixed.ne_bool_str (zJ I q (by simp))
  | _ => exact absurd (show false = true from hs) Bool.false_ne_true
 | int i =>
  obtain ⟨t, rfl⟩ := rx
  cases y with
  | non => cases ry; exact PySem.EqNone.ne_int_none (zJ I q (by simp))
  | int j => obtain ⟨t', rfl⟩ := ry; exact ne_int (zJ I q (congrArg not Zv))
  | str j => obtain ⟨t', rfl⟩ := ry; exact PySem.EqMixed.ne_int_str (zJ I q (by simp))
  | _ => exact absurd (show false = true from hs) Bool.false_ne_true
 | str i =>
  obtain ⟨t, rfl⟩ := rx
  cases y with
  | non => cases ry; exact PySem.EqNone.ne_str_none (zJ I q (by simp))
  | bl j => cases ry; exact PySem.EqMixed.ne_str_bool (zJ I q (by simp))
  | int j => obtain ⟨t', rfl⟩ := ry; exact PySem.EqMixed.ne_str_int (zJ I q (by simp))
  | str j => obtain ⟨t', rfl⟩ := ry; exact ne_str (zJ I q (congrArg not Zw))
  | _ => exact absurd (show false = true from hs) Bool.false_ne_true
 | byt i =>
  obtain ⟨t, rfl⟩ := rx
  cases y with
  | byt j => obtain ⟨t', rfl⟩ := ry; exact PySem.W.ne_bytes (zJ I q (congrArg not Zx))
  | _ => exact absurd (show false = true from hs) Bool.false_ne_true
 | _ => cases y <;> exact absurd (show false = true from hs) Bool.false_ne_true
theorem Qz : OpR X (compareOp .Lt) (rI0 fun i j => .bl (decide (i < j))) := opB0 fun _ _ _ _ _ _ _ q => lt_int q
theorem QA : OpR X (compareOp .LtE) (rI0 fun i j => .bl (decide (i <= j))) := opB0 fun _ _ _ _ _ _ _ q => le_int q
theorem QB : OpR X (compareOp .Gt) (rI0 fun i j => .bl (decide (j < i))) := opB0 fun _ _ _ _ _ _ _ q => gt_int q
theorem zy (b : Expr) {op : CmpOp} (h : op ≠ .In := by decide) (h2 : op ≠ .NotIn := by decide) : behindInMarks op b = false := by
 have e1 : (op == CmpOp.In) = false := by cases op <;> first | rfl | exact absurd rfl h
 have e2 : (op == CmpOp.NotIn) = false := by cases op <;> first | rfl | exact absurd rfl h2
 cases b <;> simp [behindInMarks, e1, e2]
theorem W6 {op : CmpOp} {r : R2} (ho : OpR X (compareOp op) r) (ha : PE X a ta) (hb : PE X b tb) (hm : behindInMarks op b = false) : PE X (.Compare a [op] [b] pos) (tOp r ta tb) := by
 intro pins s σ H Q I h
 exact wpAny_Compare1 (binT ha hb I h fun v u s2 x y H2 I2 rx ry q => ho pins s2 σ H2 x y v u Q I2 rx ry q) hm
def Jq (t : TE) : TT := fun σ H Q => t σ H fun x H' => ∃ k, x = .bl k /\ Q k H'
theorem W7 {op : CmpOp} {r : R2} (ho : OpR X (compareOp op) r) (ha : PE X a ta) (hb : PE X b tb) (hm : behindInMarks op b = false) : PT X (.Compare a [op] [b] pos) (Jq (tOp r ta tb)) := by
 intro pins s σ H Q I h
 refine wpAny_isTrue_Compare1 (thn (ha pins s σ H _ I h) fun v s1 ⟨x, H1, I1, r1, q1⟩ => thn (hb pins s1 σ H1 _ I1 q1) fun u s2 ⟨y, H2, I2, r2, q2⟩ =>
  thn (ho pins s2 σ H2 x y v u _ I2 r1 r2 q2) fun c s3 ⟨z, H3, I3, r3, k, e, q3⟩ => ?_) hm
 subst e
 cases r3
 exact wpAny_truthy_bool ⟨H3, I3, q3⟩
def Y3 (r r' : R2) (ta tb tc : TE) : TE := fun σ H Q => ta σ H fun x H1 => tb σ H1 fun y H2 => r x y H2 fun z H3 => ∃ k, z = .bl k /\
 (if k = true then tc σ H3 fun w' H4 => r' y w' H4 Q else Q (.bl false) H3)
theorem Y4 {op op' : CmpOp} {r r' : R2} (ho : OpR X (compareOp op) r) (ho' : OpR X (compareOp op') r') (ha : PE X a ta) (hb : PE X b tb) (hc : PE X c tc)
  (hm : lastMarks [op, op'] [b, c] = false := by with_unfolding_all rfl) : PE X (.Compare a [op, op'] [b, c] pos) (Y3 r r' ta tb tc) := by
 intro pins s σ H Q I h
 refine Compare_chain (thn (ha pins s σ H _ I h) fun v s1 ⟨x, H1, I1, r1, q1⟩ => chain_link (thn (hb pins s1 σ H1 _ I1 q1) fun u s2 ⟨y, H2, I2, r2, q2⟩ =>
  thn (ho pins s2 σ H2 x y v u _ I2 r1 r2 q2) fun d s3 ⟨z, H3, I3, r3, k, e, q3⟩ => ?_)) hm
 subst e
 cases r3
 refine wpAny_truthy_bool ?_
 cases k with
 | false => exact ite_ff ⟨.bl false, H3, I3, rfl, q3⟩
 | true => exact ite_tt (chain_last (thn (hc pins s3 σ H3 _ I3 q3) fun w' s4 ⟨z', H4, I4, r4, q4⟩ => ho' pins s4 σ H4 y z' u w' Q I4 r2 r4 q4))
theorem xp : (sizeLine : Nat) < 2 ^ 63 := by rw [sizeLine_eq]; decide
theorem jU : OpR X (binaryOp .Add) (fun x y H Q => ∃ i j, x = .str i /\ y = .str j /\ i.length + j.length <= sizeLine /\ Q (.str (i ++ j)) H) := by
 intro pins s σ H x y v u Q I rx ry h
 obtain ⟨i, j, rfl, rfl, hz, q⟩ := h
 obtain ⟨t, rfl⟩ := rx
 obtain ⟨t', rfl⟩ := ry
 exact add_str (fun t' tk => ⟨.str (i ++ j), H, I.tok _, ⟨_, rfl⟩, q⟩) hz
theorem we {x : V} {us : List Value} (r : Vals [x] us) : ∃ u, us = [u] /\ RelV x u := by
 cases r with
 | cons r1 r2 => cases r2; exact ⟨_, rfl, r1⟩
theorem Zy {x y : V} {us : List Value} (r : Vals [x, y] us) : ∃ u w', us = [u, w'] /\ RelV x u /\ RelV y w' := by
 cases r with
 | cons r1 r2 =>
  cases r2 with
  | cons r3 r4 => cases r4; exact ⟨_, _, rfl, r1, r3⟩
theorem Yq : xl X (.type "int") (fun xs H Q => (∃ i, xs = [.int i] /\ Q (.int i) H) \/ ∃ k, xs = [.bl k] /\ Q (.int (if k then 1 else 0)) H) := by
 intro pins s σ H xs us Q I r h
 rcases h with ⟨i, rfl, q⟩ | ⟨k, rfl, q⟩
 ·obtain ⟨u, rfl, t, rfl⟩ := we r
  exact call_int_int ⟨.int i, H, I, ⟨_, rfl⟩, q⟩
 ·obtain ⟨u, rfl, r1⟩ := we r
  cases r1
  exact call_int_bool ⟨.int (if k then 1 else 0), H, I.tok _, ⟨_, rfl⟩, q⟩
end
end L2
namespace L2
open PySem PySem.Spec PyProof.Rows
structure ObjM (h : Heap) (x dx C : Addr) (mA : Str -> Option Value) : Prop where
 obj : h.get? x = some (PySem.W.instObj C dx)
 ns : h.Ns1 dx mA
 ne : dx ≠ x
theorem wN {h : Heap} {dx : Addr} {mA : Str -> Option Value} (n : h.Ns1 dx mA) : ∃ od, h.get? dx = some od /\ ∀ name, PySem.W.lookIn name od = some (mA name) := by
 obtain ⟨o, es, ep, ho, hd, hk, _, hm⟩ := n
 refine ⟨o, ho, fun name => ?_⟩
 have e := hm name
 unfold nsFind findBy at e
 rw [<- Array.find?_toList] at e
 unfold PySem.W.lookIn
 rw [hd]
 dsimp only
 split
 ·rename_i y q
  rw [q] at e
  exact congrArg some e
 ·rename_i q
  rw [q] at e
  have a : es.toList.any (·.refKey) = false := by
   rw [List.any_eq_false]
   intro y hy
   obtain ⟨z, t, hkey⟩ := hk y (Array.mem_toList_iff.mp hy)
   simp [DictEntry.refKey, hkey]
  have a' : ¬ es.toList.any (·.refKey) = true := by rw [a]; exact Bool.false_ne_true
  rw [if_neg a']
  exact congrArg some e
theorem ObjM.look {h : Heap} {x dx C : Addr} {mA : Str -> Option Value} (I : ObjM h x dx C mA) : ∃ od, PySem.W.InstAt h x (PySem.W.instObj C dx) C (some od) /\ ∀ name, PySem.W.lookIn name od = some (mA name) :=
 let ⟨od, ho, hl⟩ := wN I.ns
 ⟨od, ⟨I.obj, rfl, rfl, ho⟩, hl⟩
section
variable {prog : Program} {w : World} {A : Around} {E : Value -> Shared -> Prop} {s : Shared} {K : PySem.W.Frag} {x dx C f : Addr} {mA : Str -> Option Value} {name : Str} {v : Value}
theorem W9 {expr : Bool} {Q : Value -> Shared -> Prop} (X : K.In s.heap) (I : ObjM s.heap x dx C mA) (hg : PySem.W.plainGet K C name = true) (hh : PySem.W.hasDictIn K C = true)
  (ha : PySem.W.findIn K (.ref C) name = some none) (hv : mA name = some v) (hv' : PySem.W.handedIn v = true) (h : Q v { s with toks := s.toks + 1 }) :
  wpAny (model prog w) A (getAttr (.ref x) name expr) Q E s := by
 obtain ⟨od, J, hl⟩ := I.look
 exact PySem.W.get_value X J (PySem.W.plainGet_of hg).1 (PySem.W.findObj_own hh ha rfl (by rw [hl, hv])) hv' h
theorem Y5 {pl : Sem Bool} {Q : Value × List Value -> Shared -> Prop} (X : K.In s.heap) (I : ObjM s.heap x dx C mA) (hg : PySem.W.plainGet K C name = true)
  (hf : PySem.W.findIn K (.ref C) name = some (some (.ref f))) (ht : PySem.W.isFn K (.ref f) = true) (hv : mA name = none) (h : Q (.ref f, [.ref x]) s) :
  wpAny (model prog w) A (getMethod (.ref x) name pl) Q E s := by
 obtain ⟨od, J, hl⟩ := I.look
 exact PySem.W.method_fn X J (PySem.W.plainGet_of hg).1 (PySem.W.plainGet_of hg).2 hf (beq_iff_eq.mp ht) (by show (PySem.W.lookIn name od).map (·.isSome) = some false; rw [hl, hv]; rfl) h
theorem Va {ns : List Str} {Q : Unit -> Shared -> Prop} (X : K.In s.heap) (I : ObjM s.heap x dx C mA)
  (hs : PySem.W.findIn K (.ref C) "__setattr__" = some (some (.builtin "object.__setattr__"))) (hp : PySem.W.plainOver K C = true) (ht : PySem.W.takerIn K C name = some none) (hh : PySem.W.hasDictIn K C = true)
  (hw : PySem.Within mA ns) (hsz : ns.length <= sizeLine)
  (h : ∀ h', ObjM h' x dx C (fun y => if y = name then some v else mA y) -> Heap.SameBut dx s.heap h' -> Q () { s with heap := h', toks := s.toks + 2 }) :
  wpAny (model prog w) A (setAttr (.ref x) name v) Q E s := by
 obtain ⟨od, J, hl⟩ := I.look
 refine PySem.W.set_plain X J hs (PySem.W.osa_open (s := { s with toks := s.toks + 1 }) (r := none) X J hp ht fun b => ?_)
 obtain ⟨cd, hc, hd'⟩ := PySem.W.any_some hh
 have hx : s.heap.get? x = some ⟨.ref C, some dx, .plain, #[]⟩ := I.obj
 refine wpAny_bind (wpAny_pure (wpAny_bind (wpAny_bind (wpAny_loadPart hx (wpAny_bind (PySem.W.Looks.here (s := { s with toks := s.toks + 1 }) (PySem.W.looks_clsIn X hc) ?_))))))
 rw [hd']
 refine wpAny_pure (a := some dx) (wpAny_bind (wpAny_pure (wpAny_bind ?_)))
 refine wpAny_nsSet1 (s := { s with toks := s.toks + 1 }) I.ns fun h' hn2 hs2 => ?_
 obtain ⟨oD, esD, epD, hoD, hdD, hcD⟩ := hn2.count (PySem.Within.cons name v hw)
 refine wpAny_bind (wpAny_lookBehind hoD (by rw [hdD]; exact pastItsLine_dict (Nat.le_trans hcD (by rw [List.length_cons]; omega))) ?_)
 exact wpAny_pure (h _ ⟨(hs2.2 _ (Ne.symm I.ne)).trans I.obj, hn2, I.ne⟩ hs2)
theorem Y6 {R : Result -> Shared -> Prop} {vs : List Value} {kw : List (Str × Value)} (X : K.In s.heap) (hm : PySem.W.makesIn K C = true)
  (hi : PySem.W.findIn K (.ref C) "__init__" = some (some (.ref f))) (hf : PySem.W.typeIn K (.ref f) = some (.type "function"))
  (h : codeAny (model prog w) (A.under (.builtin "type.__call__" ⟨.ref C :: vs, kw⟩)) (.call (.ref f) ⟨.ref (s.heap.objs.size + 1) :: vs, kw⟩) (PySem.W.InitBack (s.heap.objs.size + 1) R)
   { s with heap := (s.heap.push PySem.W.emptyDict).push (PySem.W.instObj C s.heap.objs.size) }) :
  codeAny (model prog w) A (.call (.ref C) ⟨vs, kw⟩) R s := by
 obtain ⟨hh, g, d, t, os⟩ := s
 exact PySem.W.make_core (PySem.W.makes_of X hm) (PySem.W.looks_findIn X hi) (fun self => PySem.W.bind_fn X self hf) (.inl rfl) h
end
def putF (f : Str) (v : V) : List (Str × V) -> List (Str × V)
 | [] => [(f, v)]
 | (g, x) :: r => if g = f then (g, v) :: r else (g, x) :: putF f v r
theorem xU (f g : Str) (v : V) : ∀ fs : List (Str × V), (putF f v fs).lookup g = if g = f then some v else fs.lookup g
 | [] => by
  show List.lookup g [(f, v)] = _
  by_cases h : g = f
  ·have hb : (g == f) = true := beq_iff_eq.mpr h
   simp only [List.lookup, hb, if_pos h]
  ·have hb : (g == f) = false := beq_eq_false_iff_ne.mpr h
   simp only [List.lookup, hb, if_neg h]
 | (k, x) :: r => by
  have ih := xU f g v r
  rw [show putF f v ((k, x) :: r) = (if k = f then (k, v) :: r else (k, x) :: putF f v r) from rfl]
  by_cases hk : k = f
  ·rw [if_pos hk]
   by_cases h : g = k
   ·have hb : (g == k) = true := beq_iff_eq.mpr h
    simp only [List.lookup, hb, if_pos (h.trans hk)]
   ·have hb : (g == k) = false := beq_eq_false_iff_ne.mpr h
    simp only [List.lookup, hb, if_neg (fun e : g = f => h (e.trans hk.symm))]
  ·rw [if_neg hk]
   by_cases h : g = k
   ·have hb : (g == k) = true := beq_iff_eq.mpr h
    simp only [List.lookup, hb, if_neg (fun e : g = f => hk (h.symm.trans e))]
   ·have hb : (g == k) = false := beq_eq_false_iff_ne.mpr h
    simp only [List.lookup, hb]
    exact ih
theorem xL (f : Str) (v : V) : ∀ fs : List (Str × V), f ∈ (putF f v fs).map (·.1) /\ ∀ g, g ∈ fs.map (·.1) -> g ∈ (putF f v fs).map (·.1)
 | [] => ⟨by simp [putF], fun g h => by simp at h⟩
 | (k, x) :: r => by
  obtain ⟨i1, i2⟩ := xL f v r
  rw [show putF f v ((k, x) :: r) = (if k = f then (k, v) :: r else (k, x) :: putF f v r) from rfl]
  by_cases hk : k = f
  ·rw [if_pos hk]
   subst hk
   exact ⟨by simp, fun g h => by simpa using h⟩
  ·rw [if_neg hk]
   refine ⟨?_, fun g h => ?_⟩
   ·rw [List.map_cons]
    exact List.mem_cons_of_mem _ i1
   ·rw [List.map_cons] at h ⊢
    rcases List.mem_cons.mp h with e | e
    ·exact List.mem_cons.mpr (.inl e)
    ·exact List.mem_cons_of_mem _ (i2 g e)
theorem xW (f : Str) (v : V) : ∀ fs : List (Str × V), (putF f v fs).length <= fs.length + 1
 | [] => by simp [putF]
 | (k, x) :: r => by
  have ih := xW f v r
  rw [show putF f v ((k, x) :: r) = (if k = f then (k, v) :: r else (k, x) :: putF f v r) from rfl]
  by_cases hk : k = f
  ·rw [if_pos hk, List.length_cons, List.length_cons]; omega
  ·rw [if_neg hk, List.length_cons, List.length_cons]; omega
theorem RelO.some_of {v : V} {o : Option Value} (r : RelO (some v) o) : ∃ u, o = some u /\ RelV v u := by
 cases o with
 | none => exact (show False from r).elim
 | some u => exact ⟨u, rfl, r⟩
theorem RelO.none_of {o : Option Value} (r : RelO none o) : o = none := by
 cases o with
 | none => rfl
 | some u => exact (show False from r).elim
theorem wO {v : V} {u : Value} (r : RelV v u) : PySem.W.handedIn u = true := by
 cases v with
 | non => cases (show u = Value.none from r); rfl
 | bl b => cases (show u = Value.bool b from r); rfl
 | int i => obtain ⟨t, e⟩ := (show ∃ t, u = Value.int i t from r); cases e; rfl
 | str x => obtain ⟨t, e⟩ := (show ∃ t, u = Value.str x t from r); cases e; rfl
 | byt b => obtain ⟨t, e⟩ := (show ∃ t, u = Value.bytes b t from r); cases e; rfl
 | flt b => obtain ⟨t, e⟩ := (show ∃ t, u = Value.float b t from r); cases e; rfl
 | ref a => cases (show u = Value.ref a from r); rfl
 | ty n => cases (show u = Value.type n from r); rfl
section
variable {P : Program} {w : World} {H H' : Hp} {h h' : Heap} {a C dx : Addr} {fs fs' : List (Str × V)}
theorem x6 (hok : HOk P w H h) (e : H a = some (.ins C dx fs)) : ∃ mA, ObjM h a dx C mA /\ (∀ f, RelO (fs.lookup f) (mA f)) /\ PySem.Within mA (fs.map (·.1)) /\ fs.length <= 1000 /\ H dx = some (.own a) := by
 obtain ⟨d, z, ne, ob, mA, n, r, q⟩ := (show ObjOk P w H h a (.ins C dx fs) from hok a _ e)
 exact ⟨mA, ⟨ob, n, ne⟩, r, q, z, d⟩
end
structure Cls (K : PySem.W.Frag) (C : Addr) : Prop where
 pg : PySem.W.plainGet K C Str.empty = true
 hd : PySem.W.hasDictIn K C = true
 po : PySem.W.plainOver K C = true
 sa : PySem.W.findIn K (.ref C) "__setattr__" = some (some (.builtin "object.__setattr__"))
theorem Cls.get {K : PySem.W.Frag} {C : Addr} (c : Cls K C) (f : Str) : PySem.W.plainGet K C f = true := c.pg
def NoAttr (K : PySem.W.Frag) (C : Addr) (f : Str) : Prop := PySem.W.findIn K (.ref C) f = some none
theorem NoAttr.taker {K : PySem.W.Frag} {C : Addr} {f : Str} (n : NoAttr K C f) : PySem.W.takerIn K C f = some none := by
 unfold PySem.W.takerIn
 rw [show PySem.W.findIn K (.ref C) f = some none from n]
 rfl
structure Meth (K : PySem.W.Frag) (C : Addr) (m : Str) (f : Addr) : Prop where
 at_ : PySem.W.findIn K (.ref C) m = some (some (.ref f))
 fn : PySem.W.isFn K (.ref f) = true
 kp : PySem.W.keepIn K (.ref f) = true
section
variable {X : Cx} {pins : List (Addr × Obj)} {σ : St} {H : Hp} {s : Shared} {a C dx : Addr} {fs : List (Str × V)} {f : Str} {v : V} {A : Around} {E : Value -> Shared -> Prop}
theorem jV {b : Bool} {Q : Value -> Shared -> Prop} (I : Inv X pins σ H s) (e : H a = some (.ins C dx fs)) (c : Cls X.K C) (n : NoAttr X.K C f) (l : fs.lookup f = some v)
  (h : ∀ u s', Inv X pins σ H s' -> RelV v u -> Q u s') : wpAny (model X.prog X.w) A (getAttr (.ref a) f b) Q E s := by
 obtain ⟨mA, O, r, _, _, _⟩ := x6 I.hok e
 obtain ⟨u, hu, ru⟩ := RelO.some_of (v := v) (o := mA f) (by rw [<- l]; exact r f)
 exact W9 I.kIn O (c.get f) c.hd n hu (wO ru) (h u _ (I.tok _) ru)
theorem wf {m : Str} {g : Addr} {pl : Sem Bool} {Q : Value × List Value -> Shared -> Prop} (I : Inv X pins σ H s) (e : H a = some (.ins C dx fs)) (c : Cls X.K C) (k : Meth X.K C m g) (l : fs.lookup m = none)
  (h : Q (.ref g, [.ref a]) s) : wpAny (model X.prog X.w) A (getMethod (.ref a) m pl) Q E s := by
 obtain ⟨mA, O, r, _, _, _⟩ := x6 I.hok e
 have hn : mA m = none := RelO.none_of (by rw [<- l]; exact r m)
 exact Y5 I.kIn O (c.get m) k.at_ k.fn hn h
theorem jX {y : V} {u : Value} {Q : Unit -> Shared -> Prop} (I : Inv X pins σ H s) (e : H a = some (.ins C dx fs)) (c : Cls X.K C) (n : NoAttr X.K C f) (hl : fs.length < 1000) (ry : RelV y u)
  (h : ∀ s', Inv X pins σ (upd H a (.ins C dx (putF f y fs))) s' -> Q () s') : wpAny (model X.prog X.w) A (setAttr (.ref a) f u) Q E s := by
 obtain ⟨mA, O, r, wi, _, ho⟩ := x6 I.hok e
 have hz : (fs.map (·.1)).length <= sizeLine := by rw [List.length_map, sizeLine_eq]; omega
 refine Va I.kIn O c.sa c.po n.taker c.hd wi hz fun h' O' sb => h _ ?_
 have hd : ∃ o, h'.get? dx = some o := let ⟨o, _, _, e', _⟩ := O'.ns; ⟨o, e'⟩
 refine I.write (x := a) (e := dx) (by rw [e]; exact True.intro) (.inr ho) (fun b q hb z => (sb.2 b hb).trans z) hd ?_
 refine ⟨by rw [zm O.ne]; exact ho, ?_, O.ne, O'.obj, _, O'.ns, fun g => ?_, fun g hg => ?_⟩
 ·have := xW f y fs; omega
 ·show RelO ((putF f y fs).lookup g) (if g = f then some u else mA g)
  rw [xU]
  by_cases q : g = f
  ·rw [if_pos q, if_pos q]; exact ry
  ·rw [if_neg q, if_neg q]; exact r g
 ·by_cases q : g = f
  ·rw [q]; exact (xL f y fs).1
  ·refine (xL f y fs).2 g (wi g fun z => hg ?_)
   show (if g = f then some u else mA g) = none
   rw [if_neg q]; exact z
theorem Inv.made (I : Inv X pins σ H s) : Inv X pins σ (upd (upd H s.heap.objs.size (.own (s.heap.objs.size + 1))) (s.heap.objs.size + 1) (.ins C s.heap.objs.size []))
  { s with heap := (s.heap.push PySem.W.emptyDict).push (PySem.W.instObj C s.heap.objs.size) } := by
 have e1 : (s.heap.push PySem.W.emptyDict).get? s.heap.objs.size = some PySem.W.emptyDict := Heap.get?_push_size s.heap rfl
 have e2 : ((s.heap.push PySem.W.emptyDict).push (PySem.W.instObj C s.heap.objs.size)).get? (s.heap.objs.size + 1) = some (PySem.W.instObj C s.heap.objs.size) := by
  have := Heap.get?_push_size (s.heap.push PySem.W.emptyDict) (o := PySem.W.instObj C s.heap.objs.size) rfl
  rwa [Heap.size_push] at this
 have e3 : (s.heap.push PySem.W.emptyDict).Ns s.heap.objs.size (fun _ => none) := ⟨PySem.W.emptyDict, #[], _, e1, rfl, (fun e he => absurd he (by simp)), fun _ => rfl⟩
 have I1 := I.laid (a := s.heap.objs.size) (o := .own (s.heap.objs.size + 1)) (h' := s.heap.push PySem.W.emptyDict) (t' := s.toks) (fun b u q => Heap.get?_push_of_some _ q) (Nat.le_refl _) ⟨_, e1⟩
 refine I1.laid (a := s.heap.objs.size + 1) (o := .ins C s.heap.objs.size []) (t' := s.toks) (fun b u q => Heap.get?_push_of_some _ q) (Nat.le_of_eq (Heap.size_push _ _)) ?_
 have ne : s.heap.objs.size ≠ s.heap.objs.size + 1 := Nat.ne_of_lt (Nat.lt_succ_self _)
 refine ⟨by rw [zm ne, zg], Nat.zero_le _, ne, e2, fun _ => none, (Heap.Ns1.of_empty e3).at fun o q => Heap.get?_push_of_some _ q, fun _ => True.intro, fun y hy => absurd rfl hy⟩
theorem Zz {prog : Program} {w : World} {env : Env} {e : Expr} {f : Str} {pos : Pos} {s : Shared} {Q : Value -> Shared -> Prop} (hb : attributeBase e f env (eval e env) = eval e env)
  (h : wpAny (model prog w) A (eval e env) (fun o s₁ => wpAny (model prog w) A (getAttr o f true) Q E s₁) E s) : wpAny (model prog w) A (eval (.Attribute e f pos) env) Q E s :=
 Attribute_any_ h (by rw [arm_eval_Attribute, hb])
end
def tFld (K : PySem.W.Frag) (ta : TE) (f : Str) : TE := fun σ H Q => ta σ H fun x H1 => ∃ a C dx fs v, x = .ref a /\ H1 a = some (.ins C dx fs) /\ Cls K C /\ NoAttr K C f /\ fs.lookup f = some v /\ Q v H1
def sFld (K : PySem.W.Frag) (ta tv : TE) (f : Str) : TS := fun D σ H => tv σ H fun y H1 => ta σ H1 fun x H2 => ∃ a C dx fs, x = .ref a /\ H2 a = some (.ins C dx fs) /\ Cls K C /\ NoAttr K C f /\ fs.length < 1000 /\
 D.nx σ (upd H2 a (.ins C dx (putF f y fs)))
section
variable {X : Cx} {o e value : Expr} {f : Str} {pos pos' tpos : Pos} {ta tv : TE}
theorem qg (he : PE X e ta) (hb : attributeBase e f X.env (eval e X.env) = eval e X.env) : PE X (.Attribute e f pos) (tFld X.K ta f) := by
 intro pins s σ H Q I h
 refine Zz hb (thn (he pins s σ H _ I h) fun u s1 ⟨x, H1, I1, rx, a, C, dx, fs, v, ex, ea, c, n, l, q⟩ => ?_)
 subst ex
 obtain rfl : u = Value.ref a := rx
 exact jV I1 ea c n l fun u' s2 I2 ru => ⟨v, H1, I2, ru, q⟩
theorem qh (ha : PE X o ta) (hv : PE X value tv) (hs : swapsWith value (some (.Attribute o f pos')) pos.line X.env = pure false) : PS X (.Assign [.Attribute o f pos'] value pos) (sFld X.K ta tv f) := by
 intro pins s σ H D I h
 refine plainObj_wpAny_Assign_Attribute (thn (hv pins s σ H _ I h) fun u s1 ⟨y, H1, I1, ry, q⟩ => thn (ha pins s1 σ H1 _ I1 q) fun ov s2 ⟨x, H2, I2, rx, a, C, dx, fs, ex, ea, c, n, l, q2⟩ => ?_) hs
 subst ex
 obtain rfl : ov = Value.ref a := rx
 exact jX I2 ea c n l ry fun s3 I3 => ⟨σ, _, I3, q2⟩
end
section
variable {X : Cx} {pins : List (Addr × Obj)} {σ : St} {H : Hp} {s : Shared} {A : Around} {E : Value -> Shared -> Prop} {Q : Value -> Shared -> Prop} {c : Value} {b : Bool}
inductive TyOf (K : PySem.W.Frag) (H : Hp) : V -> Value -> Prop where
 | non : TyOf K H .non (.type "NoneType")
 | bl (x : Bool) : TyOf K H (.bl x) (.type "bool")
 | int (i : Int) : TyOf K H (.int i) (.type "int")
 | str (x : Str) : TyOf K H (.str x) (.type "str")
 | flt (x : UInt64) : TyOf K H (.flt x) (.type "float")
 | lst {a : Addr} {xs : List V} (e : H a = some (.lst xs)) : TyOf K H (.ref a) (.type "list")
 | frz {a : Addr} {o : Obj} {xs : List V} (e : H a = some (.frz o (.lst xs))) : TyOf K H (.ref a) (.type "list")
 | tup {a : Addr} {xs : List V} (e : H a = some (.tup xs)) : TyOf K H (.ref a) (.type "tuple")
 | dK {a : Addr} {kvs : List (Key × V)} (e : H a = some (.dK kvs)) : TyOf K H (.ref a) (.type "dict")
 | dT {a : Addr} {kvs : List (List Key × V)} (e : H a = some (.dT kvs)) : TyOf K H (.ref a) (.type "dict")
 | ins {a C dx : Addr} {fs : List (Str × V)} (e : H a = some (.ins C dx fs)) (cl : Cls K C) (ha : PySem.W.findIn K (.ref C) "__class__" = some (some (.builtin "object.__class__")))
   (hn : PySem.W.specialIn K (.builtin "object.__class__") "__get__" = some (some (.builtin "getset_descriptor.__get__"))) (htk : PySem.W.takesIn K (.builtin "object.__class__") = some true)
   (hm : PySem.W.mroIn K C (.type "object") = some true) : TyOf K H (.ref a) (.ref C)
theorem Yr {x : V} {u t : Value} (I : Inv X pins σ H s) (rx : RelV x u) (ty : TyOf X.K H x t) (e : PySem.W.kitOne X.K t c = some b) (h : ∀ tk, Q (.bool b) { s with toks := tk }) :
  wpAny (model X.prog X.w) A (call (.builtin "isinstance") [u, c]) Q E s := by
 cases ty with
 | non => cases (show u = Value.none from rx); exact PySem.W.kia_one PySem.W.kitx_none I.kIn True.intro e (fun z => nomatch z) h
 | bl y => cases (show u = Value.bool y from rx); exact PySem.W.kia_one PySem.W.kitx_bool I.kIn True.intro e (fun z => nomatch z) h
 | int i => obtain ⟨t, q⟩ := (show ∃ t, u = Value.int i t from rx); cases q; exact PySem.W.kia_one PySem.W.kitx_int I.kIn True.intro e (fun z => nomatch z) h
 | str y => obtain ⟨t, q⟩ := (show ∃ t, u = Value.str y t from rx); cases q; exact PySem.W.kia_one PySem.W.kitx_str I.kIn True.intro e (fun z => nomatch z) h
 | flt y => obtain ⟨t, q⟩ := (show ∃ t, u = Value.float y t from rx); cases q; exact PySem.W.kia_one PySem.W.kitx_float I.kIn True.intro e (fun z => nomatch z) h
 | @lst a xs ea =>
  cases (show u = Value.ref a from rx)
  obtain ⟨_, _, n, _, h1⟩ := (show ObjOk X.prog X.w H s.heap a (.lst xs) from I.hok a _ ea)
  exact PySem.W.kia_one PySem.W.kitx_list I.kIn ⟨_, h1, rfl⟩ e (fun z => nomatch z) h
 | @frz a ob xs ea =>
  cases (show u = Value.ref a from rx)
  obtain ⟨_, _, _, n, _, h1⟩ := (show ObjOk X.prog X.w H s.heap a (.frz ob (.lst xs)) from I.hok a _ ea)
  exact PySem.W.kia_one PySem.W.kitx_list I.kIn ⟨_, h1, rfl⟩ e (fun z => nomatch z) h
 | @tup a xs ea =>
  cases (show u = Value.ref a from rx)
  obtain ⟨_, _, _, p⟩ := (show ObjOk X.prog X.w H s.heap a (.tup xs) from I.hok a _ ea)
  obtain ⟨o, h1, h2, _⟩ := p
  exact PySem.W.kia_one PySem.W.kitx_tuple I.kIn ⟨o, h1, h2⟩ e (fun z => nomatch z) h
 | @dK a kvs ea =>
  cases (show u = Value.ref a from rx)
  obtain ⟨_, _, vs, _, p⟩ := (show ObjOk X.prog X.w H s.heap a (.dK kvs) from I.hok a _ ea)
  obtain ⟨o, es, ep, h1, h2, _⟩ := p
  exact PySem.W.kia_one PySem.W.kitx_dict I.kIn ⟨o, h1, h2.1⟩ e (fun z => nomatch z) h
 | @dT a kvs ea =>
  cases (show u = Value.ref a from rx)
  obtain ⟨_, _, xs, _, o, es, ep, h1, h2, _⟩ := (show ObjOk X.prog X.w H s.heap a (.dT kvs) from I.hok a _ ea)
  exact PySem.W.kia_one PySem.W.kitx_dict I.kIn ⟨o, h1, h2.1⟩ e (fun z => nomatch z) h
 | @ins a C dx fs ea cl ha hn htk hm =>
  cases (show u = Value.ref a from rx)
  obtain ⟨mA, O, _⟩ := x6 I.hok ea
  obtain ⟨od, J, _⟩ := O.look
  exact PySem.W.kia_one (PySem.W.kitx_own (cl.get _) cl.hd ha hn htk hm) I.kIn J e (fun z => nomatch z) h
end
end L2
namespace L2
open PySem PySem.Spec PyProof.Rows
structure Room (k : Nat) (A : Around) : Prop where
 hd : A.handled = none
 dp : A.depth + 3 * k + 5 < recursionLimit
 un : A.units + 16 * k + 200 < cLine
theorem Room.mono {j k : Nat} {A : Around} (r : Room k A) (h : j <= k) : Room j A := ⟨r.hd, by have := r.dp; omega, by have := r.un; omega⟩
theorem Room.deeper {k : Nat} {A : Around} (r : Room (k + 1) A) (env : Env) : Room k (A.deeper env) :=
 ⟨r.hd, by have := r.dp; show A.depth + 1 + 3 * k + 5 < _; omega, by have := r.un; show A.units + 3 + 16 * k + 200 < _; omega⟩
theorem jY {A : Around} {C : Addr} {us : List Value} {kw : List (Str × Value)} : (A.under (.builtin "type.__call__" ⟨.ref C :: us, kw⟩)).depth = A.depth + 1 := by
 first | rfl | simp [Around.under, Code.weight, Code.isCreation, Code.isGuard, Code.isCaller, Code.frames, Code.isFrame, guardIds]
theorem jZ {A : Around} {C : Addr} {us : List Value} {kw : List (Str × Value)} : (A.under (.builtin "type.__call__" ⟨.ref C :: us, kw⟩)).units = A.units + 1 := by
 first | rfl | simp [Around.under, Code.cUnits, Code.frames, Code.isFrame]
theorem Room.make {k : Nat} {A : Around} (r : Room (k + 1) A) (C : Addr) (us : List Value) (kw : List (Str × Value)) : Room k (A.under (.builtin "type.__call__" ⟨.ref C :: us, kw⟩)) :=
 ⟨r.hd, by have := r.dp; rw [jY]; omega, by have := r.un; rw [jZ]; omega⟩
theorem Room.depth {k : Nat} {A : Around} (r : Room k A) : A.depth < recursionLimit := by have := r.dp; omega
theorem Room.units {k : Nat} {A : Around} (r : Room k A) : A.units + 64 < cLine := by have := r.un; omega
theorem Room.units0 {k : Nat} {A : Around} (r : Room k A) : A.units < cLine := by have := r.un; omega
def tNil : TA := fun _ H Q => Q [] H
def v9 (ta : TE) (tr : TA) : TA := fun σ H Q => ta σ H fun x H1 => tr σ H1 fun xs H2 => Q (x :: xs) H2
section
variable {X : Cx} {e : Expr} {es : List Expr} {te : TE} {t : TA} {pos : Pos}
theorem qi : PA X [] tNil := fun _ _ _ _ H Q I h => Calls.spliced_nil ⟨[], H, I, .nil, h⟩
theorem Vb (ha : PE X e te) (hr : PA X es t) (hs : starEach (e :: es) X.env = (false, eval e X.env) :: starEach es X.env := by rfl) : PA X (e :: es) (v9 te t) := by
 intro pos pins s σ H Q I h
 rw [hs]
 show wpAny _ _ (spliced ((false, eval e X.env) :: backTo pos (starEach es X.env))) _ _ s
 refine Calls.spliced_cons (thn (ha pins s σ H _ I h) fun u s1 ⟨x, H1, I1, r1, q1⟩ => ?_)
 exact thn (hr pos pins s1 σ H1 _ I1 q1) fun us s2 ⟨xs, H2, I2, r2, q2⟩ => ⟨x :: xs, H2, I2, .cons r1 r2, q2⟩
def tTup (t : TA) : TE := fun σ H Q => t σ H fun xs H1 => xs.length <= sizeLine /\ ∀ p, H1 p = none -> Q (.ref p) (upd H1 p (.tup xs))
def tLst (t : TA) : TE := fun σ H Q => t σ H fun xs H1 => xs.length <= sizeLine /\ ∀ p, H1 p = none -> Q (.ref p) (upd H1 p (.lst xs))
theorem qj {x1} (h : PA X es t) : PE X (.Tuple es x1 pos) (tTup t) := by
 intro pins s σ H Q I hq
 refine wpAny_Tuple_spliced (thn (h pos pins s σ H _ I hq) fun us s1 ⟨xs, H1, I1, r, z, q⟩ => ⟨by rw [<- r.length]; exact z, ?_⟩)
 have hf : H1 s1.heap.objs.size = none := I1.hok.fresh (Nat.le_refl _)
 refine ⟨.ref s1.heap.objs.size, upd H1 s1.heap.objs.size (.tup xs), I1.laid (t' := s1.toks) (fun b u e => Heap.get?_push_of_some _ e) (Nat.le_refl _) ?_, rfl, q _ hf⟩
 exact ⟨z, us, r, ⟨_, Heap.get?_push_size _ rfl, rfl, rfl, _, rfl⟩⟩
theorem qk (h : PA X es t) : PE X (.List es pos) (tLst t) := by
 intro pins s σ H Q I hq
 refine wpAny_List_spliced (thn (h pos pins s σ H _ I hq) fun us s1 ⟨xs, H1, I1, r, z, q⟩ => ⟨by rw [<- r.length]; exact z, ?_⟩)
 have hf : H1 s1.heap.objs.size = none := I1.hok.fresh (Nat.le_refl _)
 refine ⟨.ref s1.heap.objs.size, upd H1 s1.heap.objs.size (.lst xs), I1.laid (t' := s1.toks) (fun b u e => Heap.get?_push_of_some _ e) (Nat.le_refl _) ?_, rfl, q _ hf⟩
 exact ⟨z, us, 0, r, Heap.get?_push_size _ rfl⟩
end
abbrev Sp := List V -> Hp -> VK -> XK -> Prop
abbrev CXT := List Env -> Hp -> Shared -> XK -> Value -> Shared -> Prop
structure Env0 (P : Program) (w : World) (K : PySem.W.Frag) (mg : Str -> Option Value) (base : Heap) (A : Around) (outer : List Env) (s : Shared) (H : Hp) : Prop where
 frames : A.frames = some outer
 mod : Mod K mg base
 bs : ∀ b o, base.get? b = some o -> s.heap.get? b = some o /\ H b = none
 bsz : base.objs.size <= s.heap.objs.size
 funs : s.heap.FunFrames base outer
 frf : ∀ b ∈ frs outer, H b = none
 hok : HOk P w H s.heap
 bare : AllBare s.gens
def CE (outer : List Env) (P : Program) (w : World) (H : Hp) (s : Shared) (Q : VK) (u : Value) (s' : Shared) : Prop :=
 ∃ v H', s'.os = s.os /\ AllBare s'.gens /\ Un (frs outer) [] H H' s.heap s'.heap /\ HOk P w H' s'.heap /\ RelV v u /\ Q v H'
def CR (CX : CXT) (outer : List Env) (P : Program) (w : World) (H : Hp) (s : Shared) (Q : VK) (E : XK) (r : Result) (s' : Shared) : Prop :=
 match r with
 | .ok (.ret u) => CE outer P w H s Q u s'
 | .ok _ => False
 | .error e => CX outer H s E e s'
structure FnOk (P : Program) (w : World) (K : PySem.W.Frag) (mg : Str -> Option Value) (base : Heap) (CX : CXT) (k : Nat) (f : Addr) (fd : FuncData) (ps : List Str) (sp : Sp) : Prop where
 len : ∀ vs H Q E, sp vs H Q E -> vs.length = ps.length
 run : ∀ (A : Around) (outer : List Env) (s : Shared) (H : Hp) (args : Args) (us : List Value) (vs : List V) (Q : VK) (E : XK), Room k A -> Env0 P w K mg base A outer s H -> BindsTo s fd args (ps.zip us) -> Vals vs us -> sp vs H Q E ->
  codeAny (model P w) A (.call (.ref f) args) (CR CX outer P w H s Q E) s
theorem FnOk.imp {P : Program} {w : World} {K : PySem.W.Frag} {mg : Str -> Option Value} {base : Heap} {CX : CXT} {k : Nat} {f : Addr} {fd : FuncData} {ps : List Str} {sp sp' : Sp} (F : FnOk P w K mg base CX k f fd ps sp)
  (h : ∀ vs H Q E, sp' vs H Q E -> sp vs H Q E) : FnOk P w K mg base CX k f fd ps sp' :=
 ⟨fun vs H Q E q => F.len vs H Q E (h _ _ _ _ q), fun A outer s H args us vs Q E hr he hb hv hs => F.run A outer s H args us vs Q E hr he hb hv (h _ _ _ _ hs)⟩
theorem Env0.make {P : Program} {w : World} {K : PySem.W.Frag} {mg : Str -> Option Value} {base : Heap} {A : Around} {outer : List Env} {s : Shared} {H : Hp} (e : Env0 P w K mg base A outer s H) (C : Addr) (us : List Value) (kw : List (Str × Value)) :
  Env0 P w K mg base (A.under (.builtin "type.__call__" ⟨.ref C :: us, kw⟩)) outer s H := ⟨by first | exact e.frames | (simpa [Around.under, Code.envs, Code.isFrame, pushEnvs] using e.frames), e.mod, e.bs, e.bsz, e.funs, e.frf, e.hok, e.bare⟩
section
variable {X : Cx} {pins : List (Addr × Obj)} {σ : St} {H : Hp} {s s' : Shared}
theorem Inv.env0 (I : Inv X pins σ H s) : Env0 X.prog X.w X.K X.mg X.base X.A X.stack s H :=
 ⟨I.ok.frames, I.ok.mod, I.bs, Nat.le_trans I.ok.bsz I.sz, I.stack, I.stkFree, I.hok, I.bare⟩
theorem Inv.after {Q : VK} {u : Value} (I : Inv X pins σ H s) (h : CE X.stack X.prog X.w H s Q u s') : EP X pins σ Q u s' := by
 obtain ⟨v, H', os, bare, un, hok, r, q⟩ := h
 obtain ⟨hh, g, d, t, os'⟩ := s'
 obtain rfl : os' = s.os := os
 exact ⟨v, H', I.call (h' := hh) (g' := g) (d' := d) (t' := t) (ch := []) un hok bare (fun b z => absurd z (by simp)), r, q⟩
end
def wP (sp : Sp) (dvs : List V) (E : XK) (t : TA) : TE := fun σ H Q => t σ H fun vs H1 => sp (vs ++ dvs) H1 Q E
def ZA (C : Addr) (m : Str) (sp : Sp) (dvs : List V) (E : XK) (ta : TE) (t : TA) : TE := fun σ H Q => ta σ H fun x H1 => ∃ a dx fs, x = .ref a /\ H1 a = some (.ins C dx fs) /\ fs.lookup m = none /\
 t σ H1 fun vs H2 => sp (x :: (vs ++ dvs)) H2 Q E
def Jr (C : Addr) (sp : Sp) (dvs : List V) (E : XK) (t : TA) : TE := fun σ H Q => t σ H fun vs H1 => ∀ x dx, H1 x = none -> H1 dx = none -> dx ≠ x ->
 sp (.ref x :: (vs ++ dvs)) (upd (upd H1 dx (.own x)) x (.ins C dx [])) (fun v H2 => v = .non /\ Q (.ref x) H2) E
def Binds (K : PySem.W.Frag) (fd : FuncData) (ps : List Str) (ds : List Value) : Prop :=
 ∀ (s : Shared) (us : List Value), K.In s.heap -> (us ++ ds).length = ps.length -> BindsTo s fd ⟨us, []⟩ (ps.zip (us ++ ds))
theorem Binds.all {K : PySem.W.Frag} {fd : FuncData} {ps : List Str} (h : ∀ us : List Value, us.length = ps.length -> bindArgs fd ⟨us, []⟩ = pure (ps.zip us)) : Binds K fd ps [] := fun s us _ hl => by
 rw [List.append_nil] at hl ⊢
 exact .of_eq (h us hl)
def yd (CX : CXT) (X : Cx) (E : XK) : Prop := ∀ (pins : List (Addr × Obj)) (σ : St) (H : Hp) (s : Shared) (e : Value) (s' : Shared), Inv X pins σ H s -> CX X.stack H s E e s' -> X.xe e s'
section
variable {X : Cx} {CX : CXT} {k : Nat} {f C : Addr} {fd : FuncData} {ps : List Str} {sp : Sp} {dvs : List V} {ds : List Value} {E : XK} {x m : Str} {p pos apos : Pos} {e o : Expr} {es : List Expr} {ta : TE} {t : TA}
theorem vn {pins : List (Addr × Obj)} {σ : St} {H : Hp} {s : Shared} {Q : VK} {us : List Value} {vs : List V} (F : FnOk X.prog X.w X.K X.mg X.base CX k f fd ps sp) (hr : Room k X.A) (hb : Binds X.K fd ps ds) (hd : Vals dvs ds) (hx : yd CX X E)
  (I : Inv X pins σ H s) (r : Vals vs us) (h : sp (vs ++ dvs) H Q E) : wpAny (model X.prog X.w) X.A (call (.ref f) us) (EP X pins σ Q) X.xe s := by
 have r2 : Vals (vs ++ dvs) (us ++ ds) := r.append hd
 have hl : (us ++ ds).length = ps.length := by rw [<- r2.length]; exact F.len _ _ _ _ h
 refine wpAny_call (codeAny_mono (F.run X.A X.stack s H ⟨us, []⟩ (us ++ ds) (vs ++ dvs) Q E hr I.env0 (hb s us I.kIn hl) r2 h) fun r s' hq => ?_)
 cases r with
 | error e => exact hx pins σ H s e s' I hq
 | ok fl =>
  cases fl with
  | ret u => exact I.after hq
  | next => exact False.elim hq
  | brk => exact False.elim hq
  | cont => exact False.elim hq
theorem Vc (F : FnOk X.prog X.w X.K X.mg X.base CX k f fd ps sp) (hr : Room k X.A) (hg : Gl X x) (hm : X.mg x = some (.ref f)) (hk : PySem.W.keepIn X.K (.ref f) = true) (hb : Binds X.K fd ps ds) (hd : Vals dvs ds) (hx : yd CX X E)
  (ha : PA X (e :: es) t) (hdb : (x == ("__debug__" : Str)) = false := by decide) (he : starEach (e :: es) X.env = (false, eval e X.env) :: starEach es X.env := by rfl) (hpl : (backTo pos (starEach es X.env)).any (·.1) = false := by rfl) :
  PE X (.Call (.Name x p) (e :: es) [] pos) (wP sp dvs E t) := by
 intro pins s σ H Q I h
 refine wpAny_Call_Name_kw (y8 I hg hm ?_ hdb)
 refine PySem.W.callWith_K (h₀ := X.base) I.ok.mod.kin hk (thn (ha pos pins s σ H _ I h) fun us s1 ⟨vs, H1, I1, r, q⟩ => ⟨I1.kIn, ?_⟩) he hpl
 exact vn F hr hb hd hx I1 r q
theorem Vd {pl : Sem Bool} (he : PE X o ta) (c : Cls X.K C) (hm : Meth X.K C m f) (F : FnOk X.prog X.w X.K X.mg X.base CX k f fd ps sp) (hr : Room k X.A) (hb : Binds X.K fd ps ds) (hd : Vals dvs ds) (hx : yd CX X E) (ha : PA X (e :: es) t)
  (hst : starEach (e :: es) X.env = (false, eval e X.env) :: starEach es X.env := by rfl) (hpl : (backTo pos (starEach es X.env)).any (·.1) = false := by rfl)
  (ht : eval (.Call (.Attribute o m apos) (e :: es) [] pos) X.env = (do
   let ov <- eval o X.env
   standAt apos.atName
   let (f, first) <- holding [ov] (getMethod ov m pl)
   callWith pos f first (backTo pos (starEach (e :: es) X.env)) (backToKw pos (keywordEach [] X.env))) := by rfl) :
  PE X (.Call (.Attribute o m apos) (e :: es) [] pos) (ZA C m sp dvs E ta t) := by
 intro pins s σ H Q I h
 refine PySem.W.methodCall_KW (pl := pl) (thn (he pins s σ H _ I h) fun u s1 ⟨x, H1, I1, rx, a, dx, fs, ex, ea, l, q⟩ => ?_) ht
 subst ex
 obtain rfl : u = Value.ref a := rx
 refine wf I1 ea c hm l ?_
 refine PySem.W.callWith_K (first := [.ref a]) (h₀ := X.base) I.ok.mod.kin hm.kp (thn (ha pos pins s1 σ H1 _ I1 q) fun us s2 ⟨vs, H2, I2, r, q2⟩ => ⟨I2.kIn, ?_⟩) hst hpl
 exact vn (us := .ref a :: us) (vs := .ref a :: vs) F hr hb hd hx I2 (.cons rfl r) q2
theorem Y7 {pl : Sem Bool} (he : PE X o ta) (c : Cls X.K C) (hm : Meth X.K C m f) (F : FnOk X.prog X.w X.K X.mg X.base CX k f fd ps sp) (hr : Room k X.A) (hb : Binds X.K fd ps ds) (hd : Vals dvs ds) (hx : yd CX X E)
  (ht : eval (.Call (.Attribute o m apos) [] [] pos) X.env = (do
   let ov <- eval o X.env
   standAt apos.atName
   let (f, first) <- holding [ov] (getMethod ov m pl)
   callWith pos f first (backTo pos (starEach [] X.env)) (backToKw pos (keywordEach [] X.env))) := by rfl) :
  PE X (.Call (.Attribute o m apos) [] [] pos) (ZA C m sp dvs E ta tNil) := by
 intro pins s σ H Q I h
 refine PySem.W.methodCall_KW (pl := pl) (thn (he pins s σ H _ I h) fun u s1 ⟨x, H1, I1, rx, a, dx, fs, ex, ea, l, q⟩ => ?_) ht
 subst ex
 obtain rfl : u = Value.ref a := rx
 refine wf I1 ea c hm l ?_
 exact PySem.W.callWith_K0 (first := [.ref a]) I1.kIn hm.kp (vn (us := [.ref a]) (vs := [.ref a]) F hr hb hd hx I1 (.cons rfl .nil) q)
structure Mk (K : PySem.W.Frag) (C f : Addr) : Prop where
 makes : PySem.W.makesIn K C = true
 init : PySem.W.findIn K (.ref C) "__init__" = some (some (.ref f))
 fn : PySem.W.isFn K (.ref f) = true
 kp : PySem.W.keepIn K (.ref C) = true
theorem Y8 {pins : List (Addr × Obj)} {σ : St} {H : Hp} {s : Shared} {Q : VK} {us : List Value} {vs : List V} (M : Mk X.K C f) (F : FnOk X.prog X.w X.K X.mg X.base CX k f fd ps sp) (hr : Room (k + 1) X.A) (hb : Binds X.K fd ps ds) (hd : Vals dvs ds)
  (hx : yd CX X E) (I : Inv X pins σ H s) (r : Vals vs us)
  (h : ∀ x dx, H x = none -> H dx = none -> dx ≠ x -> sp (.ref x :: (vs ++ dvs)) (upd (upd H dx (.own x)) x (.ins C dx [])) (fun v H2 => v = .non /\ Q (.ref x) H2) E) :
  wpAny (model X.prog X.w) X.A (call (.ref C) us) (EP X pins σ Q) X.xe s := by
 have hq := h (s.heap.objs.size + 1) s.heap.objs.size (I.hok.fresh (Nat.le_succ _)) (I.hok.fresh (Nat.le_refl _)) (Nat.ne_of_lt (Nat.lt_succ_self _))
 have I2 := Inv.made (C := C) I
 have r2 : Vals (V.ref (s.heap.objs.size + 1) :: (vs ++ dvs)) (Value.ref (s.heap.objs.size + 1) :: (us ++ ds)) := .cons rfl (r.append hd)
 have hl : (Value.ref (s.heap.objs.size + 1) :: us ++ ds).length = ps.length := by
  have e := r2.length
  rw [F.len _ _ _ _ hq] at e
  exact e.symm
 refine wpAny_call (Y6 (f := f) I.kIn M.makes M.init (beq_iff_eq.mp M.fn) (codeAny_mono (F.run _ X.stack _ _ ⟨Value.ref (s.heap.objs.size + 1) :: us, []⟩ (Value.ref (s.heap.objs.size + 1) :: (us ++ ds)) _ _ E (hr.make C us [])
  (I2.env0.make C us []) (hb _ (Value.ref (s.heap.objs.size + 1) :: us) I2.kIn hl) r2 hq) fun r s' hq' => ?_))
 cases r with
 | error e => exact hx pins σ _ _ e s' I2 hq'
 | ok fl =>
  cases fl with
  | ret u =>
   obtain ⟨v, H', I3, rv, ev, q3⟩ := I2.after hq'
   subst ev
   exact ⟨rv, ⟨V.ref (s.heap.objs.size + 1), H', I3, rfl, q3⟩⟩
  | next => exact False.elim hq'
  | brk => exact False.elim hq'
  | cont => exact False.elim hq'
theorem Ve (M : Mk X.K C f) (F : FnOk X.prog X.w X.K X.mg X.base CX k f fd ps sp) (hr : Room (k + 1) X.A) (hg : Gl X x) (hm : X.mg x = some (.ref C)) (hb : Binds X.K fd ps ds) (hd : Vals dvs ds) (hx : yd CX X E)
  (ha : PA X (e :: es) t) (hdb : (x == ("__debug__" : Str)) = false := by decide) (he : starEach (e :: es) X.env = (false, eval e X.env) :: starEach es X.env := by rfl) (hpl : (backTo pos (starEach es X.env)).any (·.1) = false := by rfl) :
  PE X (.Call (.Name x p) (e :: es) [] pos) (Jr C sp dvs E t) := by
 intro pins s σ H Q I h
 refine wpAny_Call_Name_kw (y8 I hg hm ?_ hdb)
 refine PySem.W.callWith_K (h₀ := X.base) I.ok.mod.kin M.kp (thn (ha pos pins s σ H _ I h) fun us s1 ⟨vs, H1, I1, r, q⟩ => ⟨I1.kIn, ?_⟩) he hpl
 exact Y8 M F hr hb hd hx I1 r q
end
section
variable {X : Cx} {CX : CXT} {k : Nat} {f C : Addr} {fd : FuncData} {ps ks : List Str} {sp : Sp} {E : XK} {x m : Str} {p pos apos kpos : Pos} {e o : Expr} {es : List Expr} {kws : List Keyword} {te ta : TE} {t tk : TA} {nm : Option Str}
variable {g : List Value -> List Value -> List Value} {gV : List V -> List V -> List V}
end
structure FnScope (N P : List Str) (sc : Scope) : Prop where
 kind : sc.kind = .function
 co : sc.isCoroutine = false
 gen : sc.isGenerator = false
 nd : N.Nodup
 pre : N.take P.length = P
 par : ∀ x ∈ P, sc.names.lookup x = some .local \/ sc.names.lookup x = some .cell
 nofree : ∀ y ∈ sc.names, y.2 ≠ .free
theorem wQ {kindOf : Str -> Option NameKind} {x : Str} : ∀ {binds : List (Str × Value)} {m : Str -> Option Value}, (∀ v, (x, v) ∉ binds) -> bindL kindOf binds m x = m x
 | [], _, _ => rfl
 | (n, v) :: r, m, h => by
  unfold bindL
  rw [wQ fun w hw => h w (List.mem_cons_of_mem _ hw)]
  split
  ·have : x ≠ n := by rintro rfl; exact h v List.mem_cons_self
   simp [this]
  ·rfl
theorem wR {kindOf : Str -> Option NameKind} {x : Str} : ∀ {binds : List (Str × Value)} {m : Str -> Option Value}, (∀ v, (x, v) ∉ binds) -> bindC kindOf binds m x = m x
 | [], _, _ => rfl
 | (n, v) :: r, m, h => by
  unfold bindC
  rw [wR fun w hw => h w (List.mem_cons_of_mem _ hw)]
  split
  ·rfl
  ·have : x ≠ n := by rintro rfl; exact h v List.mem_cons_self
   simp [this]
theorem wS {kindOf : Str -> Option NameKind} {x : Str} {v : Value} : ∀ {P : List Str} {vs : List Value} {i : Nat} {m : Str -> Option Value}, P.Nodup -> P[i]? = some x -> vs[i]? = some v -> kindOf x = some .local ->
  bindL kindOf (P.zip vs) m x = some v
 | [], _, _, _, _, h, _, _ => by simp at h
 | _ :: _, [], _, _, _, _, h, _ => by simp at h
 | p :: P, w :: vs, 0, m, nd, h1, h2, hk => by
  simp at h1 h2; subst h1; subst h2
  show bindL kindOf ((p, w) :: P.zip vs) m p = _
  unfold bindL
  rw [wQ fun v hv => (List.nodup_cons.mp nd).1 (List.of_mem_zip hv).1, if_pos hk]
  simp
 | p :: P, w :: vs, i + 1, m, nd, h1, h2, hk => by
  show bindL kindOf ((p, w) :: P.zip vs) m x = _
  unfold bindL
  exact wS (i := i) (List.nodup_cons.mp nd).2 (by simpa using h1) (by simpa using h2) hk
theorem wT {kindOf : Str -> Option NameKind} {x : Str} {v : Value} : ∀ {P : List Str} {vs : List Value} {i : Nat} {m : Str -> Option Value}, P.Nodup -> P[i]? = some x -> vs[i]? = some v -> kindOf x ≠ some .local ->
  bindC kindOf (P.zip vs) m x = some v
 | [], _, _, _, _, h, _, _ => by simp at h
 | _ :: _, [], _, _, _, _, h, _ => by simp at h
 | p :: P, w :: vs, 0, m, nd, h1, h2, hk => by
  simp at h1 h2; subst h1; subst h2
  show bindC kindOf ((p, w) :: P.zip vs) m p = _
  unfold bindC
  rw [wR fun v hv => (List.nodup_cons.mp nd).1 (List.of_mem_zip hv).1, if_neg hk]
  simp
 | p :: P, w :: vs, i + 1, m, nd, h1, h2, hk => by
  show bindC kindOf ((p, w) :: P.zip vs) m x = _
  unfold bindC
  exact wT (i := i) (List.nodup_cons.mp nd).2 (by simpa using h1) (by simpa using h2) hk
def yJ (N : List Str) (vs : List V) : St := vs.map some ++ List.replicate (N.length - vs.length) none
def cxOf (CX : CXT) (P : Program) (w : World) (K : PySem.W.Frag) (mg : Str -> Option Value) (base : Heap) (N : List Str) (qual : Str) (scope : Scope) (f : Addr) (cd : Value) (A : Around) (outer : List Env) (s : Shared) (H : Hp) (E : XK) : Cx where
 prog := P
 w := w
 K := K
 mg := mg
 base := base
 A := A.deeper (envOfC qual scope s.heap.objs.size f cd)
 N := N
 s₀ := s
 H₀ := H
 env := envOfC qual scope s.heap.objs.size f cd
 outer := outer
 stack := envOfC qual scope s.heap.objs.size f cd :: outer
 ex := []
 calm := true
 fn := fun _ => true
 pn := []
 xe := fun e s' => wpAny (model P w) (A.deeper (envOfC qual scope s.heap.objs.size f cd)) (leaving (envOfC qual scope s.heap.objs.size f cd) e) (fun _ s'' => CX outer H s E e s'') (fun e' s'' => CX outer H s E e' s'') s'
theorem ja {sc : Scope} {n : Nat} {x : Str} (h : sc.names.lookup x = some .cell) : ∃ c, (cellsFrom n sc.names []).lookup x = some c := by
 have q := PySem.W.cellsFrom_some sc.names n [] (.inl h)
 exact Option.isSome_iff_exists.mp q
theorem wU {CX : CXT} {P : Program} {w : World} {K : PySem.W.Frag} {mg : Str -> Option Value} {base : Heap} {N ps : List Str} {qual : Str} {scope : Scope} {f : Addr} {cd : Value} {A : Around} {outer : List Env} {s s1 : Shared} {H : Hp} {E : XK} {us : List Value} {vs : List V}
  (S : FnScope N ps scope) (hd : A.handled = none) (e0 : Env0 P w K mg base A outer s H) (hl : vs.length = ps.length) (r : Vals vs us)
  (x : InCallC s s.heap.objs.size (bindL (envOfC qual scope s.heap.objs.size f cd).kindOf (ps.zip us) fun _ => none) (cellsFrom (s.heap.objs.size + 1) scope.names []) (bindC (envOfC qual scope s.heap.objs.size f cd).kindOf (ps.zip us) fun _ => none) s1) :
  Inv (cxOf CX P w K mg base N qual scope f cd A outer s H E) [] (yJ N vs) H s1 := by
 have hpl : ps.length <= N.length := by have := congrArg List.length S.pre; rw [List.length_take] at this; omega
 obtain ⟨h1, tk, rfl, hk⟩ := x.done
 have noA : ∀ b : Addr, b ∉ (cxOf CX P w K mg base N qual scope f cd A outer s H E).ex := fun b z => absurd (show b ∈ ([] : List Addr) from z) (by simp)
 refine ⟨⟨e0.mod, S.kind, rfl, rfl, Nat.le_refl _, fun y z c h1 h2 => ?_, fun y hy => ?_, fun y c _ h => ?_, fun _ => hd, Around.frames_deeper e0.frames, .inr ⟨rfl, rfl⟩, fun b z => absurd z (noA b), e0.bs, e0.bsz, fun b _ _ => noA b, fun b z => absurd z (noA b), e0.funs, e0.frf⟩,
  rfl, e0.bare, Un.kept hk, ⟨_, x.toInCall.ns, fun i y v h1 h2 h3 => ?_⟩, fun y c h => ⟨_, x.cell y c h⟩, e0.hok.fresh (Nat.le_refl _), fun y c h => ?_, fun p hp => absurd (show p ∈ ([] : List (Addr × Obj)) from hp) (by simp), e0.hok.kept hk, ?_⟩
 ·exact name_of_addr x.apart (PySem.mem_of_lookup h1) (PySem.mem_of_lookup h2)
 ·have hy : scope.names.lookup y = some .cell \/ scope.names.lookup y = some .free := hy
  rcases hy with hy | hy
  ·exact ja hy
  ·exact absurd rfl (S.nofree _ (PySem.mem_of_lookup hy))
 ·exact Nat.le_of_lt (x.above y c (PySem.mem_of_lookup h))
 ·have hi : i < vs.length := by
   unfold yJ at h2
   by_cases hi : i < vs.length
   ·exact hi
   ·rw [List.getElem?_append_right (by simpa using hi)] at h2
    rw [List.getElem?_replicate] at h2
    split at h2 <;> cases h2
  have ha : vs[i]? = some v := by
   unfold yJ at h2
   rw [List.getElem?_append_left (by simpa using hi), List.getElem?_map] at h2
   cases e : vs[i]? with
   | none => rw [e] at h2; cases h2
   | some a => rw [e] at h2; cases h2; rfl
  obtain ⟨u, hu, rv⟩ := r.get ha
  have hp : ps[i]? = some y := by
   rw [<- S.pre, List.getElem?_take_of_lt (by omega)]; exact h1
  have ndP : ps.Nodup := by rw [<- S.pre]; exact S.nd.sublist (List.take_sublist _ _)
  refine ⟨u, rv, ?_⟩
  rcases S.par y (List.mem_of_getElem? hp) with k | k
  ·exact .inl ⟨k, wS ndP hp hu k⟩
  ·obtain ⟨c, e⟩ := ja (n := s.heap.objs.size + 1) k
   refine .inr ⟨.inl k, c, e, ?_⟩
   have q := x.cell y c e
   rw [wT ndP hp hu (by show scope.names.lookup y ≠ _; rw [k]; decide)] at q
   exact q
 ·exact e0.hok.fresh (Nat.le_of_lt (x.above y c (PySem.mem_of_lookup h)))
 ·unfold yJ
  show _ = N.length
  rw [List.length_append, List.length_map, List.length_replicate]
  omega
theorem Y9 {CX : CXT} {P : Program} {w : World} {K : PySem.W.Frag} {mg : Str -> Option Value} {base : Heap} {k : Nat} {f : Addr} {name qual : Str} {params : Arguments} {body : List Stmt} {scope : Scope} {dV kV doc pm cdv ct oc : Value} {an od : Option Addr}
  {osl : Array (Option Value)} {N ps : List Str} {sp : Sp} (lk : K.lookup f = some ⟨oc, od, .func (PySem.W.fnOf name qual params body scope dV kV doc pm an cdv ct), osl⟩) (hcd : PySem.W.codeIn K cdv qual = true) (S : FnScope N ps scope)
  (len : ∀ vs H Q E, sp vs H Q E -> vs.length = ps.length)
  (hbody : ∀ (A : Around) (outer : List Env) (s : Shared) (H : Hp) (vs : List V) (Q : VK) (E : XK), Room k (A.deeper (envOfC qual scope s.heap.objs.size f cdv)) -> sp vs H Q E ->
   ∃ t, PSs (cxOf CX P w K mg base N qual scope f cdv A outer s H E) body t /\ t { nx := fun _ H' => Q .non H', rt := Q } (yJ N vs) H) :
  FnOk P w K mg base CX (k + 1) f (PySem.W.fnOf name qual params body scope dV kV doc pm an cdv ct) ps sp := by
 refine ⟨len, fun A outer s H args us vs Q E hr e0 hb r hsp => ?_⟩
 have hl := len _ _ _ _ hsp
 have KX : K.In s.heap := e0.mod.kin.keeps fun b o e => (e0.bs b o e).1
 have lim : s.heap.NoLimit := e0.mod.nolimit.keeps fun b o e => (e0.bs b o e).1
 have hkind : ∀ y ∈ ps.zip us, scope.names.lookup y.1 = some .local \/ (scope.names.lookup y.1 = some .cell /\ ((cellsFrom (s.heap.objs.size + 1) scope.names []).lookup y.1).isSome = true) := fun ⟨n, v⟩ hy => by
  rcases S.par n (List.of_mem_zip hy).1 with q | q
  ·exact .inl q
  ·exact .inr ⟨q, PySem.W.cellsFrom_some _ _ _ (.inl q)⟩
 refine codeAny_call_function hr.depth (KX _ _ lk) rfl S.co S.gen rfl (PySem.W.codeRec_of KX hcd) (hb _ _ _ _ ?_)
 refine wpAny_newFunctionEnv_cells S.kind hkind fun env he s1 x => ?_
 subst he
 refine ⟨lim.keeps x.toInCall.keep, codeAny_func ?_⟩
 obtain ⟨t, ht, hq⟩ := hbody A outer s H vs Q E (hr.deeper _) hsp
 have I : Inv (cxOf CX P w K mg base N qual scope f cdv A outer s H E) [] (yJ N vs) H s1 := wU S hr.hd e0 hl r x
 refine wpAny_mono (ht [] s1 (yJ N vs) H _ I hq) (fun fl s' hs => ?_) fun e s' hs => hs
 have fin : ∀ {σ' : St} {H' : Hp} {v : V} {u : Value}, Inv (cxOf CX P w K mg base N qual scope f cdv A outer s H E) [] σ' H' s' -> RelV v u -> Q v H' -> CE outer P w H s Q u s' :=
  fun {σ' H' v u} J rv q => ⟨v, H', J.os, J.bare, J.base, J.hok, rv, q⟩
 cases fl with
 | ret u =>
  obtain ⟨v, σ', H', J, rv, q⟩ := hs
  exact fin J rv q
 | next =>
  obtain ⟨σ', H', J, q⟩ := hs
  exact fin (v := V.non) (u := Value.none) J rfl q
 | brk =>
  obtain ⟨_, _, _, q⟩ := hs
  exact False.elim q
 | cont =>
  obtain ⟨_, _, _, q⟩ := hs
  exact False.elim q
end L2
namespace L2
open PySem PySem.Spec PyProof.Rows
section
variable {X : Cx} {x : Str} {p pos : Pos} {e : Expr} {es : List Expr} {t : TA} {id T : String} {r : List V -> Hp -> VK -> Prop}
def tCB (r : List V -> Hp -> VK -> Prop) (t : TA) : TE := fun σ H Q => t σ H fun vs H1 => r vs H1 Q
theorem Xb (hc : xl X (.builtin id) r) (hg : Gl X x) (hm : X.mg x = none) (hv : bootBuiltins x = some (.builtin id)) (ha : PA X (e :: es) t) (hn : x ≠ "__name__" := by decide) (hdb : (x == ("__debug__" : Str)) = false := by decide)
  (he : starEach (e :: es) X.env = (false, eval e X.env) :: starEach es X.env := by rfl) (hpl : (backTo pos (starEach es X.env)).any (·.1) = false := by rfl) : PE X (.Call (.Name x p) (e :: es) [] pos) (tCB r t) := by
 intro pins s σ H Q I h
 refine wpAny_Call_Name_kw (yF I hg hm hv ?_ hn hdb)
 exact PyProof.Rows.callWith_builtin1 (thn (ha pos pins s σ H _ I h) fun us s1 ⟨vs, H1, I1, r1, q1⟩ => hc pins s1 σ H1 vs us Q I1 r1 q1) he hpl
theorem Ys (hc : xl X (.type T) r) (hg : Gl X x) (hm : X.mg x = none) (hv : bootBuiltins x = some (.type T)) (ha : PA X (e :: es) t) (hn : x ≠ "__name__" := by decide) (hdb : (x == ("__debug__" : Str)) = false := by decide)
  (he : starEach (e :: es) X.env = (false, eval e X.env) :: starEach es X.env := by rfl) (hpl : (backTo pos (starEach es X.env)).any (·.1) = false := by rfl) : PE X (.Call (.Name x p) (e :: es) [] pos) (tCB r t) := by
 intro pins s σ H Q I h
 refine wpAny_Call_Name_kw (yF I hg hm hv ?_ hn hdb)
 exact PyProof.Rows.callWith_type1 (thn (ha pos pins s σ H _ I h) fun us s1 ⟨vs, H1, I1, r1, q1⟩ => hc pins s1 σ H1 vs us Q I1 r1 q1) he hpl
end
end L2
namespace HT
open PySem PyProof.Rows
section
open PySem.SeqAt
open PySem.AutoSeq1 (wpAny_loadPart')
open PySem.MeetsSeq PySem.MeetsSeq2 PySem.MeetsSeq3
end
section
variable {prog : Program} {w : World} {A : Around} {E : Value -> Shared -> Prop} {s : Shared}
def sIx (n d : Nat) : Option Int -> Nat
 | none => d
 | some v => if v < 0 then (v + (n : Int)).toNat else min v.toNat n
end
end HT
namespace L2
open PySem PySem.Spec PyProof.Rows
abbrev TO := St -> Hp -> (Option Int -> Hp -> Prop) -> Prop
def PO (X : Cx) (e : Option Expr) (t : TO) : Prop :=
 ∀ (pins : List (Addr × Obj)) (s : Shared) (σ : St) (H : Hp) (Q : Option Int -> Hp -> Prop), Inv X pins σ H s -> t σ H Q ->
  wpAny (model X.prog X.w) X.A (evalPart e X.env) (fun u s' => ∃ o H', Inv X pins σ H' s' /\ IsPart u o /\ Q o H') X.xe s
def ZB : TO := fun _ H Q => Q none H
def Js (t : TE) : TO := fun σ H Q => t σ H fun x H1 => ∃ i, x = .int i /\ Q (some i) H1
section
variable {X : Cx} {e : Expr} {te : TE} {lo hi : Option Expr} {tl th : TO} {pos p2 : Pos}
theorem Vf : PO X none ZB := by
 intro pins s σ H Q I h
 rw [evalPart_none]
 exact wpAny_pure ⟨none, H, I, .none, h⟩
theorem Vg (h : PE X e te) : PO X (some e) (Js te) := by
 intro pins s σ H Q I hw
 rw [evalPart_some]
 refine thn (h pins s σ H _ I hw) fun u s1 ⟨x, H1, I1, r1, q1⟩ => ?_
 obtain ⟨i, rfl, q⟩ := q1
 obtain ⟨t, rfl⟩ := r1
 exact ⟨some i, H1, I1, .int i t, q⟩
def SlR (X : Cx) (r : V -> Option Int -> Option Int -> Hp -> VK -> Prop) : Prop :=
 ∀ (pins : List (Addr × Obj)) (s : Shared) (σ : St) (H : Hp) (x : V) (v vl vu : Value) (lo hi : Option Int) (sl : Addr) (Q : VK), Inv X pins σ H s -> RelV x v -> s.heap.IsSliceOf sl vl vu .none -> IsPart vl lo -> IsPart vu hi -> r x lo hi H Q ->
  ∃ T id, typeLookup (.type T) "__getitem__" = pure (some (.builtin id)) /\ s.TypeIs v T /\ wpAny (model X.prog X.w) X.A (getItem v (.ref sl)) (EP X pins σ Q) X.xe s
def tSl (r : V -> Option Int -> Option Int -> Hp -> VK -> Prop) (te : TE) (tl th : TO) : TE := fun σ H Q => te σ H fun x H1 => tl σ H1 fun l H2 => th σ H2 fun u H3 => r x l u H3 Q
theorem Xc {r : V -> Option Int -> Option Int -> Hp -> VK -> Prop} (hr : SlR X r) (he : PE X e te) (hl : PO X lo tl) (hu : PO X hi th) : PE X (.Subscript e (.Slice lo hi none p2) pos) (tSl r te tl th) := by
 intro pins s σ H Q I h
 refine Subscript_ (thn (he pins s σ H _ I h) fun v s1 ⟨x, H1, I1, r1, q1⟩ => ?_)
 refine wpAny_Slice (thn (hl pins s1 σ H1 _ I1 q1) fun vl s2 ⟨l, H2, I2, pl, q2⟩ => thn (hu pins s2 σ H2 _ I2 q2) fun vu s3 ⟨u, H3, I3, pu, q3⟩ => ?_)
 rw [evalPart_none]
 refine wpAny_pure ?_
 have I4 : Inv X pins σ H3 { s3 with heap := s3.heap.push { cls := .type "slice", data := .fields #[vl, vu, .none] } } := I3.kept (t' := s3.toks) fun b ob q => Heap.get?_push_of_some _ q
 obtain ⟨T, id, hT, ht, hg⟩ := hr pins { s3 with heap := s3.heap.push { cls := .type "slice", data := .fields #[vl, vu, .none] } } σ H3 x v vl vu l u s3.heap.objs.size Q I4 r1 (Heap.IsSliceOf.new ..) pl pu q3
 show wpAny (model X.prog X.w) X.A (subscriptTail e (.Slice lo hi none p2) v (.ref s3.heap.objs.size)) (EP X pins σ Q) X.xe { s3 with heap := s3.heap.push { cls := .type "slice", data := .fields #[vl, vu, .none] } }
 exact tail_any (ops := [.ref s3.heap.objs.size, v]) ht hT hg (by with_unfolding_all rfl)
def cutV (xs : List V) (lo hi : Option Int) : List V := (xs.drop (HT.sIx xs.length 0 lo)).take (HT.sIx xs.length xs.length hi - HT.sIx xs.length 0 lo)
theorem jb (xs : List V) (lo hi : Option Int) : (cutV xs lo hi).length <= xs.length := by
 unfold cutV
 rw [List.length_take, List.length_drop]
 omega
end
end L2
namespace L2
open PySem PySem.Spec PyProof.Rows
def ixN (n : Nat) (i : Int) : Option Nat := if 0 <= i then (if i < n then some i.toNat else none) else if -(n : Int) <= i then some (i + n).toNat else none
def atI {α : Type} (xs : List α) (i : Int) : Option α := (ixN xs.length i).bind fun j => xs[j]?
theorem ZC {n : Nat} {i : Int} {j : Nat} (h : ixN n i = some j) : seqIndex? i n = some j /\ j < n /\ -(n : Int) <= i /\ i < n := by
 unfold ixN at h
 by_cases h0 : 0 <= i
 ·rw [if_pos h0] at h
  by_cases h1 : i < n
  ·rw [if_pos h1] at h
   have e : i.toNat = j := Option.some.inj h
   exact ⟨by rw [seqIndex_of h0 h1, e], by omega, by omega, h1⟩
  ·rw [if_neg h1] at h; cases h
 ·rw [if_neg h0] at h
  by_cases h1 : -(n : Int) <= i
  ·rw [if_pos h1] at h
   have e : (i + n).toNat = j := Option.some.inj h
   exact ⟨by rw [seqIndex_neg (by omega) h1, e], by omega, h1, by omega⟩
  ·rw [if_neg h1] at h; cases h
theorem vo {α : Type} {xs : List α} {i : Int} {v : α} (h : atI xs i = some v) : ∃ j, seqIndex? i xs.length = some j /\ xs[j]? = some v /\ j < xs.length /\ -(xs.length : Int) <= i /\ i < xs.length := by
 unfold atI at h
 cases e : ixN xs.length i with
 | none => rw [e] at h; cases h
 | some j =>
  rw [e] at h
  obtain ⟨h1, h2, h3, h4⟩ := ZC e
  exact ⟨j, h1, h, h2, h3, h4⟩
theorem zq {α : Type} {xs : List α} {j : Nat} {v : α} (h : xs[j]? = some v) : atI xs (j : Int) = some v := by
 have hj : j < xs.length := (List.getElem?_eq_some_iff.mp h).1
 have e : ixN xs.length (j : Int) = some j := by
  unfold ixN
  rw [if_pos (by omega), if_pos (by omega)]; simp
 unfold atI; rw [e]; exact h
theorem Xd {α : Type} (xs : List α) (v : α) : atI (xs ++ [v]) (-1) = some v := by
 have hl : (xs ++ [v]).length = xs.length + 1 := by simp
 have e : ixN (xs ++ [v]).length (-1) = some xs.length := by
  unfold ixN
  rw [hl, if_neg (by decide), if_pos (by omega)]
  congr 1
  omega
 unfold atI
 rw [e]
 show (xs ++ [v])[xs.length]? = some v
 simp
def ZD (b : Expr) : Prop := ∀ o i, subscripted b false o i = operate [o, i] (getItem o i)
def IxR (X : Cx) (r : R2) : Prop :=
 ∀ (value slice : Expr) (pins : List (Addr × Obj)) (s : Shared) (σ : St) (H : Hp) (x y : V) (v u : Value) (Q : VK), Inv X pins σ H s -> RelV x v -> RelV y u -> r x y H Q ->
  subscripted slice false v u = operate [v, u] (getItem v u) -> wpAny (model X.prog X.w) X.A (subscriptTail value slice v u) (EP X pins σ Q) X.xe s
def MtR (X : Cx) (id : String) (r : V -> List V -> Hp -> VK -> Prop) : Prop :=
 ∀ (pins : List (Addr × Obj)) (s : Shared) (σ : St) (H : Hp) (x : V) (xs : List V) (v : Value) (us : List Value) (Q : VK), Inv X pins σ H s -> RelV x v -> Vals xs us -> r x xs H Q ->
  wpAny (model X.prog X.w) X.A (call (.builtin id) (v :: us)) (EP X pins σ Q) X.xe s
section
variable {X : Cx} {a b : Expr} {ta tb : TE} {pos : Pos}
theorem QC {r : R2} (hr : IxR X r) (ha : PE X a ta) (hb : PE X b tb) (hs : ZD b) : PE X (.Subscript a b pos) (tOp r ta tb) := by
 intro pins s σ H Q I h
 exact Subscript_ (binT ha hb I h fun v u s2 x y H2 I2 rx ry q => hr a b pins s2 σ H2 x y v u Q I2 rx ry q (hs _ _))
def rIxL (K : PySem.W.Frag) : R2 := fun x y H Q => ∃ p xs i v, x = .ref p /\ y = .int i /\ SqL K H p xs /\ atI xs i = some v /\ Q v H
def rIxT (K : PySem.W.Frag) : R2 := fun x y H Q => ∃ p xs i v, x = .ref p /\ y = .int i /\ SqT K H p xs /\ atI xs i = some v /\ Q v H
def rIxS : R2 := fun x y H Q => ∃ z i c, x = .str z /\ y = .int i /\ z.length <= sizeLine /\ atI z.cps.toList i = some c /\ Q (.str ⟨#[c]⟩) H
theorem Vh : IxR X (rIxL X.K) := by
 intro value slice pins s σ H x y v u Q I rx ry h hs
 obtain ⟨p, xs, i, z, rfl, rfl, hq, he, q⟩ := h
 cases rx
 obtain ⟨t, rfl⟩ := ry
 obtain ⟨its, r, pl, hz⟩ := I.list hq
 obtain ⟨j, h1, h2, h3, h4, h5⟩ := vo he
 obtain ⟨w, ew, rw'⟩ := r.get h2
 have hl := r.length
 have hn := xp
 have fin : EP X pins σ Q w s := ⟨z, H, I, rw', q⟩
 by_cases h0 : 0 <= i
 ·have hj : i.toNat = j := by
   rw [seqIndex_of h0 h5] at h1
   exact Option.some.inj h1
  exact item_listR pl.isList h0 (by omega) (by rw [hj]; simpa using ew) fin hs
 ·have hj : (i + (its.toArray.size : Int)).toNat = j := by
   rw [seqIndex_neg (by omega) h4] at h1
   rw [List.size_toArray, <- hl]
   exact Option.some.inj h1
  exact subscriptTail_builtinR (x := w) pl.isList.typeIs slot_list_getitem.lookup
   (wpAny_getItem_list_neg (Q := fun r s' => r = w /\ EP X pins σ Q r s') pl.isList (by omega) (by rw [List.size_toArray] <;> omega) (by omega) (by rw [hj]; simpa using ew) ⟨rfl, fin⟩) hs
theorem ql : IxR X (rIxT X.K) := by
 intro value slice pins s σ H x y v u Q I rx ry h hs
 obtain ⟨p, xs, i, z, rfl, rfl, hq, he, q⟩ := h
 cases rx
 obtain ⟨t, rfl⟩ := ry
 obtain ⟨its, r, pl, hz⟩ := I.tuple hq
 obtain ⟨j, h1, h2, h3, h4, h5⟩ := vo he
 obtain ⟨w, ew, rw'⟩ := r.get h2
 have hl := r.length
 have hn := xp
 have fin : EP X pins σ Q w s := ⟨z, H, I, rw', q⟩
 exact subscriptTail_builtinR (x := w) pl.typeIs slot_tuple_getitem.lookup
  (getItem_tuple (j := j) (Q := fun r s' => r = w /\ EP X pins σ Q r s') pl (by omega) (by omega) (by rw [List.size_toArray, <- hl]; exact h1) (by simpa using ew) ⟨rfl, fin⟩) hs
theorem qm : IxR X rIxS := by
 intro value slice pins s σ H x y v u Q I rx ry h hs
 obtain ⟨z, i, c, rfl, rfl, hz, he, q⟩ := h
 obtain ⟨t, rfl⟩ := rx
 obtain ⟨t', rfl⟩ := ry
 obtain ⟨j, h1, h2, h3, h4, h5⟩ := vo he
 have hl : z.cps.toList.length = z.length := by simp [Str.length]
 rw [hl] at h1 h4 h5
 have hn := xp
 exact tail_any (typeIs_str s z t) slot_str_getitem.lookup (getItem_str (c := c) (by
  have e1 : decide (i < -(2 ^ 63 : Int)) = false := decide_eq_false (by omega)
  have e2 : decide (i ≥ 2 ^ 63) = false := decide_eq_false (by omega)
  rw [e1, e2, Bool.or_false]) (by rw [h1]; simpa using h2) ⟨.str ⟨#[c]⟩, H, I.tok _, ⟨_, rfl⟩, q⟩) hs
theorem j0 (its : List Value) (n j : Nat) (u : Value) : Obj.mapSeq (·.setIfInBounds j u) { cls := .type "list", data := .seq its.toArray n } = { cls := .type "list", data := .seq (its.set j u).toArray n } := by
 simp [Obj.mapSeq]
theorem Inv.lst {pins : List (Addr × Obj)} {σ : St} {H : Hp} {s : Shared} {p : Addr} {xs : List V} (I : Inv X pins σ H s) (h : H p = some (.lst xs)) :
  ∃ (its : List Value) (n : Nat), Vals xs its /\ s.heap.get? p = some { cls := .type "list", data := .seq its.toArray n } /\ xs.length <= sizeLine := by
 obtain ⟨z, its, n, r, e⟩ := I.hok p _ h
 exact ⟨its, n, r, e, z⟩
theorem Inv.lstUpd {pins : List (Addr × Obj)} {σ : St} {H : Hp} {s : Shared} {p : Addr} {xs ys : List V} {its its' : List Value} {n n' : Nat} {f : Obj -> Obj} (I : Inv X pins σ H s) (h : H p = some (.lst xs))
  (ho : s.heap.get? p = some { cls := .type "list", data := .seq its.toArray n }) (hf : f { cls := .type "list", data := .seq its.toArray n } = { cls := .type "list", data := .seq its'.toArray n' }) (r : Vals ys its') (hz : ys.length <= sizeLine) (t : Nat) :
  Inv X pins σ (upd H p (.lst ys)) { s with heap := s.heap.update p f, toks := t } := by
 have e : (s.heap.update p f).get? p = some { cls := .type "list", data := .seq its'.toArray n' } := by
  rw [Heap.get?_update_self f ho (by rw [hf] <;> rfl), hf]
 refine I.write (x := p) (e := p) (by rw [h]; trivial) (.inl rfl) (fun b u hb q => (Heap.get?_update_other _ _ (Ne.symm hb)).trans q) ⟨_, e⟩ ?_
 exact ⟨hz, its', n', r, e⟩
def Jt : V -> V -> V -> Hp -> (Hp -> Prop) -> Prop := fun o i v H Q => ∃ p xs k j, o = .ref p /\ i = .int k /\ H p = some (.lst xs) /\ ixN xs.length k = some j /\ Q (upd H p (.lst (xs.set j v)))
theorem Xe : PSet X Jt := by
 intro pins s σ H o i v ov iv u Q I ro ri rv h
 obtain ⟨p, xs, k, j, rfl, rfl, hp, hj, q⟩ := h
 cases ro
 obtain ⟨t, rfl⟩ := ri
 obtain ⟨its, n, r, ho, hz⟩ := I.lst hp
 obtain ⟨h1, h2, h3, h4⟩ := ZC hj
 have hl := r.length
 have hn := xp
 have I' : Inv X pins σ (upd H p (.lst (xs.set j v))) { s with heap := s.heap.update p (Obj.mapSeq (·.setIfInBounds j u)) } :=
  I.lstUpd hp ho (j0 its n j u) (r.set rv j) (by rw [List.length_set]; exact hz) s.toks
 by_cases h0 : 0 <= k
 ·have hk : k.toNat = j := by
   rw [seqIndex_of h0 h4] at h1
   exact Option.some.inj h1
  exact PySem.W.ki_setAt ho h0 (by omega) (by rw [List.size_toArray, <- hl]; exact h4) (by rw [hk]; exact ⟨_, I', q⟩)
 ·have hk : (k + (its.toArray.size : Int)).toNat = j := by
   rw [seqIndex_neg (by omega) h3] at h1
   rw [List.size_toArray, <- hl]
   exact Option.some.inj h1
  exact PySem.W.ki_setBack ho (by omega) (by rw [List.size_toArray, <- hl]; exact h3) (by omega) (by rw [hk]; exact ⟨_, I', q⟩)
theorem vp (lo hi : Option Int) (n : Nat) : (sliceBounds lo hi none n).1 = ((HT.sIx n 0 lo : Nat) : Int) /\ (sliceBounds lo hi none n).2.1 = ((HT.sIx n n hi : Nat) : Int) /\ (sliceBounds lo hi none n).2.2 = 1 := by
 refine ⟨?_, ?_, rfl⟩
 ·cases lo with
  | none => simp [sliceBounds, HT.sIx]
  | some i =>
   simp only [sliceBounds, HT.sIx, Option.getD_none, show (1 : Int) > 0 by decide, if_true]
   by_cases h : i < 0
   ·simp only [h, if_true] <;> omega
   ·simp only [h, if_false] <;> omega
 ·cases hi with
  | none => simp [sliceBounds, HT.sIx]
  | some i =>
   simp only [sliceBounds, HT.sIx, Option.getD_none, show (1 : Int) > 0 by decide, if_true]
   by_cases h : i < 0
   ·simp only [h, if_true] <;> omega
   ·simp only [h, if_false] <;> omega
theorem wF (its : List Value) (lo hi : Option Int) : slicePick its.toArray lo hi none = ((its.drop (HT.sIx its.length 0 lo)).take (HT.sIx its.length its.length hi - HT.sIx its.length 0 lo)).toArray := by
 obtain ⟨h1, h2, h3⟩ := vp lo hi its.toArray.size
 unfold slicePick
 rw [h1, h2, h3]
 simp only [sliceRange_one, pick_run, List.size_toArray] <;> rfl
def rSlL (K : PySem.W.Frag) : V -> Option Int -> Option Int -> Hp -> VK -> Prop := fun x lo hi H Q => ∃ a xs, x = .ref a /\ SqL K H a xs /\ ∀ p, H p = none -> Q (.ref p) (upd H p (.lst (cutV xs lo hi)))
theorem Vi : SlR X (rSlL X.K) := by
 intro pins s σ H x v vl vu lo hi sl Q I rx hs pl pu h
 obtain ⟨a, xs, rfl, hx, q⟩ := h
 cases rx
 obtain ⟨its, r, ht, hz⟩ := I.list hx
 have hlen := r.length
 refine ⟨"list", _, slot_list_getitem.lookup, ht.isList.typeIs, ?_⟩
 refine wpAny_getItem_list_slice ht.isList hs pl pu .none (by simp) ?_ (by rw [List.size_toArray] <;> omega)
 rw [wF, <- hlen]
 refine ⟨.ref s.heap.objs.size, _, I.laid (t' := s.toks) (o := .lst (cutV xs lo hi)) (fun b ob q => Heap.get?_push_of_some _ q) (Nat.le_refl _) ?_, rfl, q _ (I.hok.fresh (Nat.le_refl _))⟩
 exact ⟨Nat.le_trans (jb xs lo hi) hz, _, 0, (r.drop (HT.sIx xs.length 0 lo)).take (HT.sIx xs.length xs.length hi - HT.sIx xs.length 0 lo), Heap.get?_push_size _ rfl⟩
def wV : V -> Bool
 | .non => true
 | .bl _ => true
 | .int _ => true
 | .str _ => true
 | _ => false
def eqV : V -> V -> Bool
 | .non, .non => true
 | .bl a, .bl b => a == b
 | .bl a, .int b => (if a then 1 else 0) == b
 | .int a, .bl b => a == (if b then 1 else 0)
 | .int a, .int b => a == b
 | .str a, .str b => a == b
 | _, _ => false
theorem qo {A : Around} {s : Shared} {y x : V} {u v : Value} (ry : RelV y u) (rx : RelV x v) (fy : wV y = true) (fx : wV x = true) : SeqAt.EqAt A s u v (eqV y x) := by
 cases y with
 | non =>
  cases ry
  cases x with
  | non => cases rx; exact SeqAt.EqAt.same _
  | bl b => cases rx; exact SeqAt.EqAt.none_bool b
  | int b => obtain ⟨t, rfl⟩ := rx; exact SeqAt.EqAt.none_int b t
  | str b => obtain ⟨t, rfl⟩ := rx; exact SeqAt.EqAt.none_str b t
  | _ => exact absurd (show false = true from fx) Bool.false_ne_true
 | bl a =>
  cases ry
  cases x with
  | non => cases rx; exact SeqAt.EqAt.bool_none a
  | bl b => cases rx; exact SeqAt.EqAt.bool_bool a b
  | int b => obtain ⟨t, rfl⟩ := rx; exact SeqAt.EqAt.bool_int a b t
  | str b => obtain ⟨t, rfl⟩ := rx; exact SeqAt.EqAt.bool_str a b t
  | _ => exact absurd (show false = true from fx) Bool.false_ne_true
 | int a =>
  obtain ⟨t', rfl⟩ := ry
  cases x with
  | non => cases rx; exact SeqAt.EqAt.int_none a t'
  | bl b => cases rx; exact SeqAt.EqAt.int_bool a t' b
  | int b => obtain ⟨t, rfl⟩ := rx; exact SeqAt.EqAt.int_int a t' b t
  | str b => obtain ⟨t, rfl⟩ := rx; exact SeqAt.EqAt.int_str a t' b t
  | _ => exact absurd (show false = true from fx) Bool.false_ne_true
 | str a =>
  obtain ⟨t', rfl⟩ := ry
  cases x with
  | non => cases rx; exact SeqAt.EqAt.str_none a t'
  | bl b => cases rx; exact SeqAt.EqAt.str_bool a t' b
  | int b => obtain ⟨t, rfl⟩ := rx; exact SeqAt.EqAt.str_int a t' b t
  | str b => obtain ⟨t, rfl⟩ := rx; exact SeqAt.EqAt.str_str a t' b t
  | _ => exact absurd (show false = true from fx) Bool.false_ne_true
 | _ => exact absurd (show false = true from fy) Bool.false_ne_true
theorem vq : xl X (.builtin "len") (fun xs H Q => ∃ p ys, xs = [.ref p] /\ (SqL X.K H p ys \/ SqT X.K H p ys) /\ Q (.int ys.length) H) := by
 intro pins s σ H xs us Q I r h
 obtain ⟨p, ys, rfl, hq, q⟩ := h
 obtain ⟨u, rfl, rx⟩ := we r
 cases rx
 have hn := xp
 rcases hq with hq | hq
 ·obtain ⟨its, r', pl, hz⟩ := I.list hq
  have hlen := r'.length
  exact Calls.call_len_list pl.isList (by simp only [List.size_toArray] <;> omega) ⟨.int ys.length, H, I.tok _, ⟨s.toks + 1, by rw [List.size_toArray, hlen]⟩, q⟩
 ·obtain ⟨its, r', pl, hz⟩ := I.tuple hq
  have hlen := r'.length
  exact len_tuple pl (by simp only [List.size_toArray] <;> omega) ⟨.int ys.length, H, I.tok _, ⟨s.toks + 1, by rw [List.size_toArray, hlen]⟩, q⟩
theorem vv : xl X (.type "list") (fun xs H Q => ∃ p ys, xs = [.ref p] /\ (SqL X.K H p ys \/ SqT X.K H p ys) /\ ∀ l, H l = none -> Q (.ref l) (upd H l (.lst ys))) := by
 intro pins s σ H xs us Q I r h
 obtain ⟨p, ys, rfl, hq, q⟩ := h
 obtain ⟨u, rfl, rx⟩ := we r
 cases rx
 have fin : ∀ (its : List Value), Vals ys its -> ys.length <= sizeLine -> ∀ (h' : Heap) (c' : Nat), (∀ b o', s.heap.get? b = some o' -> h'.get? b = some o') ->
   h'.get? s.heap.objs.size = some { cls := .type "list", dict := none, data := .seq its.toArray c', slots := #[] } -> EP X pins σ Q (.ref s.heap.objs.size) { s with heap := h' } := fun its r' hz h' c' kp e =>
  ⟨.ref s.heap.objs.size, _, I.laid (t' := s.toks) kp (Nat.le_refl _) (show ObjOk X.prog X.w _ h' _ (.lst ys) from ⟨hz, its, c', r', e⟩), rfl, q _ (I.hok.fresh (Nat.le_refl _))⟩
 rcases hq with hq | hq
 ·obtain ⟨its, r', pl, hz⟩ := I.list hq
  have hlen := r'.length
  obtain ⟨o, ho, hc, n, hd⟩ := pl.isList
  exact call_list_seq p (.inl rfl) ho hc hd (fun h' c' kp e => fin its r' hz h' c' kp e) (by simp only [List.size_toArray] <;> omega)
 ·obtain ⟨its, r', pl, hz⟩ := I.tuple hq
  have hlen := r'.length
  obtain ⟨o, ho, hc, n, hd⟩ := pl
  exact call_list_seq p (.inr rfl) ho hc hd (fun h' c' kp e => fin its r' hz h' c' kp e) (by simp only [List.size_toArray] <;> omega)
theorem wG : xl X (.type "tuple") (fun xs H Q => ∃ p ys, xs = [.ref p] /\ ((SqL X.K H p ys /\ ∀ l, H l = none -> Q (.ref l) (upd H l (.tup ys))) \/ (SqT X.K H p ys /\ Q (.ref p) H))) := by
 intro pins s σ H xs us Q I r h
 obtain ⟨p, ys, rfl, h⟩ := h
 obtain ⟨u, rfl, rx⟩ := we r
 cases rx
 rcases h with ⟨hq, q⟩ | ⟨hq, q⟩
 ·obtain ⟨its, r', pl, hz⟩ := I.list hq
  have hlen := r'.length
  refine call_tuple_list pl.isList (fun h' kp => ?_) (by simp only [List.size_toArray] <;> omega)
  have I1 : Inv X pins σ H { s with heap := h' } := I.kept (t' := s.toks) kp
  have I2 : Inv X pins σ (upd H h'.objs.size (.tup ys)) { s with heap := h'.push { cls := .type "tuple", data := .seq its.toArray } } :=
   I1.laid (t' := s.toks) (fun b o e => Heap.get?_push_of_some _ e) (Nat.le_refl _) (show ObjOk X.prog X.w _ _ _ (.tup ys) from ⟨hz, its, r', IsTupN.new _ _⟩)
  exact ⟨.ref h'.objs.size, _, I2, rfl, q _ (I1.hok.fresh (Nat.le_refl _))⟩
 ·obtain ⟨its, r', pl, hz⟩ := I.tuple hq
  exact call_tuple_same pl ⟨.ref p, H, I, rfl, q⟩
def tyV (K : PySem.W.Frag) (T : String) (x : V) (H : Hp) : Prop := match x with
 | .str _ => T = "str"
 | .int _ => T = "int"
 | .ref p => (T = "list" /\ ∃ xs, SqL K H p xs) \/ (T = "tuple" /\ ((∃ o, K.lookup p = some o /\ o.cls = .type "tuple" /\ o.dict = none) \/ ∃ xs, H p = some (.tup xs))) \/
   (T = "dict" /\ ((∃ kvs, H p = some (.dK kvs)) \/ ∃ kvs, H p = some (.dT kvs))) \/ (T = "set" /\ ∃ S n, H p = some (.set S n))
 | _ => False
theorem Xf {pins : List (Addr × Obj)} {σ : St} {H : Hp} {s : Shared} {T : String} {x : V} {v : Value} (I : Inv X pins σ H s) (r : RelV x v) (ty : tyV X.K T x H) :
  s.TypeIs v T /\ ∀ a, v = .ref a -> ∃ ob, s.heap.get? a = some ob /\ ob.dict = none := by
 cases x with
 | str z =>
  obtain ⟨t, rfl⟩ := r
  cases (show T = "str" from ty)
  exact ⟨typeIs_str s z t, fun _ e => nomatch e⟩
 | int i =>
  obtain ⟨t, rfl⟩ := r
  cases (show T = "int" from ty)
  exact ⟨typeIs_int s i t, fun _ e => nomatch e⟩
 | ref p =>
  cases r
  rcases ty with ⟨rfl, xs, hq⟩ | ⟨rfl, ⟨o, hk, hc, hd⟩ | ⟨xs, hk⟩⟩ | ⟨rfl, hk⟩ | ⟨rfl, S, n, hk⟩
  ·obtain ⟨its, _, pl, _⟩ := I.list hq
   refine ⟨pl.isList.typeIs, fun a e => ?_⟩
   cases e
   obtain ⟨o, n, e, c, hd, _⟩ := pl
   exact ⟨o, e, hd⟩
  ·refine ⟨⟨o, I.kIn p o hk, hc⟩, fun a e => ?_⟩
   cases e
   exact ⟨o, I.kIn _ o hk, hd⟩
  ·obtain ⟨_, _, _, o, ho, hc, hd, _⟩ := I.hok p _ hk
   refine ⟨⟨o, ho, hc⟩, fun a e => ?_⟩
   cases e
   exact ⟨o, ho, hd⟩
  ·have z : ∃ o, s.heap.get? p = some o /\ o.ExactDict := by
    rcases hk with ⟨kvs, hk⟩ | ⟨kvs, hk⟩
    ·obtain ⟨_, _, _, _, o, _, _, e, ex, _⟩ := I.hok p _ hk
     exact ⟨o, e, ex⟩
    ·obtain ⟨_, _, _, _, o, _, _, e, ex, _⟩ := I.hok p _ hk
     exact ⟨o, e, ex⟩
   obtain ⟨o, e, ex⟩ := z
   refine ⟨⟨o, e, ex.1⟩, fun a e2 => ?_⟩
   cases e2
   exact ⟨o, e, ex.2.1⟩
  ·obtain ⟨o, _, _, _, e, ex, _⟩ := I.hok p _ hk
   refine ⟨⟨o, e, ex.1⟩, fun a e2 => ?_⟩
   cases e2
   exact ⟨o, e, ex.2.1⟩
 | _ => exact False.elim ty
def tBM0 (K : PySem.W.Frag) (T : String) (r : V -> List V -> Hp -> VK -> Prop) (to : TE) : TE := fun σ H Q => to σ H fun x H1 => tyV K T x H1 /\ r x [] H1 Q
def tBM (K : PySem.W.Frag) (T : String) (r : V -> List V -> Hp -> VK -> Prop) (to : TE) (t : TA) : TE := fun σ H Q => to σ H fun x H1 => tyV K T x H1 /\ t σ H1 fun xs H2 => r x xs H2 Q
variable {o e : Expr} {es : List Expr} {to : TE} {t : TA} {name : Str} {apos cpos : Pos} {T id : String} {r : V -> List V -> Hp -> VK -> Prop}
theorem qp (pa : PlainAttrs T) (slot : Slot T name id) (hty : typeOf (.builtin id) = pure (.type "method_descriptor")) (hm : MtR X id r) (ho : PE X o to)
  (hbase : attributeBase o name X.env (eval o X.env) = eval o X.env := by rfl) (hline : (apos.endLine == cpos.line) = true := by rfl) : PE X (.Call (.Attribute o name apos) [] [] cpos) (tBM0 X.K T r to) := by
 intro pins s σ H Q I h
 refine wpAny_Call_method0_late hbase hline (thn (ho pins s σ H _ I h) fun v s1 ⟨x, H1, I1, r1, ty, q1⟩ => ?_)
 obtain ⟨h1, h2⟩ := Xf I1 r1 ty
 exact ⟨T, id, pa, slot, hty, h1, h2, Calls.callWith_builtin rfl (PySem.evalArgs_none (hm pins s1 σ H1 x [] v [] Q I1 r1 .nil q1))⟩
theorem QD (pa : PlainAttrs T) (slot : Slot T name id) (hty : typeOf (.builtin id) = pure (.type "method_descriptor")) (hm : MtR X id r) (ho : PE X o to) (ha : PA X (e :: es) t)
  (hbase : attributeBase o name X.env (eval o X.env) = eval o X.env := by rfl)
  (hfew : ((backTo cpos (starEach (e :: es) X.env)).all (fun x => !x.1) && (backToKw cpos (keywordEach [] X.env)).all (fun x => x.1.isSome)
   && decide ((e :: es).length + ([] : List Keyword).length + (if ([] : List Keyword).isEmpty then 0 else 1) < 30)) = true := by rfl)
  (hline : (apos.endLine == cpos.line) = true := by rfl) (hs : starEach (e :: es) X.env = (false, eval e X.env) :: starEach es X.env := by rfl) (hplain : (backTo cpos (starEach es X.env)).any (·.1) = false := by rfl) :
  PE X (.Call (.Attribute o name apos) (e :: es) [] cpos) (tBM X.K T r to t) := by
 intro pins s σ H Q I h
 refine wpAny_Call_method_late hbase hfew hline rfl (thn (ho pins s σ H _ I h) fun v s1 ⟨x, H1, I1, r1, ty, q1⟩ => ?_)
 obtain ⟨h1, h2⟩ := Xf I1 r1 ty
 refine ⟨T, id, pa, slot, hty, h1, h2, ?_⟩
 have hA := ha cpos pins s1 σ H1 _ I1 q1
 rw [hs] at hA ⊢
 refine Calls.callWith_builtin (by show (false || (backTo cpos (starEach es X.env)).any (·.1)) = false; rw [hplain] <;> rfl) (Calls.evalArgs_plain ?_)
 exact thn hA fun us s2 ⟨vs, H2, I2, r2, q2⟩ => hm pins s2 σ H2 x vs v us Q I2 r1 r2 q2
end
end L2
namespace L2
open PySem PySem.Spec PyProof.Rows
def MtM (X : Cx) (id : String) (r : V -> List V -> Hp -> VK -> Prop) : Prop :=
 ∀ (pins : List (Addr × Obj)) (s : Shared) (σ : St) (H : Hp) (x : V) (xs : List V) (v : Value) (us : List Value) (Q : VK), Inv X pins σ H s -> RelV x v -> Vals xs us -> r x xs H Q ->
  wpAny (model X.prog X.w) X.A (call (.builtin id) (v :: us)) (EP X pins σ Q) X.xe s
theorem Vals.one : ∀ {x : V} {us : List Value}, Vals [x] us -> ∃ u, us = [u] /\ RelV x u
 | _, _, .cons r .nil => ⟨_, rfl, r⟩
theorem Vals.zero : ∀ {us : List Value}, Vals [] us -> us = []
 | _, .nil => rfl
theorem Vals.dropLast {xs : List V} {us : List Value} (h : Vals xs us) : Vals xs.dropLast us.dropLast := by
 induction h with
 | nil => exact .nil
 | cons r t ih =>
  cases t with
  | nil => exact .nil
  | cons q t' => exact .cons r ih
theorem Vals.reverse {xs : List V} {us : List Value} (h : Vals xs us) : Vals xs.reverse us.reverse := by
 induction h with
 | nil => exact .nil
 | cons r t ih => rw [List.reverse_cons, List.reverse_cons]; exact Vals.append ih (.cons r .nil)
theorem Vals.rep {xs : List V} {us : List Value} (h : Vals xs us) : ∀ k : Nat, Vals (List.replicate k xs).flatten (List.replicate k us).flatten
 | 0 => .nil
 | k + 1 => by
  rw [List.replicate_succ, List.replicate_succ, List.flatten_cons, List.flatten_cons]
  exact Vals.append h (Vals.rep h k)
theorem j1 {α : Type} (l : List α) : l.eraseIdx (l.length - 1) = l.dropLast := by
 induction l with
 | nil => rfl
 | cons a r ih =>
  cases r with
  | nil => rfl
  | cons b r =>
   have e : (a :: b :: r).length - 1 = ((b :: r).length - 1) + 1 := by
    have h1 : (a :: b :: r).length = r.length + 2 := rfl
    have h2 : (b :: r).length = r.length + 1 := rfl
    omega
   rw [e, List.eraseIdx_cons_succ, ih]
   all_goals rfl
theorem wW (its : List Value) : ∀ (k : Nat) (acc : List Value),
  List.foldl (fun x1 x2 => x1 ++ x2) acc.toArray (List.replicate k its.toArray) = (acc ++ (List.replicate k its).flatten).toArray
 | 0, acc => by simp
 | k + 1, acc => by
  have e : acc.toArray ++ its.toArray = (acc ++ its).toArray := by simp
  have e2 : (acc ++ its) ++ (List.replicate k its).flatten = acc ++ (List.replicate (k + 1) its).flatten := by
   rw [List.replicate_succ, List.flatten_cons, List.append_assoc]
  rw [<- e2, <- wW its k (acc ++ its), <- e, List.replicate_succ, List.foldl_cons]
section
variable {X : Cx} {pins : List (Addr × Obj)} {σ : St} {H : Hp} {s : Shared} {l b : Addr} {xs ys zs : List V}
theorem Inv.lset {its its' : List Value} {n : Nat} {f : Array Value -> Array Value} {t' : Nat} (I : Inv X pins σ H s) (hH : H l = some (.lst xs))
  (e : s.heap.get? l = some { cls := .type "list", data := .seq its.toArray n }) (hf : f its.toArray = its'.toArray) (hv : Vals ys its') (hz : ys.length <= sizeLine) :
  Inv X pins σ (upd H l (.lst ys)) { s with heap := s.heap.update l (Obj.mapSeq f), toks := t' } := by
 have q := PySem.IsL.update e f
 rw [hf] at q
 refine I.write (x := l) (e := l) (by rw [hH]; exact trivial) (.inl rfl) (fun b' u hb hu => (Heap.get?_update_other s.heap (Obj.mapSeq f) (Ne.symm hb)).trans hu) ⟨_, q⟩ ?_
 exact ⟨hz, its', _, hv, q⟩
theorem Inv.lnew {its : List Value} {t' : Nat} (I : Inv X pins σ H s) (hv : Vals ys its) (hz : ys.length <= sizeLine) :
  Inv X pins σ (upd H s.heap.objs.size (.lst ys)) { s with heap := s.heap.push { cls := .type "list", data := .seq its.toArray }, toks := t' } :=
 I.laid (fun _ _ q => Heap.get?_push_of_some _ q) (Nat.le_refl _) ⟨hz, its, 0, hv, Heap.get?_push_size _ rfl⟩
theorem Inv.fresh (I : Inv X pins σ H s) : H s.heap.objs.size = none := I.hok.fresh (Nat.le_refl _)
theorem Inv.lstM (I : Inv X pins σ H s) (hH : H l = some (.lst xs)) : xs.length <= sizeLine /\ ∃ (its : List Value) (n : Nat), Vals xs its /\ xs.length = its.length /\ s.heap.get? l = some { cls := .type "list", data := .seq its.toArray n } := by
 obtain ⟨z, its, n, r, e⟩ := I.hok l _ hH
 exact ⟨z, its, n, r, r.length, e⟩
theorem jc {n : Nat} (h : n <= sizeLine) : Builtin.List.listTooLong n = false := by
 unfold Builtin.List.listTooLong
 exact decide_eq_false (by omega)
end
section
variable {X : Cx}
def ZE : V -> List V -> Hp -> VK -> Prop := fun x vs H Q => ∃ l xs y, x = .ref l /\ vs = [y] /\ H l = some (.lst xs) /\ xs.length < sizeLine /\ Q .non (upd H l (.lst (xs ++ [y])))
theorem Yt : MtM X "list.append" ZE := by
 intro pins s σ H x vs v us Q I rx rv h
 obtain ⟨l, xs, y, rfl, rfl, hH, hz, q⟩ := h
 cases rx
 obtain ⟨u, rfl, ru⟩ := rv.one
 obtain ⟨z, its, n, r, hl, e⟩ := I.lstM hH
 refine call_meets F.slot_list_append ⟨_, e, rfl⟩ F.entry_list_append (F.args_list_append_2 _ _) (PySem.list_append l its.toArray n u (by rw [List.size_toArray]; omega)) ⟨e, ?_⟩
 refine ⟨.non, _, I.lset (its' := its ++ [u]) hH e (by simp) (r.append (.cons ru .nil)) ?_, rfl, q⟩
 rw [List.length_append, List.length_singleton]
 omega
def ZG : V -> List V -> Hp -> VK -> Prop := fun x vs H Q => ∃ l b xs zs, x = .ref l /\ vs = [.ref b] /\ H l = some (.lst xs) /\ H b = some (.lst zs) /\ xs.length + zs.length <= sizeLine /\ Q .non (upd H l (.lst (xs ++ zs)))
theorem Yu : MtM X "list.extend" ZG := by
 intro pins s σ H x vs v us Q I rx rv h
 obtain ⟨l, b, xs, zs, rfl, rfl, hH, hB, hz, q⟩ := h
 cases rx
 obtain ⟨u, rfl, ru⟩ := rv.one
 cases ru
 obtain ⟨z, its, n, r, hl, e⟩ := I.lstM hH
 obtain ⟨z2, its2, n2, r2, hl2, e2⟩ := I.lstM hB
 have hsz : its.toArray.size + its2.toArray.size <= sizeLine := by rw [List.size_toArray, List.size_toArray]; omega
 have hlong : ¬ (!its.toArray.isEmpty && Builtin.List.listTooLong (its.toArray.size + its2.toArray.size)) = true := by
  rw [jc hsz, Bool.and_false]
  exact Bool.false_ne_true
 refine call_meets F.slot_list_extend ⟨_, e, rfl⟩ F.entry_list_extend (F.args_list_extend_2 _ _)
  (AutoSeq1.list_extend_list_list_0 l its.toArray n b its2.toArray n2 hlong (by rw [List.size_toArray]; omega) (by omega)) ⟨e, e2, ?_⟩
 refine ⟨.non, _, I.lset (its' := its ++ its2) hH e (by simp) (r.append r2) ?_, rfl, q⟩
 rw [List.length_append]
 omega
def rPop : V -> List V -> Hp -> VK -> Prop := fun x vs H Q => ∃ l xs y, x = .ref l /\ vs = [] /\ H l = some (.lst xs) /\ xs[xs.length - 1]? = some y /\ Q y (upd H l (.lst xs.dropLast))
theorem qr : MtM X "list.pop" rPop := by
 intro pins s σ H x vs v us Q I rx rv h
 obtain ⟨l, xs, y, rfl, rfl, hH, hy, q⟩ := h
 cases rx
 have hus := rv.zero
 subst hus
 obtain ⟨z, its, n, r, hl, e⟩ := I.lstM hH
 obtain ⟨u, hu, ru⟩ := r.get hy
 have hy' : its.toArray[its.toArray.size - 1]? = some u := by
  show its.toArray[its.length - 1]? = some u
  rw [<- Array.getElem?_toList, <- hl]
  exact hu
 refine call_meets F.slot_list_pop ⟨_, e, rfl⟩ F.entry_list_pop (F.args_list_pop_1 _) (MeetsSeq.list_pop_last l its.toArray n u hy' (by rw [List.size_toArray]; omega)) ⟨e, ?_⟩
 refine ⟨y, _, I.lset (its' := its.dropLast) hH e ?_ r.dropLast ?_, ru, q⟩
 ·show its.toArray.eraseIdxIfInBounds (its.toArray.size - 1) = its.dropLast.toArray
  rw [List.size_toArray, List.eraseIdxIfInBounds_toArray, j1]
 ·rw [List.length_dropLast]
  omega
def jd : V -> List V -> Hp -> VK -> Prop := fun x vs H Q => ∃ l xs, x = .ref l /\ vs = [] /\ H l = some (.lst xs) /\ Q .non (upd H l (.lst xs.reverse))
theorem j2 : MtM X "list.reverse" jd := by
 intro pins s σ H x vs v us Q I rx rv h
 obtain ⟨l, xs, rfl, rfl, hH, q⟩ := h
 cases rx
 have hus := rv.zero
 subst hus
 obtain ⟨z, its, n, r, hl, e⟩ := I.lstM hH
 refine call_meets F.slot_list_reverse ⟨_, e, rfl⟩ F.entry_list_reverse (F.args_list_reverse_1 _) (AutoSeq1.list_reverse_list_0 l its.toArray n (by rw [List.size_toArray]; omega)) ⟨e, ?_⟩
 refine ⟨.non, _, I.lset (its' := its.reverse) hH e (by simp) r.reverse ?_, rfl, q⟩
 rw [List.length_reverse]
 omega
def rCat : R2 := fun x y H Q => ∃ l b xs zs, x = .ref l /\ y = .ref b /\ H l = some (.lst xs) /\ H b = some (.lst zs) /\ xs.length + zs.length <= sizeLine /\ ∀ p, H p = none -> Q (.ref p) (upd H p (.lst (xs ++ zs)))
theorem qt : OpR X (binaryOp .Add) rCat := by
 intro pins s σ H x y v u Q I rx ry h
 obtain ⟨l, b, xs, zs, rfl, rfl, hH, hB, hz, q⟩ := h
 cases rx
 cases ry
 obtain ⟨z, its, n, r, hl, e⟩ := I.lstM hH
 obtain ⟨z2, its2, n2, r2, hl2, e2⟩ := I.lstM hB
 refine PySem.P.add_list e e2 ?_ (by rw [List.size_toArray, List.size_toArray]; omega)
 have ea : its.toArray ++ its2.toArray = (its ++ its2).toArray := by simp
 rw [ea]
 exact ⟨.ref _, _, I.lnew (t' := s.toks) (r.append r2) (by rw [List.length_append]; omega), rfl, q _ I.fresh⟩
def rRep : R2 := fun x y H Q => ∃ l k xs, x = .ref l /\ y = .int k /\ H l = some (.lst xs) /\ -(2 ^ 63) <= k /\ k < 2 ^ 63 /\ xs.length * k.toNat <= sizeLine /\
 ∀ p, H p = none -> Q (.ref p) (upd H p (.lst (List.replicate k.toNat xs).flatten))
theorem Vj {α : Type} (xs : List α) (k : Nat) : (List.replicate k xs).flatten.length = k * xs.length := by
 induction k with
 | zero => simp
 | succ k ih => rw [List.replicate_succ, List.flatten_cons, List.length_append, ih, Nat.succ_mul, Nat.add_comm]
theorem qu : OpR X (binaryOp .Mult) rRep := by
 intro pins s σ H x y v u Q I rx ry h
 obtain ⟨l, k, xs, rfl, rfl, hH, h1, h2, hz, q⟩ := h
 cases rx
 obtain ⟨t, rfl⟩ := ry
 obtain ⟨z, its, n, r, hl, e⟩ := I.lstM hH
 have hlen : its.toArray.size * k.toNat <= sizeLine := by rw [List.size_toArray, <- hl]; exact hz
 have hcap : ¬ its.toArray.size * k.toNat > (2 ^ 63 - 1) / 8 := by
  have : (sizeLine : Nat) <= (2 ^ 63 - 1) / 8 := by decide
  omega
 have hfit : ¬ (!Builtin.List.listFitsIndex k) = true := by
  rw [fitsIndex_both h1 h2]
  exact Bool.false_ne_true
 have hlong : ¬ Builtin.List.listTooLong (its.toArray.size * k.toNat) = true := by
  rw [jc hlen]
  exact Bool.false_ne_true
 have hnew : List.foldl (fun x1 x2 => x1 ++ x2) #[] (List.replicate (if its.toArray.isEmpty = true then 0 else k.toNat) its.toArray) = (List.replicate k.toNat its).flatten.toArray := by
  have f0 : ∀ m : Nat, List.foldl (fun x1 x2 => x1 ++ x2) #[] (List.replicate m its.toArray) = (List.replicate m its).flatten.toArray := fun m => by
   have := wW its m []
   rw [List.nil_append] at this
   exact this
  rw [f0]
  cases its with
  | nil => simp
  | cons a r' => rw [if_neg (by simp)]
 refine wpAny_binaryOp_repeat_ref (T := "list") (U := "int") (by decide) ⟨_, e, rfl⟩ (fun s' => typeIs_int s' k t) noFill_list_mul F.fills_int_mul F.slot_int_rmul repeat_list F.slot_int_index.lookup
  (call_meets F.slot_int_rmul (typeIs_int s k t) F.entry_int_rmul (F.args_int_rmul_2 _ _) (int___rmul___int_list k t l its.toArray n)
   ⟨e, rfl, ⟨_, e, rfl⟩, call_meets F.slot_list_mul ⟨_, e, rfl⟩ F.entry_list_mul (F.args_list_mul_2 _ _) (AutoListH.list___mul___list_int_3 l its.toArray n k t hfit hcap hlong) ⟨e, ?_⟩⟩)
 rw [hnew]
 exact ⟨.ref _, _, I.lnew (t' := s.toks) (r.rep k.toNat) (by rw [Vj, Nat.mul_comm]; exact hz), rfl, q _ I.fresh⟩
end
section
variable {prog : Program} {w : World} {A : Around} {E : Value -> Shared -> Prop} {s : Shared}
end
section
variable {X : Cx}
end
end L2
namespace Att
open PySem PySem.W PySem.Calls PyProof.Rows
theorem xZ {P : Params} {h : Heap} : ∀ (ns : List Int) (vs : List Value), WellAll P h vs (ns.map WData.int) -> IntsAre vs ns := by
 intro ns
 induction ns with
 | nil =>
  intro vs w
  rw [List.map_nil] at w
  cases w
  exact .nil
 | cons n ns ih =>
  intro vs w
  rw [List.map_cons] at w
  cases w with
  | cons a b =>
   cases a
   exact .cons _ _ (ih _ b)
theorem Yv {l : OpenLaw} {n : Nat} (hn : l.most = some n) {P : Params} {h : Heap} {args : List WData} {vals : List Value}
  (hpre : l.row.toRowW.claim.pre args = true) (hwl : WellAll P h vals args) :
  ∃ a vs ns, vals = [Value.ref a] /\ args = [WData.list (ns.map WData.int)] /\ h.get? a = some { cls := .type "list", data := .seq vs.toArray } /\ IntsAre vs ns /\ ns.length <= n := by
 have hsh : WShape.hasAll [] args [.list .int] = true := (pre_splitW hpre).1
 have hc : l.pre.holds [] { args := args } = true := (pre_splitW hpre).2
 obtain ⟨d, r, rfl, h1, h2⟩ := hasAllW_cons hsh
 obtain rfl := hasAllW_nil h2
 obtain ⟨xs, rfl, h3⟩ := hasW_list h1
 obtain ⟨ns, rfl⟩ := items_int h3
 have hlen : ns.length <= n := by
  unfold OpenLaw.pre at hc
  have h4 : (WTm.not (.lt (.lit (.int (n : Int))) (.len (.arg 0)))).holds [] { args := [.list (ns.map .int)] } = true := by
   have h4 := (holds_andW hc).1
   rw [hn] at h4
   exact h4
  have h5 := condW_of h4 (w_not (w_lt w_lit (w_len_list (w_arg rfl))))
  rw [List.length_map] at h5
  refine Nat.le_of_not_lt fun q => ?_
  have q' : (n : Int) < ((ns.length : Nat) : Int) := by omega
  first
   | (rw [decide_eq_true q'] at h5; exact absurd h5 (by decide))
   | (simp at h5; omega)
 cases hwl with
 | cons w1 w2 =>
  cases w2
  cases w1 with
  | list ho hall => exact ⟨_, _, ns, rfl, rfl, ho, xZ ns _ hall, hlen⟩
theorem Yw (l : OpenLaw) (args : List WData) : l.row.toRowW.claim.post args (.bool true) args = true :=
 postW_of (r := l.row.toRowW) (X := (true == true))
  (show WShape.has [] (.bool true) .bool = true by first | rfl | decide | simp [WShape.has, WShape.arms, WShape.armsAll])
  (show (WTm.eq .res (.lit (.bool true))).value [] { args := args, res := some (.bool true), after := args } = some (.bool (true == true)) from w_eq_bool (w_res rfl) w_lit) rfl
theorem attach_call {l : OpenLaw} {n : Nat} {q : Program} {loose : List Str} {XP : (Str -> Option Value) -> Heap -> Prop} {YP : World -> Heap -> Prop} {d : DefRec}
  (hn : l.most = some n) (hdf : d.params.defaults = [])
  (call : ∀ (w : World) (s₀ s₁ : Shared) (mg mb : Str -> Option Value) (fa : Addr) (o : Obj) (pm cd doc : Value) (a : Addr) (vs : List Value) (ns : List Int),
   Ground q loose [] XP w s₀ mg mb s₁.heap -> YP w s₁.heap ->
   s₁.heap.get? fa = some o -> o.data = .func (docDef d.name d.params d.body d.scope pm cd doc) -> s₁.heap.CodeRec cd d.name -> mg d.name = some (.ref fa) ->
   s₁.heap.get? a = some { cls := .type "list", data := .seq vs.toArray } -> IntsAre vs ns -> ns.length <= n -> s₁.gens = #[] ->
   codeAny (model l.prog w) callerA (.call (.ref fa) ⟨[.ref a], []⟩) (fun r s' => r = .ok (.ret (.bool true)) /\ OldK s₁.heap s'.heap /\ s'.os = s₁.os /\ AllBare s'.gens) s₁) :
  WalkO q loose XP YP l.row.toRowW d [] (fun f vs => PySem.call f vs) := by
 intro w s₀ s₁ mg mb G Y fa o pm cd doc dV kV ho hd hcd hD hmg hg args vals as hpre hlay hrd hwl hlo
 obtain rfl : dV = .none := Dflts.none hD hdf
 obtain rfl : kV = .none := Dflts.noKw hD
 obtain ⟨a, vs, ns, rfl, rfl, hobj, hints, hlen⟩ := Yv hn hpre hwl
 refine enter_call (codeAny_mono (call w s₀ s₁ mg mb fa o pm cd doc a vs ns G Y ho (fd_plain hd) hcd hmg hobj hints hlen hg) fun r s' hq => ?_)
 obtain ⟨rfl, h2, h3, h4⟩ := hq
 exact ⟨.inl ⟨.bool true, .bool true, [], rfl, fun _ => rfl, .bool true, Yw l _, fun _ => ⟨List.Pairwise.nil, fun _ hm => (nomatch hm)⟩⟩, h2, h3, h4⟩
section
variable {prog : Program} {w : World} {A : Around} {E : Value -> Shared -> Prop} {s : Shared} {K : Frag}
def QU (h : Heap) (L d : Addr) : List (Addr × Obj) := (List.range h.objs.size).filterMap fun a => if a = L \/ a = d then none else (h.get? a).map fun o => (a, o)
end
end Att
namespace L2
open PySem PySem.Spec PyProof.Rows
theorem wX : ∀ {vs : List Value} {ns : List Int}, IntsAre vs ns -> Vals (ns.map V.int) vs
 | _, _, .nil => .nil
 | _, _, .cons n t h => .cons ⟨t, rfl⟩ (wX h)
end L2
namespace L2
open PySem PySem.Spec PyProof.Rows
end L2
/- THE LAST THEOREM (shape; LID, My.* are yours):
   My.Adr: a structure of the addresses that your layer names (classes, functions); My.Txt K t: a structure (Prop) of the equations over K;
   My.txt_mk : {K} {implicit addresses ..} (e1 : nsIn K mainGlobals "law" = some (some (.ref f))) (e2 : K.lookup f = some ⟨oc, od, .func (fnOf "law" "law" params body scope dV kV doc pm an cdv ct), sl⟩) (e3 : codeIn K cdv "law" = true) .. : ∃ t, My.Txt K t
set_option maxRecDepth 100000 in
set_option maxHeartbeats 0 in
theorem PySem.Challenge.cw_LID_holds : PySem.Challenge.rw_LID.Holds := by
 w_on; o_law; k_head; (case hw => w_witness2)
 k_fill
 refine L2.walk_of (l := PySem.Challenge.rw_LID) (n := 63) (k := 40) (x := "script") (CX := fun w => ..) (sp := fun _ => My.sp_law) rfl (by decide) rfl ⟨rfl, by decide, by decide⟩ (fun w h Y => PySem.W.kIn_of Y) ?F ?S ?C
 case F =>
  intro w mg fa h KX G hmg
  have T : ∃ t, My.Txt (L2.KOf KX) t := by
   dsimp only [L2.KOf]                          -- K must stand as «<heap const> w.params» for k_is
   refine' My.txt_mk ?e1 ?e2 ?e3 ..
   (case e1 => PySem.W.k_is)                    -- in the order: a name -> its address -> its object -> its parts
   (case e2 => PySem.W.k_is)
   ..
  obtain ⟨t, T⟩ := T
  have e0 := hmg.symm.trans (PySem.W.mg_of KX G T.law)
  cases e0                                       -- fa is the law's own address
  exact ⟨_, fun s u => .of_eq rfl, fun base kb nb => My.law_fn T kb nb⟩     -- if «.of_eq rfl» comes too early: refine' ⟨_, ?b, fun base kb nb => My.law_fn T kb nb⟩; exact fun s u => .of_eq rfl
 case S => exact fun w H a ns hl hO hS => ..
 case C => exact ..
(the tactic k_is has no namespace: write k_is) -/
namespace L2
open PySem PySem.Spec PyProof.Rows
def yQ (s : Stmt) (j : Nat) : Stmt := match s with
 | .ClassDef _ _ _ body _ _ _ _ _ _ _ => body.getD j (.Pass ⟨0, 0, 0, 0⟩)
 | _ => .Pass ⟨0, 0, 0, 0⟩
def zQ (s : Stmt) : Arguments := match s with
 | .FunctionDef _ a _ _ _ _ _ _ _ _ => a
 | _ => { posonlyargs := [], args := [], vararg := none, kwonlyargs := [], kw_defaults := [], kwarg := none, defaults := [] }
def zK (s : Stmt) : List Stmt := match s with
 | .FunctionDef _ _ b _ _ _ _ _ _ _ => b
 | _ => []
def zo (s : Stmt) : Scope := match s with
 | .FunctionDef _ _ _ _ _ _ sc _ _ _ => sc
 | _ => { kind := .function, names := [], isGenerator := false, isCoroutine := false }
abbrev CX0 : CXT := fun _ _ _ _ _ _ => False
abbrev E0 : XK := fun _ _ _ => False
theorem zx {X : Cx} : yd CX0 X E0 := fun _ _ _ _ _ _ _ h => h.elim
structure Fun (K : PySem.W.Frag) (x qual : Str) (st : Stmt) (f : Addr) (fd : FuncData) : Prop where
 ex : ∃ (oc : Value) (od : Option Addr) (kV doc pm : Value) (an : Option Addr) (cdv ct : Value) (osl : Array (Option Value)),
  fd = PySem.W.fnOf x qual (zQ st) (zK st) (zo st) .none kV doc pm an cdv ct /\ K.lookup f = some ⟨oc, od, .func fd, osl⟩ /\ PySem.W.codeIn K cdv qual = true
 kp : PySem.W.keepIn K (.ref f) = true
section
variable {P : Program} {w : World} {K : PySem.W.Frag} {mg : Str -> Option Value} {base : Heap}
theorem Fun.ok {x qual : Str} {st : Stmt} {f : Addr} {fd : FuncData} {N ps : List Str} {k : Nat} {sp : Sp} (F : Fun K x qual st f fd) (S : FnScope N ps (zo st)) (len : ∀ vs H Q E, sp vs H Q E -> vs.length = ps.length)
  (hbody : ∀ (cdv : Value) (A : Around) (outer : List Env) (s : Shared) (H : Hp) (vs : List V) (Q : VK) (E : XK), Room k (A.deeper (envOfC qual (zo st) s.heap.objs.size f cdv)) -> sp vs H Q E ->
   ∃ t, PSs (cxOf CX0 P w K mg base N qual (zo st) f cdv A outer s H E).nox (zK st) t /\ t { nx := fun _ H' => Q .non H', rt := Q } (yJ N vs) H) : FnOk P w K mg base CX0 (k + 1) f fd ps sp := by
 obtain ⟨oc, od, kV, doc, pm, an, cdv, ct, osl, rfl, lk, hcd⟩ := F.ex
 refine Y9 lk hcd S len fun A outer s H vs Q E hr hsp => ?_
 obtain ⟨t, h, q⟩ := hbody cdv A outer s H vs Q E hr hsp
 exact ⟨t, h.nox, q⟩
theorem Fun.binds {x qual : Str} {st : Stmt} {f : Addr} {fd : FuncData} {ps : List Str} (F : Fun K x qual st f fd)
  (h : ∀ (kV doc pm : Value) (an : Option Addr) (cdv ct : Value) (us : List Value), us.length = ps.length -> bindArgs (PySem.W.fnOf x qual (zQ st) (zK st) (zo st) .none kV doc pm an cdv ct) ⟨us, []⟩ = pure (ps.zip us)) : Binds K fd ps [] := by
 obtain ⟨oc, od, kV, doc, pm, an, cdv, ct, osl, rfl, lk, hcd⟩ := F.ex
 exact .all (h kV doc pm an cdv ct)
theorem Xg {x qual : Str} {st : Stmt} {f : Addr} {oc : Value} {od an : Option Addr} {osl : Array (Option Value)} {kV doc pm cdv ct : Value} (l : K.lookup f = some ⟨oc, od, .func (PySem.W.fnOf x qual (zQ st) (zK st) (zo st) .none kV doc pm an cdv ct), osl⟩)
  (c : PySem.W.codeIn K cdv qual = true) (k : PySem.W.keepIn K (.ref f) = true) : Fun K x qual st f (PySem.W.fnOf x qual (zQ st) (zK st) (zo st) .none kV doc pm an cdv ct) := ⟨⟨oc, od, kV, doc, pm, an, cdv, ct, osl, rfl, l, c⟩, k⟩
end
theorem Xh {A : Around} {k : Nat} (hr : Room k A) : A.units + 1 < cLine := Nat.lt_of_le_of_lt (Nat.add_le_add_left (by decide : 1 <= 64) _) hr.units
section
variable {X : Cx}
theorem pv (i : Nat) {x : Str} {pos : Pos} (hN : X.N[i]? = some x := by rfl) (hv : Vis X.env.scope x := by first | exact Or.inl rfl | exact Or.inr (Or.inl rfl) | exact Or.inr (Or.inr rfl)) (hd : (x == ("__debug__" : Str)) = false := by decide)
  (hcd : (x == ("__classdict__" : Str)) = false := by decide) : PE X (.Name x pos) (tVar i) := JO hN hv hd hcd
end
theorem iteF {A B : Prop} (h : B) : if false = true then A else B := by
 rw [if_neg Bool.false_ne_true]
 exact h
theorem iteT {A B : Prop} (h : A) : if true = true then A else B := by
 rw [if_pos rfl]
 exact h
theorem ite2 {c A B : Prop} [Decidable c] (h1 : c -> A) (h2 : ¬ c -> B) : if c then A else B := by
 by_cases h : c
 ·rw [if_pos h]
  exact h1 h
 ·rw [if_neg h]
  exact h2 h
def Same (H H' : Hp) : Prop := ∀ b o, H b = some o -> H' b = some o
theorem Same.refl (H : Hp) : Same H H := fun _ _ h => h
theorem Same.trans {H H1 H2 : Hp} (a : Same H H1) (b : Same H1 H2) : Same H H2 := fun c o h => b c o (a c o h)
theorem Same.free {H H' : Hp} (e : Same H H') {l : Addr} (h : H' l = Option.none) : H l = Option.none := by
 cases q : H l with
 | none => rfl
 | some o =>
  rw [e l o q] at h
  cases h
theorem Same.seq {K : PySem.W.Frag} {H H' : Hp} {a : Addr} {xs : List V} (e : Same H H') (h : SqL K H a xs) : SqL K H' a xs := by
 rcases h with (h | ⟨o, h⟩) | h
 ·exact .inl (.inl (e _ _ h))
 ·exact .inl (.inr ⟨o, e _ _ h⟩)
 ·exact .inr h
end L2
namespace L2
open PySem PySem.Spec PyProof.Rows
def AllIn (env : Env) : List (Str × Addr) -> Prop
 | [] => True
 | p :: r => env.cells.lookup p.1 = some p.2 /\ AllIn env r
theorem AllIn.get {env : Env} : ∀ {cl : List (Str × Addr)} {y : Str} {c : Addr}, AllIn env cl -> cl.lookup y = some c -> env.cells.lookup y = some c
 | [], _, _, _, h => by simp at h
 | (n, a) :: r, y, c, ⟨e, t⟩, h => by
  rw [List.lookup_cons] at h
  by_cases q : y = n
  ·subst q
   rw [beq_self_eq_true] at h
   cases h
   exact e
  ·have q' : (y == n) = false := beq_eq_false_iff_ne.mpr q
   rw [q'] at h
   exact AllIn.get t h
def xv : List Nat -> St -> St
 | [], σ => σ
 | i :: S, σ => xv S (σ.set i none)
theorem y9 : ∀ (S : List Nat) (σ : St), (xv S σ).length = σ.length
 | [], _ => rfl
 | i :: S, σ => by rw [xv, y9 S, List.length_set]
theorem wY : ∀ (S : List Nat) (σ : St) {j : Nat} {v : V}, (xv S σ)[j]? = some (some v) -> σ[j]? = some (some v) /\ j ∉ S
 | [], _, _, _, h => ⟨h, by simp⟩
 | i :: S, σ, j, v, h => by
  obtain ⟨h1, h2⟩ := wY S (σ.set i none) h
  rw [List.getElem?_set] at h1
  by_cases e : i = j
  ·rw [if_pos e] at h1
   split at h1 <;> cases h1
  ·rw [if_neg e] at h1
   exact ⟨h1, fun z => (List.mem_cons.mp z).elim (fun z => e z.symm) h2⟩
structure LcOk (X : Cx) (scope : Scope) (cl : List (Str × Addr)) (S : List Nat) : Prop where
 clos : closureFor scope X.env = pure cl
 kind : scope.kind = .function
 noC : scope.names.all (fun y => y.2 != .cell) = true
 loc : scope.names.all (fun y => y.2 != .local || scope.names.lookup y.1 == some .local) = true
 own : X.N.zipIdx.all (fun y => S.contains y.2 || scope.names.lookup y.1 != some .local) = true
 sub : AllIn X.env cl
 has : scope.names.all (fun p => p.2 != .free || ((cl.lookup p.1).isSome && (X.env.kindOf p.1 == some .cell || X.env.kindOf p.1 == some .free))) = true
section
variable {X : Cx} {scope : Scope} {cl : List (Str × Addr)} {S : List Nat}
theorem LcOk.nocell (L : LcOk X scope cl S) : ∀ y ∈ scope.names, y.2 ≠ .cell := fun y hy => by
 have h := List.all_eq_true.mp L.noC y hy
 exact bne_iff_ne.mp h
theorem LcOk.locs (L : LcOk X scope cl S) : ∀ y ∈ scope.names, y.2 = .local -> scope.names.lookup y.1 = some .local := fun y hy e => by
 have h := List.all_eq_true.mp L.loc y hy
 rw [e] at h
 simpa using h
theorem LcOk.apart (L : LcOk X scope cl S) : ∀ (i : Nat) (y : Str), X.N[i]? = some y -> i ∉ S -> scope.names.lookup y ≠ some .local := fun i y hy hi => by
 have h := List.all_eq_true.mp L.own (y, i) (List.mem_zipIdx_iff_getElem?.mpr hy)
 have hc : S.contains i = false := by simpa using hi
 rw [hc, Bool.false_or] at h
 exact bne_iff_ne.mp h
theorem LcOk.free (L : LcOk X scope cl S) {y : Str} (h : scope.names.lookup y = some .free) : (∃ c, cl.lookup y = some c) /\ (X.env.kindOf y = some .cell \/ X.env.kindOf y = some .free) := by
 have h1 := List.all_eq_true.mp L.has _ (PySem.mem_of_lookup h)
 simp only [bne_self_eq_false, Bool.false_or, Bool.and_eq_true, Bool.or_eq_true, beq_iff_eq] at h1
 exact ⟨Option.isSome_iff_exists.mp h1.1, h1.2⟩
theorem zU (names : List (Str × NameKind)) (env : Env) (y : Str) :
  (names.map fun (n, k) => if (k == NameKind.free && env.scope.kind == .function && env.kindOf n == some .cell) then (n, NameKind.cell) else (n, k)).lookup y =
   (names.lookup y).map fun k => if (k == NameKind.free && env.scope.kind == .function && env.kindOf y == some .cell) then NameKind.cell else k := by
 induction names with
 | nil => rfl
 | cons p r ih =>
  obtain ⟨n, k⟩ := p
  rw [List.map_cons]
  by_cases q : y = n
  ·subst q
   by_cases hc : (k == NameKind.free && env.scope.kind == .function && env.kindOf y == some .cell) = true
   ·show List.lookup y ((if (k == NameKind.free && env.scope.kind == .function && env.kindOf y == some .cell) = true then (y, NameKind.cell) else (y, k)) :: _) = _
    rw [if_pos hc, List.lookup_cons, List.lookup_cons, beq_self_eq_true]
    show some NameKind.cell = some (if _ then _ else _)
    rw [if_pos hc]
   ·show List.lookup y ((if (k == NameKind.free && env.scope.kind == .function && env.kindOf y == some .cell) = true then (y, NameKind.cell) else (y, k)) :: _) = _
    rw [if_neg hc, List.lookup_cons, List.lookup_cons, beq_self_eq_true]
    show some k = some (if _ then _ else _)
    rw [if_neg hc]
  ·have q' : (y == n) = false := beq_eq_false_iff_ne.mpr q
   by_cases hc : (k == NameKind.free && env.scope.kind == .function && env.kindOf n == some .cell) = true
   ·show List.lookup y ((if (k == NameKind.free && env.scope.kind == .function && env.kindOf n == some .cell) = true then (n, NameKind.cell) else (n, k)) :: _) = _
    rw [if_pos hc, List.lookup_cons, List.lookup_cons, q']
    exact ih
   ·show List.lookup y ((if (k == NameKind.free && env.scope.kind == .function && env.kindOf n == some .cell) = true then (n, NameKind.cell) else (n, k)) :: _) = _
    rw [if_neg hc, List.lookup_cons, List.lookup_cons, q']
    exact ih
theorem LcOk.kinds (L : LcOk X scope cl S) {y : Str} (h : (relabel scope X.env).names.lookup y = some .cell \/ (relabel scope X.env).names.lookup y = some .free) : scope.names.lookup y = some .free := by
 have e : (relabel scope X.env).names.lookup y = (scope.names.lookup y).map fun k => if (k == NameKind.free && X.env.scope.kind == .function && X.env.kindOf y == some .cell) then NameKind.cell else k := zU scope.names X.env y
 rw [e] at h
 cases q : scope.names.lookup y with
 | none => rw [q] at h; rcases h with h | h <;> cases h
 | some k =>
  have hk : k ≠ .cell := L.nocell _ (PySem.mem_of_lookup q)
  rw [q] at h
  by_cases hf : k = .free
  ·rw [hf]
  ·have z : (k == NameKind.free) = false := beq_eq_false_iff_ne.mpr hf
   rw [Option.map_some, z, Bool.false_and, Bool.false_and, if_neg Bool.false_ne_true] at h
   rcases h with h | h
   ·exact absurd (Option.some.inj h) hk
   ·exact absurd (Option.some.inj h) hf
def cxLC (X : Cx) (scope : Scope) (cl : List (Str × Addr)) (M : List Str) (C : Addr) (s₀ : Shared) (H₀ : Hp) (ex : List Addr) (E : Value -> Shared -> Prop) : Cx where
 prog := X.prog
 w := X.w
 K := X.K
 mg := X.mg
 base := X.base
 A := X.A
 N := X.N ++ M
 s₀ := s₀
 H₀ := H₀
 env := compEnvC scope cl C X.env
 outer := X.stack
 stack := X.stack
 ex := ex
 fn := fun _ => false
 calm := X.calm
 pn := []
 xe := E
variable {pins : List (Addr × Obj)} {σ : St} {H : Hp} {s : Shared} {ex : List Addr} {M : List Str} {C : Addr}
theorem Xi {E : Value -> Shared -> Prop} {h1 : Heap} {tk : Nat} {m : Str -> Option Value} (I : Inv X pins σ H s) (L : LcOk X scope cl S) (hf : ∀ b ∈ ex, FpOk X pins H b) (hlt : ∀ b ∈ ex, b < s.heap.objs.size)
  (hk : ∀ b o, s.heap.get? b = some o -> h1.get? b = some o) (hC : s.heap.objs.size <= C) (hns : h1.Ns C m) :
  Inv (cxLC X scope cl M C s H ex E) [] (xv S σ ++ List.replicate M.length none) H { s with heap := h1, toks := tk } := by
 refine ⟨⟨I.ok.mod, L.kind, I.ok.glob, I.ok.blt, hC, fun x y c a b => I.ok.inj x y c (L.sub.get a) (L.sub.get b), fun y hy => (L.free (L.kinds hy)).1, (fun x c z => nomatch z), I.ok.hd, I.ok.frames, .inl rfl, fun b hb => ⟨?_, fun x c e => ?_⟩,
   I.bs, Nat.le_trans I.ok.bsz I.sz, fun b o e hb => ?_, fun b hb z => ?_, I.stack, I.stkFree⟩,
  rfl, I.bare, Un.kept hk, ⟨m, hns, fun i y v e1 e2 e3 => ?_⟩, fun y c e => ?_, I.hok.fresh hC, fun y c e => I.freeC y c (L.sub.get e), fun p hp => absurd (show p ∈ ([] : List (Addr × Obj)) from hp) (by simp), I.hok.kept hk, ?_⟩
 ·exact Nat.ne_of_lt (Nat.lt_of_lt_of_le (hlt b hb) hC)
 ·exact (hf b hb).2.2.2.2.1 x c (L.sub.get e)
 ·rcases (hf b hb).2.2.2.1 with z | z
  ·exact I.ok.noex b o e z
  ·exact absurd (Nat.lt_of_lt_of_le (Heap.lt_size e) (Nat.le_trans I.ok.bsz z)) (Nat.lt_irrefl _)
 ·rcases List.mem_cons.mp (I.stkSub b z) with q | q
  ·exact (hf b hb).2.1 q
  ·exact (hf b hb).2.2.1 q
 ·have e1' : (X.N ++ M)[i]? = some y := e1
  by_cases hi : i < σ.length
  ·rw [List.getElem?_append_left (by rw [y9]; exact hi)] at e2
   obtain ⟨e2, hiS⟩ := wY S σ e2
   rw [List.getElem?_append_left (by rw [<- I.len]; exact hi)] at e1'
   obtain ⟨m0, hn0, hl⟩ := I.loc
   have hy : scope.names.lookup y = some .free := by
    rcases e3 with e3 | e3
    ·have q := zU scope.names X.env y
     have e3' : (relabel scope X.env).names.lookup y = some .local := e3
     cases z : scope.names.lookup y with
     | none =>
      rw [z] at q
      have q' : (relabel scope X.env).names.lookup y = none := q
      rw [e3'] at q'; cases q'
     | some k =>
      have hk1 : k ≠ .local := fun w => L.apart i y e1' hiS (w ▸ z)
      rw [z, Option.map_some] at q
      have q' : some NameKind.local = some (if (k == NameKind.free && X.env.scope.kind == .function && X.env.kindOf y == some .cell) = true then NameKind.cell else k) := e3'.symm.trans q
      have q2 := Option.some.inj q'
      by_cases hc : (k == NameKind.free && X.env.scope.kind == .function && X.env.kindOf y == some .cell) = true
      ·rw [if_pos hc] at q2; cases q2
      ·rw [if_neg hc] at q2; exact absurd q2.symm hk1
    ·exact L.kinds e3
   obtain ⟨⟨c, hc⟩, hk2⟩ := L.free hy
   obtain ⟨u, r, l⟩ := hl i y v e1' e2 (.inr hk2)
   refine ⟨u, r, .inr ⟨?_, c, hc, ?_⟩⟩
   ·have q := zU scope.names X.env y
    rw [hy, Option.map_some] at q
    have q' : (relabel scope X.env).names.lookup y = some (if (NameKind.free == NameKind.free && X.env.scope.kind == .function && X.env.kindOf y == some .cell) = true then NameKind.cell else NameKind.free) := q
    by_cases hc : (NameKind.free == NameKind.free && X.env.scope.kind == .function && X.env.kindOf y == some .cell) = true
    ·rw [if_pos hc] at q'; exact .inl q'
    ·rw [if_neg hc] at q'; exact .inr q'
   ·rcases l with ⟨l1, _⟩ | ⟨_, c', e', z⟩
    ·rcases hk2 with w | w <;> (rw [l1] at w; cases w)
    ·have ec : c' = c := by
      have w := L.sub.get hc
      rw [e'] at w
      exact Option.some.inj w
     subst ec
     obtain ⟨o, ho, hd⟩ := z
     exact ⟨o, hk _ _ ho, hd⟩
  ·rw [List.getElem?_append_right (by rw [y9]; exact Nat.not_lt.mp hi), List.getElem?_replicate] at e2
   split at e2 <;> cases e2
 ·obtain ⟨v, o, ho, hd⟩ := I.cell y c (L.sub.get e)
  exact ⟨v, o, hk _ _ ho, hd⟩
 ·show (xv S σ ++ List.replicate M.length none).length = (X.N ++ M).length
  rw [List.length_append, List.length_append, List.length_replicate, y9, I.len]
def PTs (X : Cx) (ifs : List Expr) (t : TT) : Prop :=
 ∀ (pins : List (Addr × Obj)) (s : Shared) (σ : St) (H : Hp) (Q : Bool -> Hp -> Prop), Inv X pins σ H s -> t σ H Q ->
  wpAny (model X.prog X.w) X.A (forIn ifs true fun c r => if r = true then do let ok <- isTrue c X.env (eval c X.env); pure (ForInStep.yield ok) else pure (ForInStep.yield r)) (TP X pins σ Q) X.xe s
def tYes : TT := fun _ H Q => Q true H
theorem Vk {X : Cx} : PTs X [] tYes := fun _ _ _ H _ I h => wpAny_tests_nil ⟨H, I, h⟩
theorem Vm {X : Cx} {c : Expr} {t : TT} (h : PT X c t) : PTs X [c] t := fun pins s σ H Q I q => wpAny_tests_one (h pins s σ H Q I q)
def lcBy (J : It) (g : TG) (tt : TT) (te : TE) (Q : VK) (W : Nat -> Nat -> St -> List V -> Hp -> Prop) : Prop := ∀ i m τ ys H, W i m τ ys H ->
 (J.stop i H /\ ∀ p, H p = none -> Q (.ref p) (upd H p (.lst ys))) \/
 (J.go i H /\ ∃ N : St -> List V -> Hp -> Prop, (∀ τ' ys' H', N τ' ys' H' -> ∃ m', m' < m /\ W (i + 1) m' τ' ys' H') /\ ∀ x H', J.yld i H x H' -> g x τ H' fun τ2 H2 => tt τ2 H2 fun b H3 =>
  if b = true then te τ2 H3 fun y H4 => ys.length < sizeLine /\ N τ2 (ys ++ [y]) H4 else N τ2 ys H3)
def tLC (wi : TI) (g : TG) (tt : TT) (te : TE) (n : Nat) : TE := fun σ H Q => wi σ H fun J H1 => ∃ W, (∃ m, W 0 m (σ ++ List.replicate n none) [] H1) /\ lcBy J g tt te Q W
def tLCS (S : List Nat) (wi : TI) (g : TG) (tt : TT) (te : TE) (n : Nat) : TE := fun σ H Q => wi σ H fun J H1 => ∃ W, (∃ m, W 0 m (xv S σ ++ List.replicate n none) [] H1) /\ lcBy J g tt te Q W
theorem ZH {tg elt iter : Expr} {ifs : List Expr} {pos : Pos} {g : TG} {tt : TT} {te : TE} {J : It} {fp : List Addr} {it : Addr} {tn : Nat -> Heap -> Prop} {Q : VK} {E : Value -> Shared -> Prop} {R : Value -> Addr -> Result -> Shared -> Prop} {Al : Addr -> (Value -> Shared -> Prop) -> Prop}
  {W : Nat -> Nat -> St -> List V -> Hp -> Prop} {m0 : Nat} (L : LcOk X scope cl S) (hc : X.calm = true) (I : Inv X pins σ H s) (T : Turn X.prog X.w X.K tg J fp it tn) (st : tn 0 s.heap) (hf : ∀ b ∈ fp, FpOk X pins H b)
  (hg : ∀ C s H ex E, PG (cxLC X scope cl M C s H ex E) tg g) (ht : ∀ C s H ex E, PTs (cxLC X scope cl M C s H ex E) ifs tt) (he : ∀ C E, Al C E -> PE (cxLC X scope cl M C s H fp E) elt te)
  (hal : ∀ C, s.heap.objs.size < C -> Al C (notedBy (model X.prog X.w) X.A (compEnvC scope cl C X.env) (fun e s' => R (.ref s.heap.objs.size) C (.error e) s')))
  (w0 : W 0 m0 (xv S σ ++ List.replicate M.length none) [] H) (turn : lcBy J g tt te Q W)
  (hR : ∀ D C s' H' ys m, Inv X pins σ (upd H' D (.lst ys)) s' -> FpOk X pins (upd H' D (.lst ys)) C -> s'.heap.Ns C m -> Q (.ref D) (upd H' D (.lst ys)) -> R (.ref D) C (.ok .next) s') :
  wpAny (model X.prog X.w) X.A (newList []) (fun acc s₃ => wpAny (model X.prog X.w) X.A (newFunctionEnv scope X.env.globals cl [] X.env.qual none .none (some X.env)) (fun cenv s₄ =>
   codeAny (model X.prog X.w) X.A (.compStart (.ListComp elt [⟨tg, iter, ifs, 0⟩] scope pos) 0 (.ref it) acc { cenv with scope := relabel scope X.env }) (R acc cenv.locals) s₄) E s₃) E s := by
 refine wpAny_newObj_type (wpAny_newFunctionEnv L.nocell (by intro y hy; simp at hy) (fun h₁ hns₁ hsb₁ => ?_) L.kind)
 dsimp only at hns₁ hsb₁ ⊢
 generalize hG : s.heap.push { cls := .type "list", dict := none, data := .seq ([] : List Value).toArray } = G at hns₁ hsb₁ ⊢
 have hC : G.objs.size = s.heap.objs.size + 1 := by rw [<- hG, Heap.size_push]
 have hDC : s.heap.objs.size ≠ G.objs.size := by rw [hC]; exact Nat.ne_of_lt (Nat.lt_succ_self _)
 have hCle : s.heap.objs.size <= G.objs.size := by rw [hC]; exact Nat.le_succ _
 have old : ∀ b o, s.heap.get? b = some o -> h₁.get? b = some o := fun b o e =>
  hsb₁.extBut b o (by rw [hC]; exact Nat.ne_of_lt (Nat.lt_succ_of_lt (Heap.lt_size e))) (Heap.get?_push_of_some _ (hG ▸ Heap.get?_push_of_some _ e))
 have hacc : h₁.get? s.heap.objs.size = some { cls := .type "list", data := .seq ([] : List Value).toArray } := hsb₁.extBut _ _ hDC (Heap.get?_push_of_some _ (hG ▸ Heap.get?_push_size _ rfl))
 have fpo : ∀ b ∈ fp, b < s.heap.objs.size := fun b hb => let ⟨o, e, _⟩ := T.obj 0 _ st b hb; Heap.lt_size e
 have st1 : tn 0 h₁ := T.keep 0 _ _ st fun b _ o e => old b o e
 have nofs : s.heap.objs.size ∉ frs X.stack := fun z => by
  rcases List.mem_cons.mp (I.stkSub _ z) with q | q
  ·exact absurd (q ▸ I.lt) (Nat.lt_irrefl _)
  ·exact I.nofs (Nat.le_refl _) q
 have nocl : ∀ y c, cl.lookup y = some c -> c ≠ s.heap.objs.size := fun y c e z => by
  obtain ⟨v, o, ho, _⟩ := I.cell y c (L.sub.get e)
  exact absurd (z ▸ Heap.lt_size ho) (Nat.lt_irrefl _)
 have loop : ∀ s₃ : Shared, s₃ = { s with heap := h₁, toks := s.toks + ([] : List (Str × Value)).length } ->
   codeAny (model X.prog X.w) X.A (.compLoop (.ListComp elt [⟨tg, iter, ifs, 0⟩] scope pos) 0 (.ref it) (.ref s.heap.objs.size) (compEnvC scope cl G.objs.size X.env)) (R (.ref s.heap.objs.size) G.objs.size) s₃ := by
  rintro s₃ rfl
  have hAl := hal G.objs.size (by rw [hC]; exact Nat.lt_succ_self _)
  generalize hE : notedBy (model X.prog X.w) X.A (compEnvC scope cl G.objs.size X.env) (fun e s' => R (.ref s.heap.objs.size) G.objs.size (.error e) s') = E' at hAl ⊢
  have IY : Inv (cxLC X scope cl M G.objs.size s H fp E') [] (xv S σ ++ List.replicate M.length none) H { s with heap := h₁, toks := s.toks + ([] : List (Str × Value)).length } := Xi I L hf fpo old hCle hns₁
  refine codeAny_loop rfl (fun n s' => ∃ (i : Nat) (τ : St) (H' : Hp) (ys : List V) (its : List Value) (k : Nat), Inv (cxLC X scope cl M G.objs.size s H fp E') [] τ H' s' /\ tn i s'.heap /\ (∀ b ∈ fp, H' b = none) /\
   s'.heap.get? s.heap.objs.size = some { cls := .type "list", data := .seq its.toArray k } /\ H' s.heap.objs.size = none /\ Vals ys its /\ ys.length <= sizeLine /\ W i n τ ys H') (fun n s' hI => ?_) m0
   ⟨0, _, H, [], [], _, IY, st1, fun b hb => (hf b hb).1, hacc, I.hok.fresh (Nat.le_refl _), .nil, Nat.zero_le _, w0⟩
  obtain ⟨i, τ, H1, ys, its, k, I1, st1, fr1, eD, fD, rv, hz, w1⟩ := hI
  show wpAny _ X.A ((compTurn (.ListComp elt [⟨tg, iter, ifs, 0⟩] scope pos) 0 (.ref it) (.ref s.heap.objs.size) (compEnvC scope cl G.objs.size X.env)).onRaise (fun x => do noteFrame x (compEnvC scope cl G.objs.size X.env); theTreesLotGoes x)) _ _ s'
  refine wpAny_noted ?_
  rw [hE, compTurn_list]
  have I1' : Inv (cxLC X scope cl M G.objs.size s H fp E') [(s.heap.objs.size, { cls := .type "list", data := .seq its.toArray k })] τ H1 s' := I1.pins_of fun p hp => by
   have e : p = (s.heap.objs.size, { cls := .type "list", data := .seq its.toArray k }) := by simpa using hp
   subst e
   exact ⟨eD, fD, hDC, nofs, (fun v z => nomatch z)⟩
  have stat : ∀ {H' : Hp}, (∀ b ∈ fp, H' b = none) -> ∀ b ∈ fp, FpOk (cxLC X scope cl M G.objs.size s H fp E') [(s.heap.objs.size, { cls := .type "list", data := .seq its.toArray k })] H' b := fun hn b hb => by
   refine ⟨hn b hb, ?_, ?_, .inl hb, fun x c e => (hf b hb).2.2.2.2.1 x c (L.sub.get e), fun p hp z => ?_⟩
   ·exact Nat.ne_of_lt (Nat.lt_of_lt_of_le (fpo b hb) hCle)
   ·intro z
    rcases List.mem_cons.mp (I.stkSub b z) with q | q
    ·exact (hf b hb).2.1 q
    ·exact (hf b hb).2.2.1 q
   ·have e : p = (s.heap.objs.size, { cls := .type "list", data := .seq its.toArray k }) := by
     have hp' : p ∈ [(s.heap.objs.size, ({ cls := .type "list", data := .seq its.toArray k } : Obj))] := hp
     simpa using hp'
    subst e
    exact absurd (z ▸ fpo b hb) (Nat.lt_irrefl _)
  refine wpAny_bind (wpAny_standAt (wpAny_bind ?_))
  rcases turn i n τ ys H1 w1 with ⟨stop, q⟩ | ⟨go, N, hN, step⟩
  ·refine thn (T.done (cxLC X scope cl M G.objs.size s H fp E') rfl rfl rfl hc i _ s' τ H1 E' I1' (stat fr1) st1 stop) fun r s4 ⟨hr, I4⟩ => ?_
   subst hr
   refine wpAny_pure ?_
   obtain ⟨eD4, _, _⟩ := I4.pin (s.heap.objs.size, { cls := .type "list", data := .seq its.toArray k }) (List.mem_append_right _ List.mem_cons_self)
   have base4 : Un (frs X.stack) fp H H1 s.heap s4.heap := I4.base
   have un : Un (frs X.stack) fp H (upd H1 s.heap.objs.size (.lst ys)) s.heap s4.heap := ⟨base4.keep, base4.slot, fun b o e n hx => by rw [zm (Nat.ne_of_lt (Heap.lt_size e))]; exact base4.free b o e n hx, base4.there,
    fun b xs e => by rw [zm (zn (base4.tups b xs e) fD)]; exact base4.tups b xs e, fun b o u e => by rw [zm (zn (base4.frzs b o u e) fD)]; exact base4.frzs b o u e,
    fun b ps e => by
     obtain ⟨more, w⟩ := base4.tbls b ps e
     exact ⟨more, by rw [zm (zn w fD)]; exact w⟩⟩
   have hok : HOk X.prog X.w (upd H1 s.heap.objs.size (.lst ys)) s4.heap := fun b u e => by
    by_cases hb : b = s.heap.objs.size
    ·subst hb
     rw [zg] at e
     cases e
     exact ⟨hz, its, k, rv, eD4⟩
    ·rw [zm hb] at e
     exact (I4.hok b u e).stay (fun c v _ q => q) (fun c q => by rw [zm (zn q fD)]; exact q) fun c xs q => by rw [zm (zn q fD)]; exact q
   have IX : Inv X pins σ (upd H1 s.heap.objs.size (.lst ys)) s4 := I.call' I4.os un hok I4.bare fun b hb => ⟨(hf b hb).2.2.2.1, (hf b hb).2.1, (hf b hb).2.2.2.2.1, (hf b hb).2.2.2.2.2⟩
   have fC : H1 G.objs.size = none := I4.free
   obtain ⟨m4, n4, _⟩ := I4.loc
   exact hR _ _ s4 H1 ys m4 IX (I.fpOk hCle (by rw [zm (Ne.symm hDC)]; exact fC)) n4 (q _ fD)
  ·refine thn (T.item (cxLC X scope cl M G.objs.size s H fp E') rfl rfl rfl hc i _ s' τ H1 E' I1' (stat fr1) st1 go) fun r s4 ⟨u, hr, h4⟩ => ?_
   subst hr
   refine wpAny_bind (thn h4 fun _ s5 ⟨x, H5, I5, r5, y5, st5, fr5⟩ => ?_)
   have I5' := I5.pinned (stat fr5) (T.obj _ _ st5)
   have kept : ∀ {τ6 : St} {H6 : Hp} {s6 : Shared}, Inv (cxLC X scope cl M G.objs.size s H fp E') ([(s.heap.objs.size, { cls := .type "list", data := .seq its.toArray k })] ++ xK fp s5.heap) τ6 H6 s6 ->
     Inv (cxLC X scope cl M G.objs.size s H fp E') [] τ6 H6 s6 /\ tn (i + 1) s6.heap /\ (∀ b ∈ fp, H6 b = none) /\ s6.heap.get? s.heap.objs.size = some { cls := .type "list", data := .seq its.toArray k } /\ H6 s.heap.objs.size = none := fun {τ6 H6 s6} I6 => by
    have pin : ∀ b ∈ fp, ∀ o, s5.heap.get? b = some o -> s6.heap.get? b = some o /\ H6 b = none := fun b hb o e =>
     let w := I6.pin (b, o) (List.mem_append_right _ (List.mem_append_right _ (yP hb e)))
     ⟨w.1, w.2.1⟩
    have pD := I6.pin (s.heap.objs.size, { cls := .type "list", data := .seq its.toArray k }) (List.mem_append_right _ (List.mem_append_left _ List.mem_cons_self))
    refine ⟨I6.pins_of (fun p hp => nomatch hp), T.keep _ _ _ st5 fun b hb o e => (pin b hb o e).1, fun b hb => ?_, pD.1, pD.2.1⟩
    obtain ⟨o, e, _⟩ := T.obj _ _ st5 b hb
    exact (pin b hb o e).2
   refine wpAny_bind (thn (hg _ _ _ _ _ _ s5 τ H5 x u _ I5' r5 (step x H5 y5)) fun _ s6 ⟨σ6, H6, I6, q6⟩ => ?_)
   refine wpAny_bind (thn (ht _ _ _ _ _ _ s6 σ6 H6 _ I6 q6) fun ok s7 ⟨H7, I7, q7⟩ => ?_)
   cases ok with
   | false =>
    have q7' : N σ6 ys H7 := by simpa using q7
    obtain ⟨m', hm, w7⟩ := hN _ _ _ q7'
    obtain ⟨K1, K2, K3, K4, K5⟩ := kept I7
    exact wpAny_pure ⟨rfl, m', hm, i + 1, σ6, H7, ys, its, k, K1, K2, K3, K4, K5, rv, hz, w7⟩
   | true =>
    have q7' : te σ6 H7 fun y H4 => ys.length < sizeLine /\ N σ6 (ys ++ [y]) H4 := by simpa using q7
    refine wpAny_bind (wpAny_bind (thn (he _ _ hAl _ s7 σ6 H7 _ I7 q7') fun y s8 ⟨v8, H8, I8, r8, hz8, n8⟩ => ?_))
    obtain ⟨m', hm, w8⟩ := hN _ _ _ n8
    obtain ⟨K1, K2, K3, K4, K5⟩ := kept I8
    have hl := rv.length
    refine wpAny_bind (wpAny_list_append_plain (hsz := by rw [List.size_toArray]; omega) ⟨k, K4⟩ fun h9 hl9 hs9 => wpAny_pure (wpAny_pure ⟨rfl, m', hm, ?_⟩))
    obtain ⟨k9, e9⟩ := hl9
    have I9 : Inv (cxLC X scope cl M G.objs.size s H fp E') [] σ6 H8 { s8 with heap := h9 } := K1.turned (t' := s8.toks) (it := s.heap.objs.size) (fun b o hb e => (hs9.2 b hb).trans e) K5 hDC (.inr (Nat.le_refl _))
     (fun y c e => nocl y c e) fun p hp => nomatch hp
    refine ⟨i + 1, σ6, H8, ys ++ [v8], its ++ [y], k9, I9, T.keep _ _ _ K2 fun b hb o e => (hs9.2 b (Nat.ne_of_lt (fpo b hb))).trans e, K3, ?_, K5, rv.append (.cons r8 .nil), ?_, w8⟩
    ·rw [e9]
     simp
    ·rw [List.length_append, List.length_singleton]
     omega
 exact codeAny_compStart_list (loop _ rfl) (T.self X.A 0 _ _ _ st1 (loop _ rfl))
variable {tg elt iter : Expr} {ifs : List Expr} {pos : Pos} {wi : TI} {g : TG} {tt : TT} {te : TE}
theorem Ju (L : LcOk X scope cl S) (hc : X.calm = true) (hi : PI X tg iter wi) (hg : ∀ C s H ex E, PG (cxLC X scope cl M C s H ex E) tg g) (ht : ∀ C s H ex E, PTs (cxLC X scope cl M C s H ex E) ifs tt) (he : ∀ C s H ex E, PE (cxLC X scope cl M C s H ex E) elt te)
  (hs : ∀ x, foldedSetIterable iter X.env x = pure x := by intro _; rfl) : PE X (.ListComp elt [⟨tg, iter, ifs, 0⟩] scope pos) (tLCS S wi g tt te M.length) := by
 intro pins s σ H Q I h
 rw [eval_ListComp]
 refine wpAny_comprehension_free (use := none) rfl hs L.clos L.kind L.locs (thn (hi pins s σ H _ I h) fun v s1 h1 => thn h1 fun itv s2 h2 => ?_)
 obtain ⟨it, fp, tn, J, H2, rfl, I2, T, st2, f2, W, ⟨m0, w0⟩, turn⟩ := h2
 refine ZH (R := fun acc C => compPost (model X.prog X.w) X.A X.xe none (EP X pins σ Q) acc C) (Al := fun _ _ => True) L hc I2 T st2 f2 hg ht (fun C E _ => he C _ _ _ E) (fun _ _ => trivial) w0 turn ?_
 intro D C s' H' ys m IX fC ns q
 exact ⟨m, ns, fun h' sb => ⟨.ref D, _, IX.turned (t' := s'.toks) (fun b o hb e => (sb.2 b hb).trans e) fC.1 fC.2.1 fC.2.2.2.1 fC.2.2.2.2.1 fC.2.2.2.2.2, rfl, q⟩⟩
theorem wZ {i : Nat} {y : Str} {py spos : Pos} (hN : X.N.Nodup) (hi' : X.N[i]? = some y) (hy : Loc X.env.scope y) (L : LcOk X scope cl S) (hc : X.calm = true) (hi : PI X tg iter wi) (hg : ∀ C s H ex E, PG (cxLC X scope cl M C s H ex E) tg g)
  (ht : ∀ C s H ex E, PTs (cxLC X scope cl M C s H ex E) ifs tt) (he : ∀ C s H ex E, PE (cxLC X scope cl M C s H ex E) elt te) (hs : ∀ x, foldedSetIterable iter X.env x = pure x := by intro _; rfl)
  (hsw : swapsWith (.ListComp elt [⟨tg, iter, ifs, 0⟩] scope pos) (some (.Name y py)) spos.line X.env = pure true := by rfl)
  (hf : X.fn y = true \/ X.env.scope.names.lookup y = some .local := by first | exact .inl rfl | exact .inr rfl | assumption) :
  PS X (.Assign [.Name y py] (.ListComp elt [⟨tg, iter, ifs, 0⟩] scope pos) spos) (fun D σ H => tLCS S wi g tt te M.length σ H fun v H1 => D.nx (σ.set i (some v)) H1) := by
 intro pins s σ H D I h
 rw [exec_Assign_Name_used _ _ _ _ hsw]
 refine wpAny_bind (wpAny_standAt (wpAny_bind ?_))
 show wpAny _ X.A (do let _ <- comprehension (.ListComp elt [⟨tg, iter, ifs, 0⟩] scope pos) scope X.env _ (newList []) false (eval iter X.env) (some (assign (.Name y py) X.env))) _ _ s
 refine wpAny_bind (wpAny_mono (wpAny_comprehension_free (use := some (assign (.Name y py) X.env)) (Q := fun _ s' => SP X pins D .next s') rfl hs L.clos L.kind L.locs
  (thn (hi pins s σ H _ I h) fun v s1 h1 => thn h1 fun itv s2 h2 => ?_)) (fun _ s' hq => wpAny_pure (wpAny_pure hq)) fun _ _ e => e)
 obtain ⟨it, fp, tn, J, H2, rfl, I2, T, st2, f2, W, ⟨m0, w0⟩, turn⟩ := h2
 refine ZH (R := fun acc C => compPost (model X.prog X.w) X.A X.xe (some (assign (.Name y py) X.env)) (fun _ s' => SP X pins D .next s') acc C) (Al := fun _ _ => True) L hc I2 T st2 f2 hg ht (fun C E _ => he C _ _ _ E) (fun _ _ => trivial) w0 turn ?_
 intro D' C s' H' ys m IX fC ns q
 show wpAny _ X.A (assign (.Name y py) X.env (.ref D')) _ _ s'
 refine wpAny_assign_Name (wK IX hN hi' hy (v := .ref D') rfl (fun s'' I'' ⟨a, sb, ha⟩ => ?_) hf)
 refine ⟨m, ns.sameBut sb ?_, fun h' sb' => ⟨_, _, I''.turned (t' := s''.toks) (fun b o hb e => (sb'.2 b hb).trans e) fC.1 fC.2.1 fC.2.2.2.1 fC.2.2.2.2.1 fC.2.2.2.2.2, q⟩⟩
 rcases ha with ha | ha
 ·rw [ha]; exact fC.2.1
 ·exact Ne.symm (fC.2.2.2.2.1 y a ha)
end
def clOf (scope : Scope) (env : Env) : List (Str × Addr) := scope.names.foldl (fun cs p => if p.2 == .free then (match env.cells.lookup p.1 with | some a => (p.1, a) :: cs | none => cs) else cs) []
theorem vw (env : Env) : ∀ (names : List (Str × NameKind)) (acc : List (Str × Addr)), AllIn env acc -> AllIn env (names.foldl (fun cs p => if p.2 == .free then (match env.cells.lookup p.1 with | some a => (p.1, a) :: cs | none => cs) else cs) acc)
 | [], _, h => h
 | (n, k) :: r, acc, h => by
  rw [List.foldl_cons]
  refine vw env r _ ?_
  by_cases hk : (k == NameKind.free) = true
  ·rw [if_pos hk]
   cases e : env.cells.lookup n with
   | none => exact h
   | some a => exact ⟨e, h⟩
  ·rw [if_neg hk]
   exact h
section
variable {X : Cx} {scope : Scope} {M : List Str} {tg elt iter : Expr} {ifs : List Expr} {pos : Pos} {wi : TI} {g : TG} {tt : TT} {te : TE}
theorem Xj {S : List Nat} (h1 : closureFor scope X.env = pure (clOf scope X.env)) (h2 : scope.kind = .function) (h3 : scope.names.all (fun y => y.2 != .cell) = true) (h4 : scope.names.all (fun y => y.2 != .local || scope.names.lookup y.1 == some .local) = true)
  (h5 : X.N.zipIdx.all (fun y => S.contains y.2 || scope.names.lookup y.1 != some .local) = true) (h6 : scope.names.all (fun p => p.2 != .free || (((clOf scope X.env).lookup p.1).isSome && (X.env.kindOf p.1 == some .cell || X.env.kindOf p.1 == some .free))) = true) :
  LcOk X scope (clOf scope X.env) S := ⟨h1, h2, h3, h4, h5, vw X.env scope.names [] trivial, h6⟩
theorem lcOk (h1 : closureFor scope X.env = pure (clOf scope X.env)) (h2 : scope.kind = .function) (h3 : scope.names.all (fun y => y.2 != .cell) = true) (h4 : scope.names.all (fun y => y.2 != .local || scope.names.lookup y.1 == some .local) = true)
  (h5 : X.N.all (fun y => scope.names.lookup y != some .local) = true) (h6 : scope.names.all (fun p => p.2 != .free || (((clOf scope X.env).lookup p.1).isSome && (X.env.kindOf p.1 == some .cell || X.env.kindOf p.1 == some .free))) = true) :
  LcOk X scope (clOf scope X.env) [] := Xj h1 h2 h3 h4 (List.all_eq_true.mpr fun y hy => by
   have hm : y.1 ∈ X.N := List.mem_of_getElem? (List.mem_zipIdx_iff_getElem?.mp hy)
   rw [List.all_eq_true.mp h5 y.1 hm, Bool.or_true]) h6
theorem Vn (M : List Str) (hc : X.calm = true) (hi : PI X tg iter wi) (hg : ∀ C s H ex E, PG (cxLC X scope (clOf scope X.env) M C s H ex E) tg g) (ht : ∀ C s H ex E, PTs (cxLC X scope (clOf scope X.env) M C s H ex E) ifs tt)
  (he : ∀ C s H ex E, PE (cxLC X scope (clOf scope X.env) M C s H ex E) elt te) (hs : ∀ x, foldedSetIterable iter X.env x = pure x := by intro _; rfl)
  (h1 : closureFor scope X.env = pure (clOf scope X.env) := by with_unfolding_all rfl) (h2 : scope.kind = .function := by rfl) (h3 : scope.names.all (fun y => y.2 != .cell) = true := by rfl) (h4 : scope.names.all (fun y => y.2 != .local || scope.names.lookup y.1 == some .local) = true := by rfl)
  (h5 : X.N.all (fun y => scope.names.lookup y != some .local) = true := by rfl) (h6 : scope.names.all (fun p => p.2 != .free || (((clOf scope X.env).lookup p.1).isSome && (X.env.kindOf p.1 == some .cell || X.env.kindOf p.1 == some .free))) = true := by rfl) :
  PE X (.ListComp elt [⟨tg, iter, ifs, 0⟩] scope pos) (tLC wi g tt te M.length) := Ju (lcOk h1 h2 h3 h4 h5 h6) hc hi hg ht he hs
theorem Vo (M : List Str) {i : Nat} {y : Str} {py spos : Pos} (hN : X.N.Nodup) (hi' : X.N[i]? = some y) (hy : Loc X.env.scope y) (hc : X.calm = true) (hi : PI X tg iter wi) (hg : ∀ C s H ex E, PG (cxLC X scope (clOf scope X.env) M C s H ex E) tg g)
  (ht : ∀ C s H ex E, PTs (cxLC X scope (clOf scope X.env) M C s H ex E) ifs tt) (he : ∀ C s H ex E, PE (cxLC X scope (clOf scope X.env) M C s H ex E) elt te) (hs : ∀ x, foldedSetIterable iter X.env x = pure x := by intro _; rfl)
  (hsw : swapsWith (.ListComp elt [⟨tg, iter, ifs, 0⟩] scope pos) (some (.Name y py)) spos.line X.env = pure true := by rfl)
  (hf : X.fn y = true \/ X.env.scope.names.lookup y = some .local := by first | exact .inl rfl | exact .inr rfl | assumption)
  (h1 : closureFor scope X.env = pure (clOf scope X.env) := by with_unfolding_all rfl) (h2 : scope.kind = .function := by rfl) (h3 : scope.names.all (fun y => y.2 != .cell) = true := by rfl) (h4 : scope.names.all (fun y => y.2 != .local || scope.names.lookup y.1 == some .local) = true := by rfl)
  (h5 : X.N.all (fun y => scope.names.lookup y != some .local) = true := by rfl) (h6 : scope.names.all (fun p => p.2 != .free || (((clOf scope X.env).lookup p.1).isSome && (X.env.kindOf p.1 == some .cell || X.env.kindOf p.1 == some .free))) = true := by rfl) :
  PS X (.Assign [.Name y py] (.ListComp elt [⟨tg, iter, ifs, 0⟩] scope pos) spos) (fun D σ H => tLC wi g tt te M.length σ H fun v H1 => D.nx (σ.set i (some v)) H1) := wZ hN hi' hy (lcOk h1 h2 h3 h4 h5 h6) hc hi hg ht he hs hsw hf
theorem Xk (S : List Nat) (M : List Str) (hc : X.calm = true) (hi : PI X tg iter wi) (hg : ∀ C s H ex E, PG (cxLC X scope (clOf scope X.env) M C s H ex E) tg g) (ht : ∀ C s H ex E, PTs (cxLC X scope (clOf scope X.env) M C s H ex E) ifs tt)
  (he : ∀ C s H ex E, PE (cxLC X scope (clOf scope X.env) M C s H ex E) elt te) (hs : ∀ x, foldedSetIterable iter X.env x = pure x := by intro _; rfl)
  (h1 : closureFor scope X.env = pure (clOf scope X.env) := by with_unfolding_all rfl) (h2 : scope.kind = .function := by rfl) (h3 : scope.names.all (fun y => y.2 != .cell) = true := by rfl) (h4 : scope.names.all (fun y => y.2 != .local || scope.names.lookup y.1 == some .local) = true := by rfl)
  (h5 : X.N.zipIdx.all (fun y => S.contains y.2 || scope.names.lookup y.1 != some .local) = true := by rfl) (h6 : scope.names.all (fun p => p.2 != .free || (((clOf scope X.env).lookup p.1).isSome && (X.env.kindOf p.1 == some .cell || X.env.kindOf p.1 == some .free))) = true := by rfl) :
  PE X (.ListComp elt [⟨tg, iter, ifs, 0⟩] scope pos) (tLCS S wi g tt te M.length) := Ju (Xj h1 h2 h3 h4 h5 h6) hc hi hg ht he hs
theorem Xl (S : List Nat) (M : List Str) {i : Nat} {y : Str} {py spos : Pos} (hN : X.N.Nodup) (hi' : X.N[i]? = some y) (hy : Loc X.env.scope y) (hc : X.calm = true) (hi : PI X tg iter wi) (hg : ∀ C s H ex E, PG (cxLC X scope (clOf scope X.env) M C s H ex E) tg g)
  (ht : ∀ C s H ex E, PTs (cxLC X scope (clOf scope X.env) M C s H ex E) ifs tt) (he : ∀ C s H ex E, PE (cxLC X scope (clOf scope X.env) M C s H ex E) elt te) (hs : ∀ x, foldedSetIterable iter X.env x = pure x := by intro _; rfl)
  (hsw : swapsWith (.ListComp elt [⟨tg, iter, ifs, 0⟩] scope pos) (some (.Name y py)) spos.line X.env = pure true := by rfl)
  (hf : X.fn y = true \/ X.env.scope.names.lookup y = some .local := by first | exact .inl rfl | exact .inr rfl | assumption)
  (h1 : closureFor scope X.env = pure (clOf scope X.env) := by with_unfolding_all rfl) (h2 : scope.kind = .function := by rfl) (h3 : scope.names.all (fun y => y.2 != .cell) = true := by rfl) (h4 : scope.names.all (fun y => y.2 != .local || scope.names.lookup y.1 == some .local) = true := by rfl)
  (h5 : X.N.zipIdx.all (fun y => S.contains y.2 || scope.names.lookup y.1 != some .local) = true := by rfl) (h6 : scope.names.all (fun p => p.2 != .free || (((clOf scope X.env).lookup p.1).isSome && (X.env.kindOf p.1 == some .cell || X.env.kindOf p.1 == some .free))) = true := by rfl) :
  PS X (.Assign [.Name y py] (.ListComp elt [⟨tg, iter, ifs, 0⟩] scope pos) spos) (fun D σ H => tLCS S wi g tt te M.length σ H fun v H1 => D.nx (σ.set i (some v)) H1) := wZ hN hi' hy (Xj h1 h2 h3 h4 h5 h6) hc hi hg ht he hs hsw hf
end
section
variable {g : TG} {tt : TT} {te : TE} {Q : VK} {σ : St} {H : Hp}
theorem yK {K : PySem.W.Frag} {a : Addr} {xs : List V} (Pv : Nat -> St -> List V -> Hp -> Prop) (h0 : Pv 0 σ [] H) (hl : ∀ i τ ys H, i <= xs.length -> Pv i τ ys H -> SqL K H a xs)
  (hs : ∀ i x τ ys H, xs[i]? = some x -> Pv i τ ys H -> g x τ H fun τ2 H2 => tt τ2 H2 fun b H3 => if b = true then te τ2 H3 fun y H4 => ys.length < sizeLine /\ Pv (i + 1) τ2 (ys ++ [y]) H4 else Pv (i + 1) τ2 ys H3)
  (hd : ∀ τ ys H, Pv xs.length τ ys H -> ∀ p, H p = none -> Q (.ref p) (upd H p (.lst ys))) : ∃ W, (∃ m, W 0 m σ [] H) /\ lcBy (Itl K a) g tt te Q W := by
 refine ⟨fun i m τ ys H => m = xs.length - i /\ i <= xs.length /\ Pv i τ ys H, ⟨xs.length, by simp, Nat.zero_le _, h0⟩, ?_⟩
 rintro i m τ ys H ⟨rfl, hi, p⟩
 have q := hl i τ ys H hi p
 by_cases hlt : i < xs.length
 ·refine .inr ⟨⟨xs, xs[i], q, by simp [hlt]⟩, Pv (i + 1), fun τ' ys' H' p' => ⟨xs.length - (i + 1), by omega, rfl, hlt, p'⟩, fun x H' y => ?_⟩
  obtain ⟨e, y⟩ := y
  subst e
  exact hs i x τ ys _ (y xs q) p
 ·have e : i = xs.length := by omega
  subst e
  exact .inl ⟨⟨xs, q, Nat.le_refl _⟩, hd τ ys H p⟩
theorem ym {lo : Int} {n : Nat} (Pv : Nat -> St -> List V -> Hp -> Prop) (h0 : Pv 0 σ [] H)
  (hs : ∀ i τ ys H, i < n -> Pv i τ ys H -> g (.int (lo + i)) τ H fun τ2 H2 => tt τ2 H2 fun b H3 => if b = true then te τ2 H3 fun y H4 => ys.length < sizeLine /\ Pv (i + 1) τ2 (ys ++ [y]) H4 else Pv (i + 1) τ2 ys H3)
  (hd : ∀ τ ys H, Pv n τ ys H -> ∀ p, H p = none -> Q (.ref p) (upd H p (.lst ys))) : ∃ W, (∃ m, W 0 m σ [] H) /\ lcBy (Itr lo n) g tt te Q W := by
 refine ⟨fun i m τ ys H => m = n - i /\ i <= n /\ Pv i τ ys H, ⟨n, by simp, Nat.zero_le _, h0⟩, ?_⟩
 rintro i m τ ys H ⟨rfl, hi, p⟩
 by_cases hlt : i < n
 ·refine .inr ⟨hlt, Pv (i + 1), fun τ' ys' H' p' => ⟨n - (i + 1), by omega, rfl, hlt, p'⟩, fun x H' y => ?_⟩
  obtain ⟨e, y⟩ := y
  subst e y
  exact hs i τ ys _ hlt p
 ·have e : i = n := by omega
  subst e
  exact .inl ⟨Nat.le_refl _, hd τ ys H p⟩
end
end L2
namespace L2
open PySem PySem.Spec PyProof.Rows Builtin Builtin.Str
section
variable {X : Cx} {tg : Expr}
theorem j3 : OpR X (binaryOp .Mult) (fun x y H Q => ∃ z n, x = .str z /\ y = .int n /\ MulOk z n /\ Q (.str (Txt.mul z n)) H) := by
 intro pins s σ H x y v u Q I rx ry h
 obtain ⟨z, n, rfl, rfl, ok, q⟩ := h
 obtain ⟨t, rfl⟩ := rx
 obtain ⟨t', rfl⟩ := ry
 exact SB.mul ok fun t'' k => ⟨.str (Txt.mul z n), H, I.tok k, ⟨t'', rfl⟩, q⟩
theorem je : xl X (.builtin "isinstance") (fun xs H Q => ∃ x t T b, xs = [x, .ty T] /\ TyOf X.K H x t /\ PySem.W.kitOne X.K t (.type T) = some b /\ Q (.bl b) H) := by
 intro pins s σ H xs us Q I r h
 obtain ⟨x, t, T, b, rfl, ty, e, q⟩ := h
 obtain ⟨u, u', rfl, rx, ru⟩ := Zy r
 cases ru
 exact Yr I rx ty e fun tk => ⟨.bl b, H, I.tok tk, rfl, q⟩
end
end L2
namespace L2
open PySem PySem.Spec PyProof.Rows
def zz : Expr -> Bool
 | .Starred .. => true
 | _ => false
theorem zE {e : Expr} {es : List Expr} {env : Env} (h : zz e = false) : starEach (e :: es) env = (false, eval e env) :: starEach es env := by
 cases e <;> first
  | rfl
  | exact absurd (show true = false from h) (by decide)
theorem yi {env : Env} {pos : Pos} : ∀ {es : List Expr}, es.all (fun e => !zz e) = true -> (backTo pos (starEach es env)).any (·.1) = false
 | [], _ => rfl
 | e :: es, h => by
  rw [List.all_cons, Bool.and_eq_true] at h
  have h1 : zz e = false := by simpa using h.1
  rw [zE h1]
  show (false || (backTo pos (starEach es env)).any (·.1)) = false
  rw [yi h.2]
  rfl
section
variable {X : Cx} {CX : CXT} {k : Nat} {f C : Addr} {fd : FuncData} {ps : List Str} {sp : Sp} {dvs : List V} {ds : List Value} {E : XK} {x m : Str} {p pos apos : Pos} {e o : Expr} {es : List Expr} {te ta : TE} {t : TA} {id T : String} {r : List V -> Hp -> VK -> Prop}
theorem pa_c (ha : PE X e te) (hr : PA X es t) (h : zz e = false := by rfl) : PA X (e :: es) (v9 te t) := Vb ha hr (zE h)
theorem QE (F : FnOk X.prog X.w X.K X.mg X.base CX k f fd ps sp) (hr : Room k X.A) (hg : Gl X x) (hm : X.mg x = some (.ref f)) (hk : PySem.W.keepIn X.K (.ref f) = true) (hb : Binds X.K fd ps ds) (hd : Vals dvs ds) (hx : yd CX X E)
  (ha : PA X (e :: es) t) (hdb : (x == ("__debug__" : Str)) = false := by decide) (h1 : zz e = false := by rfl) (h2 : es.all (fun e => !zz e) = true := by rfl) :
  PE X (.Call (.Name x p) (e :: es) [] pos) (wP sp dvs E t) := Vc F hr hg hm hk hb hd hx ha hdb (zE h1) (yi h2)
theorem qv (hc : xl X (.builtin id) r) (hg : Gl X x) (hm : X.mg x = none) (hv : bootBuiltins x = some (.builtin id)) (ha : PA X (e :: es) t) (hn : x ≠ "__name__" := by decide) (hdb : (x == ("__debug__" : Str)) = false := by decide)
  (h1 : zz e = false := by rfl) (h2 : es.all (fun e => !zz e) = true := by rfl) : PE X (.Call (.Name x p) (e :: es) [] pos) (tCB r t) := Xb hc hg hm hv ha hn hdb (zE h1) (yi h2)
theorem Vp (hc : xl X (.type T) r) (hg : Gl X x) (hm : X.mg x = none) (hv : bootBuiltins x = some (.type T)) (ha : PA X (e :: es) t) (hn : x ≠ "__name__" := by decide) (hdb : (x == ("__debug__" : Str)) = false := by decide)
  (h1 : zz e = false := by rfl) (h2 : es.all (fun e => !zz e) = true := by rfl) : PE X (.Call (.Name x p) (e :: es) [] pos) (tCB r t) := Ys hc hg hm hv ha hn hdb (zE h1) (yi h2)
end
end L2
namespace L2
open PySem PySem.Spec PyProof.Rows
structure jE (X : Cx) (e : Expr) (t : TE) : Prop where
 out : PE X e t
structure jT (X : Cx) (e : Expr) (t : TT) : Prop where
 out : PT X e t
structure jW (X : Cx) (e : Expr) (t : TT) : Prop where
 out : PW X e t
structure jA (X : Cx) (es : List Expr) (t : TA) : Prop where
 out : PA X es t
structure jS (X : Cx) (st : Stmt) (t : TS) : Prop where
 out : PS X st t
structure jSs (X : Cx) (sts : List Stmt) (t : TS) : Prop where
 out : PSs X sts t
structure jG (X : Cx) (tg : Expr) (t : TG) : Prop where
 out : PG X tg t
structure jGs (X : Cx) (tg : List Expr) (t : TGs) : Prop where
 out : PGs X tg t
structure jI (X : Cx) (tg iter : Expr) (t : TI) : Prop where
 out : PI X tg iter t
structure jO (X : Cx) (e : Option Expr) (t : TO) : Prop where
 out : PO X e t
structure jTs (X : Cx) (ifs : List Expr) (t : TT) : Prop where
 out : PTs X ifs t
structure jOp (X : Cx) (f : Value -> Value -> Sem Value) (r : R2) : Prop where
 out : OpR X f r
structure jIx (X : Cx) (r : R2) : Prop where
 out : IxR X r
structure jSl (X : Cx) (r : V -> Option Int -> Option Int -> Hp -> VK -> Prop) : Prop where
 out : SlR X r
structure jMt (X : Cx) (id : String) (r : V -> List V -> Hp -> VK -> Prop) : Prop where
 out : MtR X id r
structure jCa (X : Cx) (f : Value) (r : List V -> Hp -> VK -> Prop) : Prop where
 out : xl X f r
section
variable {X : Cx} {a b c e o : Expr} {es rest : List Expr} {ta tb tc te to : TE} {t u : TA} {tA tB' : TT} {pos p p2 apos cpos px : Pos} {x y m : Str} {op op' : CmpOp} {bop : Operator} {r r' : R2}
theorem jv (i : Nat) (hN : X.N[i]? = some x := by rfl) (hv : Vis X.env.scope x := by first | exact Or.inl rfl | exact Or.inr (Or.inl rfl) | exact Or.inr (Or.inr rfl)) (hd : (x == ("__debug__" : Str)) = false := by decide)
  (hcd : (x == ("__classdict__" : Str)) = false := by decide) : jE X (.Name x pos) (tVar i) := ⟨pv i hN hv hd hcd⟩
theorem zi {i j} : jE X (.Constant (.int i) j pos) (tC (.int i)) := ⟨JP⟩
theorem Xm {b j} : jE X (.Constant (.bool b) j pos) (tC (.bl b)) := ⟨Qt⟩
theorem Xn {j} : jE X (.Constant .none j pos) (tC .non) := ⟨JQ⟩
theorem zL {x j} : jE X (.Constant (.str x) j pos) (tC (.str x)) := ⟨JR⟩
theorem yf {v : V} {w : Value} (hg : Gl X x) (hm : X.mg x = none) (hv : bootBuiltins x = some w) (r : RelV v w) (hn : x ≠ "__name__" := by decide) (hd : (x == ("__debug__" : Str)) = false := by decide) : jE X (.Name x pos) (tC v) := ⟨WV hg hm hv r hn hd⟩
theorem zB (ho : jOp X (binaryOp bop) r) (ha : jE X a ta) (hb : jE X b tb) : jE X (.BinOp a bop b pos) (tOp r ta tb) := ⟨Qv ho.out ha.out hb.out⟩
theorem j4 (ha : jE X a ta) : jE X (.UnaryOp .USub a pos) (tUn (rU fun i => .int (-i)) ta) := ⟨Qw qf ha.out⟩
theorem xx (ho : jOp X (compareOp op) r) (ha : jE X a ta) (hb : jE X b tb) (hm : behindInMarks op b = false) : jE X (.Compare a [op] [b] pos) (tOp r ta tb) := ⟨W6 ho.out ha.out hb.out hm⟩
theorem zw (ho : jOp X (compareOp op) r) (ha : jE X a ta) (hb : jE X b tb) (hm : behindInMarks op b = false) : jT X (.Compare a [op] [b] pos) (Jq (tOp r ta tb)) := ⟨W7 ho.out ha.out hb.out hm⟩
theorem Xo (ho : jOp X (compareOp op) r) (ho' : jOp X (compareOp op') r') (ha : jE X a ta) (hb : jE X b tb) (hc : jE X c tc) (hm : lastMarks [op, op'] [b, c] = false := by with_unfolding_all rfl) : jE X (.Compare a [op, op'] [b, c] pos) (Y3 r r' ta tb tc) := ⟨Y4 ho.out ho'.out ha.out hb.out hc.out hm⟩
theorem yn (h : jE X e te) (he : ∀ whole, isTrue e X.env whole = (do let v <- whole; standAt e.pos; holding [v] (truthy v)) := by intro _; rfl) : jT X e (tB te) := ⟨JT h.out he⟩
theorem vx (ha : jT X a tA) : jW X (.BoolOp .And [a] pos) tA := ⟨pw_and1 ha.out⟩
theorem xq (ha : jT X a tA) : jW X (.BoolOp .Or [a] pos) tA := ⟨pw_or1 ha.out⟩
theorem j5 (ha : jT X a tA) (hb : jW X (.BoolOp .And (b :: rest) pos) tB') : jW X (.BoolOp .And (a :: b :: rest) pos) (tAnd tA tB') := ⟨pw_and ha.out hb.out⟩
theorem xX (ha : jT X a tA) (hb : jW X (.BoolOp .Or (b :: rest) pos) tB') : jW X (.BoolOp .Or (a :: b :: rest) pos) (tOr tA tB') := ⟨pw_or ha.out hb.out⟩
theorem jW.pt (h : jW X e tA) : jT X e tA := ⟨PW.pt h.out⟩
theorem wg (ha : jT X a tA) : jT X (.UnaryOp .Not a pos) (tNot tA) := ⟨JU ha.out⟩
theorem wj {op} (h : jE X a te) : jE X (.BoolOp op [a] pos) te := ⟨JV h.out⟩
theorem wk (ha : jE X a ta) (hb : jE X (.BoolOp .And (b :: rest) pos) tb) : jE X (.BoolOp .And (a :: b :: rest) pos) (Jl ta tb) := ⟨JW ha.out hb.out⟩
theorem j6 (ha : jE X a ta) : jE X (.UnaryOp .Not a pos) (Jn ta) := ⟨JX ha.out⟩
theorem jf (hc : jT X c tA) (ha : jE X a ta) (hb : jE X b tb) : jE X (.IfExp c a b pos) (tIf tA ta tb) := ⟨YW hc.out ha.out hb.out⟩
theorem zh : jA X [] tNil := ⟨qi⟩
theorem ja_c (ha : jE X e te) (hr : jA X es t) (h : zz e = false := by rfl) : jA X (e :: es) (v9 te t) := ⟨pa_c ha.out hr.out h⟩
theorem zV (h : jA X es t) : jE X (.List es pos) (tLst t) := ⟨qk h.out⟩
theorem zO {x1} (h : jA X es t) : jE X (.Tuple es x1 pos) (tTup t) := ⟨qj h.out⟩
theorem zt (hr : jIx X r) (ha : jE X a ta) (hb : jE X b tb) (hs : ZD b) : jE X (.Subscript a b pos) (tOp r ta tb) := ⟨QC hr.out ha.out hb.out hs⟩
theorem ZI : jO X none ZB := ⟨Vf⟩
theorem ZJ (h : jE X e te) : jO X (some e) (Js te) := ⟨Vg h.out⟩
theorem jg {r : V -> Option Int -> Option Int -> Hp -> VK -> Prop} {lo hi : Option Expr} {tl th : TO} (hr : jSl X r) (he : jE X e te) (hl : jO X lo tl) (hu : jO X hi th) : jE X (.Subscript e (.Slice lo hi none p2) pos) (tSl r te tl th) := ⟨Xc hr.out he.out hl.out hu.out⟩
variable {CX : CXT} {k : Nat} {f C : Addr} {fd : FuncData} {ps : List Str} {sp : Sp} {dvs : List V} {ds : List Value} {E : XK} {id T : String} {rc : List V -> Hp -> VK -> Prop} {rm : V -> List V -> Hp -> VK -> Prop}
theorem Jv (F : FnOk X.prog X.w X.K X.mg X.base CX k f fd ps sp) (hr : Room k X.A) (hg : Gl X x) (hm : X.mg x = some (.ref f)) (hk : PySem.W.keepIn X.K (.ref f) = true) (hb : Binds X.K fd ps ds) (hd : Vals dvs ds) (hx : yd CX X E)
  (ha : jA X (e :: es) t) (hdb : (x == ("__debug__" : Str)) = false := by decide) (h1 : zz e = false := by rfl) (h2 : es.all (fun e => !zz e) = true := by rfl) :
  jE X (.Call (.Name x p) (e :: es) [] pos) (wP sp dvs E t) := ⟨QE F hr hg hm hk hb hd hx ha.out hdb h1 h2⟩
theorem zI (hc : jCa X (.builtin id) rc) (hg : Gl X x) (hm : X.mg x = none) (hv : bootBuiltins x = some (.builtin id)) (ha : jA X (e :: es) t) (hn : x ≠ "__name__" := by decide) (hdb : (x == ("__debug__" : Str)) = false := by decide)
  (h1 : zz e = false := by rfl) (h2 : es.all (fun e => !zz e) = true := by rfl) : jE X (.Call (.Name x p) (e :: es) [] pos) (tCB rc t) := ⟨qv hc.out hg hm hv ha.out hn hdb h1 h2⟩
theorem yw (hc : jCa X (.type T) rc) (hg : Gl X x) (hm : X.mg x = none) (hv : bootBuiltins x = some (.type T)) (ha : jA X (e :: es) t) (hn : x ≠ "__name__" := by decide) (hdb : (x == ("__debug__" : Str)) = false := by decide)
  (h1 : zz e = false := by rfl) (h2 : es.all (fun e => !zz e) = true := by rfl) : jE X (.Call (.Name x p) (e :: es) [] pos) (tCB rc t) := ⟨Vp hc.out hg hm hv ha.out hn hdb h1 h2⟩
theorem vy {name : Str} (pa : PlainAttrs T) (slot : Slot T name id) (hty : typeOf (.builtin id) = pure (.type "method_descriptor")) (hm : jMt X id rm) (ho : jE X o to)
  (hbase : attributeBase o name X.env (eval o X.env) = eval o X.env := by rfl) (hline : (apos.endLine == cpos.line) = true := by rfl) : jE X (.Call (.Attribute o name apos) [] [] cpos) (tBM0 X.K T rm to) := ⟨qp pa slot hty hm.out ho.out hbase hline⟩
theorem yN {name : Str} (pa : PlainAttrs T) (slot : Slot T name id) (hty : typeOf (.builtin id) = pure (.type "method_descriptor")) (hm : jMt X id rm) (ho : jE X o to) (ha : jA X (e :: es) t)
  (hbase : attributeBase o name X.env (eval o X.env) = eval o X.env := by rfl)
  (hfew : ((backTo cpos (starEach (e :: es) X.env)).all (fun x => !x.1) && (backToKw cpos (keywordEach [] X.env)).all (fun x => x.1.isSome)
   && decide ((e :: es).length + ([] : List Keyword).length + (if ([] : List Keyword).isEmpty then 0 else 1) < 30)) = true := by rfl)
  (hline : (apos.endLine == cpos.line) = true := by rfl) (h1 : zz e = false := by rfl) (h2 : es.all (fun e => !zz e) = true := by rfl) :
  jE X (.Call (.Attribute o name apos) (e :: es) [] cpos) (tBM X.K T rm to t) := ⟨QD pa slot hty hm.out ho.out ha.out hbase hfew hline (zE h1) (yi h2)⟩
variable {st : Stmt} {sts : List Stmt} {s1 s2 : TS} {tg iter elt : Expr} {g : TG} {wi : TI} {tb1 : TS} {ifs : List Expr} {tt : TT}
theorem zH : jSs X [] YX := ⟨WW⟩
theorem zj (h1 : jS X st s1) (h2 : jSs X sts s2) : jSs X (st :: sts) (tSeq s1 s2) := ⟨YY h1.out h2.out⟩
theorem zk (h1 : jS X st s1) : jSs X [st] s1 := ⟨WX h1.out⟩
theorem zN (he : jE X e te) (hs : swapsWith e none pos.line X.env = pure false := by rfl) : jS X (.Expr e pos) (Jo te) := ⟨WY he.out hs⟩
theorem zF (he : jE X e te) : jS X (.Return (some e) pos) (tRet te) := ⟨JY he.out⟩
theorem zM {A B : List Stmt} (hc : jT X c tA) (ha : jSs X A s1) (hb : jSs X B s2) : jS X (.If c A B pos) (tIfS tA s1 s2) := ⟨Qu hc.out ha.out hb.out⟩
theorem zu {i : Nat} {pos' : Pos} (hN : X.N.Nodup) (hi : X.N[i]? = some x) (hx : Loc X.env.scope x) (he : jE X e te) (hs : swapsWith e (some (.Name x pos')) pos.line X.env = pure false := by rfl)
  (hf : X.fn x = true \/ X.env.scope.names.lookup x = some .local := by first | exact .inl rfl | exact .inr rfl | assumption) : jS X (.Assign [.Name x pos'] e pos) (tAsg te (wL i)) := ⟨J6 hN hi hx he.out hs hf⟩
theorem j7 (he : jE X e te) (hg : jG X tg g) (hs : swapsWithSole [tg] e pos.line X.env = pure false := by rfl) (hw : swappedStores [tg] e X.env = pure none := by rfl) (h1 : (assignEach [tg] X.env).map (·.2) = [assign tg X.env] := by rfl) : jS X (.Assign [tg] e pos) (tAsg te g) := ⟨J2 he.out hg.out hs hw h1⟩
theorem zr {i : Nat} (hN : X.N.Nodup) (hi : X.N[i]? = some x) (hx : Loc X.env.scope x) (hf : X.fn x = true \/ X.env.scope.names.lookup x = some .local := by first | exact .inl rfl | exact .inr rfl | assumption) : jG X (.Name x pos) (wL i) := ⟨WZ hN hi hx hf⟩
theorem yo : jGs X [] gNil := ⟨W0⟩
theorem zD {g : TG} {gs : TGs} (h1 : jG X e g) (h2 : jGs X es gs) (hs : (assignEach (e :: es) X.env).map (·.2) = assign e X.env :: (assignEach es X.env).map (·.2) := by rfl) : jGs X (e :: es) (Zt g gs) := ⟨YZ h1.out h2.out hs⟩
theorem yW {k : Nat} {gs : TGs} {n : Nat} (hc : X.calm = true) (h : jGs X es gs) (hn : (assignEach es X.env).length = n := by rfl) (hst : (assignEach es X.env).findIdx? (·.1) = none := by rfl) : jG X (.Tuple es k pos) (gTup X.K n gs) := ⟨JZ hc h.out hn hst⟩
theorem yg {l : Expr} {tl : TE} (hl : jE X l tl) : jI X tg l (Zu X.K tl) := ⟨W4 hl.out⟩
theorem xr {l : Expr} {tl : TE} (hl : jE X l tl) : jI X tg l (iTup X.K tl) := ⟨J7 hl.out⟩
theorem zW (hg : Gl X "range") (hm : X.mg "range" = none) (ha : jA X [a] t) (h : zz a = false := by rfl) : jI X tg (.Call (.Name "range" p) [a] [] pos) (Jp t) := ⟨Yo hg hm ha.out (zE h)⟩
theorem yp (hp : PassesOwn (model X.prog X.w) X.A X.env X.xe) (hc : X.calm = true) (hi : jI X tg iter wi) (hg : jG X tg g) (hb : jSs X sts tb1) (hs : ∀ x, foldedSetIterable iter X.env x = pure x := by intro _; rfl) : jS X (.For tg iter sts [] pos) (tFor wi g tb1) := ⟨J8 hp hc hi.out hg.out hb.out hs⟩
theorem wm (hp : PassesOwn (model X.prog X.w) X.A X.env X.xe) (hc : jT X c tA) (hb : jSs X sts tb1) : jS X (.While c sts [] pos) (vm tA tb1) := ⟨Y0 hp hc.out hb.out⟩
theorem z9 : jTs X [] tYes := ⟨Vk⟩
theorem xy (h : jT X c tA) : jTs X [c] tA := ⟨Vm h.out⟩
theorem xa {scope : Scope} (M : List Str) (hc : X.calm = true) (hi : jI X tg iter wi) (hg : ∀ C s H ex E, jG (cxLC X scope (clOf scope X.env) M C s H ex E) tg g) (ht : ∀ C s H ex E, jTs (cxLC X scope (clOf scope X.env) M C s H ex E) ifs tt)
  (he : ∀ C s H ex E, jE (cxLC X scope (clOf scope X.env) M C s H ex E) elt te) (hs : ∀ x, foldedSetIterable iter X.env x = pure x := by intro _; rfl)
  (h1 : closureFor scope X.env = pure (clOf scope X.env) := by with_unfolding_all rfl) (h2 : scope.kind = .function := by rfl) (h3 : scope.names.all (fun y => y.2 != .cell) = true := by rfl) (h4 : scope.names.all (fun y => y.2 != .local || scope.names.lookup y.1 == some .local) = true := by rfl)
  (h5 : X.N.all (fun y => scope.names.lookup y != some .local) = true := by rfl) (h6 : scope.names.all (fun p => p.2 != .free || (((clOf scope X.env).lookup p.1).isSome && (X.env.kindOf p.1 == some .cell || X.env.kindOf p.1 == some .free))) = true := by rfl) :
  jE X (.ListComp elt [⟨tg, iter, ifs, 0⟩] scope pos) (tLC wi g tt te M.length) := ⟨Vn M hc hi.out (fun C s H ex E => (hg C s H ex E).out) (fun C s H ex E => (ht C s H ex E).out) (fun C s H ex E => (he C s H ex E).out) hs h1 h2 h3 h4 h5 h6⟩
theorem yx {scope : Scope} (M : List Str) {i : Nat} {py spos : Pos} (hN : X.N.Nodup) (hi' : X.N[i]? = some y) (hy : Loc X.env.scope y) (hc : X.calm = true) (hi : jI X tg iter wi) (hg : ∀ C s H ex E, jG (cxLC X scope (clOf scope X.env) M C s H ex E) tg g)
  (ht : ∀ C s H ex E, jTs (cxLC X scope (clOf scope X.env) M C s H ex E) ifs tt) (he : ∀ C s H ex E, jE (cxLC X scope (clOf scope X.env) M C s H ex E) elt te) (hs : ∀ x, foldedSetIterable iter X.env x = pure x := by intro _; rfl)
  (hsw : swapsWith (.ListComp elt [⟨tg, iter, ifs, 0⟩] scope pos) (some (.Name y py)) spos.line X.env = pure true := by rfl)
  (hf : X.fn y = true \/ X.env.scope.names.lookup y = some .local := by first | exact .inl rfl | exact .inr rfl | assumption)
  (h1 : closureFor scope X.env = pure (clOf scope X.env) := by with_unfolding_all rfl) (h2 : scope.kind = .function := by rfl) (h3 : scope.names.all (fun y => y.2 != .cell) = true := by rfl) (h4 : scope.names.all (fun y => y.2 != .local || scope.names.lookup y.1 == some .local) = true := by rfl)
  (h5 : X.N.all (fun y => scope.names.lookup y != some .local) = true := by rfl) (h6 : scope.names.all (fun p => p.2 != .free || (((clOf scope X.env).lookup p.1).isSome && (X.env.kindOf p.1 == some .cell || X.env.kindOf p.1 == some .free))) = true := by rfl) :
  jS X (.Assign [.Name y py] (.ListComp elt [⟨tg, iter, ifs, 0⟩] scope pos) spos) (fun D σ H => tLC wi g tt te M.length σ H fun v H1 => D.nx (σ.set i (some v)) H1) :=
 ⟨Vo M hN hi' hy hc hi.out (fun C s H ex E => (hg C s H ex E).out) (fun C s H ex E => (ht C s H ex E).out) (fun C s H ex E => (he C s H ex E).out) hs hsw hf h1 h2 h3 h4 h5 h6⟩
theorem Xp {scope : Scope} (S : List Nat) (M : List Str) (hc : X.calm = true) (hi : jI X tg iter wi) (hg : ∀ C s H ex E, jG (cxLC X scope (clOf scope X.env) M C s H ex E) tg g) (ht : ∀ C s H ex E, jTs (cxLC X scope (clOf scope X.env) M C s H ex E) ifs tt)
  (he : ∀ C s H ex E, jE (cxLC X scope (clOf scope X.env) M C s H ex E) elt te) (hs : ∀ x, foldedSetIterable iter X.env x = pure x := by intro _; rfl)
  (h1 : closureFor scope X.env = pure (clOf scope X.env) := by with_unfolding_all rfl) (h2 : scope.kind = .function := by rfl) (h3 : scope.names.all (fun y => y.2 != .cell) = true := by rfl) (h4 : scope.names.all (fun y => y.2 != .local || scope.names.lookup y.1 == some .local) = true := by rfl)
  (h5 : X.N.zipIdx.all (fun y => S.contains y.2 || scope.names.lookup y.1 != some .local) = true := by rfl) (h6 : scope.names.all (fun p => p.2 != .free || (((clOf scope X.env).lookup p.1).isSome && (X.env.kindOf p.1 == some .cell || X.env.kindOf p.1 == some .free))) = true := by rfl) :
  jE X (.ListComp elt [⟨tg, iter, ifs, 0⟩] scope pos) (tLCS S wi g tt te M.length) := ⟨Xk S M hc hi.out (fun C s H ex E => (hg C s H ex E).out) (fun C s H ex E => (ht C s H ex E).out) (fun C s H ex E => (he C s H ex E).out) hs h1 h2 h3 h4 h5 h6⟩
theorem jh {scope : Scope} (S : List Nat) (M : List Str) {i : Nat} {py spos : Pos} (hN : X.N.Nodup) (hi' : X.N[i]? = some y) (hy : Loc X.env.scope y) (hc : X.calm = true) (hi : jI X tg iter wi) (hg : ∀ C s H ex E, jG (cxLC X scope (clOf scope X.env) M C s H ex E) tg g)
  (ht : ∀ C s H ex E, jTs (cxLC X scope (clOf scope X.env) M C s H ex E) ifs tt) (he : ∀ C s H ex E, jE (cxLC X scope (clOf scope X.env) M C s H ex E) elt te) (hs : ∀ x, foldedSetIterable iter X.env x = pure x := by intro _; rfl)
  (hsw : swapsWith (.ListComp elt [⟨tg, iter, ifs, 0⟩] scope pos) (some (.Name y py)) spos.line X.env = pure true := by rfl)
  (hf : X.fn y = true \/ X.env.scope.names.lookup y = some .local := by first | exact .inl rfl | exact .inr rfl | assumption)
  (h1 : closureFor scope X.env = pure (clOf scope X.env) := by with_unfolding_all rfl) (h2 : scope.kind = .function := by rfl) (h3 : scope.names.all (fun y => y.2 != .cell) = true := by rfl) (h4 : scope.names.all (fun y => y.2 != .local || scope.names.lookup y.1 == some .local) = true := by rfl)
  (h5 : X.N.zipIdx.all (fun y => S.contains y.2 || scope.names.lookup y.1 != some .local) = true := by rfl) (h6 : scope.names.all (fun p => p.2 != .free || (((clOf scope X.env).lookup p.1).isSome && (X.env.kindOf p.1 == some .cell || X.env.kindOf p.1 == some .free))) = true := by rfl) :
  jS X (.Assign [.Name y py] (.ListComp elt [⟨tg, iter, ifs, 0⟩] scope pos) spos) (fun D σ H => tLCS S wi g tt te M.length σ H fun v H1 => D.nx (σ.set i (some v)) H1) :=
 ⟨Xl S M hN hi' hy hc hi.out (fun C s H ex E => (hg C s H ex E).out) (fun C s H ex E => (ht C s H ex E).out) (fun C s H ex E => (he C s H ex E).out) hs hsw hf h1 h2 h3 h4 h5 h6⟩
theorem yj : jOp X (binaryOp .Add) (rI0 fun i j => .int (i + j)) := ⟨J9⟩
theorem yR : jOp X (binaryOp .Sub) (rI0 fun i j => .int (i - j)) := ⟨qb⟩
theorem vz : jOp X (binaryOp .Mult) (rI CMul fun i j => .int (i * j)) := ⟨qc⟩
theorem xb : jOp X (binaryOp .FloorDiv) (rI CDiv fun i j => .int (i / j)) := ⟨W5⟩
theorem yS : jOp X (binaryOp .Mod) (rI (fun _ j => 0 < j) fun i j => .int (i % j)) := ⟨qd⟩
theorem vA : jOp X (binaryOp .Pow) (rI CPow fun i j => .int (i ^ j.toNat)) := ⟨qe⟩
theorem zY : jOp X (compareOp .Eq) rEq := ⟨Qx⟩
theorem wn : jOp X (compareOp .NotEq) rNe := ⟨Qy⟩
theorem ZK : jOp X (compareOp .Lt) (rI0 fun i j => .bl (decide (i < j))) := ⟨Qz⟩
theorem Xq : jOp X (compareOp .LtE) (rI0 fun i j => .bl (decide (i <= j))) := ⟨QA⟩
theorem ZM : jOp X (compareOp .Gt) (rI0 fun i j => .bl (decide (j < i))) := ⟨QB⟩
theorem yv : jOp X (binaryOp .Add) (fun x y H Q => ∃ i j, x = .str i /\ y = .str j /\ i.length + j.length <= sizeLine /\ Q (.str (i ++ j)) H) := ⟨jU⟩
theorem wo : jOp X (binaryOp .Mult) (fun x y H Q => ∃ z n, x = .str z /\ y = .int n /\ MulOk z n /\ Q (.str (Txt.mul z n)) H) := ⟨j3⟩
theorem Xr : jOp X (binaryOp .Add) rCat := ⟨qt⟩
theorem zG : jIx X (rIxL X.K) := ⟨Vh⟩
theorem zA : jIx X (rIxT X.K) := ⟨ql⟩
theorem j8 : jIx X rIxS := ⟨qm⟩
theorem ZN : jSl X (rSlL X.K) := ⟨Vi⟩
theorem yb : jMt X "list.append" ZE := ⟨Yt⟩
theorem Xs : jMt X "list.pop" rPop := ⟨qr⟩
theorem Yx : jMt X "list.extend" ZG := ⟨Yu⟩
theorem zC : jCa X (.builtin "len") (fun xs H Q => ∃ p ys, xs = [.ref p] /\ (SqL X.K H p ys \/ SqT X.K H p ys) /\ Q (.int ys.length) H) := ⟨vq⟩
theorem zR : jCa X (.builtin "isinstance") (fun xs H Q => ∃ x t T b, xs = [x, .ty T] /\ TyOf X.K H x t /\ PySem.W.kitOne X.K t (.type T) = some b /\ Q (.bl b) H) := ⟨je⟩
theorem zZ : jCa X (.type "tuple") (fun xs H Q => ∃ p ys, xs = [.ref p] /\ ((SqL X.K H p ys /\ ∀ l, H l = none -> Q (.ref l) (upd H l (.tup ys))) \/ (SqT X.K H p ys /\ Q (.ref p) H))) := ⟨wG⟩
theorem j9 : jCa X (.type "list") (fun xs H Q => ∃ p ys, xs = [.ref p] /\ (SqL X.K H p ys \/ SqT X.K H p ys) /\ ∀ l, H l = none -> Q (.ref l) (upd H l (.lst ys))) := ⟨vv⟩
end
section
variable {P : Program} {w : World} {K : PySem.W.Frag} {mg : Str -> Option Value} {base : Heap}
theorem Fun.by {x qual : Str} {st : Stmt} {f : Addr} {fd : FuncData} {N ps : List Str} {k : Nat} {sp : Sp} (F : Fun K x qual st f fd) (S : FnScope N ps (zo st)) (len : ∀ vs H Q E, sp vs H Q E -> vs.length = ps.length)
  (hbody : ∀ (cdv : Value) (A : Around) (outer : List Env) (s : Shared) (H : Hp) (vs : List V) (Q : VK) (E : XK), Room k (A.deeper (envOfC qual (zo st) s.heap.objs.size f cdv)) -> sp vs H Q E ->
   ∃ t, jSs (cxOf CX0 P w K mg base N qual (zo st) f cdv A outer s H E).nox (zK st) t /\ t { nx := fun _ H' => Q .non H', rt := Q } (yJ N vs) H) : FnOk P w K mg base CX0 (k + 1) f fd ps sp :=
 F.ok S len fun cdv A outer s H vs Q E hr h => let ⟨t, b, q⟩ := hbody cdv A outer s H vs Q E hr h; ⟨t, b.out, q⟩
end
end L2
namespace L2
open PySem
structure Mv (fs xs : List Addr) (h h' : Heap) : Prop where
 keep : ∀ b o, h.get? b = some o -> b ∉ fs -> b ∉ xs -> h'.get? b = some o
 slot : ∀ b o, h.get? b = some o -> b ∉ xs -> ∃ sl, h'.get? b = some { o with slots := sl }
 there : ∀ b o, h.get? b = some o -> ∃ o', h'.get? b = some o'
theorem Mv.trans {fs xs : List Addr} {h h1 h2 : Heap} (a : Mv fs xs h h1) (b : Mv fs xs h1 h2) : Mv fs xs h h2 :=
 ⟨fun c o e f x => b.keep c o (a.keep c o e f x) f x, fun c o e x => let ⟨_, e1⟩ := a.slot c o e x; let ⟨sl, e2⟩ := b.slot c _ e1 x; ⟨sl, e2⟩, fun c o e => let ⟨o1, e1⟩ := a.there c o e; b.there c o1 e1⟩
theorem Mv.mono {fs fs' xs xs' : List Addr} {h h1 : Heap} (a : Mv fs xs h h1) (hf : ∀ b ∈ fs, b ∈ fs') (hx : ∀ b ∈ xs, b ∈ xs') : Mv fs' xs' h h1 :=
 ⟨fun c o e f x => a.keep c o e (fun z => f (hf c z)) fun z => x (hx c z), fun c o e x => a.slot c o e fun z => x (hx c z), a.there⟩
structure Tr (h : Heap) (e : Addr) (C : Value) (dx : Option Addr) (T : Addr) (fl : Value) : Prop where
 ex : ∃ oe vs, h.get? e = some oe /\ oe.cls = C /\ oe.dict = dx /\ oe.data = .fields vs /\ vs[1]? = some (.ref T) /\ vs[2]? = some .none
 tb : ∃ ot ts, h.get? T = some ot /\ ot.data = .fields ts /\ ts[3]? = some fl
 ne : T ≠ e
theorem yX (f : Array Value -> Array Value) (o : Obj) : (Obj.mapFields f o).dict = o.dict := by
 unfold Obj.mapFields
 split <;> rfl
theorem Za {h base : Heap} {l : List Env} (hl : h.FunFrames base l) {e : Addr} {oe : Obj} {vs : Array Value} (he : h.get? e = some oe) (hd : oe.data = .fields vs) : e ∉ l.filterMap (·.frame) := fun z => by
 obtain ⟨_, o, ho, nf⟩ := hl.mem z
 rw [he] at ho
 cases ho
 exact nf vs hd
section
variable {M : Model} {A : Around} {E : Value -> Shared -> Prop} {s : Shared} {base : Heap} {env : Env} {outer : List Env} {L e T : Addr} {C : Value} {dx : Option Addr} {Q : Unit -> Shared -> Prop}
theorem w4 {oe : Obj} {vs : Array Value} {head : Value} {had : Bool} (hfr : A.frames = some (env :: outer)) (hl : s.heap.FunFrames base (env :: outer)) (hf : env.frame = some L)
  (he : s.heap.get? e = some oe) (hd : oe.data = .fields vs) (hsz : 1 < vs.size) (hz2 : vs[2]? = some .none)
  (hq : ∀ h' T, s.heap.objs.size <= T -> Tr h' e oe.cls oe.dict T (rawInt L) -> Mv ((env :: outer).filterMap (·.frame)) [e] s.heap h' -> Q () { s with heap := h' }) :
  wpAny M A (do let a <- frameOf env; let pl <- entryPlaceOf L had; let b <- EntryCells.newEntry head a .none (rawInt L) .none pl; setField (.ref e) 1 b) Q E s := by
 have nf := Za hl he hd
 refine wpAny_bind (wpAny_frameOf_fun hfr hl hf fun h1 s1 => wpAny_bind (wpAny_entryPlaceOf fun pl hp => ?_))
 unfold EntryCells.newEntry newFields
 refine wpAny_bind (wpAny_newObj_type ?_ (by exact hp.sizeOk5 _ _ _ _ _))
 have e1 : h1.get? e = some oe := (s1.2.1 e nf).trans he
 have ne : h1.objs.size ≠ e := Nat.ne_of_gt (Heap.lt_size e1)
 generalize ho : ({ cls := .type "traceback", dict := none, data := .fields ([head, .ref L, .none, rawInt L, .none] ++ (if pl.isEmpty then List.replicate 6 Value.none else pl)).toArray } : Obj) = ob
 have t3 : ∃ ts, ob.data = .fields ts /\ ts[3]? = some (rawInt L) := by
  subst ho
  refine ⟨_, rfl, ?_⟩
  simp
 have fr : ob.isFreed = false := by
  obtain ⟨ts, q, _⟩ := t3
  exact Obj.isFreed_of_fields q
 have e2 := Heap.get?_push_of_some (h := h1) ob e1
 refine wpAny_setField e2 hd hsz (hq _ h1.objs.size (Nat.le_of_eq s1.1.symm) ⟨?_, ?_, ne⟩ ⟨fun b o q f x => ?_, fun b o q x => ?_, fun b o q => ?_⟩)
 ·exact ⟨_, _, Heap.get?_update_self _ e2 (Obj.isFreed_of_fields (Obj.data_mapFields hd _)), Obj.cls_mapFields _ _, yX _ _, Obj.data_mapFields hd _, by simp [hsz], by simp [hz2]⟩
 ·obtain ⟨ts, q1, q2⟩ := t3
  exact ⟨ob, ts, (Heap.get?_update_other _ _ (Ne.symm ne)).trans (Heap.get?_push_size _ fr), q1, q2⟩
 ·rw [Heap.get?_update_other _ _ (fun z => x (by simp [z]))]
  exact Heap.get?_push_of_some _ ((s1.2.1 b f).trans q)
 ·obtain ⟨sl, q1⟩ := s1.2.2 b o q
  exact ⟨sl, by rw [Heap.get?_update_other _ _ (fun z => x (by simp [z]))]; exact Heap.get?_push_of_some _ q1⟩
 ·obtain ⟨sl, q1⟩ := s1.2.2 b o q
  by_cases z : b = e
  ·subst z
   exact ⟨_, Heap.get?_update_self _ e2 (Obj.isFreed_of_fields (Obj.data_mapFields hd _))⟩
  ·exact ⟨_, by rw [Heap.get?_update_other _ _ (Ne.symm z)]; exact Heap.get?_push_of_some _ q1⟩
theorem w5 {oe : Obj} {vs : Array Value} (hfr : A.frames = some (env :: outer)) (hl : s.heap.FunFrames base (env :: outer)) (hf : env.frame = some L)
  (he : s.heap.get? e = some oe) (hd : oe.data = .fields vs) (h1 : vs[1]? = some .none) (hz2 : vs[2]? = some .none)
  (hq : ∀ h' T, s.heap.objs.size <= T -> Tr h' e oe.cls oe.dict T (rawInt L) -> Mv ((env :: outer).filterMap (·.frame)) [e] s.heap h' -> Q () { s with heap := h' }) :
  wpAny M A (noteFrame (.ref e) env) Q E s := by
 unfold noteFrame
 simp only [hf]
 refine wpAny_bind (wpAny_field he hd h1 ?_)
 rw [if_neg (by decide : ¬ ((Value.none != Value.none) = true))]
 exact w4 hfr hl hf he hd (Array.getElem?_eq_some_iff.mp h1).1 hz2 hq
theorem x8 {fl : Value} {v : Option Addr} (t : Tr s.heap e C dx T fl) (hq : ∀ h', Tr h' e C dx T (v.elim .none fun f => rawInt f) -> Mv [] [T] s.heap h' -> Q () { s with heap := h' }) :
  wpAny M A (setFlight (.ref e) v) Q E s := by
 obtain ⟨⟨oe, vs, he, hc, hx, hd, h1, hz2⟩, ⟨ot, ts, ht, hdt, h3⟩, ne⟩ := t
 unfold setFlight
 refine wpAny_bind (wpAny_field he hd h1 ?_)
 rw [if_pos (by simp : (Value.ref T != Value.none) = true)]
 have up := Heap.get?_update_self (Obj.mapFields (·.setIfInBounds 3 (v.elim .none fun f => rawInt f))) ht (Obj.isFreed_of_fields (Obj.data_mapFields hdt _))
 refine wpAny_setField ht hdt (Array.getElem?_eq_some_iff.mp h3).1 (hq _ ⟨⟨oe, vs, (Heap.get?_update_other _ _ ne).trans he, hc, hx, hd, h1, hz2⟩, ⟨_, _, up, Obj.data_mapFields hdt _, ?_⟩, ne⟩ ⟨fun b o q _ x => ?_, fun b o q x => ⟨o.slots, ?_⟩, fun b o q => ?_⟩)
 ·simp [(Array.getElem?_eq_some_iff.mp h3).1]
 ·exact (Heap.get?_update_other _ _ (fun z => x (by simp [z]))).trans q
 ·exact (Heap.get?_update_other _ _ (fun z => x (by simp [z]))).trans q
 ·by_cases z : b = T
  ·subst z
   exact ⟨_, up⟩
  ·exact ⟨o, (Heap.get?_update_other _ _ (Ne.symm z)).trans q⟩
theorem ji (hfr : A.frames = some (env :: outer)) (hl : s.heap.FunFrames base (env :: outer)) (hf : env.frame = some L) (t : Tr s.heap e C dx T .none)
  (hq : ∀ h' T', s.heap.objs.size <= T' -> Tr h' e C dx T' (rawInt L) -> Mv ((env :: outer).filterMap (·.frame)) [e, T] s.heap h' -> Q () { s with heap := h' }) :
  wpAny M A (noteFrame (.ref e) env) Q E s := by
 obtain ⟨⟨oe, vs, he, hc, hx, hd, h1, hz2⟩, ⟨ot, ts, ht, hdt, h3⟩, ne⟩ := t
 subst hc
 subst hx
 unfold noteFrame
 simp only [hf]
 refine wpAny_bind (wpAny_field he hd h1 ?_)
 rw [if_pos (by simp : (Value.ref T != Value.none) = true)]
 refine wpAny_bind (wpAny_field ht hdt h3 ?_)
 rw [if_neg (by simp [rawInt] : ¬ ((Value.none == rawInt L) = true))]
 have up := Heap.get?_update_self (Obj.mapFields (·.setIfInBounds 3 .none)) ht (Obj.isFreed_of_fields (Obj.data_mapFields hdt _))
 have k : ∀ b o, b ≠ T -> s.heap.get? b = some o -> (s.heap.update T (Obj.mapFields (·.setIfInBounds 3 .none))).get? b = some o := fun b o z q => (Heap.get?_update_other _ _ (Ne.symm z)).trans q
 refine wpAny_bind (wpAny_setField ht hdt (Array.getElem?_eq_some_iff.mp h3).1 ?_)
 refine w4 (base := base) hfr (hl.of_keeps fun b o q nf => ⟨o, k b o (fun z => ?_) q, rfl⟩) hf (k e oe (Ne.symm ne) he) hd (Array.getElem?_eq_some_iff.mp h1).1 hz2 fun h' T' hs t m => hq h' T' ?_ t ⟨fun b o q f x => ?_, fun b o q x => ?_, fun b o q => ?_⟩
 ·rw [z, ht] at q
  cases q
  exact nf ts hdt
 ·rw [Heap.size_after_update] at hs
  exact hs
 ·exact m.keep b o (k b o (fun z => x (by simp [z])) q) f fun z => x (by simp at z; simp [z])
 ·exact m.slot b o (k b o (fun z => x (by simp [z])) q) fun z => x (by simp at z; simp [z])
 ·by_cases z : b = T
  ·subst z
   exact m.there b _ up
  ·exact m.there b o (k b o z q)
end
end L2
namespace L2
open PySem PySem.Spec PyProof.Rows
theorem HOk.moved {P : Program} {w : World} {H : Hp} {h h' : Heap} {fs xs : List Addr} (x : HOk P w H h) (m : Mv fs xs h h') (hf : ∀ b ∈ fs, H b = none) (hx : ∀ b ∈ xs, H b = none) : HOk P w H h' := fun a o e =>
 (x a o e).stay (fun b u hb q => m.keep b u q (fun z => by
   have n := hf b z
   rcases hb with r | r
   ·rw [r, e] at n
    cases n
   ·rw [r] at n
    cases n) fun z => by
   have n := hx b z
   rcases hb with r | r
   ·rw [r, e] at n
    cases n
   ·rw [r] at n
    cases n) (fun _ q => q) fun _ _ q => q
def CXf (P : Program) (w : World) : CXT := fun outer H s E u s' => ∃ (e T : Addr) (C : Value) (dx : Option Addr) (H' : Hp), u = .ref e /\ s'.os = s.os /\ AllBare s'.gens /\ Un (frs outer) [] H H' s.heap s'.heap /\ HOk P w H' s'.heap /\
 Tr s'.heap e C dx T .none /\ (s.heap.objs.size <= e /\ s.heap.objs.size <= T) /\ (H' e = none /\ H' T = none) /\ E C dx H'
def Fl (h : Heap) (H : Hp) (n : Nat) (e : Addr) (C : Value) (dx : Option Addr) : Prop :=
 (∃ oe vs, h.get? e = some oe /\ oe.cls = C /\ oe.dict = dx /\ oe.data = .fields vs /\ vs[1]? = some .none /\ vs[2]? = some .none) \/ ∃ T, Tr h e C dx T .none /\ H T = none /\ n <= T
def Air (X : Cx) (pins : List (Addr × Obj)) (σ : St) (E : XK) (u : Value) (s' : Shared) : Prop := ∃ (e : Addr) (C : Value) (dx : Option Addr) (H' : Hp) (n : Nat), u = .ref e /\ Inv X pins σ H' s' /\ H' e = none /\ X.s₀.heap.objs.size <= n /\ n <= e /\ (∀ p ∈ X.pn ++ pins, p.1 < n) /\ Fl s'.heap H' n e C dx /\ E C dx H'
section
variable {P : Program} {w : World} {K : PySem.W.Frag} {mg : Str -> Option Value} {base : Heap} {N : List Str} {qual : Str} {scope : Scope} {f : Addr} {cd : Value} {A : Around} {outer : List Env} {s : Shared} {H : Hp} {E : XK}
theorem w6 {pins : List (Addr × Obj)} {σ : St} {u : Value} {s' : Shared} (h : Air (cxOf (CXf P w) P w K mg base N qual scope f cd A outer s H E) pins σ E u s') : (cxOf (CXf P w) P w K mg base N qual scope f cd A outer s H E).xe u s' := by
 obtain ⟨e, C, dx, H', n, rfl, I, ne, hn, he, hp, st, hE⟩ := h
 have fin : ∀ (h2 : Heap) (T : Addr) (xs : List Addr), Tr h2 e C dx T .none -> Mv (frs (cxOf (CXf P w) P w K mg base N qual scope f cd A outer s H E).stack) xs s'.heap h2 -> (∀ b ∈ xs, H' b = none /\ s.heap.objs.size <= b) -> H' T = none -> s.heap.objs.size <= T ->
   CXf P w outer H s E (.ref e) { s' with heap := h2 } := by
  intro h2 T xs t m hx nT sT
  have nst : ∀ (b : Addr) (o : Obj), s.heap.get? b = some o -> b ∉ frs outer -> b ∉ frs (cxOf (CXf P w) P w K mg base N qual scope f cd A outer s H E).stack := fun b o q nb z => by
   rcases List.mem_cons.mp (I.stkSub b z) with r | r
   ·exact absurd (show b = (cxOf (CXf P w) P w K mg base N qual scope f cd A outer s H E).env.locals from r) (Nat.ne_of_lt (Nat.lt_of_lt_of_le (Heap.lt_size q) I.ok.above))
   ·exact nb r
  have nx : ∀ (b : Addr) (o : Obj), s.heap.get? b = some o -> b ∉ xs := fun b o q z => absurd (Nat.lt_of_lt_of_le (Heap.lt_size q) (hx b z).2) (Nat.lt_irrefl _)
  have B : Un (frs outer) [] H H' s.heap s'.heap := I.base
  refine ⟨e, T, C, dx, H', rfl, I.os, I.bare, ⟨fun b o q n hb hx => ?_, fun b o q n hb hx => ?_, B.free, fun b o q hx => ?_, B.tups, B.frzs, B.tbls⟩, I.hok.moved m I.stkFree fun b hb => (hx b hb).1, t, ⟨Nat.le_trans hn he, sT⟩, ⟨ne, nT⟩, hE⟩
  ·exact m.keep b o (B.keep b o q n hb hx) (nst b o q hb) (nx b o q)
  ·obtain ⟨sl, q1⟩ := B.slot b o q n hb hx
   obtain ⟨sl2, q2⟩ := m.slot b _ q1 (nx b o q)
   exact ⟨sl2, q2⟩
  ·obtain ⟨o1, q1⟩ := B.there b o q hx
   exact m.there b o1 q1
 show wpAny (model P w) _ (leaving _ (.ref e)) _ _ s'
 unfold leaving
 rcases st with ⟨oe, vs, h1, rfl, rfl, h4, h5, h6⟩ | ⟨T0, t0, n0, s0⟩
 ·refine wpAny_bind (w5 I.ok.frames I.stack rfl h1 h4 h5 h6 fun h' T hs t m => x8 t fun h2 t2 m2 => ?_)
  refine fin h2 T [e, T] t2 ((m.mono (fun _ z => z) fun b z => ?_).trans (m2.mono (fun b z => nomatch z) fun b z => ?_)) (fun b hb => ?_) (I.hok.fresh hs) (Nat.le_trans I.sz hs)
  ·simp at z
   simp [z]
  ·simp at z
   simp [z]
  ·rcases List.mem_cons.mp hb with r | hb
   ·rw [r]
    exact ⟨ne, Nat.le_trans hn he⟩
   ·rw [List.mem_singleton.mp hb]
    exact ⟨I.hok.fresh hs, Nat.le_trans I.sz hs⟩
 ·refine wpAny_bind (ji I.ok.frames I.stack rfl t0 fun h' T hs t m => x8 t fun h2 t2 m2 => ?_)
  refine fin h2 T [e, T0, T] t2 ((m.mono (fun _ z => z) fun b z => ?_).trans (m2.mono (fun b z => nomatch z) fun b z => ?_)) (fun b hb => ?_) (I.hok.fresh hs) (Nat.le_trans I.sz hs)
  ·simp at z
   rcases z with z | z <;> simp [z]
  ·simp at z
   simp [z]
  ·rcases List.mem_cons.mp hb with r | hb
   ·rw [r]
    exact ⟨ne, Nat.le_trans hn he⟩
   ·rcases List.mem_cons.mp hb with r | hb
    ·rw [r]
     exact ⟨n0, Nat.le_trans hn s0⟩
    ·rw [List.mem_singleton.mp hb]
     exact ⟨I.hok.fresh hs, Nat.le_trans I.sz hs⟩
theorem Xt {X : Cx} {pins : List (Addr × Obj)} {σ : St} {H1 : Hp} {s1 s2 : Shared} {u : Value} {E' : XK} (hP : X.prog = P) (hw : X.w = w) (I : Inv X pins σ H1 s1) (h : CXf P w X.stack H1 s1 E' u s2) : Air X pins σ E' u s2 := by
 obtain ⟨e, T, C, dx, H', rfl, os, bare, un, hok, t, ⟨se, sT⟩, ⟨ne, nT⟩, hE⟩ := h
 have I2 : Inv X pins σ H' s2 := I.call' (ch := []) os un (by rw [hP, hw]; exact hok) bare (fun b z => absurd z (by simp))
 exact ⟨e, C, dx, H', s1.heap.objs.size, rfl, I2, ne, I.sz, se, fun p hp => Heap.lt_size (I.pin p hp).1, .inr ⟨T, t, nT, sT⟩, hE⟩
theorem xm : yd (CXf P w) (cxOf (CXf P w) P w K mg base N qual scope f cd A outer s H E) E := fun pins σ H1 s1 u s2 I h => w6 (Xt rfl rfl I h)
theorem ownx : PassesOwn (model P w) (cxOf (CXf P w) P w K mg base N qual scope f cd A outer s H E).A (cxOf (CXf P w) P w K mg base N qual scope f cd A outer s H E).env (cxOf (CXf P w) P w K mg base N qual scope f cd A outer s H E).xe := PassesOwn.leaving
theorem FnOk.upx {k : Nat} {fd : FuncData} {ps : List Str} {sp : Sp} {CX : CXT} (F : FnOk P w K mg base CX0 k f fd ps sp) : FnOk P w K mg base CX k f fd ps sp :=
 ⟨F.len, fun A outer s H args us vs Q E hr he hb hv hs => codeAny_mono (F.run A outer s H args us vs Q E hr he hb hv hs) fun r s' q => by
  cases r with
  | error e => exact False.elim q
  | ok fl =>
   cases fl with
   | ret u => exact q
   | next => exact False.elim q
   | brk => exact False.elim q
   | cont => exact False.elim q⟩
theorem Fun.byx {x : Str} {st : Stmt} {fd : FuncData} {ps : List Str} {k : Nat} {sp : Sp} (F : Fun K x qual st f fd) (S : FnScope N ps (zo st)) (len : ∀ vs H Q E, sp vs H Q E -> vs.length = ps.length)
  (hbody : ∀ (cdv : Value) (A : Around) (outer : List Env) (s : Shared) (H : Hp) (vs : List V) (Q : VK) (E : XK), Room k (A.deeper (envOfC qual (zo st) s.heap.objs.size f cdv)) -> sp vs H Q E ->
   ∃ t, jSs (cxOf (CXf P w) P w K mg base N qual (zo st) f cdv A outer s H E) (zK st) t /\ t { nx := fun _ H' => Q .non H', rt := Q } (yJ N vs) H) : FnOk P w K mg base (CXf P w) (k + 1) f fd ps sp := by
 obtain ⟨oc, od, kV, doc, pm, an, cdv, ct, osl, rfl, lk, hcd⟩ := F.ex
 refine Y9 lk hcd S len fun A outer s H vs Q E hr hsp => ?_
 obtain ⟨t, h, q⟩ := hbody cdv A outer s H vs Q E hr hsp
 exact ⟨t, h.out, q⟩
end
end L2
namespace L2
open PySem
section
variable {M : Model} {A : Around} {E : Value -> Shared -> Prop} {env : Env} {nm q : Str} {C N : Addr} {bs bm : List Value} {hdct : Bool} {sn : List Str} {sub : List Value} {ab : Bool} {col : Option Bool} {dd : Option Addr} {k0 k1 k2 k3 k5 : Option Value} {newId : String}
theorem ZO {s : Shared} {x : Sem Value} {Q : Flow -> Shared -> Prop} (hb : bm.contains (.type "BaseException") = true) (hh : A.handled = none)
  (h : wpAny M A x (fun v s1 => ∃ e oe vs, v = .ref e /\ s1.heap.get? C = some (excClassObj nm q C N bs bm hdct sn sub ab col dd k0 k1 k2 k3 k5 newId) /\ s1.heap.get? e = some oe /\ oe.cls = .ref C /\ oe.data = .fields vs /\ vs[1]? = some .none /\ E (.ref e) s1) E s) :
  wpAny M A (raiseStmt env (some x) none) Q E s := by
 have cB : (Value.ref C :: bm).contains (.type "BaseException") = true := by rw [List.contains_cons, hb, Bool.or_true]
 unfold raiseStmt
 refine wpAny_bind (wpAny_mono h (fun v s1 h1 => ?_) fun _ _ x => x)
 obtain ⟨e, ⟨c, d0, dt, sl⟩, vs, rfl, hC, he, hc, hd, hv, hE⟩ := h1
 dsimp only at hc hd
 subst hc hd
 obtain ⟨hp, g, d, tk, os⟩ := s1
 repeat (first | (with_reducible refine wpAny_field he rfl hv ?_) | with_reducible refine wpAny_loadPart_at he ?_ | with_reducible refine wpAny_loadPart_at hC ?_ | (with_reducible refine wpAny_isSubtype_exc hC ?_; rw [cB]) | wp_step)
 exact wpAny_raiseNew_none hh hE
end
theorem Vq {M : Model} {A : Around} {E : Value -> Shared -> Prop} {s : Shared} {f : Addr} {ob : Obj} {self : Value} {Q : Value × List Value -> Shared -> Prop} (h1 : s.heap.get? f = some ob) (h2 : ob.cls = .type "function") (q : Q (.ref f, [self]) s) : wpAny M A (bindSpecial (.ref f) self) Q E s := by
 unfold bindSpecial
 refine wpAny_bind (wpAny_typeOf (T := "function") ⟨ob, h1, h2⟩ ?_)
 exact wpAny_pure q
abbrev yq (rest : List Value) : Obj := { cls := .type "tuple", data := .seq rest.toArray }
abbrev yu (C t : Addr) : Obj := { cls := .ref C, data := .fields #[.ref t, .none, .none, .none, .bool false, .none] }
section
variable {prog : Program} {w : World} {A : Around} {E : Value -> Shared -> Prop} {h : Heap} {g : Array GenState} {d : Drawn} {t : Nat} {os : OsState}
variable {nm q : Str} {C N f : Addr} {bs bm bmB : List Value} {hdct : Bool} {sn : List Str} {sub : List Value} {ab : Bool} {col : Option Bool} {dd : Option Addr} {k0 k1 k2 k3 k5 : Option Value} {B Bn newId nid initId inN : String} {bmN : List Value}
theorem jj (Fn : ExcBaseFacts Bn newId inN bmN) (hBn : bmB.contains (.type Bn) = true) (F : ExcBaseFacts B nid initId bmB) (T : OwnTail h bmB bm) {mN : Str -> Option Value} {rest : List Value} {Q : Fin -> Shared -> Prop} {ob : Obj}
  (hC : h.get? C = some (excClassObj nm q C N bs bm hdct sn sub ab col dd k0 k1 k2 k3 k5 newId)) (hn : h.Ns N mN) (hi : mN "__init__" = some (.ref f)) (hf : h.get? f = some ob) (hfc : ob.cls = .type "function") (hrest : rest.length <= sizeLine)
  (hq : wpAny (model prog w) A (call (.ref f) (.ref (h.objs.size + 1) :: rest)) (fun v s' => v = .none /\ Q (.done (.ret (.ref (h.objs.size + 1)))) s') E ⟨(h.push (yq rest)).push (yu C h.objs.size), g, d, t, os⟩) :
  wpAny (model prog w) A (Builtin.«type.__call__» ⟨.ref C :: rest, []⟩) Q E ⟨h, g, d, t, os⟩ := by
 repeat (first | with_reducible refine wpAny_madeBy_exc hC ?_ | with_reducible refine wpAny_loadPart_at hC ?_ | wp_step)
 refine codeAny_call_builtin_code (Code.quiet_builtin _ Fn.quiet) (wpAny_check_new_subU Fn hBn T hC (codeAny_exc_new_subU Fn hBn F T hC ?_ hrest))
 show wpAny _ _ _ _ _ _
 have k : ∀ b o, h.get? b = some o -> ((h.push (yq rest)).push (yu C h.objs.size)).get? b = some o := fun b o e => Heap.get?_push_of_some _ (Heap.get?_push_of_some _ e)
 have C1 := k _ _ hC
 have e1 : ((h.push (yq rest)).push (yu C h.objs.size)).get? (h.objs.size + 1) = some (yu C h.objs.size) := Heap.get?_push_at (by simp only [Heap.size_push]) rfl
 have cC : (Value.ref C :: bm).contains (.ref C) = true := by simp
 unfold isInstance
 repeat (first | with_reducible refine wpAny_loadPart_at e1 ?_ | (with_reducible refine wpAny_isSubtype_exc C1 ?_; rw [cC]) | wp_step)
 show wpAny _ _ (typeLookup (.ref C) _) _ _ _
 refine wpAny_typeLookup_tail C1 (hn.keeps k) (T.keeps k) F.mroIs F.init.lookup ?_
 rw [hi]
 refine wpAny_holding (wpAny_bind (Vq (k _ _ hf) hfc ?_))
 refine wpAny_bind (wpAny_mono hq (fun v s' hv => ?_) fun _ _ x => x)
 obtain ⟨rfl, hv⟩ := hv
 exact wpAny_pure (wpAny_pure hv)
theorem Vr (Fn : ExcBaseFacts Bn newId inN bmN) (hBn : bmB.contains (.type Bn) = true) (F : ExcBaseFacts B nid initId bmB) (T : OwnTail h bmB bm) {mN : Str -> Option Value} {rest : List Value} {Q : Value -> Shared -> Prop} {ob : Obj}
  (hC : h.get? C = some (excClassObj nm q C N bs bm hdct sn sub ab col dd k0 k1 k2 k3 k5 newId)) (hn : h.Ns N mN) (hi : mN "__init__" = some (.ref f)) (hf : h.get? f = some ob) (hfc : ob.cls = .type "function") (hrest : rest.length <= sizeLine)
  (hq : wpAny (model prog w) (A.under (.builtin "type.__call__" ⟨.ref C :: rest, []⟩)) (call (.ref f) (.ref (h.objs.size + 1) :: rest)) (fun v s' => v = .none /\ Q (.ref (h.objs.size + 1)) s') E ⟨(h.push (yq rest)).push (yu C h.objs.size), g, d, t, os⟩) :
  wpAny (model prog w) A (call (.ref C) rest) Q E ⟨h, g, d, t, os⟩ := by
 have f1 := tc_lookup
 have f2 := tc_bind (.ref C)
 have hT : (⟨h, g, d, t, os⟩ : Shared).TypeIs (.ref C) "type" := ⟨_, hC, rfl⟩
 refine wpAny_call (codeAny_of_tree ?_)
 show wpAny _ _ (callAny (.ref C) ⟨rest, []⟩) _ _ _
 repeat (any_goals (first | assumption | (with_reducible refine wpAny_loadPart_at hC ?_) | wp_step))
 refine ⟨rfl, codeAny_call_builtin_at (Code.quiet_builtin _ (by decide +kernel)) entry_typeCall (wpAny_check_type_call_sub hC ?_)⟩
 exact jj Fn hBn F T hC hn hi hf hfc hrest hq
theorem ZP (F : ExcBaseFacts B nid initId bmB) (T : OwnTail h bmB bm) {e t0 : Addr} {oe : Obj} {vs : Array Value} {rest : List Value} {Q : Value -> Shared -> Prop}
  (hC : h.get? C = some (excClassObj nm q C N bs bm hdct sn sub ab col dd k0 k1 k2 k3 k5 newId)) (he : h.get? e = some oe) (hc : oe.cls = .ref C) (hd : oe.data = .fields vs) (h0 : vs[0]? = some (.ref t0)) (hrest : rest.length <= sizeLine)
  (hq : Q .none ⟨(h.push (yq rest)).update e (Obj.mapFields (·.setIfInBounds 0 (.ref h.objs.size))), g, d, t, os⟩) :
  wpAny (model prog w) A (call (.builtin initId) (.ref e :: rest)) Q E ⟨h, g, d, t, os⟩ := by
 refine wpAny_call (codeAny_call_builtin F.init.plain F.initEntry (wpAny_check_init_subU F T hC he hc ?_))
 unfold Builtin.«BaseException.__init__»
 dsimp only
 rw [if_neg (by simp : ¬ ((!List.isEmpty ([] : List (Str × Value))) = true))]
 unfold newTuple Builtin.BaseException.bexcPut
 have e1 := Heap.get?_push_of_some (h := h) (yq rest) he
 refine wpAny_bind (wpAny_newObj_type ?_ (by show rest.toArray.size <= sizeLine; rw [List.size_toArray]; exact hrest))
 refine wpAny_bind (wpAny_bind (wpAny_field e1 hd h0 (wpAny_bind (wpAny_setField e1 hd (Array.getElem?_eq_some_iff.mp h0).1 ?_))))
 exact wpAny_letGo (wpAny_pure hq)
end
end L2
namespace L2
open PySem PySem.W PySem.Calls PyProof.Rows Builtin Builtin.ObjectAttr
def bmV : List Value := [.type "ValueError", .type "Exception", .type "BaseException", .type "object"]
theorem Xu (self : Value) : refuseLoop self "__setattr__" bmV = pure () := by kernel_rfl
def w9 : List Value -> Bool
 | [] => false
 | v :: r => (v :: r) == bmV || (match v with
  | .ref _ => w9 r
  | _ => false)
theorem xY (self : Value) : ∀ {l : List Value}, w9 l = true -> refuseLoop self "__setattr__" l = pure ()
 | [], e => by cases e
 | v :: r, e => by
  unfold w9 at e
  rcases Bool.or_eq_true_iff.mp e with q | q
  ·rw [beq_iff_eq.mp q]
   exact Xu self
  ·split at q
   ·rw [refuseLoop_ref]
    exact xY self q
   ·cases q
theorem wq : ∀ {l : List Value}, w9 l = true -> l.contains (.type "object") = true /\ l.isEmpty = false
 | [], e => by cases e
 | v :: r, e => by
  unfold w9 at e
  rcases Bool.or_eq_true_iff.mp e with q | q
  ·rw [beq_iff_eq.mp q]
   exact ⟨by decide, rfl⟩
  ·split at q
   ·exact ⟨by rw [List.contains_cons, (wq q).1, Bool.or_true], rfl⟩
   ·cases q
def vB (K : Frag) (C : Addr) : Bool := (clsIn K C).any fun cd => w9 cd.mro
section
variable {prog : Program} {w : World} {A : Around} {E : Value -> Shared -> Prop} {K : Frag} {C e : Addr} {s : Shared} {ox : Obj} {od : Option Obj} {name : Str} {R : Result -> Shared -> Prop}
theorem Vs {tk : Tok} {v : Value} (X : K.In s.heap) (I : InstAt s.heap e ox C od) (hp : vB K C = true) (ht : takerIn K C name = some none)
  (h : ∀ b, wpAny (model prog w) A.in1 (storeInOwnDict (.ref e) (.ref C) (.str name tk) name v b) (fun fin s' => match fin with | .done f => R (.ok f) s' | .again c' => c'.quiet = true /\ codeAny (model prog w) A c' R s') (fun u s' => R (.error u) s') s) :
  codeAny (model prog w) A (.call (.builtin "object.__setattr__") ⟨[.ref e, .str name tk, v], []⟩) R s := by
 have SF := PySem.F.store_object
 obtain ⟨cd, hc, ho⟩ := any_some hp
 have hm : Looks (model prog w) s.heap (mroOf (.ref C)) cd.mro := (looks_clsIn X hc).andThen .now
 have sub : Looks (model prog w) s.heap (isInstance (.ref e) (.type "object")) true := I.type.andThen (looks_mroIn X (by unfold mroIn; rw [hc, Option.bind_some, if_neg (by rw [(wq ho).2]; decide), (wq ho).1]))
 obtain ⟨attr, ha, hr⟩ := Option.bind_eq_some_iff.mp ht
 have tk3 : Looks (model prog w) s.heap (storeTaker? attr) none := by
  cases attr with
  | none => exact .now
  | some a =>
   obtain ⟨b, hb, hn⟩ := Option.map_eq_some_iff.mp hr
   refine (looks_takesIn X hb).andThen ?_
   cases b
   ·exact .now
   ·cases hn
 refine codeAny_call_builtin SF.slot.plain SF.entry (@check_slot (model prog w) _ _ s "object.__setattr__" "object" "__setattr__" (.ref e) [.str name tk, v] [] _ SF.kind SF.split sub (SF.args (.ref e) (.str name tk) v) ?_)
 rw [osa_eq, refuse_eq]
 refine wpAny_bind (wpAny_bind (I.type.here (wpAny_bind (hm.here ?_))))
 rw [xY _ ho]
 exact wpAny_pure (wpAny_bind (I.type.here (wpAny_bind ((looks_findIn X ha).here (wpAny_bind (tk3.here (h _)))))))
theorem qw {oe : Obj} {vs : Array Value} {v : Value} {Q : Unit -> Shared -> Prop} (X : K.In s.heap) (he : s.heap.get? e = some oe) (hc : oe.cls = .ref C) (hx : oe.dict = none) (hd : oe.data = .fields vs)
  (hs : findIn K (.ref C) "__setattr__" = some (some (.builtin "object.__setattr__"))) (hp : vB K C = true) (ht : takerIn K C name = some none) (hh : (clsIn K C).any (·.hasDict) = true)
  (h : ∀ h', h'.Ns1 s.heap.objs.size (fun y => if y = name then some v else none) -> h'.get? e = some { oe with dict := some s.heap.objs.size } -> (∀ b o, b ≠ e -> s.heap.get? b = some o -> h'.get? b = some o) -> Q () { s with heap := h', toks := s.toks + 2 }) :
  wpAny (model prog w) A (setAttr (.ref e) name v) Q E s := by
 have J : InstAt s.heap e oe C none := ⟨he, hc, by unfold notCls; rw [hd], by rw [hx]; trivial⟩
 refine set_plain X J hs (Vs (s := { s with toks := s.toks + 1 }) X J hp ht fun b => ?_)
 obtain ⟨cd, hcd, hdd⟩ := any_some hh
 obtain ⟨oc, odi, oda, osl⟩ := oe
 dsimp only at hc hx hd
 subst hc hx hd
 refine wpAny_bind (wpAny_pure (wpAny_bind (wpAny_bind (wpAny_loadPart he (wpAny_bind (Looks.here (s := { s with toks := s.toks + 1 }) (looks_clsIn X hcd) ?_))))))
 rw [hdd]
 have e1 := Heap.get?_push_of_some (h := s.heap) PySem.W.emptyDict he
 have ne : s.heap.objs.size ≠ e := Nat.ne_of_gt (Heap.lt_size he)
 have d1 : (s.heap.push PySem.W.emptyDict).get? s.heap.objs.size = some PySem.W.emptyDict := Heap.get?_push_size _ rfl
 have d2 : ((s.heap.push PySem.W.emptyDict).update e fun o => { o with dict := some s.heap.objs.size }).get? s.heap.objs.size = some PySem.W.emptyDict := (Heap.get?_update_other _ _ (Ne.symm ne)).trans d1
 have e2 := Heap.get?_update_self (fun o => { o with dict := some s.heap.objs.size }) e1 rfl
 have n2 : ((s.heap.push PySem.W.emptyDict).update e fun o => { o with dict := some s.heap.objs.size }).Ns s.heap.objs.size (fun _ => none) := ⟨PySem.W.emptyDict, #[], _, d2, rfl, (fun z hz => absurd hz (by simp)), fun _ => rfl⟩
 show wpAny _ _ (alloc PySem.W.emptyDict >>= _) _ _ _
 refine wpAny_bind (wpAny_alloc (wpAny_bind (wpAny_update e1 ?_)))
 refine wpAny_pure (a := some s.heap.objs.size) (wpAny_bind (wpAny_pure (wpAny_bind ?_)))
 refine wpAny_nsSet1 (Heap.Ns1.of_empty n2) fun h' hn hsb => ?_
 obtain ⟨oD, esD, epD, hoD, hdD, hcD⟩ := hn.count (PySem.Within.cons name v PySem.Within.nil)
 refine wpAny_bind (wpAny_lookBehind hoD (by rw [hdD]; exact pastItsLine_dict (Nat.le_trans hcD (by show 1 <= sizeLine + 1; omega))) (wpAny_pure ?_))
 refine h h' hn ((hsb.2 _ (Ne.symm ne)).trans e2) fun b o nb q => ?_
 rw [hsb.2 b (Nat.ne_of_lt (Heap.lt_size q)), Heap.get?_update_other _ _ (Ne.symm nb)]
 exact Heap.get?_push_of_some _ q
theorem xg_slot : Slot "ValueError" "__getattribute__" "BaseException.__getattribute__" := PySem.F.attr_ValueError.ga
theorem qx {v : Value} {expr : Bool} {Q : Value -> Shared -> Prop} (X : K.In s.heap) (I : InstAt s.heap e ox C od) (hga : findIn K (.ref C) "__getattribute__" = some (some (.builtin "BaseException.__getattribute__"))) (hk : findIn K (.ref C) "__getattr__" = some none)
  (hb : subIn K (.ref C) (.type "BaseException") = some true) (hf : findObj K C od name = some (.value v)) (hh : handedIn v = true) (h : Q v { s with toks := s.toks + 1 }) : wpAny (model prog w) A (getAttr (.ref e) name expr) Q E s := by
 have ty := I.type (M := model prog w)
 have fd := looks_find (M := model prog w) X I hf
 refine wpAny_bind (wpAny_mkText (wpAny_holding (wpAny_bind (ty _ _ _ _ (fun _ _ q => q) (wpAny_bind (looks_findIn X hga _ _ _ _ (fun _ _ q => q) ?_))))))
 dsimp only
 rw [show (onTheHeap (Value.ref C) && Value.builtin "BaseException.__getattribute__" == Value.builtin "object.__getattribute__") = false from by rw [show (Value.builtin "BaseException.__getattribute__" == Value.builtin "object.__getattribute__") = false from by decide +kernel, Bool.and_false], if_neg (by decide : ¬ (false = true))]
 refine wpAny_bind ((looks_hook (mc := .ref C) X (by rw [if_pos (show onTheHeap (.ref C) = true from rfl)]; exact hk)) _ _ _ _ (fun _ _ q => q) (wpAny_bind (wpAny_attempt (wpAny_holding ?_))))
 unfold callGetattribute
 rw [show (expr && onTheHeap (Value.builtin "BaseException.__getattribute__")) = false from Bool.and_false _, if_neg (by decide : ¬ (false = true))]
 unfold boundAndCalled
 rw [xg_slot.bind]
 refine wpAny_bind (wpAny_pure (wpAny_call (codeAny_call_builtin xg_slot.plain PySem.F.entry_bexc_ga ?_)))
 refine @check_slot (model prog w) _ _ { s with toks := s.toks + 1 } "BaseException.__getattribute__" "BaseException" "__getattribute__" (.ref e) [.str name s.toks] [] _ (by decide +kernel) (by decide +kernel) (ty.andThen (looks_subIn X hb)) (PySem.F.args_bexc_ga (.ref e) (.str name s.toks)) ?_
 refine wpAny_bind (wpAny_pure (wpAny_bind (wpAny_pure (wpAny_bind (ty _ _ _ _ (fun _ _ q => q) (wpAny_bind (fd _ _ _ _ (fun _ _ q => q) ?_)))))))
 refine wpAny_pure ?_
 show wpAny _ _ (handedOut v) _ _ _
 rw [handedOut_of hh]
 exact wpAny_pure h
end
end L2
namespace L2
open PySem PySem.Spec PyProof.Rows
def XO (e C : Addr) (dx : Option Addr) : HO := .ext fun h => ∃ oe vs t0, h.get? e = some oe /\ oe.cls = .ref C /\ oe.dict = dx /\ oe.data = .fields vs /\ vs[0]? = some (.ref t0) /\ vs[1]? = some .none /\ vs[2]? = some .none
theorem XO.ok {P : Program} {w : World} {H : Hp} {h : Heap} {e C : Addr} {dx : Option Addr} (p : ∃ oe vs t0, h.get? e = some oe /\ oe.cls = .ref C /\ oe.dict = dx /\ oe.data = .fields vs /\ vs[0]? = some (.ref t0) /\ vs[1]? = some .none /\ vs[2]? = some .none) : ObjOk P w H h e (XO e C dx) :=
 ⟨p, let ⟨oe, _, _, q, _⟩ := p; ⟨oe, q⟩, fun _ _ ⟨oe, vs, t0, a, r⟩ k => ⟨oe, vs, t0, k oe a, r⟩⟩
theorem XO.get {P : Program} {w : World} {H : Hp} {h : Heap} {e C : Addr} {dx : Option Addr} (x : HOk P w H h) (q : H e = some (XO e C dx)) : ∃ oe vs t0, h.get? e = some oe /\ oe.cls = .ref C /\ oe.dict = dx /\ oe.data = .fields vs /\ vs[0]? = some (.ref t0) /\ vs[1]? = some .none /\ vs[2]? = some .none :=
 (show ObjOk P w H h e (.ext _) from x e _ q).1
def XD (d : Addr) (fs : List (Str × V)) : HO := .ext fun h => ∃ mA, h.Ns1 d mA /\ (∀ f, RelO (fs.lookup f) (mA f)) /\ PySem.Within mA (fs.map (·.1)) /\ fs.length <= 1000
theorem XD.ok {P : Program} {w : World} {H : Hp} {h : Heap} {d : Addr} {fs : List (Str × V)} (p : ∃ mA, h.Ns1 d mA /\ (∀ f, RelO (fs.lookup f) (mA f)) /\ PySem.Within mA (fs.map (·.1)) /\ fs.length <= 1000) : ObjOk P w H h d (XD d fs) :=
 ⟨p, let ⟨_, ⟨o, _, _, q, _⟩, _⟩ := p; ⟨o, q⟩, fun _ _ ⟨mA, n, r⟩ k => ⟨mA, n.at k, r⟩⟩
theorem XD.get {P : Program} {w : World} {H : Hp} {h : Heap} {d : Addr} {fs : List (Str × V)} (x : HOk P w H h) (q : H d = some (XD d fs)) : ∃ mA, h.Ns1 d mA /\ (∀ f, RelO (fs.lookup f) (mA f)) /\ PySem.Within mA (fs.map (·.1)) /\ fs.length <= 1000 :=
 (show ObjOk P w H h d (.ext _) from x d _ q).1
def xIn (K : PySem.W.Frag) (C f : Addr) : Bool := match K.lookup C with
 | some ⟨.type "type", _, .cls cd, sl⟩ => (match cd.mro, sl.toList with
  | .ref C' :: bm, [_, _, _, _, some (.builtin n), _] => C' == C && n == "ValueError.__new__" && !cd.hasDel && PySem.W.tailIn K bmV bm && PySem.W.nsOkIn K cd.ns && PySem.W.nsIn K cd.ns "__init__" == some (some (.ref f)) && bm.contains (.type "BaseException")
  | _, _ => false)
 | _ => false
structure XCl (K : PySem.W.Frag) (C f : Addr) : Prop where
 cls : xIn K C f = true
 fn : PySem.W.typeIn K (.ref f) = some (.type "function")
 kp : PySem.W.keepIn K (.ref C) = true
 over : vB K C = true
 sa : PySem.W.findIn K (.ref C) "__setattr__" = some (some (.builtin "object.__setattr__"))
 hd : (PySem.W.clsIn K C).any (·.hasDict) = true
 ga : PySem.W.findIn K (.ref C) "__getattribute__" = some (some (.builtin "BaseException.__getattribute__"))
 ha : PySem.W.findIn K (.ref C) "__getattr__" = some none
 sb : PySem.W.subIn K (.ref C) (.type "BaseException") = some true
theorem Vt {K : PySem.W.Frag} {h : Heap} {N : Addr} {mg : Str -> Option Value} {n : Str} {v : Value} (X : K.In h) (G : h.Ns N mg) (e : PySem.W.nsIn K N n = some (some v)) : mg n = some v := by
 obtain ⟨o, es, ep, ho, hd, _, hf⟩ := G
 unfold PySem.W.nsIn at e
 split at e
 ·rename_i c d es' n' sl q
  have := X _ _ q
  rw [ho] at this
  cases this
  cases hd
  split at e
  ·rename_i en he
   cases e
   rw [<- hf]
   unfold nsFind findBy
   rw [<- Array.find?_toList, he]
   rfl
  ·split at e <;> cases e
 ·cases e
theorem XCl.at {K : PySem.W.Frag} {C f : Addr} (c : XCl K C f) {h : Heap} (X : K.In h) : ∃ nm q N bs bm hdct sn sub ab col dd k0 k1 k2 k3 k5 mN, h.get? C = some (excClassObj nm q C N bs bm hdct sn sub ab col dd k0 k1 k2 k3 k5 "ValueError.__new__") /\
  OwnTail h bmV bm /\ h.Ns N mN /\ mN "__init__" = some (.ref f) /\ bm.contains (.type "BaseException") = true := by
 have q := c.cls
 unfold xIn at q
 split at q
 ·rename_i dd cd sl ho
  split at q
  ·rename_i C' bm k0 k1 k2 k3 n k5 hm hs
   simp only [Bool.and_eq_true, beq_iff_eq, Bool.not_eq_true'] at q
   obtain ⟨⟨⟨⟨⟨⟨rfl, rfl⟩, hdel⟩, ht⟩, hok⟩, hi⟩, hb⟩ := q
   obtain ⟨nm, bs, mro, ns, qn, hd, sn, sub, ab, col, del⟩ := cd
   dsimp only at hm hdel hok hi
   subst hm hdel
   have es : sl = #[k0, k1, k2, k3, some (.builtin "ValueError.__new__"), k5] := by
    obtain ⟨l⟩ := sl
    simp only at hs
    rw [hs]
   subst es
   have nN := PySem.Heap.Ns.of_isNs (PySem.W.isNs_of_in X hok)
   exact ⟨nm, qn, ns, bs, bm, hd, sn, sub, ab, col, dd, k0, k1, k2, k3, k5, _, X _ _ ho, PySem.W.tail_of_in X ht, nN, Vt X nN hi, hb⟩
  ·cases q
 ·cases q
def drp (H : Hp) (e : Addr) : Hp := fun b => if b = e then none else H b
theorem wr {H : Hp} {e : Addr} : drp H e e = none := if_pos rfl
theorem wt {H : Hp} {e b : Addr} (h : b ≠ e) : drp H e b = H b := if_neg h
theorem Inv.drop {X : Cx} {pins : List (Addr × Obj)} {σ : St} {H : Hp} {s : Shared} {e : Addr} {φ : Heap -> Prop} (I : Inv X pins σ H s) (he : H e = some (.ext φ)) : Inv X pins σ (drp H e) s := by
 have no : ∀ b, H b = none -> drp H e b = none := fun b h => by
  by_cases q : b = e
  ·rw [q]
   exact wr
  ·rw [wt q]
   exact h
 have nx : ∀ (b : Addr) (o : HO), H b = some o -> (∀ ψ, o ≠ .ext ψ) -> drp H e b = some o := fun b o h n => by
  have q : b ≠ e := fun z => by
   rw [z, he] at h
   cases h
   exact n _ rfl
  rw [wt q]
  exact h
 refine ⟨I.ok, I.os, I.bare, ⟨I.base.keep, I.base.slot, fun b o q n x => no b (I.base.free b o q n x), I.base.there, fun b xs q => nx _ _ (I.base.tups b xs q) (by intro ψ z; cases z), fun b o u q => nx _ _ (I.base.frzs b o u q) (by intro ψ z; cases z), fun b ps q => ?_⟩, I.loc, I.cell, no _ I.free, fun x c q => no _ (I.freeC x c q), fun p hp => ?_, fun a o q => ?_, I.len⟩
 ·obtain ⟨m, r⟩ := I.base.tbls b ps q
  exact ⟨m, nx _ _ r (by intro ψ z; cases z)⟩
 ·obtain ⟨a, b, c⟩ := I.pin p hp
  exact ⟨a, no _ b, c⟩
 ·have na : a ≠ e := fun z => by
   rw [z, wr] at q
   cases q
  rw [wt na] at q
  exact (I.hok a o q).stay (fun _ _ _ z => z) (fun b z => nx b _ z (by intro ψ y; cases y)) fun b xs z => nx b _ z (by intro ψ y; cases y)
def wu (X : Cx) (E : XK) : Prop := ∀ (pins : List (Addr × Obj)) (σ : St) (u : Value) (s' : Shared), Air X pins σ E u s' -> X.xe u s'
theorem xM {P : Program} {w : World} {K : PySem.W.Frag} {mg : Str -> Option Value} {base : Heap} {N : List Str} {qual : Str} {scope : Scope} {f : Addr} {cd : Value} {A : Around} {outer : List Env} {s : Shared} {H : Hp} {E : XK} :
  wu (cxOf (CXf P w) P w K mg base N qual scope f cd A outer s H E) E := fun _ _ _ _ h => w6 h
def Xv (C : Addr) (sp : Sp) (E : XK) (t : TA) : TS := fun _ σ H => t σ H fun vs H1 => vs.length <= sizeLine /\ ∀ e, H1 e = none -> sp (.ref e :: vs) (upd H1 e (XO e C none)) (fun v H2 => v = .non /\ ∃ dx, H2 e = some (XO e C dx) /\ E (.ref C) dx (drp H2 e)) E0
section
variable {X : Cx} {k : Nat} {f C : Addr} {fd : FuncData} {ps : List Str} {sp : Sp} {E : XK} {x : Str} {np cpos pos : Pos} {a : Expr} {as : List Expr} {t : TA}
theorem Xw (M : XCl X.K C f) (F : FnOk X.prog X.w X.K X.mg X.base CX0 k f fd ps sp) (hr : Room (k + 1) X.A) (hg : Gl X x) (hm : X.mg x = some (.ref C)) (hb : Binds X.K fd ps []) (hx : wu X E)
  (ha : PA X (a :: as) t) (hdb : (x == ("__debug__" : Str)) = false := by decide) (h1 : zz a = false := by rfl) (h2 : as.all (fun e => !zz e) = true := by rfl) :
  PS X (.Raise (some (.Call (.Name x np) (a :: as) [] cpos)) none pos) (Xv C sp E t) := by
 intro pins s σ H D I h
 obtain ⟨nm, q, N, bs, bm, hdct, sn, sub, ab, col, dd, k0, k1, k2, k3, k5, mN, hC0, T0, n0, i0, hB⟩ := M.at I.mod.kin
 rw [arm_exec_Raise]
 simp only [evalOpt, Option.map]
 refine wpAny_bind (wpAny_standAt (ZO (C := C) (nm := nm) (q := q) (N := N) (bs := bs) (hdct := hdct) (sn := sn) (sub := sub) (ab := ab) (col := col) (dd := dd) (k0 := k0) (k1 := k1) (k2 := k2) (k3 := k3) (k5 := k5) (newId := "ValueError.__new__") hB hr.hd (wpAny_bind ?_)))
 refine wpAny_Call_Name_kw (y8 I hg hm ?_ hdb)
 refine PySem.W.callWith_K (h₀ := X.base) I.ok.mod.kin M.kp (thn (ha cpos pins s σ H _ I h) fun us s1 ⟨vs, H1, I1, r, hl, q1⟩ => ⟨I1.kIn, ?_⟩) (zE h1) (yi h2)
 obtain ⟨hh, g, d, tk, os⟩ := s1
 have kb : ∀ b o, X.base.get? b = some o -> hh.get? b = some o := I1.bk
 have e0 : H1 (hh.objs.size + 1) = none := I1.hok.fresh (Nat.le_succ _)
 obtain ⟨of, hof, hofc⟩ := Option.map_eq_some_iff.mp M.fn
 have hof' : hh.get? f = some of := I1.kIn _ _ hof
 refine Vr PySem.F.excBase_ValueError (by decide +kernel) PySem.F.excBase_ValueError (T0.keeps kb) (kb _ _ hC0) (n0.keeps kb) i0 hof' hofc (show us.length <= sizeLine by rw [<- r.length]; exact hl) ?_
 have ex : ((hh.push (yq us)).push (yu C hh.objs.size)).get? (hh.objs.size + 1) = some (yu C hh.objs.size) := Heap.get?_push_at (by simp only [Heap.size_push]) rfl
 have I2 : Inv X pins σ (upd H1 (hh.objs.size + 1) (XO (hh.objs.size + 1) C none)) ⟨(hh.push (yq us)).push (yu C hh.objs.size), g, d, tk, os⟩ :=
  I1.laid (a := hh.objs.size + 1) (o := XO (hh.objs.size + 1) C none) (t' := tk) (fun b u q => Heap.get?_push_of_some _ (Heap.get?_push_of_some _ q)) (Nat.le_succ _) (XO.ok ⟨yu C hh.objs.size, _, hh.objs.size, ex, rfl, rfl, rfl, rfl, rfl, rfl⟩)
 have hq := q1 _ e0
 have r2 : Vals (V.ref (hh.objs.size + 1) :: vs) (Value.ref (hh.objs.size + 1) :: us) := .cons rfl r
 have hlen : (Value.ref (hh.objs.size + 1) :: us).length = ps.length := by rw [<- r2.length]; exact F.len _ _ _ _ hq
 have bd := hb ⟨(hh.push (yq us)).push (yu C hh.objs.size), g, d, tk, os⟩ (Value.ref (hh.objs.size + 1) :: us) I2.kIn (by rw [List.append_nil]; exact hlen)
 rw [List.append_nil] at bd
 refine wpAny_call (codeAny_mono (F.run _ X.stack _ _ ⟨Value.ref (hh.objs.size + 1) :: us, []⟩ (Value.ref (hh.objs.size + 1) :: us) _ _ E0 (hr.make C us []) (I2.env0.make C us []) bd r2 hq) fun r s' hq' => ?_)
 cases r with
 | error u => exact False.elim hq'
 | ok fl =>
  cases fl with
  | ret u =>
   obtain ⟨v, H', I3, rv, ev, dx, hH, hE⟩ := I2.after hq'
   subst ev
   obtain ⟨oe, ws, t0, g1, g2, g3, g4, g5, g6⟩ := XO.get I3.hok hH
   exact ⟨rv, wpAny_bind (wpAny_standAt (wpAny_pure ⟨_, oe, ws, rfl, I3.bk _ _ hC0, g1, g2, g4, g6.1, hx pins σ _ s' ⟨_, .ref C, dx, drp H' (hh.objs.size + 1), hh.objs.size, rfl, I3.drop hH, wr, I1.sz, Nat.le_succ _, fun p hp => Heap.lt_size (I1.pin p hp).1, .inl ⟨oe, ws, g1, g2, g3, g4, g6⟩, hE⟩⟩))⟩
  | next => exact False.elim hq'
  | brk => exact False.elim hq'
  | cont => exact False.elim hq'
end
structure XBase (K : PySem.W.Frag) (R : Addr) : Prop where
 sp : PySem.W.specialIn K (.ref R) "__getattribute__" = some (some (.builtin "type.__getattribute__"))
 rd : PySem.W.readsIn K R (.type "type") = true
 fi : PySem.W.findCls K (.ref R) (.type "type") "__init__" = some (.val (.builtin "ValueError.__init__"))
def qy (C : Addr) (t : TA) : TE := fun σ H Q => t σ H fun vs H1 => ∃ e rest dx, vs = .ref e :: rest /\ rest.length <= sizeLine /\ H1 e = some (XO e C dx) /\ Q .non H1
theorem qz {H : Hp} {e : Addr} {o : HO} (h : H e = some o) : upd H e o = H := by
 funext b
 unfold upd
 split
 ·rename_i q
  rw [q, h]
 ·rfl
section
variable {X : Cx} {f C R : Addr} {x m : Str} {np apos pos pos' : Pos} {a o e value : Expr} {as : List Expr} {t : TA} {ta tv te : TE}
theorem Xx {pl : Sem Bool} (M : XCl X.K C f) (B : XBase X.K R) (hg : Gl X x) (hm : X.mg x = some (.ref R)) (ha : PA X (a :: as) t) (hdb : (x == ("__debug__" : Str)) = false := by decide) (h1 : zz a = false := by rfl) (h2 : as.all (fun e => !zz e) = true := by rfl)
  (ht : eval (.Call (.Attribute (.Name x np) "__init__" apos) (a :: as) [] pos) X.env = (do
   let ov <- eval (.Name x np) X.env
   standAt apos.atName
   let (f, first) <- holding [ov] (getMethod ov "__init__" pl)
   callWith pos f first (backTo pos (starEach (a :: as) X.env)) (backToKw pos (keywordEach [] X.env))) := by rfl) :
  PE X (.Call (.Attribute (.Name x np) "__init__" apos) (a :: as) [] pos) (qy C t) := by
 intro pins s σ H Q I h
 refine PySem.W.methodCall_KW (pl := pl) (y8 I hg hm ?_ hdb) ht
 refine PySem.W.method_cls I.kIn B.sp (PySem.W.cls_value I.kIn B.rd B.fi (by decide +kernel) ?_)
 have I0 : Inv X pins σ H { s with toks := s.toks + 1 } := I.tok _
 refine PyProof.Rows.callWith_builtin1 (thn (ha pos pins _ σ H _ I0 h) fun us s1 ⟨vs, H1, I1, r, e, rest, dx, ev, hl, hH, q⟩ => ?_) (zE h1) (yi h2)
 subst ev
 obtain ⟨ue, ur, rfl, re, rr⟩ : ∃ ue ur, us = ue :: ur /\ RelV (.ref e) ue /\ Vals rest ur := by
  cases r with
  | cons p q => exact ⟨_, _, rfl, p, q⟩
 obtain rfl : ue = Value.ref e := re
 obtain ⟨oe, ws, t0, g1, g2, g3, g4, g5, g6⟩ := XO.get I1.hok hH
 obtain ⟨nm, q', N, bs, bm, hdct, sn, sub, ab, col, dd, k0, k1, k2, k3, k5, mN, hC, T, _, _, _⟩ := M.at I1.kIn
 obtain ⟨hh, g, d, tk, os⟩ := s1
 refine ZP PySem.F.excBase_ValueError T hC g1 g2 g4 g5 (by rw [<- rr.length]; exact hl) ?_
 have e1 := Heap.get?_push_of_some (h := hh) (yq ur) g1
 have up := Heap.get?_update_self (Obj.mapFields (·.setIfInBounds 0 (.ref hh.objs.size))) e1 (Obj.isFreed_of_fields (Obj.data_mapFields g4 _))
 have sz : 0 < ws.size := (Array.getElem?_eq_some_iff.mp g5).1
 have I2 := I1.write (x := e) (e := e) (o := XO e C dx) (h' := (hh.push (yq ur)).update e (Obj.mapFields (·.setIfInBounds 0 (.ref hh.objs.size)))) (t' := tk) (by rw [hH]; exact True.intro) (.inl rfl)
  (fun b u nb q => (Heap.get?_update_other _ _ (Ne.symm nb)).trans (Heap.get?_push_of_some _ q)) ⟨_, up⟩
  (XO.ok ⟨_, _, hh.objs.size, up, (Obj.cls_mapFields _ _).trans g2, (yX _ _).trans g3, Obj.data_mapFields g4 _, by simp [sz], by rw [Array.getElem?_setIfInBounds_ne (by decide)]; exact g6.1, by rw [Array.getElem?_setIfInBounds_ne (by decide)]; exact g6.2⟩)
 rw [qz hH] at I2
 exact ⟨.non, H1, I2, rfl, q⟩
def QF (K : PySem.W.Frag) (C : Addr) (ta tv : TE) (m : Str) : TS := fun D σ H => tv σ H fun y H1 => ta σ H1 fun x H2 => ∃ e, x = .ref e /\ H2 e = some (XO e C none) /\ PySem.W.takerIn K C m = some none /\ ∀ d, H2 d = none -> d ≠ e -> D.nx σ (upd (upd H2 d (XD d [(m, y)])) e (XO e C (some d)))
theorem Vu (M : XCl X.K C f) (ha : PE X o ta) (hv : PE X value tv) (hs : swapsWith value (some (.Attribute o m pos')) pos.line X.env = pure false := by rfl) : PS X (.Assign [.Attribute o m pos'] value pos) (QF X.K C ta tv m) := by
 intro pins s σ H D I h
 refine plainObj_wpAny_Assign_Attribute (thn (hv pins s σ H _ I h) fun u s1 ⟨y, H1, I1, ry, q⟩ => thn (ha pins s1 σ H1 _ I1 q) fun ov s2 ⟨x, H2, I2, rx, e, ex, hH, hk, q2⟩ => ?_) hs
 subst ex
 obtain rfl : ov = Value.ref e := rx
 obtain ⟨oe, ws, t0, g1, g2, g3, g4, g5, g6⟩ := XO.get I2.hok hH
 refine qw I2.kIn g1 g2 g3 g4 M.sa M.over hk M.hd fun h' hn he kp => ?_
 have nd : s2.heap.objs.size ≠ e := Nat.ne_of_gt (Heap.lt_size g1)
 have fd : H2 s2.heap.objs.size = none := I2.hok.fresh (Nat.le_refl _)
 have ns : ∀ (b : Addr) (u : HO), H2 b = some u -> (∀ ψ, u ≠ .ext ψ) -> upd (upd H2 s2.heap.objs.size (XD s2.heap.objs.size [(m, y)])) e (XO e C (some s2.heap.objs.size)) b = some u := fun b u q nx => by
  have n1 : b ≠ e := fun z => by
   rw [z, hH] at q
   cases q
   exact nx _ rfl
  rw [zm n1, zm (zn q fd)]
  exact q
 have ne' : ∀ b, H2 b = none -> b ≠ e := fun b q z => by
  rw [z, hH] at q
  cases q
 refine ⟨σ, _, I2.un (H' := upd (upd H2 s2.heap.objs.size (XD s2.heap.objs.size [(m, y)])) e (XO e C (some s2.heap.objs.size))) (h' := h') (t' := s2.toks + 2) ⟨fun b o q n _ _ => kp b o (ne' b n) q, fun b o q n _ _ => ⟨o.slots, kp b o (ne' b n) q⟩, fun b o q n _ => ?_, fun b o q _ => ?_, fun b xs q => ns b _ q (by intro ψ z; cases z), fun b o u q => ns b _ q (by intro ψ z; cases z), fun b ps q => ⟨#[], by rw [ns b _ q (by intro ψ z; cases z)]; simp⟩⟩ fun b u q => ?_, q2 _ fd nd⟩
 ·rw [zm (ne' b n), zm (Nat.ne_of_lt (Heap.lt_size q))]
  exact n
 ·by_cases z : b = e
  ·rw [z]
   exact ⟨_, he⟩
  ·exact ⟨o, kp b o z q⟩
 ·by_cases z : b = e
  ·subst z
   rw [zg] at q
   cases q
   exact XO.ok ⟨_, ws, t0, he, g2, rfl, g4, g5, g6⟩
  ·rw [zm z] at q
   by_cases z2 : b = s2.heap.objs.size
   ·subst z2
    rw [zg] at q
    cases q
    refine XD.ok ⟨_, hn, fun f => ?_, fun f hf => ?_, show 1 <= 1000 by decide⟩
    ·rw [List.lookup_cons]
     by_cases w : f = m
     ·rw [if_pos w, w, beq_self_eq_true]
      exact ry
     ·rw [if_neg w, beq_eq_false_iff_ne.mpr w]
      exact True.intro
    ·by_cases w : f = m
     ·rw [w]
      exact List.mem_cons_self
     ·exact absurd (if_neg w) hf
   ·rw [zm z2] at q
    refine (I2.hok b u q).stay (fun c v hc r => kp c v (fun w => ?_) r) (fun c r => ns c _ r (by intro ψ z; cases z)) fun c xs r => ns c _ r (by intro ψ z; cases z)
    rcases hc with hc | hc
    ·exact z (hc.symm.trans w)
    ·rw [w, hH] at hc
     cases hc
end
end L2
namespace L2
open PySem PySem.Spec PyProof.Rows
section
variable {X : Cx} {pins : List (Addr × Obj)} {σ : St} {H : Hp} {s : Shared} {h' : Heap} {xs : List Addr}
theorem Inv.moved (I : Inv X pins σ H s) (m : Mv (frs X.stack) xs s.heap h')
  (hx : ∀ b ∈ xs, H b = none /\ (b ∈ X.ex \/ X.s₀.heap.objs.size <= b) /\ b ≠ X.env.locals /\ (∀ x c, X.env.cells.lookup x = some c -> c ≠ b) /\ ∀ p ∈ X.pn ++ pins, p.1 ≠ b) : Inv X pins σ H { s with heap := h' } :=
 I.call (g' := s.gens) (d' := s.drawn) (t' := s.toks) (ch := xs) ⟨fun b o q _ f x => m.keep b o q f x, fun b o q _ _ x => m.slot b o q x, fun _ _ _ n _ => n, fun b o q _ => m.there b o q, fun _ _ q => q, fun _ _ _ q => q, fun _ ps q => ⟨#[], by rw [q]; simp⟩⟩
  (I.hok.moved m I.stkFree fun b hb => (hx b hb).1) I.bare fun b hb => (hx b hb).2
theorem Inv.apart (I : Inv X pins σ H s) {b : Addr} {o : Obj} {vs : Array Value} (q : s.heap.get? b = some o) (d : o.data = .fields vs) : b ≠ X.env.locals /\ ∀ x c, X.env.cells.lookup x = some c -> c ≠ b := by
 refine ⟨fun z => ?_, fun x c e z => ?_⟩
 ·obtain ⟨m, ⟨o', es, ep, ho, hd, _⟩, _⟩ := I.loc
  rw [z, ho] at q
  cases q
  rw [hd] at d
  cases d
 ·obtain ⟨v, o', ho, hd⟩ := I.cell x c e
  rw [z, q] at ho
  cases ho
  rw [d] at hd
  cases hd
abbrev Cx.inEx (X : Cx) (u : Value) (p : List (Addr × Obj)) : Cx := { X with A := X.A.mark (some u), calm := false, pn := p ++ X.pn, xe := fun _ _ => False }
theorem Inv.inEx (I : Inv X pins σ H s) (u : Value) {p : List (Addr × Obj)} (hp : ∀ q ∈ p, s.heap.get? q.1 = some q.2 /\ H q.1 = none /\ q.1 ≠ X.env.locals /\ q.1 ∉ X.fs /\ ∀ v, q.2.data ≠ .cell v) : Inv (X.inEx u p) pins σ H s :=
 ⟨⟨I.ok.mod, I.ok.kind, I.ok.glob, I.ok.blt, I.ok.above, I.ok.inj, I.ok.has, I.ok.cab, (fun z => nomatch z), I.ok.frames, I.ok.stk, I.ok.exf, I.ok.bs, I.ok.bsz, I.ok.noex, I.ok.exfs, I.ok.funs, I.ok.frf⟩, I.os, I.bare, I.base, I.loc, I.cell, I.free, I.freeC, fun q hq => by
  have hq' : q ∈ (p ++ X.pn) ++ pins := hq
  rw [List.append_assoc] at hq'
  rcases List.mem_append.mp hq' with z | z
  ·exact hp q z
  ·exact I.pin q z, I.hok, I.len⟩
theorem Inv.outEx {u : Value} {p : List (Addr × Obj)} (ok : X.Ok) (I : Inv (X.inEx u p) pins σ H s) : Inv X pins σ H s :=
 ⟨ok, I.os, I.bare, I.base, I.loc, I.cell, I.free, I.freeC, fun q hq => I.pin q (by
  show q ∈ (p ++ X.pn) ++ pins
  rw [List.append_assoc]
  exact List.mem_append_right _ hq), I.hok, I.len⟩
theorem xc {A : Around} {E : Value -> Shared -> Prop} {i : Nat} {n : Str} {pos : Pos} {Q : Unit -> Shared -> Prop} (I : Inv X pins σ H s) (hN : X.N.Nodup) (hi : X.N[i]? = some n) (hl : X.env.scope.names.lookup n = some .local)
  (h : ∀ s', Inv X pins (σ.set i none) H s' -> Q () s') : wpAny (model X.prog X.w) A (do bindName X.env n .none; unbindBehindTheSuite X.env n pos) Q E s := by
 obtain ⟨m, hn, hlk⟩ := id I.loc
 have iσ : i < σ.length := by rw [I.len]; exact (List.getElem?_eq_some_iff.mp hi).1
 refine wpAny_nameGoes_keeps (env := X.env) hl hn (by rw [I.ok.kind]; rfl) fun h' v hn' hs => h _ ?_
 have nl : ∀ (b : Addr) (o : Obj), X.s₀.heap.get? b = some o -> b ≠ X.env.locals := fun b o q => Nat.ne_of_lt (Nat.lt_of_lt_of_le (Heap.lt_size q) I.ok.above)
 refine ⟨I.ok, I.os, I.bare, ⟨fun b o q n hb hx => (hs.2 b (nl b o q)).trans (I.base.keep b o q n hb hx), fun b o q n hb hx => ?_, I.base.free, fun b o q hx => ?_, I.base.tups, I.base.frzs, I.base.tbls⟩, ⟨_, hn', fun j y v' e1 e2 e3 => ?_⟩, fun y c q => ?_, I.free, I.freeC, fun p hp => ?_, fun b u q => ?_, by rw [List.length_set]; exact I.len⟩
 ·obtain ⟨sl, q1⟩ := I.base.slot b o q n hb hx
  exact ⟨sl, (hs.2 b (nl b o q)).trans q1⟩
 ·obtain ⟨o1, q1⟩ := I.base.there b o q hx
  exact ⟨o1, (hs.2 b (nl b o q)).trans q1⟩
 ·have hj : j ≠ i := fun z => by
   rw [z, List.getElem?_set_self iσ] at e2
   cases e2
  rw [List.getElem?_set_ne (Ne.symm hj)] at e2
  obtain ⟨u, r, q⟩ := hlk j y v' e1 e2 e3
  refine ⟨u, r, ?_⟩
  rcases q with ⟨k, e⟩ | ⟨k, c, e, z⟩
  ·have ny : y ≠ n := fun z => hj (wc hN e1 (z ▸ hi))
   exact .inl ⟨k, by simp [ny, e]⟩
  ·exact .inr ⟨k, c, e, z.sameBut hs (I.cne y c e)⟩
 ·obtain ⟨w, z⟩ := I.cell y c q
  exact ⟨w, z.sameBut hs (I.cne y c q)⟩
 ·obtain ⟨a, b, c, d⟩ := I.pin p hp
  exact ⟨(hs.2 p.1 c).trans a, b, c, d⟩
 ·refine (I.hok b u q).stay (fun c v hc r => (hs.2 c fun z => ?_).trans r) (fun _ r => r) fun _ _ r => r
  rcases hc with hc | hc
  ·rw [<- hc, z, I.free] at q
   cases q
  ·rw [z, I.free] at hc
   cases hc
end
abbrev Ends.behind (D : Ends) (i : Nat) : Ends := { nx := fun σ H => D.nx (σ.set i none) H, rt := D.rt, bk := fun σ H => D.bk (σ.set i none) H, ct := fun σ H => D.ct (σ.set i none) H }
section
variable {X : Cx} {Ch : Addr} {x n : Str} {i : Nat} {np hpos tpos : Pos} {b0 : Stmt} {suite : List Stmt} {th : Addr -> Obj -> TS}
variable {k : Nat} {f : Addr} {fd : FuncData} {ps : List Str} {sp : Sp} {y : Str} {p cpos epos : Pos} {a : Expr} {as : List Expr} {t : TA}
end
end L2
namespace L2
open PySem PySem.Spec PyProof.Rows
section
variable {X : Cx} {pins : List (Addr × Obj)} {σ : St} {H : Hp} {s : Shared} {h' : Heap}
theorem Inv.turns {t' : Nat} {ch : List Addr} (I : Inv X pins σ H s) (k : ∀ b o, b ∉ ch -> s.heap.get? b = some o -> h'.get? b = some o) (hf : ∀ b ∈ ch, FpOk X pins H b) : Inv X pins σ H { s with heap := h', toks := t' } := by
 have nit : ∀ b u, H b = some u -> b ∉ ch := fun b u e z => by rw [(hf b z).1] at e; cases e
 refine I.call (g' := s.gens) (d' := s.drawn) (t' := t') (ch := ch) ⟨fun b o q _ _ x => k b o x q, fun b o q _ _ x => ⟨o.slots, k b o x q⟩, fun _ _ _ n _ => n, fun b o q x => ⟨o, k b o x q⟩, fun _ _ q => q, fun _ _ _ q => q, fun _ ps q => ⟨#[], by rw [q]; simp⟩⟩
  (fun b u e => (I.hok b u e).stay (fun c v hc q => k c v ?_ q) (fun _ q => q) fun _ _ q => q) I.bare fun b hb => ?_
 ·rcases hc with z | z
  ·rw [z]; exact nit b u e
  ·exact nit c _ z
 ·obtain ⟨f0, f1, f2, f3, f4, f5⟩ := hf b hb
  exact ⟨f3, f1, f4, f5⟩
theorem Inv.turnsLaid {t' : Nat} {ch : List Addr} {a : Addr} {o : HO} (I : Inv X pins σ H s) (k : ∀ b o, b ∉ ch -> s.heap.get? b = some o -> h'.get? b = some o) (hf : ∀ b ∈ ch, FpOk X pins H b) (hp : s.heap.objs.size <= a) (new : ObjOk X.prog X.w (upd H a o) h' a o) :
  Inv X pins σ (upd H a o) { s with heap := h', toks := t' } := by
 have hn := I.hok.fresh hp
 have nit : ∀ b u, H b = some u -> b ∉ ch := fun b u e z => by rw [(hf b z).1] at e; cases e
 refine I.call (g' := s.gens) (d' := s.drawn) (t' := t') (ch := ch) ⟨fun b o q _ _ x => k b o x q, fun b o q _ _ x => ⟨o.slots, k b o x q⟩, fun b u q n _ => by rw [zm (Nat.ne_of_lt (Nat.lt_of_lt_of_le (Heap.lt_size q) hp))]; exact n, fun b o q x => ⟨o, k b o x q⟩,
   fun b xs q => by rw [zm (zn q hn)]; exact q, fun b u xs q => by rw [zm (zn q hn)]; exact q, fun b ps q => ⟨#[], by rw [zm (zn q hn), q]; simp⟩⟩
  (fun b u e => ?_) I.bare fun b hb => ?_
 ·by_cases hb : b = a
  ·subst hb
   rw [zg] at e
   cases e
   exact new
  ·rw [zm hb] at e
   refine (I.hok b u e).stay (fun c v hc q => k c v ?_ q) (fun c q => by rw [zm (zn q hn)]; exact q) fun c xs q => by rw [zm (zn q hn)]; exact q
   rcases hc with z | z
   ·rw [z]; exact nit b u e
   ·exact nit c _ z
 ·obtain ⟨f0, f1, f2, f3, f4, f5⟩ := hf b hb
  exact ⟨f3, f1, f4, f5⟩
end
section
variable {X : Cx} {elts : List Expr} {k : Nat} {tpos : Pos}
end
end L2
namespace L2
open PySem PySem.Spec PyProof.Rows
def Itv (K : PySem.W.Frag) (a : Addr) (n : Nat) : It :=
 ⟨fun i H => i < n /\ ∃ xs x, SqL K H a xs /\ xs[n - 1 - i]? = some x, fun i H x H' => H' = H /\ ∀ xs, SqL K H a xs -> xs[n - 1 - i]? = some x, fun i _ => n <= i⟩
theorem Xy {P : Program} {w : World} {K : PySem.W.Frag} {tg : Expr} (a it : Addr) (n : Nat) : Turn P w K tg (Itv K a n) [it] it (fun i h => i <= n /\ h.IsRevIter it a ((n : Int) - 1 - (i : Nat))) where
 mem := by simp
 obj := fun i h st b hb => by
  have e : b = it := by simpa using hb
  subst e
  obtain ⟨_, o, e, c, d⟩ := st
  exact ⟨o, e, fun v z => by rw [d] at z; cases z⟩
 keep := fun i h h' st k => ⟨st.1, st.2.at fun o e => k it (by simp) o e⟩
 item := by
  intro X hP hw hK hc i pins s σ H E I hf st hg
  subst hP hw hK
  obtain ⟨hi, xs, x, hq, hx⟩ := hg
  obtain ⟨its, rv, p, hz⟩ := I.list hq
  obtain ⟨u, hu, ru⟩ := rv.get hx
  obtain ⟨f0, f1, f2, f3, f4, f5⟩ := hf it (by simp)
  obtain ⟨_, st2⟩ := st
  have e1 : (n : Int) - 1 - (i : Nat) = ((n - 1 - i : Nat) : Int) := by omega
  rw [e1] at st2
  refine wpAny_pyNext_rev_item st2 p.isList (x := u) (by simpa using hu) fun h' st' sb => ?_
  have I1 : Inv X pins σ H { s with heap := h' } := I.turned (t' := s.toks) (fun b o hb e => (sb.2 b hb).trans e) f0 f1 f3 f4 f5
  obtain ⟨o, e, c, d⟩ := id st'
  refine ⟨u, rfl, v0 (s := { s with heap := h' }) e c d (by decide) ⟨x, H, I1, ru, ⟨rfl, fun ys hy => by rw [I.list_inj hy hq]; exact hx⟩, ⟨hi, ?_⟩, fun b hb => (hf b hb).1⟩⟩
  have e2 : (n : Int) - 1 - ((i + 1 : Nat) : Int) = ((n - 1 - i : Nat) : Int) - 1 := by omega
  rw [e2]
  exact st'
 done := by
  intro X hP hw hK hc i pins s σ H E I hf st hg
  subst hP hw hK
  obtain ⟨f0, f1, f2, f3, f4, f5⟩ := hf it (by simp)
  obtain ⟨h1, st2⟩ := st
  have h2 : n <= i := hg
  have e1 : (n : Int) - 1 - (i : Nat) = -1 := by omega
  rw [e1] at st2
  exact wpAny_pyNext_rev_end (I.ok.hd hc) st2 fun h' eb => ⟨rfl, I.turned (t' := s.toks) (fun b o hb e => eb b o hb e) f0 f1 f3 f4 f5⟩
 self := fun _ _ _ _ _ st h => wpAny_pyIter_revIter st.2 h
section
variable {X : Cx} {tg : Expr}
def iRev (K : PySem.W.Frag) (ta : TA) : TI := fun σ H R => ta σ H fun vs H1 => ∃ a xs, vs = [.ref a] /\ SqL K H1 a xs /\ R (Itv K a xs.length) H1
theorem qA {a : Expr} {ta : TA} {p pos : Pos} (hg : Gl X "reversed") (hm : X.mg "reversed" = none) (ha : PA X [a] ta) (hs : starEach [a] X.env = [(false, eval a X.env)] := by rfl) : PI X tg (.Call (.Name "reversed" p) [a] [] pos) (iRev X.K ta) := by
 intro pins s σ H R I h
 refine Call_ (yF I hg hm boot_reversed (PyProof.Rows.callWith_type1 (thn (ha pos pins s σ H _ I h) fun us s1 ⟨vs, H1, I1, r1, q1⟩ => ?_) hs rfl))
 obtain ⟨l, xs, e, hq, q⟩ := q1
 subst e
 obtain ⟨u, rfl, rx⟩ := we r1
 cases rx
 obtain ⟨its, rv, pl, hz⟩ := I1.list hq
 have hl := rv.length
 refine call_reversed_list pl.isList ?_
 have hr : (s1.heap.push (revObj l ((its.toArray.size : Int) - 1))).IsRevIter s1.heap.objs.size l ((its.toArray.size : Int) - 1) := ⟨_, Heap.get?_push_size _ rfl, rfl, rfl⟩
 refine wpAny_pyIter_revIter (s := { s1 with heap := s1.heap.push (revObj l ((its.toArray.size : Int) - 1)) }) hr ?_
 refine ⟨s1.heap.objs.size, [s1.heap.objs.size], _, _, H1, rfl, I1.kept (t' := s1.toks) fun b o e => Heap.get?_push_of_some _ e, Xy l _ xs.length, ⟨Nat.zero_le _, ?_⟩, fun b hb => ?_, q⟩
 ·have e : (xs.length : Int) - 1 - ((0 : Nat) : Int) = (its.toArray.size : Int) - 1 := by simp [hl]
  rw [e]
  exact hr
 have e : b = s1.heap.objs.size := by simpa using hb
 subst e
 exact I1.fpOk (Nat.le_refl _) (I1.hok.fresh (Nat.le_refl _))
theorem qB {a : Expr} {t : TA} {p pos : Pos} (hg : Gl X "reversed") (hm : X.mg "reversed" = none) (ha : jA X [a] t) (h : zz a = false := by rfl) : jI X tg (.Call (.Name "reversed" p) [a] [] pos) (iRev X.K t) := ⟨qA hg hm ha.out (zE h)⟩
end
theorem Vv {K : PySem.W.Frag} {a : Addr} {xs : List V} {g : TG} {tb : TS} {D : Ends} {σ : St} {H : Hp} (Pv : Nat -> St -> Hp -> Prop) (h0 : Pv 0 σ H) (hl : ∀ i σ H, i <= xs.length -> Pv i σ H -> SqL K H a xs)
  (hs : ∀ i x σ H, xs.reverse[i]? = some x -> Pv i σ H -> g x σ H fun σ2 H2 => tb { D with nx := Pv (i + 1), ct := Pv (i + 1), bk := D.nx } σ2 H2) (hd : ∀ σ H, Pv xs.length σ H -> D.nx σ H) :
  ∃ W : Nat -> Nat -> St -> Hp -> Prop, (∃ m, W 0 m σ H) /\ ∀ i m σ H, W i m σ H ->
   ((Itv K a xs.length).stop i H /\ D.nx σ H) \/ ((Itv K a xs.length).go i H /\ ∃ N : St -> Hp -> Prop, (∀ σ' H', N σ' H' -> ∃ m', m' < m /\ W (i + 1) m' σ' H') /\ ∀ x H', (Itv K a xs.length).yld i H x H' -> g x σ H' fun σ2 H2 => tb { D with nx := N, ct := N, bk := D.nx } σ2 H2) := by
 refine ⟨fun i m σ H => m = xs.length - i /\ i <= xs.length /\ Pv i σ H, ⟨xs.length, by simp, Nat.zero_le _, h0⟩, ?_⟩
 rintro i m σ H ⟨rfl, hi, p⟩
 have q := hl i σ H hi p
 by_cases hlt : i < xs.length
 ·refine .inr ⟨⟨hlt, xs, xs[xs.length - 1 - i], q, by rw [List.getElem?_eq_getElem]⟩, Pv (i + 1), fun σ' H' p' => ⟨xs.length - (i + 1), by omega, rfl, hlt, p'⟩, fun x H' y => ?_⟩
  obtain ⟨e, y⟩ := y
  subst e
  refine hs i x σ _ ?_ p
  rw [List.getElem?_reverse hlt]
  exact y xs q
 ·have e : i = xs.length := by omega
  subst e
  exact .inl ⟨Nat.le_refl _, hd σ H p⟩
section
variable {g : TG} {tt : TT} {te : TE} {Q : VK} {σ : St} {H : Hp}
theorem Zb {K : PySem.W.Frag} {a : Addr} {xs : List V} (Pv : Nat -> St -> List V -> Hp -> Prop) (h0 : Pv 0 σ [] H) (hl : ∀ i τ ys H, i <= xs.length -> Pv i τ ys H -> SqT K H a xs)
  (hs : ∀ i x τ ys H, xs[i]? = some x -> Pv i τ ys H -> g x τ H fun τ2 H2 => tt τ2 H2 fun b H3 => if b = true then te τ2 H3 fun y H4 => ys.length < sizeLine /\ Pv (i + 1) τ2 (ys ++ [y]) H4 else Pv (i + 1) τ2 ys H3)
  (hd : ∀ τ ys H, Pv xs.length τ ys H -> ∀ p, H p = none -> Q (.ref p) (upd H p (.lst ys))) : ∃ W, (∃ m, W 0 m σ [] H) /\ lcBy (Itt K a) g tt te Q W := by
 refine ⟨fun i m τ ys H => m = xs.length - i /\ i <= xs.length /\ Pv i τ ys H, ⟨xs.length, by simp, Nat.zero_le _, h0⟩, ?_⟩
 rintro i m τ ys H ⟨rfl, hi, p⟩
 have q := hl i τ ys H hi p
 by_cases hlt : i < xs.length
 ·refine .inr ⟨⟨xs, xs[i], q, by simp [hlt]⟩, Pv (i + 1), fun τ' ys' H' p' => ⟨xs.length - (i + 1), by omega, rfl, hlt, p'⟩, fun x H' y => ?_⟩
  obtain ⟨e, y⟩ := y
  subst e
  exact hs i x τ ys _ (y xs q) p
 ·have e : i = xs.length := by omega
  subst e
  exact .inl ⟨⟨xs, q, Nat.le_refl _⟩, hd τ ys H p⟩
end
theorem old {H : Hp} {p q : Addr} {o u : HO} (hp : H p = none) (h : H q = some u) : upd H p o q = some u := by rw [zm (zn h hp)]; exact h
theorem Same.new {H H1 : Hp} {p : Addr} {o : HO} (s : Same H H1) (hp : H1 p = none) : Same H (upd H1 p o) := fun b u q => old hp (s b u q)
theorem Same.put {H H1 : Hp} {p : Addr} {o : HO} (s : Same H H1) (hp : H p = none) : Same H (upd H1 p o) := fun b u q => by rw [zm (zn q hp)]; exact s b u q
end L2
namespace L2
open PySem PySem.Spec PyProof.Rows
theorem Xz {x : V} (h : wV x = true) : eqV x x = true := by
 cases x <;> first
  | rfl
  | (show ((_ : Bool) == _) = true; simp)
  | (show ((_ : Int) == _) = true; simp)
  | (show ((_ : Str) == _) = true; simp)
  | (cases h)
section
variable {X : Cx}
end
section
variable {X : Cx}
end
end L2
namespace L2
open PySem PySem.Spec PyProof.Rows Builtin Builtin.Str
section
variable {X : Cx}
theorem xz : ∀ {zs : List Str} {us : List Value}, Vals (zs.map V.str) us -> ∃ l : List (Str × Tok), us = strValues l /\ l.map (·.1) = zs
 | [], _, .nil => ⟨[], rfl, rfl⟩
 | z :: zs, _, .cons ⟨t, e⟩ r => by
  obtain ⟨l, rfl, h⟩ := xz r
  exact ⟨(z, t) :: l, by rw [e]; rfl, by rw [List.map_cons, h]⟩
theorem jk (sep : Str) : ∀ (zs : List Str) (a : Nat), zs.foldl (· + ·.length + sep.length) a = a + ((zs.map (·.length)).sum + zs.length * sep.length)
 | [], a => by simp
 | z :: zs, a => by
  rw [List.foldl_cons, jk sep zs]
  simp only [List.map_cons, List.sum_cons, List.length_cons, Nat.add_mul, Nat.one_mul]
  omega
def wide (sep : Str) (zs : List Str) : Nat := (zs.map (·.length)).sum + zs.length * sep.length
def Jw (K : PySem.W.Frag) : V -> List V -> Hp -> VK -> Prop := fun x vs H Q => ∃ sep p zs, x = .str sep /\ vs = [.ref p] /\ SqL K H p (zs.map V.str) /\ wide sep zs <= sizeLine /\ Q (.str (Str.join sep zs)) H
theorem Vw : MtR X "str.join" (Jw X.K) := by
 intro pins s σ H x vs v us Q I rx rv h
 obtain ⟨sep, p, zs, rfl, rfl, hq, hw, q⟩ := h
 obtain ⟨t, rfl⟩ := rx
 obtain ⟨u, rfl, ru⟩ := rv.one
 cases ru
 obtain ⟨its, r, pl, hz⟩ := I.list hq
 obtain ⟨l, rfl, hl⟩ := xz r
 have big : tooLong ((l.map (·.1)).toArray.foldl (· + ·.length + sep.length) 0) = false := by
  rw [hl, List.foldl_toArray, jk]
  unfold tooLong
  rw [decide_eq_false_iff_not]
  unfold wide at hw
  omega
 have hg := size_glued sep zs
 have hle : (glued sep zs).length <= sizeLine := by
  rw [hg]
  unfold wide at hw
  have : (zs.length - 1) * sep.length <= zs.length * sep.length := Nat.mul_le_mul_right _ (Nat.sub_le _ _)
  omega
 refine call_meets F.slot_str_join (typeIs_str _ _ _) F.entry_str_join (F.args_str_join_2 _ _) (meets_str_join_list sep t p l big) ⟨pl.isList, ?_⟩
 rw [<- StrLaws.glued_eq_join] at q
 match l, hl with
 | [], hl => exact ⟨by rw [hl]; exact hle, .str _, H, I.tok _, ⟨_, rfl⟩, by rw [hl]; exact q⟩
 | [(z, tz)], hl =>
  have e : glued sep zs = z := by
   rw [<- hl]
   rfl
  rw [e] at q
  exact ⟨.str z, H, I, ⟨tz, rfl⟩, q⟩
 | a :: b :: r, hl => exact ⟨by rw [hl]; exact hle, .str _, H, I.tok _, ⟨_, rfl⟩, by rw [hl]; exact q⟩
theorem Vx : jMt X "str.join" (Jw X.K) := ⟨Vw⟩
def rEqE (K : PySem.W.Frag) (neg : Bool) : R2 := fun x y H Q => ∃ p p' xs, x = .ref p /\ y = .ref p' /\ SqL K H p xs /\ SqL K H p' [] /\ Q (.bl (if neg then !xs.isEmpty else xs.isEmpty)) H
theorem qC (hu : X.A.units < cLine) : OpR X (compareOp .Eq) (rEqE X.K false) := by
 intro pins s σ H x y v u Q I rx ry h
 obtain ⟨p, p', xs, rfl, rfl, h1, h2, q⟩ := h
 cases rx
 cases ry
 obtain ⟨its, r, pl, _⟩ := I.list h1
 obtain ⟨its', r', pl', _⟩ := I.list h2
 cases r'
 cases r with
 | nil => exact SeqAt.eq_listAt (e := fun _ => true) pl.isList pl'.isList rfl hu (fun j h => absurd h (Nat.not_lt_zero _)) ⟨.bl true, H, I, rfl, q⟩
 | cons a b => exact SeqAt.eq_list_lengthsAt pl.isList pl'.isList rfl hu ⟨.bl false, H, I, rfl, q⟩
theorem qD (hu : X.A.units < cLine) : OpR X (compareOp .NotEq) (rEqE X.K true) := by
 intro pins s σ H x y v u Q I rx ry h
 obtain ⟨p, p', xs, rfl, rfl, h1, h2, q⟩ := h
 cases rx
 cases ry
 obtain ⟨its, r, pl, _⟩ := I.list h1
 obtain ⟨its', r', pl', _⟩ := I.list h2
 cases r'
 cases r with
 | nil => exact SeqAt.RcNeAt.lists (e := fun _ => true) pl.isList pl'.isList rfl hu (fun j h => absurd h (Nat.not_lt_zero _)) _ _ _ _ ⟨.bl false, H, I, rfl, q⟩
 | cons a b => exact SeqAt.RcNeAt.lists_lengths pl.isList pl'.isList rfl hu _ _ _ _ ⟨.bl true, H, I, rfl, q⟩
theorem Zc {k : Nat} (hr : Room k X.A) : jOp X (compareOp .Eq) (rEqE X.K false) := ⟨qC hr.units0⟩
theorem qF {k : Nat} (hr : Room k X.A) : jOp X (compareOp .NotEq) (rEqE X.K true) := ⟨qD hr.units0⟩
end
end L2
namespace L2
open PySem PySem.Spec PyProof.Rows
def Sq (k : Bool) (h : Heap) (l : Addr) (xs : Array Value) : Prop := match k with
 | true => h.IsList l xs
 | false => h.IsTuple l xs
def SqI (k : Bool) (h : Heap) (j l : Addr) (n : Nat) : Prop := match k with
 | true => h.IsListIter j l n
 | false => h.IsTupleIter j l n
def SqN (k : Bool) : String := if k then "list_iterator" else "tuple_iterator"
theorem Sq.at {k : Bool} {h h' : Heap} {l : Addr} {xs : Array Value} (x : Sq k h l xs) (e : ∀ o, h.get? l = some o -> h'.get? l = some o) : Sq k h' l xs := by
 cases k <;> obtain ⟨o, ho, r⟩ := x <;> exact ⟨o, e _ ho, r⟩
theorem SqI.at {k : Bool} {h h' : Heap} {j l : Addr} {n : Nat} (x : SqI k h j l n) (e : ∀ o, h.get? j = some o -> h'.get? j = some o) : SqI k h' j l n := by
 cases k <;> obtain ⟨o, ho, r⟩ := x <;> exact ⟨o, e _ ho, r⟩
theorem SqI.ex {k : Bool} {h : Heap} {j l : Addr} {n : Nat} (x : SqI k h j l n) : ∃ o, h.get? j = some o /\ o.cls = .type (SqN k) /\ o.data = .fields #[.ref l, .int n 0] := by
 cases k <;> exact x
theorem SqI.of {k : Bool} {h : Heap} {j l : Addr} {n : Nat} (x : ∃ o, h.get? j = some o /\ o.cls = .type (SqN k) /\ o.data = .fields #[.ref l, .int n 0]) : SqI k h j l n := by
 cases k <;> exact x
section
variable {P : Program} {w : World} {A : Around} {E : Value -> Shared -> Prop} {s : Shared}
theorem XA {j l : Addr} {n : Nat} {xs : Array Value} {x : Value} {Q : Value -> Shared -> Prop} (hj : s.heap.IsTupleIter j l n) (hl : s.heap.IsTuple l xs) (hx : xs[n]? = some x)
  (q : ∀ h', h'.IsTupleIter j l (n + 1) -> Heap.SameBut j s.heap h' -> Q x { s with heap := h' }) : wpAny (model P w) A (Builtin.SmallTypes.nextOf (.ref j)) Q E s := by
 have ⟨oj, hoj, cj, dj⟩ := hj
 have ⟨ol, hol, _, m, dl⟩ := hl
 unfold Builtin.SmallTypes.nextOf
 refine wpAny_bind (wpAny_callSpecial?_slot hj.typeIs F.slot_tuple_iterator_next (wpAny_call_entry F.slot_tuple_iterator_next hj.typeIs F.entry_tuple_iterator_next ?_ (F.args_tuple_iterator_next_1 (.ref j))))
 refine wpAny_bind (m := field (.ref j) 0) (wpAny_field hoj dj (x := .ref l) rfl ?_)
 have nn : ¬ ((Value.ref l == Value.none) = true) := Bool.false_ne_true
 show wpAny _ _ (ite ((Value.ref l == Value.none) = true) _ _) _ _ _
 rw [if_neg nn]
 refine wpAny_bind (m := field (.ref j) 1) (wpAny_field hoj dj (x := .int n 0) rfl ?_)
 refine wpAny_bind (m := seqItems? (.ref l)) (wpAny_seqItems hol dl ?_)
 simp only [Int.toNat_natCast, hx]
 refine wpAny_bind (wpAny_setField hoj dj (by simp) (wpAny_pure ⟨x, rfl, wpAny_pure (q _ ⟨_, Heap.get?_update_self _ hoj (Obj.isFreed_of_fields (Obj.data_mapFields dj _)), (Obj.cls_mapFields ..).trans cj, ?_⟩ (Heap.SameBut.update ..))⟩))
 rw [Obj.data_mapFields dj]
 simp [rawInt]
theorem Vy {j l : Addr} {n : Nat} {xs : Array Value} {Q : Value -> Shared -> Prop} (hA : A.handled = none) (hj : s.heap.IsTupleIter j l n) (hl : s.heap.IsTuple l xs) (hx : xs[n]? = none)
  (q : ∀ h' e, Heap.ExtBut j s.heap h' -> (∃ o, h'.get? e = some o /\ o.cls = .type "StopIteration") -> E (.ref e) { s with heap := h' }) : wpAny (model P w) A (Builtin.SmallTypes.nextOf (.ref j)) Q E s := by
 have ⟨oj, hoj, cj, dj⟩ := hj
 have ⟨ol, hol, _, m, dl⟩ := hl
 unfold Builtin.SmallTypes.nextOf
 refine wpAny_bind (wpAny_callSpecial?_slot hj.typeIs F.slot_tuple_iterator_next (wpAny_call_entry F.slot_tuple_iterator_next hj.typeIs F.entry_tuple_iterator_next ?_ (F.args_tuple_iterator_next_1 (.ref j))))
 refine wpAny_bind (m := field (.ref j) 0) (wpAny_field hoj dj (x := .ref l) rfl ?_)
 have nn : ¬ ((Value.ref l == Value.none) = true) := Bool.false_ne_true
 show wpAny _ _ (ite ((Value.ref l == Value.none) = true) _ _) _ _ _
 rw [if_neg nn]
 refine wpAny_bind (m := field (.ref j) 1) (wpAny_field hoj dj (x := .int n 0) rfl ?_)
 refine wpAny_bind (m := seqItems? (.ref l)) (wpAny_seqItems hol dl ?_)
 simp only [Int.toNat_natCast, hx]
 refine wpAny_bind (wpAny_rule (wpAny_bind (wpAny_setField hoj dj (by simp) ?_)))
 refine wpAny_bind (m := newExc (.type "StopIteration") []) ?_
 unfold newExc newTuple
 refine wpAny_bind (wpAny_newObj_type (wpAny_bind (m := firstArgMember _ _) (wpAny_of_eq (a := Value.none) (by first | rfl | (simp only [firstArgMember]; rfl)) (wpAny_newObj_type ?_ (by size_fits)))) (by size_fits))
 unfold raiseNew
 refine wpAny_bind (wpAny_handled ?_)
 rw [show A.in1.handled = none from hA]
 exact wpAny_bind (wpAny_pure (wpAny_throw (q _ _ (((Heap.SameBut.update ..).extBut.push _).push _) ⟨_, Heap.get?_push_size _ rfl, rfl⟩)))
theorem xf {k : Bool} {j l : Addr} {n : Nat} {xs : Array Value} {x : Value} {Q : Value -> Shared -> Prop} (hj : SqI k s.heap j l n) (hl : Sq k s.heap l xs) (hx : xs[n]? = some x)
  (q : ∀ h', SqI k h' j l (n + 1) -> Heap.SameBut j s.heap h' -> Q x { s with heap := h' }) : wpAny (model P w) A (Builtin.SmallTypes.nextOf (.ref j)) Q E s := by
 cases k with
 | true => exact wpAny_nextOf_list_item hj hl hx q
 | false => exact XA hj hl hx q
theorem vC {k : Bool} {j l : Addr} {n : Nat} {xs : Array Value} {Q : Value -> Shared -> Prop} (hA : A.handled = none) (hj : SqI k s.heap j l n) (hl : Sq k s.heap l xs) (hx : xs[n]? = none)
  (q : ∀ h' e, Heap.ExtBut j s.heap h' -> (∃ o, h'.get? e = some o /\ o.cls = .type "StopIteration") -> E (.ref e) { s with heap := h' }) : wpAny (model P w) A (Builtin.SmallTypes.nextOf (.ref j)) Q E s := by
 cases k with
 | true => exact wpAny_nextOf_list_end hA hj hl hx q
 | false => exact Vy hA hj hl hx q
theorem ZQ {k : Bool} {l : Addr} {xs : Array Value} {Q : Value -> Shared -> Prop} (hl : Sq k s.heap l xs) (q : Q (.ref s.heap.objs.size) { s with heap := s.heap.push { cls := .type (SqN k), data := .fields #[.ref l, .int 0 0] } }) :
  wpAny (model P w) A (pyIter (.ref l)) Q E s := by
 cases k with
 | true => exact wpAny_pyIter_list hl q
 | false => exact wpAny_pyIter_tuple hl q
end
abbrev za (k : Bool) (h : Heap) (l : Addr) : Heap := h.push { cls := .type (SqN k), data := .fields #[.ref l, .int 0 0] }
abbrev zb (k m : Bool) (h : Heap) (l r : Addr) : Heap := za m (za k h l) r
abbrev zc (k m : Bool) (h : Heap) (l r : Addr) : Heap := (zb k m h l r).push { cls := .type "tuple", data := .seq #[.ref h.objs.size, .ref (za k h l).objs.size] }
abbrev zd (k m : Bool) (h : Heap) (l r : Addr) : Heap := (zc k m h l r).push { cls := .type "tuple", data := .seq #[.none, .none] }
abbrev ze (k m : Bool) (h : Heap) (l r : Addr) : Heap := (zd k m h l r).push { cls := .type "zip", data := .fields #[.none, .bool false, .bool false, .ref (zb k m h l r).objs.size, .ref (zc k m h l r).objs.size] }
theorem XB (k m : Bool) (l r : Addr) (xs ys : Array Value) : Meets (Builtin.«zip.__new__» ⟨[.type "zip", .ref l, .ref r], []⟩)
  (fun _ R s => Sq k s.heap l xs /\ Sq m s.heap r ys /\ R (.ok (.ret (.ref (zd k m s.heap l r).objs.size))) { s with heap := ze k m s.heap l r }) :=
 .of_wp fun prog w A R s h => by
  obtain ⟨hp, g, d, tk, os⟩ := s
  obtain ⟨h1, h2, h⟩ := h
  have hs := sub_zip
  have q1 : Sq k (Shared.heap ⟨hp, g, d, tk, os⟩) l xs := h1
  have q2 : Sq m (Shared.heap ⟨za k hp l, g, d, tk, os⟩) r ys := h2.at fun o e => Heap.get?_push_of_some _ e
  wp_walk using ZQ q1, ZQ q2
  exact ⟨_, rfl, h⟩
structure ZS (k m : Bool) (h : Heap) (B l r : Nat) (n : Nat) (f g : Value) : Prop where
 z : h.get? (B + 4) = some { cls := .type "zip", data := .fields #[f, g, .bool false, .ref (B + 2), .ref (B + 3)] }
 ti : IsPair h (B + 2) (.ref B) (.ref (B + 1))
 to : ∃ a b, IsPair h (B + 3) a b
 i : SqI k h B l n
 j : SqI m h (B + 1) r n
theorem ZS.at {k m : Bool} {h h' : Heap} {B l r : Nat} {n : Nat} {f g : Value} (x : ZS k m h B l r n f g) (e : ∀ (b : Nat) o, B <= b -> b <= B + 4 -> h.get? b = some o -> h'.get? b = some o) : ZS k m h' B l r n f g where
 z := e _ _ (by omega) (by omega) x.z
 ti := e _ _ (by omega) (by omega) x.ti
 to := let ⟨a, b, y⟩ := x.to; ⟨a, b, e _ _ (by omega) (by omega) y⟩
 i := x.i.at fun o => e _ o (by omega) (by omega)
 j := x.j.at fun o => e _ o (by omega) (by omega)
def KeptZ (B : Nat) (h h' : Heap) : Prop := ∀ (c : Nat) o, (c < B \/ B + 4 < c) -> h.get? c = some o -> h'.get? c = some o
section
variable {P : Program} {w : World} {A : Around} {E : Value -> Shared -> Prop} {s : Shared} {k m : Bool} {B l r : Nat} {n : Nat} {xs ys : Array Value} {x y f g : Value}
theorem wv {Q : Value -> Shared -> Prop} (hl : Sq k s.heap l xs) (hr : Sq m s.heap r ys)
  (q : ∀ h', ZS k m h' s.heap.objs.size l r 0 .none (.bool false) -> h'.objs.size = s.heap.objs.size + 5 -> (∀ c o, s.heap.get? c = some o -> h'.get? c = some o) -> Q (.ref (s.heap.objs.size + 4)) { s with heap := h' }) :
  wpAny (model P w) A (call (.type "zip") [.ref l, .ref r]) Q E s := by
 apply callType_new F.called_zip (by decide) (F.typeCall_zip_2 _ _) (F.newCall_zip_2 _ _) (fun obj => F.args_object_init_3 obj _ _) F.entry_zip_new (XB k m l r xs ys)
 refine ⟨hl, hr, ?_⟩
 have s1 : (za k s.heap l).objs.size = s.heap.objs.size + 1 := Heap.size_push ..
 have s2 : (zb k m s.heap l r).objs.size = s.heap.objs.size + 2 := by rw [Heap.size_push, s1]
 have s3 : (zc k m s.heap l r).objs.size = s.heap.objs.size + 3 := by rw [Heap.size_push, s2]
 have s4 : (zd k m s.heap l r).objs.size = s.heap.objs.size + 4 := by rw [Heap.size_push, s3]
 have s5 : (ze k m s.heap l r).objs.size = s.heap.objs.size + 5 := by rw [Heap.size_push, s4]
 have up : ∀ {c o}, (zd k m s.heap l r).get? c = some o -> (ze k m s.heap l r).get? c = some o := fun e => Heap.get?_push_of_some _ e
 have p5 : (ze k m s.heap l r).get? (zd k m s.heap l r).objs.size = some _ := Heap.get?_push_size _ rfl
 have p4 : (ze k m s.heap l r).get? (zc k m s.heap l r).objs.size = some _ := up (Heap.get?_push_size _ rfl)
 have p3 : (ze k m s.heap l r).get? (zb k m s.heap l r).objs.size = some _ := up (Heap.get?_push_of_some _ (Heap.get?_push_size _ rfl))
 have p2 : (ze k m s.heap l r).get? (za k s.heap l).objs.size = some _ := up (Heap.get?_push_of_some _ (Heap.get?_push_of_some _ (Heap.get?_push_size _ rfl)))
 have p1 : (ze k m s.heap l r).get? s.heap.objs.size = some _ := up (Heap.get?_push_of_some _ (Heap.get?_push_of_some _ (Heap.get?_push_of_some _ (Heap.get?_push_size _ rfl))))
 rw [s4, s2, s3] at p5
 rw [s3] at p4
 rw [s2, s1] at p3
 rw [s1] at p2
 show _ /\ _
 rw [s4]
 exact ⟨⟨_, p5, rfl⟩, q _ ⟨p5, p3, ⟨_, _, p4⟩, .of ⟨_, p1, rfl, rfl⟩, .of ⟨_, p2, rfl, rfl⟩⟩ s5 fun c o e => up (Heap.get?_push_of_some _ (Heap.get?_push_of_some _ (Heap.get?_push_of_some _ (Heap.get?_push_of_some _ e))))⟩
theorem jl {Q : Value -> Shared -> Prop} (Z : ZS k m s.heap B l r n .none g) (hl : Sq k s.heap l xs) (hr : Sq m s.heap r ys) (ll : l < B) (rl : r < B) (hx : xs[n]? = some x) (hy : ys[n]? = some y)
  (q : ∀ h', ZS k m h' B l r (n + 1) (rawInt s.heap.objs.size) (.bool false) -> IsPair h' s.heap.objs.size x y -> h'.objs.size = s.heap.objs.size + 1 -> KeptZ B s.heap h' -> Q (.ref s.heap.objs.size) { s with heap := h' }) :
  wpAny (model P w) A (Builtin.«zip.__next__» ⟨[.ref (B + 4)], []⟩) (fun fin s' => ∃ v, fin = .done (.ret v) /\ Q v s') E s := by
 obtain ⟨a, b, hto⟩ := Z.to
 refine wpAny_bind (m := field (.ref (B + 4)) 2) (wpAny_field Z.z rfl (x := .bool false) rfl ?_)
 refine wpAny_bind (m := field (.ref (B + 4)) 3) (wpAny_field Z.z rfl (x := .ref (B + 2)) rfl (wpAny_bind (wpAny_seqItems Z.ti rfl ?_)))
 refine wpAny_bind (m := Builtin.SmallTypes.ownedTupleIsFree (.ref (B + 4))) ?_
 unfold Builtin.SmallTypes.ownedTupleIsFree
 refine wpAny_bind (wpAny_field Z.z rfl (x := .none) rfl (wpAny_pure ?_))
 rw [if_pos rfl]
 refine wpAny_bind (wpAny_rule (wpAny_bind (wpAny_field Z.z rfl (x := .ref (B + 3)) rfl (wpAny_bind (wpAny_setField_rec Z.z (by simp) fun h1 z1 u1 => wpAny_bind ?_)))))
 replace z1 : h1.get? (B + 4) = some { cls := .type "zip", data := .fields #[.ellipsis, g, .bool false, .ref (B + 2), .ref (B + 3)] } := z1
 have k1 : ∀ (c : Nat) o, c ≠ B + 4 -> s.heap.get? c = some o -> h1.get? c = some o := fun c o n e => (u1.2 c n).trans e
 simp only [List.zipIdx_cons, List.zipIdx_nil, List.forIn_cons, List.forIn_nil]
 refine wpAny_bind (wpAny_bind (wpAny_onRaise (wpAny_bind (m := Builtin.SmallTypes.nextOf (.ref B)) ?_)))
 refine xf (Z.i.at fun o => k1 _ o (by omega)) (hl.at fun o => k1 _ o (by omega)) hx fun h2 i2 u2 => wpAny_pure ?_
 have k2 : ∀ (c : Nat) o, c ≠ B -> h1.get? c = some o -> h2.get? c = some o := fun c o n e => (u2.2 c n).trans e
 have to2 : IsPair h2 (B + 3) a b := k2 _ _ (by omega) (k1 _ _ (by omega) hto)
 refine wpAny_bind (wpAny_seqItems to2 rfl (wpAny_bind (wpAny_updateSeq_pair to2 fun h3 to3 u3 => ?_)))
 replace to3 : IsPair h3 (B + 3) x b := to3
 have k3 : ∀ (c : Nat) o, c ≠ B + 3 -> h2.get? c = some o -> h3.get? c = some o := fun c o n e => (u3.2 c n).trans e
 refine wpAny_bind (wpAny_letGo (wpAny_pure (wpAny_bind (wpAny_bind (wpAny_onRaise (wpAny_bind (m := Builtin.SmallTypes.nextOf (.ref (B + 1))) ?_))))))
 refine xf (Z.j.at fun o e => k3 _ o (by omega) (k2 _ o (by omega) (k1 _ o (by omega) e))) (hr.at fun o e => k3 _ o (by omega) (k2 _ o (by omega) (k1 _ o (by omega) e))) hy fun h4 i4 u4 => wpAny_pure ?_
 have k4 : ∀ (c : Nat) o, c ≠ B + 1 -> h3.get? c = some o -> h4.get? c = some o := fun c o n e => (u4.2 c n).trans e
 have to4 : IsPair h4 (B + 3) x b := k4 _ _ (by omega) to3
 refine wpAny_bind (wpAny_seqItems to4 rfl (wpAny_bind (wpAny_updateSeq_pair to4 fun h5 to5 u5 => ?_)))
 replace to5 : IsPair h5 (B + 3) x y := to5
 have k5 : ∀ (c : Nat) o, c ≠ B + 3 -> h4.get? c = some o -> h5.get? c = some o := fun c o n e => (u5.2 c n).trans e
 refine wpAny_bind (wpAny_letGo (wpAny_pure (wpAny_pure (wpAny_bind (wpAny_seqItems to5 rfl (wpAny_bind (wpAny_newTuple ?_)))))))
 have sz : h5.objs.size = s.heap.objs.size := by rw [u5.1, u4.1, u3.1, u2.1, u1.1]
 have z5 : h5.get? (B + 4) = some { cls := .type "zip", data := .fields #[.ellipsis, g, .bool false, .ref (B + 2), .ref (B + 3)] } := k5 _ _ (by omega) (k4 _ _ (by omega) (k3 _ _ (by omega) (k2 _ _ (by omega) z1)))
 have lt4 : B + 4 < h5.objs.size := Heap.lt_size z5
 refine wpAny_bind (m := Builtin.SmallTypes.ownedTupleHandOut (.ref (B + 4)) (.ref h5.objs.size)) ?_
 unfold Builtin.SmallTypes.ownedTupleHandOut
 refine wpAny_bind (wpAny_setField_rec (Heap.get?_push_of_some { cls := .type "tuple", data := .seq #[x, y] } z5) (by simp) fun h7 z7 u7 => ?_)
 refine wpAny_setField_rec z7 (by simp) fun h8 z8 u8 => wpAny_pure ⟨.ref h5.objs.size, rfl, ?_⟩
 have k8 : ∀ (c : Nat) o, c ≠ B + 4 -> h5.get? c = some o -> h8.get? c = some o := fun c o n e => (u8.2 c n).trans ((u7.2 c n).trans (Heap.get?_push_of_some _ e))
 have p8 : IsPair h8 h5.objs.size x y := (u8.2 _ (Nat.ne_of_gt lt4)).trans ((u7.2 _ (Nat.ne_of_gt lt4)).trans (Heap.get?_push_size _ rfl))
 have s8 : h8.objs.size = h5.objs.size + 1 := by rw [u8.1, u7.1, Heap.size_push]
 rw [sz] at p8 s8 ⊢
 refine q h8 ⟨?_, k8 _ _ (by omega) (k5 _ _ (by omega) (k4 _ _ (by omega) (k3 _ _ (by omega) (k2 _ _ (by omega) (k1 _ _ (by omega) Z.ti))))), ⟨x, y, k8 _ _ (by omega) to5⟩,
  i2.at fun o e => k8 _ _ (by omega) (k5 _ _ (by omega) (k4 _ _ (by omega) (k3 _ _ (by omega) e))), i4.at fun o e => k8 _ _ (by omega) (k5 _ _ (by omega) e)⟩ p8 s8
  fun c o hc e => k8 _ _ (by omega) (k5 _ _ (by omega) (k4 _ _ (by omega) (k3 _ _ (by omega) (k2 _ _ (by omega) (k1 _ _ (by omega) e)))))
 rw [<- sz]
 exact z8
theorem XC {a : Addr} {o : Obj} {Q : Option Obj -> Shared -> Prop} (ho : s.heap.get? a = some o) (h : Q (some o) s) : wpAny (model P w) A (loadIfAlive a) Q E s := fun Γ p _ => by
 unfold loadIfAlive
 rw [Sem.wp_loadIfAlive, ho]
 simpa using h
theorem jm {Q : Bool -> Shared -> Prop} {T : Nat} {ot : Obj} {c : Bool} (hz : s.heap.get? (B + 4) = some { cls := .type "zip", data := .fields #[rawInt T, .bool c, .bool false, .ref (B + 2), .ref (B + 3)] }) (hT : s.heap.get? T = some ot)
  (q : ∀ h1, h1.get? (B + 4) = some { cls := .type "zip", data := .fields #[rawInt T, .bool true, .bool false, .ref (B + 2), .ref (B + 3)] } -> h1.objs.size = s.heap.objs.size -> (∀ (d : Nat) o, d ≠ B + 4 -> s.heap.get? d = some o -> h1.get? d = some o) -> Q false { s with heap := h1 }) :
  wpAny (model P w) A (Builtin.SmallTypes.ownedTupleIsFree (.ref (B + 4))) Q E s := by
 unfold Builtin.SmallTypes.ownedTupleIsFree
 refine wpAny_bind (wpAny_field hz rfl (x := rawInt T) rfl ?_)
 refine wpAny_bind (m := loadIfAlive ((T : Int).toNat)) (XC (o := ot) (by rw [Int.toNat_natCast]; exact hT) ?_)
 rw [if_neg (by simp)]
 refine wpAny_bind (wpAny_field hz rfl (x := .bool c) rfl ?_)
 cases c with
 | true =>
  rw [if_neg (by decide)]
  exact wpAny_pure (q _ hz rfl fun d o _ e => e)
 | false =>
  rw [if_pos (by decide)]
  exact wpAny_bind (wpAny_setField_rec hz (by simp) fun h1 z1 u1 => wpAny_pure (q h1 z1 u1.1 fun d o n e => (u1.2 d n).trans e))
theorem XE {Q : Value -> Shared -> Prop} {T : Nat} {ot : Obj} {c : Bool} (Z : ZS k m s.heap B l r n (rawInt T) (.bool c)) (hT : s.heap.get? T = some ot) (hl : Sq k s.heap l xs) (hr : Sq m s.heap r ys) (ll : l < B) (rl : r < B) (hx : xs[n]? = some x) (hy : ys[n]? = some y)
  (q : ∀ h', ZS k m h' B l r (n + 1) (rawInt T) (.bool true) -> IsPair h' s.heap.objs.size x y -> h'.objs.size = s.heap.objs.size + 1 -> KeptZ B s.heap h' -> Q (.ref s.heap.objs.size) { s with heap := h' }) :
  wpAny (model P w) A (Builtin.«zip.__next__» ⟨[.ref (B + 4)], []⟩) (fun fin s' => ∃ v, fin = .done (.ret v) /\ Q v s') E s := by
 obtain ⟨a, b, hto⟩ := Z.to
 refine wpAny_bind (m := field (.ref (B + 4)) 2) (wpAny_field Z.z rfl (x := .bool false) rfl ?_)
 refine wpAny_bind (m := field (.ref (B + 4)) 3) (wpAny_field Z.z rfl (x := .ref (B + 2)) rfl (wpAny_bind (wpAny_seqItems Z.ti rfl ?_)))
 refine wpAny_bind (m := Builtin.SmallTypes.ownedTupleIsFree (.ref (B + 4))) (jm Z.z hT fun h1 z1 s1 k1 => ?_)
 rw [if_neg Bool.false_ne_true]
 refine wpAny_bind ?_
 rw [<- Array.forIn_toList]
 simp only [List.forIn_cons, List.forIn_nil]
 refine wpAny_bind (wpAny_bind (wpAny_holding (wpAny_bind (m := Builtin.SmallTypes.nextOf (.ref B)) ?_)))
 refine xf (Z.i.at fun o => k1 _ o (by omega)) (hl.at fun o => k1 _ o (by omega)) hx fun h2 i2 u2 => wpAny_pure (wpAny_pure ?_)
 have k2 : ∀ (c : Nat) o, c ≠ B -> h1.get? c = some o -> h2.get? c = some o := fun c o n e => (u2.2 c n).trans e
 refine wpAny_bind (wpAny_bind (wpAny_holding (wpAny_bind (m := Builtin.SmallTypes.nextOf (.ref (B + 1))) ?_)))
 refine xf (Z.j.at fun o e => k2 _ o (by omega) (k1 _ o (by omega) e)) (hr.at fun o e => k2 _ o (by omega) (k1 _ o (by omega) e)) hy fun h4 i4 u4 => wpAny_pure (wpAny_pure (wpAny_pure ?_))
 have k4 : ∀ (c : Nat) o, c ≠ B + 1 -> h2.get? c = some o -> h4.get? c = some o := fun c o n e => (u4.2 c n).trans e
 have sz : h4.objs.size = s.heap.objs.size := by rw [u4.1, u2.1]; exact s1
 refine wpAny_bind (wpAny_newTuple (hsz := by show 2 <= sizeLine; decide) (wpAny_pure ⟨.ref h4.objs.size, rfl, ?_⟩))
 have p5 : IsPair (h4.push { cls := .type "tuple", data := .seq #[x, y] }) h4.objs.size x y := Heap.get?_push_size _ rfl
 have s5 : (h4.push { cls := .type "tuple", data := .seq #[x, y] }).objs.size = h4.objs.size + 1 := Heap.size_push ..
 rw [sz] at p5 s5 ⊢
 have k5 : ∀ (c : Nat) o, h4.get? c = some o -> (h4.push { cls := .type "tuple", data := .seq #[x, y] }).get? c = some o := fun c o e => Heap.get?_push_of_some _ e
 exact q _ ⟨k5 _ _ (k4 _ _ (by omega) (k2 _ _ (by omega) z1)), k5 _ _ (k4 _ _ (by omega) (k2 _ _ (by omega) (k1 _ _ (by omega) Z.ti))), ⟨a, b, k5 _ _ (k4 _ _ (by omega) (k2 _ _ (by omega) (k1 _ _ (by omega) hto)))⟩,
  i2.at fun o e => k5 _ _ (k4 _ _ (by omega) e), i4.at fun o e => k5 _ _ e⟩ p5 s5 fun c o hc e => k5 _ _ (k4 _ _ (by omega) (k2 _ _ (by omega) (k1 _ _ (by omega) e)))
theorem Vz {Q : PySem.Fin -> Shared -> Prop} (hA : A.handled = none) (Z : ZS k m s.heap B l r n .none g) (hl : Sq k s.heap l xs) (hr : Sq m s.heap r ys) (ll : l < B) (rl : r < B) (hx : xs[n]? = none \/ ys[n]? = none)
  (q : ∀ h' e, KeptZ B s.heap h' -> (∃ o, h'.get? e = some o /\ o.cls = .type "StopIteration") -> E (.ref e) { s with heap := h' }) : wpAny (model P w) A (Builtin.«zip.__next__» ⟨[.ref (B + 4)], []⟩) Q E s := by
 obtain ⟨a, b, hto⟩ := Z.to
 refine wpAny_bind (m := field (.ref (B + 4)) 2) (wpAny_field Z.z rfl (x := .bool false) rfl ?_)
 refine wpAny_bind (m := field (.ref (B + 4)) 3) (wpAny_field Z.z rfl (x := .ref (B + 2)) rfl (wpAny_bind (wpAny_seqItems Z.ti rfl ?_)))
 refine wpAny_bind (m := Builtin.SmallTypes.ownedTupleIsFree (.ref (B + 4))) ?_
 unfold Builtin.SmallTypes.ownedTupleIsFree
 refine wpAny_bind (wpAny_field Z.z rfl (x := .none) rfl (wpAny_pure ?_))
 rw [if_pos rfl]
 refine wpAny_bind (wpAny_rule (wpAny_bind (wpAny_field Z.z rfl (x := .ref (B + 3)) rfl (wpAny_bind (wpAny_setField_rec Z.z (by simp) fun h1 z1 u1 => wpAny_bind ?_)))))
 replace z1 : h1.get? (B + 4) = some { cls := .type "zip", data := .fields #[.ellipsis, g, .bool false, .ref (B + 2), .ref (B + 3)] } := z1
 have k1 : ∀ (c : Nat) o, c ≠ B + 4 -> s.heap.get? c = some o -> h1.get? c = some o := fun c o n e => (u1.2 c n).trans e
 have nz : ∀ {h : Heap} {e : Nat} {v : Value} {o : Obj}, h.get? (B + 4) = some { cls := .type "zip", data := .fields #[v, g, .bool false, .ref (B + 2), .ref (B + 3)] } -> h.get? e = some o -> o.cls = .type "StopIteration" -> e ≠ B + 4 := fun h1 h2 h3 e => by
  rw [e, h1] at h2
  cases h2
  simp at h3
 simp only [List.zipIdx_cons, List.zipIdx_nil, List.forIn_cons, List.forIn_nil]
 refine wpAny_bind (wpAny_bind (wpAny_onRaise (wpAny_bind (m := Builtin.SmallTypes.nextOf (.ref B)) ?_)))
 cases e1 : xs[n]? with
 | none =>
  refine vC hA (Z.i.at fun o => k1 _ o (by omega)) (hl.at fun o => k1 _ o (by omega)) e1 fun h2 e u2 he => ?_
  obtain ⟨oe, he, ce⟩ := he
  have k2 : ∀ (c : Nat) o, c ≠ B -> h1.get? c = some o -> h2.get? c = some o := fun c o n e => u2 c o n e
  have z2 := k2 _ _ (show B + 4 ≠ B by omega) z1
  refine wpAny_setField_rec z2 (by simp) fun h3 z3 u3 => q h3 e (fun c o hc x => (u3.2 c (show (c : Nat) ≠ B + 4 by omega)).trans (k2 _ _ (by omega) (k1 _ _ (by omega) x))) ⟨oe, (u3.2 e (nz z2 he ce)).trans he, ce⟩
 | some x =>
  have hy : ys[n]? = none := hx.resolve_left (by rw [e1]; simp)
  refine xf (Z.i.at fun o => k1 _ o (by omega)) (hl.at fun o => k1 _ o (by omega)) e1 fun h2 i2 u2 => wpAny_pure ?_
  have k2 : ∀ (c : Nat) o, c ≠ B -> h1.get? c = some o -> h2.get? c = some o := fun c o n e => (u2.2 c n).trans e
  have to2 : IsPair h2 (B + 3) a b := k2 _ _ (by omega) (k1 _ _ (by omega) hto)
  refine wpAny_bind (wpAny_seqItems to2 rfl (wpAny_bind (wpAny_updateSeq_pair to2 fun h3 to3 u3 => ?_)))
  have k3 : ∀ (c : Nat) o, c ≠ B + 3 -> h2.get? c = some o -> h3.get? c = some o := fun c o n e => (u3.2 c n).trans e
  refine wpAny_bind (wpAny_letGo (wpAny_pure (wpAny_bind (wpAny_bind (wpAny_onRaise (wpAny_bind (m := Builtin.SmallTypes.nextOf (.ref (B + 1))) ?_))))))
  refine vC hA (Z.j.at fun o e => k3 _ o (by omega) (k2 _ o (by omega) (k1 _ o (by omega) e))) (hr.at fun o e => k3 _ o (by omega) (k2 _ o (by omega) (k1 _ o (by omega) e))) hy fun h4 e u4 he => ?_
  obtain ⟨oe, he, ce⟩ := he
  have k4 : ∀ (c : Nat) o, c ≠ B + 1 -> h3.get? c = some o -> h4.get? c = some o := fun c o n e => u4 c o n e
  have z4 := k4 _ _ (show B + 4 ≠ B + 1 by omega) (k3 _ _ (by omega) (k2 _ _ (by omega) z1))
  refine wpAny_setField_rec z4 (by simp) fun h5 z5 u5 => q h5 e (fun c o hc x => (u5.2 c (show (c : Nat) ≠ B + 4 by omega)).trans (k4 _ _ (by omega) (k3 _ _ (by omega) (k2 _ _ (by omega) (k1 _ _ (by omega) x))))) ⟨oe, (u5.2 e (nz z4 he ce)).trans he, ce⟩
theorem vD {Q : PySem.Fin -> Shared -> Prop} {T : Nat} {ot : Obj} {c : Bool} (hA : A.handled = none) (Z : ZS k m s.heap B l r n (rawInt T) (.bool c)) (hT : s.heap.get? T = some ot) (hl : Sq k s.heap l xs) (hr : Sq m s.heap r ys) (ll : l < B) (rl : r < B) (hx : xs[n]? = none \/ ys[n]? = none)
  (q : ∀ h' e, KeptZ B s.heap h' -> (∃ o, h'.get? e = some o /\ o.cls = .type "StopIteration") -> E (.ref e) { s with heap := h' }) : wpAny (model P w) A (Builtin.«zip.__next__» ⟨[.ref (B + 4)], []⟩) Q E s := by
 refine wpAny_bind (m := field (.ref (B + 4)) 2) (wpAny_field Z.z rfl (x := .bool false) rfl ?_)
 refine wpAny_bind (m := field (.ref (B + 4)) 3) (wpAny_field Z.z rfl (x := .ref (B + 2)) rfl (wpAny_bind (wpAny_seqItems Z.ti rfl ?_)))
 refine wpAny_bind (m := Builtin.SmallTypes.ownedTupleIsFree (.ref (B + 4))) (jm Z.z hT fun h1 z1 s1 k1 => ?_)
 rw [if_neg Bool.false_ne_true]
 refine wpAny_bind ?_
 rw [<- Array.forIn_toList]
 simp only [List.forIn_cons, List.forIn_nil]
 refine wpAny_bind (wpAny_bind (wpAny_holding (wpAny_bind (m := Builtin.SmallTypes.nextOf (.ref B)) ?_)))
 cases e1 : xs[n]? with
 | none => exact vC hA (Z.i.at fun o => k1 _ o (by omega)) (hl.at fun o => k1 _ o (by omega)) e1 fun h2 e u2 he => q h2 e (fun c o hc x => u2 _ _ (show (c : Nat) ≠ B by omega) (k1 _ _ (by omega) x)) he
 | some x =>
  have hy : ys[n]? = none := hx.resolve_left (by rw [e1]; simp)
  refine xf (Z.i.at fun o => k1 _ o (by omega)) (hl.at fun o => k1 _ o (by omega)) e1 fun h2 i2 u2 => wpAny_pure (wpAny_pure ?_)
  have k2 : ∀ (c : Nat) o, c ≠ B -> h1.get? c = some o -> h2.get? c = some o := fun c o n e => (u2.2 c n).trans e
  refine wpAny_bind (wpAny_bind (wpAny_holding (wpAny_bind (m := Builtin.SmallTypes.nextOf (.ref (B + 1))) ?_)))
  exact vC hA (Z.j.at fun o e => k2 _ o (by omega) (k1 _ o (by omega) e)) (hr.at fun o e => k2 _ o (by omega) (k1 _ o (by omega) e)) hy fun h4 e u4 he => q h4 e (fun c o hc x => u4 _ _ (show (c : Nat) ≠ B + 1 by omega) (k2 _ _ (by omega) (k1 _ _ (by omega) x))) he
end
end L2
namespace L2
open PySem PySem.Spec PyProof.Rows
def ZF (B : Nat) (h : Heap) (f g : Value) : Prop := f = .none \/ ∃ (T : Nat) (c : Bool) (o : Obj), f = rawInt T /\ g = .bool c /\ h.get? T = some o /\ B + 5 < T
section
variable {P : Program} {w : World} {A : Around} {E : Value -> Shared -> Prop} {s : Shared} {k m : Bool} {B l r : Nat} {n : Nat} {xs ys : Array Value} {x y f g : Value}
theorem jn {Q : Option Value -> Shared -> Prop} (Z : ZS k m s.heap B l r n f g) (hf : ZF B s.heap f g) (hl : Sq k s.heap l xs) (hr : Sq m s.heap r ys) (ll : l < B) (rl : r < B) (hx : xs[n]? = some x) (hy : ys[n]? = some y)
  (q : ∀ h' (T : Nat) (c : Bool), ZS k m h' B l r (n + 1) (rawInt T) (.bool c) -> (T = s.heap.objs.size \/ B + 5 < T /\ ∃ o, s.heap.get? T = some o) -> IsPair h' s.heap.objs.size x y -> h'.objs.size = s.heap.objs.size + 1 -> KeptZ B s.heap h' -> Q (some (.ref s.heap.objs.size)) { s with heap := h' }) :
  wpAny (model P w) A (pyNext (.ref (B + 4))) Q E s := by
 have ty : s.TypeIs (.ref (B + 4)) "zip" := ⟨_, Z.z, rfl⟩
 unfold pyNext
 refine wpAny_bind (wpAny_attempt (wpAny_callSpecial?_slot ty F.slot_zip_next (wpAny_call_entry F.slot_zip_next ty F.entry_zip_next ?_ (F.args_zip_next_1 (.ref (B + 4))))))
 rcases hf with rfl | ⟨T, c, o, rfl, rfl, hT, lT⟩
 ·exact jl Z hl hr ll rl hx hy fun h' z p sz kz => wpAny_pure (q h' _ _ z (.inl rfl) p sz kz)
 ·exact XE Z hT hl hr ll rl hx hy fun h' z p sz kz => wpAny_pure (q h' _ _ z (.inr ⟨lT, o, hT⟩) p sz kz)
theorem wx {Q : Option Value -> Shared -> Prop} (hA : A.handled = none) (Z : ZS k m s.heap B l r n f g) (hf : ZF B s.heap f g) (hl : Sq k s.heap l xs) (hr : Sq m s.heap r ys) (ll : l < B) (rl : r < B) (hx : xs[n]? = none \/ ys[n]? = none)
  (q : ∀ h', KeptZ B s.heap h' -> Q none { s with heap := h' }) : wpAny (model P w) A (pyNext (.ref (B + 4))) Q E s := by
 have ty : s.TypeIs (.ref (B + 4)) "zip" := ⟨_, Z.z, rfl⟩
 unfold pyNext
 refine wpAny_bind (wpAny_attempt (wpAny_callSpecial?_slot ty F.slot_zip_next (wpAny_call_entry F.slot_zip_next ty F.entry_zip_next ?_ (F.args_zip_next_1 (.ref (B + 4))))))
 have fin : ∀ h' e, KeptZ B s.heap h' -> (∃ o, h'.get? e = some o /\ o.cls = .type "StopIteration") -> wpAny (model P w) A (do
   if <- isInstance (.ref e) (.type "StopIteration") then pure none else throw (.ref e)) Q E { s with heap := h' } := by
  intro h' e kz ⟨o, ho, hc⟩
  exact wpAny_bind (wpAny_isInstance (T := "StopIteration") (b := true) ⟨o, ho, hc⟩ isSubtype_stop (wpAny_pure (q _ kz)))
 rcases hf with rfl | ⟨T, c, o, rfl, rfl, hT, lT⟩
 ·exact Vz hA Z hl hr ll rl hx fun h' e kz he => fin h' e kz he
 ·exact vD hA Z hT hl hr ll rl hx fun h' e kz he => fin h' e kz he
end
structure ZL (k m : Bool) (h0 h : Heap) (B l r n : Nat) (xs ys acc : Array Value) (c : Nat) (f g : Value) : Prop where
 zs : ZS k m h B l r n f g
 zf : ZF B h f g
 hl : Sq k h l xs
 hr : Sq m h r ys
 sz : h.objs.size = B + 6 + n
 lst : h.get? (B + 5) = some { cls := .type "list", data := .seq acc c }
 asz : acc.size = n
 par : ∀ i x y, i < n -> xs[i]? = some x -> ys[i]? = some y -> acc[i]? = some (.ref (B + 6 + i)) /\ IsPair h (B + 6 + i) x y
 old : ∀ (b : Nat) o, b < B -> h0.get? b = some o -> h.get? b = some o
section
variable {P : Program} {w : World} {A : Around} {R : Result -> Shared -> Prop} {h0 : Heap} {k m : Bool} {B l r N : Nat} {xs ys : Array Value} {res : Value}
theorem jo (hA : A.handled = none) (ll : l < B) (rl : r < B) (hN : N <= sizeLine) (hx : N <= xs.size) (hy : N <= ys.size) (he : xs.size <= N \/ ys.size <= N) : ∀ (d n : Nat) (s : Shared) (acc : Array Value) (c : Nat) (f g : Value), n + d = N -> ZL k m h0 s.heap B l r n xs ys acc c f g ->
  (∀ h' acc' c', h'.get? (B + 5) = some { cls := .type "list", data := .seq acc' c' } -> acc'.size = N -> (∀ i x y, i < N -> xs[i]? = some x -> ys[i]? = some y -> acc'[i]? = some (.ref (B + 6 + i)) /\ IsPair h' (B + 6 + i) x y) -> (∀ (b : Nat) o, b < B -> h0.get? b = some o -> h'.get? b = some o) -> R (.ok (.ret res)) { s with heap := h' }) ->
  codeAny (model P w) A (.builtin "list.extend.loop" ⟨[.ref (B + 5), .ref (B + 4), res], []⟩) R s
 | 0, n, s, acc, c, f, g, hd, Z, q => by
  have e : n = N := by omega
  subst e
  refine codeAny_builtin F.entry_extend_loop ?_
  rw [Around.under_plainId F.plain_extend_loop _]
  refine wpAny_bind (m := pyNext (.ref (B + 4))) (wx (A := A.in1) hA Z.zs Z.zf Z.hl Z.hr ll rl ?_ fun h' kz => wpAny_pure (q h' acc c (kz _ _ (by omega) Z.lst) Z.asz ?_ fun b o hb x => kz _ _ (by omega) (Z.old b o hb x)))
  ·rcases he with he | he
   ·exact .inl (Array.getElem?_eq_none (by omega))
   ·exact .inr (Array.getElem?_eq_none (by omega))
  ·intro i x y hi h1 h2
   obtain ⟨p1, p2⟩ := Z.par i x y hi h1 h2
   exact ⟨p1, kz _ _ (by omega) p2⟩
 | d + 1, n, s, acc, c, f, g, hd, Z, q => by
  refine codeAny_builtin F.entry_extend_loop ?_
  rw [Around.under_plainId F.plain_extend_loop _]
  have hx' : n < xs.size := by omega
  have hy' : n < ys.size := by omega
  refine wpAny_bind (m := pyNext (.ref (B + 4))) (jn (A := A.in1) Z.zs Z.zf Z.hl Z.hr ll rl (Array.getElem?_eq_getElem hx') (Array.getElem?_eq_getElem hy') fun h' T ct z hT p sz kz => ?_)
  have s0 := Z.sz
  rw [s0] at p sz
  have l1 : h'.get? (B + 5) = some { cls := .type "list", data := .seq acc c } := kz _ _ (by omega) Z.lst
  have as := Z.asz
  have up : ∀ (b : Nat) o, b ≠ B + 5 -> h'.get? b = some o -> (h'.update (B + 5) (Obj.mapSeq (·.push (.ref (B + 6 + n))))).get? b = some o := fun b o nb e => (Heap.get?_update_other _ _ (Ne.symm nb)).trans e
  rw [s0]
  refine wpAny_bind (m := updateSeq (B + 5) (·.push (.ref (B + 6 + n)))) (wpAny_updateSeq l1 rfl (wpAny_pure ⟨plainId_quiet F.plain_extend_loop _, jo hA ll rl hN hx hy he d (n + 1) _ (acc.push (.ref (B + 6 + n))) _ (rawInt T) (.bool ct) (by omega) ⟨?_, ?_, ?_, ?_, ?_, Heap.get?_update_self _ l1 rfl, ?_, ?_, ?_⟩ q⟩) (by omega) (by show (acc.push _).size <= sizeLine + 1; rw [Array.size_push]; omega))
  ·exact z.at fun b o h1 h2 e => up b o (by omega) e
  ·rcases hT with e | ⟨lT, o, hT⟩
   ·rw [s0] at e
    subst e
    exact .inr ⟨_, ct, _, rfl, rfl, up _ _ (by omega) p, by omega⟩
   ·exact .inr ⟨T, ct, o, rfl, rfl, up _ _ (by omega) (kz _ _ (by omega) hT), lT⟩
  ·exact Z.hl.at fun o e => up _ o (by omega) (kz _ o (by omega) e)
  ·exact Z.hr.at fun o e => up _ o (by omega) (kz _ o (by omega) e)
  ·show (h'.update _ _).objs.size = _
   rw [Heap.size_update, sz]
   omega
  ·rw [Array.size_push, as]
  ·intro i x y hi h1 h2
   by_cases c1 : i = n
   ·subst c1
    rw [Array.getElem?_eq_getElem hx'] at h1
    rw [Array.getElem?_eq_getElem hy'] at h2
    cases h1
    cases h2
    refine ⟨?_, up _ _ (by omega) p⟩
    rw [Array.getElem?_push, if_pos as.symm]
   ·obtain ⟨p1, p2⟩ := Z.par i x y (by omega) h1 h2
    refine ⟨?_, up _ _ (by omega) (kz _ _ (by omega) p2)⟩
    rw [Array.getElem?_push, if_neg (by omega)]
    exact p1
  ·exact fun b o hb x => up _ _ (by omega) (kz _ _ (by omega) (Z.old b o hb x))
end
end L2
namespace L2
open PySem PySem.Spec PyProof.Rows
theorem VA : typeLookup (.type "zip") "__len__" = pure none := by rw [typeLookup_type, builtinLookup_eq_fast]; kernel_rfl
theorem XF : typeLookup (.type "zip") "__length_hint__" = pure none := by rw [typeLookup_type, builtinLookup_eq_fast]; kernel_rfl
section
variable {P : Program} {w : World} {A : Around} {E : Value -> Shared -> Prop} {s : Shared} {k m : Bool} {B l r N : Nat} {xs ys : Array Value}
theorem XG {Q : Value -> Shared -> Prop} (hA : A.handled = none) (Z : ZS k m s.heap B l r 0 .none (.bool false)) (hl : Sq k s.heap l xs) (hr : Sq m s.heap r ys) (ll : l < B) (rl : r < B) (sz : s.heap.objs.size = B + 5)
  (hN : N <= sizeLine) (hx : N <= xs.size) (hy : N <= ys.size) (he : xs.size <= N \/ ys.size <= N)
  (q : ∀ h' acc' c', h'.get? (B + 5) = some { cls := .type "list", data := .seq acc' c' } -> acc'.size = N -> (∀ i x y, i < N -> xs[i]? = some x -> ys[i]? = some y -> acc'[i]? = some (.ref (B + 6 + i)) /\ IsPair h' (B + 6 + i) x y) -> (∀ (b : Nat) o, b < B -> s.heap.get? b = some o -> h'.get? b = some o) -> Q (.ref (B + 5)) { s with heap := h' }) :
  wpAny (model P w) A (call (.type "list") [.ref (B + 4)]) Q E s := by
 refine callType_codes (Q₁ := fun obj s₁ => obj = .ref (B + 5) /\ s₁ = { s with heap := s.heap.push { cls := .type "list", data := .seq #[] } }) F.called_list (F.typeCall_list_1 _) F.entry_list_init (code_list_new _ ⟨by rw [sz], rfl⟩) ?_
 rintro obj s1 ⟨rfl, rfl⟩
 have l0 : (s.heap.push { cls := .type "list", data := .seq #[] }).get? (B + 5) = some { cls := .type "list", data := .seq #[] } := by
  rw [<- sz]
  exact Heap.get?_push_size _ rfl
 have z0 : (s.heap.push { cls := .type "list", data := .seq #[] }).objs.size = B + 6 := by rw [Heap.size_push, sz]
 have up : ∀ (b : Nat) o, s.heap.get? b = some o -> (s.heap.push { cls := .type "list", data := .seq #[] }).get? b = some o := fun b o e => Heap.get?_push_of_some _ e
 generalize s.heap.push { cls := .type "list", data := .seq #[] } = h at l0 z0 up
 refine ⟨⟨_, l0, rfl⟩, F.args_list_init_2 _ _, ?_⟩
 refine wpAny_bind (m := Builtin.List.listItems (.ref (B + 5))) ?_
 unfold Builtin.List.listItems
 refine wpAny_bind (wpAny_seqItems l0 rfl (wpAny_pure ?_))
 refine wpAny_bind (m := updateSeq (B + 5) (fun _ => #[])) (wpAny_updateSeq l0 rfl ?_)
 have l1 := Heap.get?_update_self (Obj.mapSeq (fun _ => (#[] : Array Value))) l0 rfl
 have u1 : ∀ (b : Nat) o, b ≠ B + 5 -> h.get? b = some o -> (h.update (B + 5) (Obj.mapSeq (fun _ => (#[] : Array Value)))).get? b = some o := fun b o n e => (Heap.get?_update_other _ _ (Ne.symm n)).trans e
 have z1 : (h.update (B + 5) (Obj.mapSeq (fun _ => (#[] : Array Value)))).objs.size = B + 6 := by rw [Heap.size_update, z0]
 refine wpAny_bind (wpAny_letGo ?_)
 show wpAny _ _ (Builtin.List.listExtendWith (.ref (B + 5)) (.ref (B + 4)) .none) _ _ _
 generalize h.update (B + 5) (Obj.mapSeq (fun _ => (#[] : Array Value))) = h1 at l1 u1 z1 ⊢
 replace up : ∀ (b : Nat) o, b < B + 5 -> s.heap.get? b = some o -> h1.get? b = some o := fun b o n e => u1 b o (by omega) (up b o e)
 have Z1 : ZS k m h1 B l r 0 .none (.bool false) := Z.at fun b o h1 h2 e => up b o (by omega) e
 unfold Builtin.List.listExtendWith
 refine wpAny_bind (wpAny_typeOf (T := "zip") ⟨_, Z1.z, rfl⟩ ?_)
 have n1 : Builtin.List.listSameRef (.ref (B + 5)) (.ref (B + 4)) = false := by simp [Builtin.List.listSameRef]
 have n2 : (Value.type "zip" == Value.type "list" || Value.type "zip" == Value.type "tuple") = false := by decide
 rw [n1, Bool.false_or, n2, if_neg Bool.false_ne_true]
 refine wpAny_bind (wpAny_pyIter_zip Z1.z (wpAny_bind (wpAny_holding ?_)))
 unfold Builtin.List.listLengthHint
 refine wpAny_bind (wpAny_specialOf (T := "zip") ⟨_, Z1.z, rfl⟩ VA ?_)
 refine wpAny_bind (m := specialOf (Value.ref (B + 4)) (Str.ofString "__length_hint__")) (wpAny_specialOf (T := "zip") ⟨_, Z1.z, rfl⟩ XF (wpAny_pure ?_))
 refine wpAny_bind (m := rule "list.extend.makes-room") (wpAny_rule (wpAny_bind ?_))
 refine wpAny_bind (m := updateSeq (B + 5) (·.push .none)) (wpAny_updateSeq l1 rfl ?_)
 have l2 := Heap.get?_update_self (Obj.mapSeq (·.push Value.none)) l1 rfl
 refine wpAny_updateSeq (a := B + 5) (f := (·.pop)) (hz := by seq_fits) l2 rfl ?_
 have l3 := Heap.get?_update_self (Obj.mapSeq (·.pop)) l2 rfl
 have u3 : ∀ (b : Nat) o, b ≠ B + 5 -> h1.get? b = some o -> ((h1.update (B + 5) (Obj.mapSeq (·.push Value.none))).update (B + 5) (Obj.mapSeq (·.pop))).get? b = some o := fun b o n e => (Heap.get?_update_other _ _ (Ne.symm n)).trans ((Heap.get?_update_other _ _ (Ne.symm n)).trans e)
 refine wpAny_pure ⟨plainId_quiet F.plain_extend_loop _, jo (h0 := s.heap) (A := A.in1) (acc := #[]) hA ll rl hN hx hy he N 0 _ _ .none (.bool false) (by omega) ⟨Z1.at fun b o h1 h2 e => u3 b o (by omega) e, .inl rfl, ?_, ?_, ?_, l3, rfl, ?_, ?_⟩ ?_⟩
 ·exact hl.at fun o e => u3 _ o (by omega) (up _ o (by omega) e)
 ·exact hr.at fun o e => u3 _ o (by omega) (up _ o (by omega) e)
 ·show (Heap.update (Heap.update _ _ _) _ _).objs.size = _
  rw [Heap.size_update, Heap.size_update, z1]
 ·intro i x y hi
  omega
 ·exact fun b o hb e => u3 _ _ (by omega) (up _ _ (by omega) e)
 ·exact fun h' acc' c' h1 h2 h3 h4 => ⟨rfl, q h' acc' c' h1 h2 h3 h4⟩
end
theorem va (g : Nat -> Nat) : ∀ l : List Nat, Vals (l.map fun i => V.ref (g i)) (l.map fun i => Value.ref (g i))
 | [] => .nil
 | i :: l => .cons rfl (va g l)
def hpZ (H : Hp) (B N : Nat) (f : Nat -> List V) : Hp := fun (b : Nat) => if b = B + 5 then some (.lst ((List.range N).map fun i => V.ref (B + 6 + i))) else if B + 6 <= b /\ b < B + 6 + N then some (.tup (f (b - (B + 6)))) else H b
theorem yT {H : Hp} {B N : Nat} {f : Nat -> List V} {b : Nat} (h : b < B + 5) : hpZ H B N f b = H b := by
 unfold hpZ
 rw [if_neg (by omega), if_neg (by omega)]
theorem ZR {H : Hp} {B N : Nat} {f : Nat -> List V} : hpZ H B N f (B + 5) = some (.lst ((List.range N).map fun i => V.ref (B + 6 + i))) := if_pos rfl
theorem ZT {H : Hp} {B N : Nat} {f : Nat -> List V} {i : Nat} (h : i < N) : hpZ H B N f (B + 6 + i) = some (.tup (f i)) := by
 unfold hpZ
 rw [if_neg (by omega), if_pos (by omega)]
 rw [show B + 6 + i - (B + 6) = i by omega]
theorem Inv.zipped {X : Cx} {pins : List (Addr × Obj)} {σ : St} {H : Hp} {s : Shared} {h' : Heap} {B N : Nat} {f : Nat -> List V} {us : Nat -> Array Value} {acc : Array Value} {c : Nat} (I : Inv X pins σ H s) (hB : s.heap.objs.size = B) (k : ∀ (b : Nat) o, b < B -> s.heap.get? b = some o -> h'.get? b = some o)
  (hl : h'.get? (B + 5) = some { cls := .type "list", data := .seq acc c }) (hN : N <= sizeLine) (hs : acc.size = N) (ha : ∀ i, i < N -> acc[i]? = some (.ref (B + 6 + i))) (ht : ∀ i, i < N -> (f i).length <= sizeLine /\ Vals (f i) (us i).toList /\ h'.get? (B + 6 + i) = some { cls := .type "tuple", data := .seq (us i) }) :
  Inv X pins σ (hpZ H B N f) { s with heap := h' } := by
 have lt : ∀ {b : Nat} {u}, H b = some u -> b < B := fun e => by rw [<- hB]; exact I.hok.lt e
 have lt' : ∀ {b : Nat} {o}, s.heap.get? b = some o -> b < B := fun e => by rw [<- hB]; exact Heap.lt_size e
 refine I.un (t' := s.toks) ⟨fun b o e _ _ _ => k b o (lt' e) e, fun b o e _ _ _ => ⟨o.slots, k b o (lt' e) e⟩, fun b o e n _ => by rw [yT (by have := lt' e; omega)]; exact n, fun b o e _ => ⟨o, k b o (lt' e) e⟩,
  fun b xs e => by rw [yT (by have := lt e; omega)]; exact e, fun b u xs e => by rw [yT (by have := lt e; omega)]; exact e, fun b ps e => ⟨#[], by rw [yT (by have := lt e; omega), e]; simp⟩⟩ fun (b : Nat) u e => ?_
 by_cases c1 : b = B + 5
 ·subst c1
  rw [ZR] at e
  cases e
  refine ⟨by simpa using hN, acc.toList, c, ?_, by simpa using hl⟩
  have e2 : acc.toList = (List.range N).map fun i => Value.ref (B + 6 + i) := by
   apply List.ext_getElem?
   intro i
   by_cases hi : i < N
   ·have := ha i hi
    simp [hi]
    simpa using this
   ·simp [hi]
    omega
  rw [e2]
  exact va _ _
 ·by_cases c2 : B + 6 <= b /\ b < B + 6 + N
  ·obtain ⟨i, rfl⟩ : ∃ i, b = B + 6 + i := ⟨b - (B + 6), by omega⟩
   have hi : i < N := by omega
   rw [ZT hi] at e
   cases e
   obtain ⟨t1, t2, t3⟩ := ht i hi
   exact ⟨t1, (us i).toList, t2, ⟨_, t3, rfl, rfl, 0, rfl⟩⟩
  ·have e' : H b = some u := by
    unfold hpZ at e
    rw [if_neg c1, if_neg c2] at e
    exact e
   exact (I.hok b u e').stay (fun d v _ q => k d v (lt' q) q) (fun d q => by rw [yT (by have := lt q; omega)]; exact q) fun d xs q => by rw [yT (by have := lt q; omega)]; exact q
def QG (K : PySem.W.Frag) : List V -> Hp -> VK -> Prop := fun vs H Q => ∃ a b xs ys, vs = [.ref a, .ref b] /\ (SqL K H a xs \/ SqT K H a xs) /\ (SqL K H b ys \/ SqT K H b ys) /\
 ∀ (H' : Hp) (p : Addr) (ps : List Addr), Same H H' -> H p = none -> H' p = some (.lst (ps.map V.ref)) -> ps.length = min xs.length ys.length -> (∀ t ∈ ps, H t = none /\ t ≠ p) -> ps.Nodup -> (∀ (i : Nat) x y, xs[i]? = some x -> ys[i]? = some y -> ∃ t, ps[i]? = some t /\ H' t = some (.tup [x, y])) -> Q (.ref p) H'
def Jx (K : PySem.W.Frag) (ta : TA) : TE := fun σ H Q => ta σ H fun vs H1 => QG K vs H1 Q
theorem Inv.sq {X : Cx} {pins : List (Addr × Obj)} {σ : St} {H : Hp} {s : Shared} {a : Addr} {xs : List V} (I : Inv X pins σ H s) (h : SqL X.K H a xs \/ SqT X.K H a xs) : ∃ (k : Bool) (its : List Value), Vals xs its /\ Sq k s.heap a its.toArray /\ xs.length <= sizeLine /\ (a : Nat) < s.heap.objs.size := by
 rcases h with h | h
 ·obtain ⟨its, r, p, z⟩ := I.list h
  have ⟨o, n, e, _⟩ := p
  exact ⟨true, its, r, p.isList, z, Heap.lt_size e⟩
 ·obtain ⟨its, r, p, z⟩ := I.tuple h
  have ⟨o, e, _⟩ := p
  exact ⟨false, its, r, p, z, Heap.lt_size e⟩
section
variable {X : Cx} {a b : Expr} {ta : TA} {p1 p2 pos1 pos2 : Pos}
theorem VB (hc : X.calm = true) (hgL : Gl X "list") (hmL : X.mg "list" = none) (hgZ : Gl X "zip") (hmZ : X.mg "zip" = none) (ha : PA X [a, b] ta)
  (h1 : starEach [a, b] X.env = [(false, eval a X.env), (false, eval b X.env)] := by rfl) (h2 : starEach [b] X.env = [(false, eval b X.env)] := by rfl) : PE X (.Call (.Name "list" p1) [.Call (.Name "zip" p2) [a, b] [] pos2] [] pos1) (Jx X.K ta) := by
 intro pins s σ H Q I h
 refine Call_ (yF I hgL hmL PyProof.Rows.boot_list (PyProof.Rows.callWith_type1 (Calls.spliced_cons (Call_ (yF I hgZ hmZ boot_zip (PyProof.Rows.callWith_type1 (thn (ha pos2 pins s σ H _ I h) fun us s1 g => ?_) (by rw [h1, h2]) (by rw [h2]; rfl))))) rfl rfl))
 obtain ⟨vs, H1, I1, r1, a1, b1, xs, ys, rfl, hq1, hq2, q⟩ := g
 obtain ⟨u, u', rfl, e1, e2⟩ := Zy r1
 cases e1
 cases e2
 obtain ⟨k1, i1, v1, q1, z1, l1⟩ := I1.sq hq1
 obtain ⟨k2, i2, v2, q2, z2, l2⟩ := I1.sq hq2
 refine wv q1 q2 fun h' Z sz kp => Calls.spliced_nil ?_
 have hh : X.A.handled = none := I1.ok.hd hc
 have n1 := v1.length
 have n2 := v2.length
 refine XG (s := { s1 with heap := h' }) (N := min xs.length ys.length) hh Z (q1.at fun o => kp _ o) (q2.at fun o => kp _ o) l1 l2 sz (by omega) (by rw [List.size_toArray]; omega) (by rw [List.size_toArray]; omega) (by rw [List.size_toArray, List.size_toArray]; omega) fun h'' acc c hl hs hp ho => ?_
 have pairs : ∀ i, i < min xs.length ys.length -> ∃ x y u v, xs[i]? = some x /\ ys[i]? = some y /\ i1[i]? = some u /\ i2[i]? = some v /\ RelV x u /\ RelV y v := fun i hi => by
  have c1 : i < xs.length := by omega
  have c2 : i < ys.length := by omega
  obtain ⟨u, e1, r1⟩ := v1.get (List.getElem?_eq_getElem c1)
  obtain ⟨v, e2, r2⟩ := v2.get (List.getElem?_eq_getElem c2)
  exact ⟨_, _, u, v, List.getElem?_eq_getElem c1, List.getElem?_eq_getElem c2, e1, e2, r1, r2⟩
 have I2 : Inv X pins σ (hpZ H1 s1.heap.objs.size (min xs.length ys.length) fun i => [xs.getD i .non, ys.getD i .non]) { s1 with heap := h'' } := by
  refine I1.zipped (us := fun i => #[i1.getD i .none, i2.getD i .none]) (acc := acc) (c := c) rfl (fun b o hb e => ho b o hb (kp _ _ e)) hl (by omega) hs (fun i hi => ?_) fun i hi => ?_
  ·obtain ⟨x, y, u, v, _, _, e1, e2, _⟩ := pairs i hi
   exact (hp i u v hi (by simpa using e1) (by simpa using e2)).1
  ·obtain ⟨x, y, u, v, f1, f2, e1, e2, r1, r2⟩ := pairs i hi
   refine ⟨by show 2 <= sizeLine; decide, ?_, ?_⟩
   ·rw [List.getD_eq_getElem?_getD, List.getD_eq_getElem?_getD, f1, f2]
    rw [List.getD_eq_getElem?_getD, List.getD_eq_getElem?_getD, e1, e2]
    exact .cons r1 (.cons r2 .nil)
   ·rw [List.getD_eq_getElem?_getD, List.getD_eq_getElem?_getD, e1, e2]
    exact (hp i u v hi (by simpa using e1) (by simpa using e2)).2
 have old : ∀ {c : Nat} {o}, H1 c = some o -> c < s1.heap.objs.size := fun e => I1.hok.lt e
 refine ⟨.ref (s1.heap.objs.size + 5), _, I2, rfl, q _ _ ((List.range (min xs.length ys.length)).map fun i => s1.heap.objs.size + 6 + i) (fun c o e => ?_) (I1.hok.fresh (Nat.le_add_right _ _)) ?_ (by simp) ?_ ?_ ?_⟩
 ·rw [yT (by have := old e; omega)]
  exact e
 ·rw [ZR, List.map_map]
  rfl
 ·intro t ht
  obtain ⟨i, _, rfl⟩ := List.mem_map.mp ht
  refine ⟨I1.hok.fresh ?_, ?_⟩
  ·show s1.heap.objs.size <= s1.heap.objs.size + 6 + i
   omega
  ·show s1.heap.objs.size + 6 + i ≠ s1.heap.objs.size + 5
   omega
 ·refine List.Pairwise.map _ (fun i j (ne : i ≠ j) e => ne ?_) List.nodup_range
  have e' : s1.heap.objs.size + 6 + i = s1.heap.objs.size + 6 + j := e
  exact Nat.add_left_cancel e'
 ·intro i x y hx hy
  have c1 : i < xs.length := (List.getElem?_eq_some_iff.mp hx).1
  have c2 : i < ys.length := (List.getElem?_eq_some_iff.mp hy).1
  refine ⟨s1.heap.objs.size + 6 + i, ?_, ?_⟩
  ·rw [List.getElem?_map, List.getElem?_range (by omega)]
   rfl
  ·rw [ZT (by omega), List.getD_eq_getElem?_getD, List.getD_eq_getElem?_getD, hx, hy]
   rfl
theorem VC (hc : X.calm = true) (hgL : Gl X "list") (hmL : X.mg "list" = none) (hgZ : Gl X "zip") (hmZ : X.mg "zip" = none) (ha : jA X [a, b] ta) (h1 : zz a = false := by rfl) (h2 : zz b = false := by rfl) :
  jE X (.Call (.Name "list" p1) [.Call (.Name "zip" p2) [a, b] [] pos2] [] pos1) (Jx X.K ta) := ⟨VB hc hgL hmL hgZ hmZ ha.out (by rw [zE h1, zE h2]; rfl) (by rw [zE h2]; rfl)⟩
end
end L2
namespace L2
open PySem PySem.Spec PyProof.Rows
def SqK (k : Bool) (K : PySem.W.Frag) (H : Hp) (a : Addr) (xs : List V) : Prop := match k with
 | true => SqL K H a xs
 | false => SqT K H a xs
theorem Inv.sqk {X : Cx} {pins : List (Addr × Obj)} {σ : St} {H : Hp} {s : Shared} {k : Bool} {a : Addr} {xs : List V} (I : Inv X pins σ H s) (h : SqK k X.K H a xs) : ∃ its : List Value, Vals xs its /\ Sq k s.heap a its.toArray /\ xs.length <= sizeLine /\ (a : Nat) < s.heap.objs.size := by
 cases k with
 | true =>
  obtain ⟨its, r, p, z⟩ := I.list h
  have ⟨o, n, e, _⟩ := p
  exact ⟨its, r, p.isList, z, Heap.lt_size e⟩
 | false =>
  obtain ⟨its, r, p, z⟩ := I.tuple h
  have ⟨o, e, _⟩ := p
  exact ⟨its, r, p, z, Heap.lt_size e⟩
theorem Inv.sqk_inj {X : Cx} {pins : List (Addr × Obj)} {σ : St} {H : Hp} {s : Shared} {k : Bool} {a : Addr} {xs ys : List V} (I : Inv X pins σ H s) (h : SqK k X.K H a xs) (h' : SqK k X.K H a ys) : xs = ys := by
 cases k with
 | true => exact I.list_inj h h'
 | false => exact I.tuple_inj h h'
def Itz (K : PySem.W.Frag) (k m : Bool) (a b : Addr) : It :=
 ⟨fun i H => ∃ xs ys x y, SqK k K H a xs /\ SqK m K H b ys /\ xs[i]? = some x /\ ys[i]? = some y,
   fun i H v H' => ∃ T x y, v = .ref T /\ H T = none /\ H' = upd H T (.tup [x, y]) /\ (∀ xs, SqK k K H a xs -> xs[i]? = some x) /\ ∀ ys, SqK m K H b ys -> ys[i]? = some y,
   fun i H => ∃ xs ys, SqK k K H a xs /\ SqK m K H b ys /\ (xs.length <= i \/ ys.length <= i)⟩
theorem KeptZ.of {B : Nat} {h h' : Heap} (z : KeptZ B h h') : ∀ (b : Nat) o, b ∉ [B, B + 1, B + 2, B + 3, B + 4] -> h.get? b = some o -> h'.get? b = some o := fun b o n e => z b o (by simp only [List.mem_cons, List.not_mem_nil, or_false, not_or] at n; omega) e
theorem ZU {k m : Bool} {h : Heap} {B l r n : Nat} {f g : Value} (Z : ZS k m h B l r n f g) : ∀ b ∈ [B, B + 1, B + 2, B + 3, B + 4], ∃ o, h.get? b = some o /\ ∀ v, o.data ≠ .cell v := by
 intro b hb
 simp only [List.mem_cons, List.not_mem_nil, or_false] at hb
 rcases hb with rfl | rfl | rfl | rfl | rfl
 ·obtain ⟨o, e, _, d⟩ := Z.i.ex
  exact ⟨o, e, fun v z => by rw [d] at z; cases z⟩
 ·obtain ⟨o, e, _, d⟩ := Z.j.ex
  exact ⟨o, e, fun v z => by rw [d] at z; cases z⟩
 ·exact ⟨_, Z.ti, fun v z => by cases z⟩
 ·obtain ⟨x, y, e⟩ := Z.to
  exact ⟨_, e, fun v z => by cases z⟩
 ·exact ⟨_, Z.z, fun v z => by cases z⟩
theorem XH {P : Program} {w : World} {K : PySem.W.Frag} {elts : List Expr} {n : Nat} {pos : Pos} {k m : Bool} {a b : Addr} {B : Nat} (la : (a : Nat) < B) (lb : (b : Nat) < B) :
  Turn P w K (.Tuple elts n pos) (Itz K k m a b) [B, B + 1, B + 2, B + 3, B + 4] (B + 4) (fun i h => ZS k m h B a b i .none (.bool false)) where
 mem := by simp
 obj := fun i h st => ZU st
 keep := fun i h h' st kp => st.at fun c o h1 h2 e => kp c (by
  have : c = B \/ c = B + 1 \/ c = B + 2 \/ c = B + 3 \/ c = B + 4 := by omega
  simpa using this) o e
 item := by
  intro X hP hw hK hc i pins s σ H E I hf st hg
  subst hP hw hK
  obtain ⟨xs, ys, x, y, h1, h2, hx, hy⟩ := hg
  obtain ⟨i1, v1, q1, z1, l1⟩ := I.sqk h1
  obtain ⟨i2, v2, q2, z2, l2⟩ := I.sqk h2
  obtain ⟨u, eu, ru⟩ := v1.get hx
  obtain ⟨v, ev, rv⟩ := v2.get hy
  have ty : s.TypeIs (.ref (B + 4)) "zip" := ⟨_, st.z, rfl⟩
  unfold pyNext
  refine wpAny_bind (wpAny_attempt (wpAny_callSpecial?_slot ty F.slot_zip_next (wpAny_call_entry F.slot_zip_next ty F.entry_zip_next ?_ (F.args_zip_next_1 (.ref (B + 4))))))
  refine jl st q1 q2 la lb (by simpa using eu) (by simpa using ev) fun h' z p sz kz => wpAny_pure ⟨_, rfl, ?_⟩
  have new : ObjOk X.prog X.w (upd H s.heap.objs.size (.tup [x, y])) h' s.heap.objs.size (.tup [x, y]) := ⟨by show 2 <= sizeLine; decide, [u, v], .cons ru (.cons rv .nil), ⟨_, p, rfl, rfl, _, rfl⟩⟩
  have I1 : Inv X pins σ (upd H s.heap.objs.size (.tup [x, y])) { s with heap := h' } := I.turnsLaid (t' := s.toks) (ch := [B, B + 1, B + 2, B + 3, B + 4]) kz.of hf (Nat.le_refl _) new
  have hn : ∀ c ∈ [B, B + 1, B + 2, B + 3, B + 4], upd H s.heap.objs.size (.tup [x, y]) c = none := fun c hc => by
   obtain ⟨o, e, _⟩ := ZU st c hc
   rw [zm (Nat.ne_of_lt (Heap.lt_size e))]
   exact (hf c hc).1
  have hf1 : ∀ c ∈ [B, B + 1, B + 2, B + 3, B + 4], FpOk X pins (upd H s.heap.objs.size (.tup [x, y])) c := fun c hc => ⟨hn c hc, (hf c hc).2⟩
  refine wpAny_letOwnedTupleGo_zip z.z fun h3 z2 u2 => ?_
  have I2 : Inv X pins σ (upd H s.heap.objs.size (.tup [x, y])) { s with heap := h3 } := Inv.turns (s := { s with heap := h' }) (t' := s.toks) (ch := [B, B + 1, B + 2, B + 3, B + 4]) I1 (fun c o hc e => (u2.2 c fun z => hc (by simp [z])).trans e) hf1
  refine ⟨.ref s.heap.objs.size, _, I2, rfl, ⟨_, x, y, rfl, I.fresh, rfl, fun zs hz => by rw [I.sqk_inj hz h1]; exact hx, fun zs hz => by rw [I.sqk_inj hz h2]; exact hy⟩, ?_, hn⟩
  have up : ∀ (c : Nat) o, c ≠ B + 4 -> h'.get? c = some o -> h3.get? c = some o := fun c o n e => (u2.2 c n).trans e
  exact ⟨z2, up _ _ (by omega) z.ti, let ⟨c, d, e⟩ := z.to; ⟨c, d, up _ _ (by omega) e⟩, z.i.at fun o e => up _ _ (by omega) e, z.j.at fun o e => up _ _ (by omega) e⟩
 done := by
  intro X hP hw hK hc i pins s σ H E I hf st hg
  subst hP hw hK
  obtain ⟨xs, ys, h1, h2, hl⟩ := hg
  obtain ⟨i1, v1, q1, z1, l1⟩ := I.sqk h1
  obtain ⟨i2, v2, q2, z2, l2⟩ := I.sqk h2
  have n1 := v1.length
  have n2 := v2.length
  refine wx (I.ok.hd hc) st (.inl rfl) q1 q2 la lb ?_ fun h' kz => ⟨rfl, I.turns (t' := s.toks) (ch := [B, B + 1, B + 2, B + 3, B + 4]) kz.of hf⟩
  rcases hl with hl | hl
  ·exact .inl (by simp; omega)
  ·exact .inr (by simp; omega)
 self := fun _ _ _ _ _ st h => by
  have ty : Shared.TypeIs _ (.ref (B + 4)) "zip" := ⟨_, st.z, rfl⟩
  exact wpAny_pyIter_slot ty F.slot_zip_iter (wpAny_call_entry F.slot_zip_iter ty F.entry_zip_iter (wpAny_pure ⟨_, rfl, "zip", _, ty, F.slot_zip_next.lookup, h⟩) (F.args_zip_iter_1 (.ref (B + 4))))
section
variable {X : Cx} {elts : List Expr} {n : Nat} {tpos : Pos}
def iZip (K : PySem.W.Frag) (ta : TA) : TI := fun σ H R => ta σ H fun vs H1 => ∃ a b k m xs ys, vs = [.ref a, .ref b] /\ SqK k K H1 a xs /\ SqK m K H1 b ys /\ R (Itz K k m a b) H1
theorem qG {a b : Expr} {ta : TA} {p pos : Pos} (hg : Gl X "zip") (hm : X.mg "zip" = none) (ha : PA X [a, b] ta) (h1 : starEach [a, b] X.env = [(false, eval a X.env), (false, eval b X.env)] := by rfl) (h2 : starEach [b] X.env = [(false, eval b X.env)] := by rfl) :
  PI X (.Tuple elts n tpos) (.Call (.Name "zip" p) [a, b] [] pos) (iZip X.K ta) := by
 intro pins s σ H R I h
 refine Call_ (yF I hg hm boot_zip (PyProof.Rows.callWith_type1 (thn (ha pos pins s σ H _ I h) fun us s1 g => ?_) (by rw [h1, h2]) (by rw [h2]; rfl)))
 obtain ⟨vs, H1, I1, r1, a1, b1, k, m, xs, ys, rfl, g1, g2, q⟩ := g
 obtain ⟨u, u', rfl, e1, e2⟩ := Zy r1
 cases e1
 cases e2
 obtain ⟨i1, v1, q1, z1, l1⟩ := I1.sqk g1
 obtain ⟨i2, v2, q2, z2, l2⟩ := I1.sqk g2
 refine wv q1 q2 fun h' Z sz kp => ?_
 have tz := XH (P := X.prog) (w := X.w) (K := X.K) (elts := elts) (n := n) (pos := tpos) (k := k) (m := m) l1 l2
 refine tz.self X.A 0 { s1 with heap := h' } _ _ Z ⟨s1.heap.objs.size + 4, _, _, _, H1, rfl, I1.kept (t' := s1.toks) kp, tz, Z, fun c hc => ?_, q⟩
 have hc' : c = s1.heap.objs.size \/ c = s1.heap.objs.size + 1 \/ c = s1.heap.objs.size + 2 \/ c = s1.heap.objs.size + 3 \/ c = s1.heap.objs.size + 4 := by simpa using hc
 have le : s1.heap.objs.size <= c := by
  rcases hc' with e | e | e | e | e <;> rw [e] <;> first | exact Nat.le_refl _ | exact Nat.le_add_right _ _
 exact I1.fpOk le (I1.hok.fresh le)
theorem qH {a b : Expr} {t : TA} {p pos : Pos} (hg : Gl X "zip") (hm : X.mg "zip" = none) (ha : jA X [a, b] t) (h1 : zz a = false := by rfl) (h2 : zz b = false := by rfl) : jI X (.Tuple elts n tpos) (.Call (.Name "zip" p) [a, b] [] pos) (iZip X.K t) :=
 ⟨qG hg hm ha.out (by rw [zE h1, zE h2]; rfl) (by rw [zE h2]; rfl)⟩
end
end L2
namespace L2
open PySem PySem.Spec PyProof.Rows
end L2
namespace L2
open PySem PySem.Spec PyProof.Rows
section
variable (P : Program) (w : World)
end
section
variable {P : Program} {w : World} {H H' : Hp} {h h' : Heap} {a : Addr} {o : HO}
end
section
variable {P : Program} {w : World} {H : Hp} {h h' : Heap} {x e : Addr} {o' : HO}
end
section
variable {fs fs' ex ex' : List Addr} {H H1 H2 : Hp} {h h1 h2 h' : Heap} {a x e : Addr} {o : HO}
end
end L2
namespace L2
open PySem PySem.Spec PyProof.Rows
section
variable {X : Cx} {pins : List (Addr × Obj)} {σ : List (Option V)} {H H' : Hp} {s : Shared} {h' : Heap}
end
end L2
namespace L2
open PySem PySem.Spec PyProof.Rows
section
variable {X : Cx}
variable {a b : Expr} {ta tb : TE} {pos : Pos}
variable {tA tB' : TT} {rest : List Expr}
end
end L2
namespace L2
open PySem PySem.Spec PyProof.Rows
section
variable {X : Cx} {pins : List (Addr × Obj)} {σ : St} {H : Hp} {s : Shared} {a : Addr} {xs ys : List V}
end
section
variable {X : Cx} {pins : List (Addr × Obj)} {σ : St} {H : Hp} {s : Shared} {E : Value -> Shared -> Prop}
end
section
variable {X : Cx} {st : Stmt} {rest : List Stmt} {t u : TS} {e : Expr} {te : TE} {pos : Pos}
end
section
variable {X : Cx} {pos : Pos}
end
section
variable {X : Cx} {pos : Pos}
end
end L2
namespace L2
open PySem PySem.Spec PyProof.Rows
section
variable {X : Cx} {tg : Expr}
end
end L2
namespace L2
open PySem PySem.Spec PyProof.Rows
section
variable {X : Cx} {a b c : Expr} {ta tb tc : TE} {pos : Pos}
end
section
variable {X : Cx} {a b c : Expr} {ta tb tc : TE} {pos : Pos}
end
end L2
namespace L2
open PySem PySem.Spec PyProof.Rows
section
variable {prog : Program} {w : World} {A : Around} {E : Value -> Shared -> Prop} {s : Shared} {K : PySem.W.Frag} {x dx C f : Addr} {mA : Str -> Option Value} {name : Str} {v : Value}
end
section
variable {P : Program} {w : World} {H H' : Hp} {h h' : Heap} {a C dx : Addr} {fs fs' : List (Str × V)}
end
section
variable {X : Cx} {pins : List (Addr × Obj)} {σ : St} {H : Hp} {s : Shared} {a C dx : Addr} {fs : List (Str × V)} {f : Str} {v : V} {A : Around} {E : Value -> Shared -> Prop}
end
section
variable {X : Cx} {o e value : Expr} {f : Str} {pos pos' tpos : Pos} {ta tv : TE}
end
section
variable {X : Cx} {pins : List (Addr × Obj)} {σ : St} {H : Hp} {s : Shared} {A : Around} {E : Value -> Shared -> Prop} {Q : Value -> Shared -> Prop} {c : Value} {b : Bool}
end
end L2
namespace L2
open PySem PySem.Spec PyProof.Rows
section
variable {X : Cx} {e : Expr} {es : List Expr} {te : TE} {t : TA} {pos : Pos}
end
section
variable {X : Cx} {pins : List (Addr × Obj)} {σ : St} {H : Hp} {s s' : Shared}
end
section
variable {X : Cx} {CX : CXT} {k : Nat} {f C : Addr} {fd : FuncData} {ps : List Str} {sp : Sp} {dvs : List V} {ds : List Value} {E : XK} {x m : Str} {p pos apos : Pos} {e o : Expr} {es : List Expr} {ta : TE} {t : TA}
end
section
variable {X : Cx} {CX : CXT} {k : Nat} {f C : Addr} {fd : FuncData} {ps ks : List Str} {sp : Sp} {E : XK} {x m : Str} {p pos apos kpos : Pos} {e o : Expr} {es : List Expr} {kws : List Keyword} {te ta : TE} {t tk : TA} {nm : Option Str}
variable {g : List Value -> List Value -> List Value} {gV : List V -> List V -> List V}
end
end L2
namespace L2
open PySem PySem.Spec PyProof.Rows
section
variable {X : Cx} {x : Str} {p pos : Pos} {e : Expr} {es : List Expr} {t : TA} {id T : String} {r : List V -> Hp -> VK -> Prop}
end
end L2
namespace L2
open PySem PySem.Spec PyProof.Rows
section
variable {κ : Type} [DecidableEq κ]
def valV (kvs : List (κ × V)) (k : κ) : Option V := (kvs.find? fun kv => decide (kv.1 = k)).map (·.2)
def putK (kvs : List (κ × V)) (k : κ) (v : V) : List (κ × V) :=
 if (kvs.any fun kv => decide (kv.1 = k)) = true then kvs.map (fun kv => if kv.1 = k then (kv.1, v) else kv) else kvs ++ [(k, v)]
theorem zT {p : κ × V} {r : List (κ × V)} {k : κ} (e : p.1 = k) : valV (p :: r) k = some p.2 := by simp [valV, List.find?_cons, e]
theorem ya {p : κ × V} {r : List (κ × V)} {k : κ} (e : ¬ p.1 = k) : valV (p :: r) k = valV r k := by simp [valV, List.find?_cons, e]
theorem xA (k : κ) : ∀ kvs : List (κ × V), (kvs.any fun kv => decide (kv.1 = k)) = (valV kvs k).isSome
 | [] => rfl
 | p :: r => by
  rw [List.any_cons]
  by_cases e : p.1 = k
  ·simp only [zT e, decide_eq_true e, Bool.true_or, Option.isSome_some]
  ·rw [ya e, decide_eq_false e, Bool.false_or]; exact xA k r
theorem jp (k j : κ) (y : V) : ∀ kvs : List (κ × V), valV (kvs.map fun kv => if kv.1 = k then (kv.1, y) else kv) j = (valV kvs j).map fun x => if j = k then y else x
 | [] => rfl
 | p :: r => by
  have ih := jp k j y r
  rw [List.map_cons]
  by_cases h : p.1 = k
  ·rw [if_pos h]
   by_cases e : p.1 = j
   ·rw [zT (p := (p.1, y)) e, zT e, Option.map_some, if_pos (e.symm.trans h)]
   ·rw [ya (p := (p.1, y)) e, ya e, ih]
  ·rw [if_neg h]
   by_cases e : p.1 = j
   ·rw [zT (p := p) e, zT e, Option.map_some, if_neg (fun z => h (e.trans z))]
   ·rw [ya (p := p) e, ya e, ih]
theorem vb (k j : κ) (y : V) : ∀ kvs : List (κ × V), valV kvs k = none -> valV (kvs ++ [(k, y)]) j = if j = k then some y else valV kvs j
 | [], _ => by
  by_cases e : k = j
  ·rw [if_pos e.symm]; exact zT (p := (k, y)) e
  ·rw [if_neg (fun z => e z.symm)]; exact ya (p := (k, y)) e
 | p :: r, hn => by
  rw [List.cons_append]
  have hk : ¬ p.1 = k := fun z => by rw [zT z] at hn; cases hn
  rw [ya hk] at hn
  have ih := vb k j y r hn
  by_cases e : p.1 = j
  ·rw [zT e, zT e, if_neg (fun z => hk (e.trans z))]
  ·rw [ya e, ya e, ih]
theorem wy (kvs : List (κ × V)) (k j : κ) (y : V) : valV (putK kvs k y) j = if j = k then some y else valV kvs j := by
 unfold putK
 by_cases a : (kvs.any fun kv => decide (kv.1 = k)) = true
 ·rw [if_pos a, jp]
  rw [xA] at a
  by_cases e : j = k
  ·obtain ⟨x, hx⟩ := Option.isSome_iff_exists.mp a
   rw [if_pos e, e, hx, Option.map_some, if_pos rfl]
  ·rw [if_neg e]
   cases valV kvs j with
   | none => rfl
   | some x => rw [Option.map_some, if_neg e]
 ·rw [if_neg a]
  refine vb k j y kvs ?_
  rw [xA] at a
  cases q : valV kvs k with
  | none => rfl
  | some x => rw [q] at a; exact (a rfl).elim
theorem yL (kvs : List (κ × V)) (k : κ) (v : V) : (putK kvs k v).length <= kvs.length + 1 := by
 unfold putK
 split
 ·rw [List.length_map]; omega
 ·rw [List.length_append, List.length_cons, List.length_nil]; omega
theorem RelO.isSome_eq {o : Option V} {u : Option Value} (r : RelO o u) : o.isSome = u.isSome := by
 cases o with
 | none => cases u with
  | none => rfl
  | some _ => exact (show False from r).elim
 | some _ => cases u with
  | none => exact (show False from r).elim
  | some _ => rfl
theorem RelO.getD {o : Option V} {u : Option Value} {d : V} {d' : Value} (r : RelO o u) (rd : RelV d d') : RelV (o.getD d) (u.getD d') := by
 cases o with
 | none => cases u with
  | none => exact rd
  | some _ => exact (show False from r).elim
 | some _ => cases u with
  | none => exact (show False from r).elim
  | some _ => exact r
theorem KV.val {kvs : List (κ × V)} {vs : List (κ × Value)} (r : KV kvs vs) (k : κ) : RelO (valV kvs k) (valueAt vs k) := by
 unfold KV at r
 induction r with
 | nil => exact True.intro
 | @cons p q ps qs h t ih =>
  obtain ⟨h1, h2⟩ := h
  by_cases e : p.1 = k
  ·have e' : q.1 = k := h1.symm.trans e
   have b : valueAt (q :: qs) k = some q.2 := by simp [valueAt, List.find?_cons, e']
   rw [zT e, b]; exact h2
  ·have e' : ¬ q.1 = k := fun z => e (h1.trans z)
   have b : valueAt (q :: qs) k = valueAt qs k := by simp [valueAt, List.find?_cons, e']
   rw [ya e, b]; exact ih
theorem KV.any {kvs : List (κ × V)} {vs : List (κ × Value)} (r : KV kvs vs) (k : κ) : (kvs.any fun kv => decide (kv.1 = k)) = vs.any fun kv => decide (kv.1 = k) := by
 unfold KV at r
 induction r with
 | nil => rfl
 | cons h t ih => rw [List.any_cons, List.any_cons, ih, h.1]
theorem KV.repl {kvs : List (κ × V)} {vs : List (κ × Value)} (r : KV kvs vs) (k : κ) {y : V} {u : Value} (ry : RelV y u) :
  KV (kvs.map fun kv => if kv.1 = k then (kv.1, y) else kv) (vs.map fun kv => if kv.1 = k then (kv.1, u) else kv) := by
 unfold KV at r ⊢
 induction r with
 | nil => exact .nil
 | @cons p q ps qs h t ih =>
  rw [List.map_cons, List.map_cons]
  refine .cons ?_ ih
  obtain ⟨h1, h2⟩ := h
  by_cases e : p.1 = k
  ·rw [if_pos e, if_pos (h1.symm.trans e)]; exact ⟨h1, ry⟩
  ·rw [if_neg e, if_neg (fun z => e (h1.trans z))]; exact ⟨h1, h2⟩
theorem KV.put {kvs : List (κ × V)} {vs : List (κ × Value)} (r : KV kvs vs) (k : κ) {y : V} {u : Value} (ry : RelV y u) : KV (putK kvs k y) (stored vs k u) := by
 unfold putK stored
 rw [r.any k]
 by_cases e : (vs.any fun kv => decide (kv.1 = k)) = true
 ·rw [if_pos e, if_pos e]; exact r.repl k ry
 ·rw [if_neg e, if_neg e]; exact Paired.snoc r ⟨rfl, ry⟩
theorem KV.length {kvs : List (κ × V)} {vs : List (κ × Value)} (r : KV kvs vs) : kvs.length = vs.length := Paired.length r
end
theorem jq {P : Program} {w : World} {k : Key} {u : Value} (r : RelV (kV k) u) : (zP P w).is k u = true := by
 cases k with
 | inl i => obtain ⟨t, e⟩ := (show ∃ t, u = Value.int i t from r); subst e; exact vZ P w i t
 | inr x => obtain ⟨t, e⟩ := (show ∃ t, u = Value.str x t from r); subst e; exact xT P w x t
theorem vc {P : Program} {w : World} : ∀ {ks : List Key} {us : List Value}, Vals (ks.map kV) us -> ItemsAre (zP P w) ks us
 | [], _, r => by rw [List.map_nil] at r; cases r; exact .nil
 | k :: ks, _, r => by
  rw [List.map_cons] at r
  cases r with
  | cons h t => exact .cons (jq h) (vc t)
abbrev KT (H : Hp) : List (List Key × V) -> List (List Key × Addr × Value) -> Prop := Paired fun p q => p.1 = q.1 /\ H q.2.1 = some (.tup (p.1.map kV)) /\ RelV p.2 q.2.2
theorem KT.val {H : Hp} {kvs : List (List Key × V)} {xs : List (List Key × Addr × Value)} (r : KT H kvs xs) (k : List Key) : RelO (valV kvs k) ((atKey xs k).map (·.2)) := by
 induction r with
 | nil => exact True.intro
 | @cons p q ps qs h t ih =>
  obtain ⟨h1, _, h2⟩ := h
  by_cases e : p.1 = k
  ·have e' : q.1 = k := h1.symm.trans e
   have b : atKey (q :: qs) k = some q.2 := by simp [atKey, List.find?_cons, e']
   rw [zT e, b]; exact h2
  ·have e' : ¬ q.1 = k := fun z => e (h1.trans z)
   have b : atKey (q :: qs) k = atKey qs k := by simp [atKey, List.find?_cons, e']
   rw [ya e, b]; exact ih
theorem KT.repl {H : Hp} {kvs : List (List Key × V)} {xs : List (List Key × Addr × Value)} (r : KT H kvs xs) (k : List Key) {y : V} {u : Value} (ry : RelV y u) :
  KT H (kvs.map fun kv => if kv.1 = k then (kv.1, y) else kv) (xs.map (putAt k u)) := by
 induction r with
 | nil => exact .nil
 | @cons p q ps qs h t ih =>
  rw [List.map_cons, List.map_cons]
  refine .cons ?_ ih
  obtain ⟨h1, h2, h3⟩ := h
  unfold putAt
  by_cases e : p.1 = k
  ·rw [if_pos e, if_pos (h1.symm.trans e)]; exact ⟨h1, h2, ry⟩
  ·rw [if_neg e, if_neg (fun z => e (h1.trans z))]; exact ⟨h1, h2, h3⟩
theorem KT.put {H : Hp} {kvs : List (List Key × V)} {xs : List (List Key × Addr × Value)} (r : KT H kvs xs) (k : List Key) {b : Addr} {y : V} {u : Value} (hb : H b = some (.tup (k.map kV))) (ry : RelV y u) :
  KT H (putK kvs k y) (storedH xs k b u) := by
 have e : (kvs.any fun kv => decide (kv.1 = k)) = (atKey xs k).isSome := by
  rw [xA, (r.val k).isSome_eq, Option.isSome_map]
 unfold putK storedH
 rw [e]
 by_cases q : (atKey xs k).isSome = true
 ·rw [if_pos q, if_pos q]; exact r.repl k ry
 ·rw [if_neg q, if_neg q]; exact Paired.snoc r ⟨rfl, hb, ry⟩
theorem KT.keeps {H H' : Hp} {kvs : List (List Key × V)} {xs : List (List Key × Addr × Value)} (r : KT H kvs xs) (ht : ∀ b ys, H b = some (.tup ys) -> H' b = some (.tup ys)) : KT H' kvs xs :=
 Paired.mapP r fun _ _ z => ⟨z.1, ht _ _ z.2.1, z.2.2⟩
section
variable {P : Program} {w : World} {H : Hp} {h : Heap} {a : Addr}
theorem Jy {u : HO} (ok : HOk P w H h) (e : Rd H a u) : ObjOk P w H h a u := e.ok ok
theorem vd {kvs : List (Key × V)} (ok : HOk P w H h) (e : Rd H a (.dK kvs)) : kvs.length <= sizeLine /\ (a == sysModules) = false /\ ∃ vs, KV kvs vs /\ h.DictOf (zP P w) a vs :=
 show ObjOk P w H h a (.dK kvs) from Jy ok e
theorem XI {kvs : List (Key × V)} (ok : HOk P w H h) (e : H a = some (.dK kvs)) : kvs.length <= sizeLine /\ (a == sysModules) = false /\ ∃ vs, KV kvs vs /\ h.DictOf (zP P w) a vs := vd ok (.inl e)
theorem wz {ks : List Key} (ok : HOk P w H h) (e : H a = some (.tup (ks.map kV))) : (tupleKind (zP P w)).is h ks a := by
 obtain ⟨_, its, r, o, h1, h2, _, n, h3⟩ := (show ObjOk P w H h a (.tup (ks.map kV)) from ok a _ e)
 exact ⟨o, its.toArray, n, h1, h2, h3, by simpa using vc r⟩
theorem ve {kvs : List (List Key × V)} (ok : HOk P w H h) (e : Rd H a (.dT kvs)) : kvs.length <= sizeLine /\ (a == sysModules) = false /\
  ∃ xs, KT H kvs xs /\ h.DictOfH (tupleKind (zP P w)) a xs := by
 obtain ⟨z, y, xs, r, o, es, ep, h1, h2, h3, h4, h5⟩ := (show ObjOk P w H h a (.dT kvs) from Jy ok e)
 refine ⟨z, y, xs, r, o, es, ep, h1, h2, h3, h4, fun x hx => ?_, h5⟩
 have all : ∀ {l : List (List Key × V)} {m : List (List Key × Addr × Value)}, KT H l m -> ∀ x ∈ m, (tupleKind (zP P w)).is h x.1 x.2.1 := by
  intro l m q
  induction q with
  | nil => intro x hx; exact nomatch hx
  | @cons p q ps qs hq t ih =>
   intro x hx
   rcases List.mem_cons.mp hx with e | hx
   ·subst e
    exact wz ok (by rw [<- hq.1]; exact hq.2.1)
   ·exact ih x hx
 exact all r x hx
theorem QH {kvs : List (List Key × V)} (ok : HOk P w H h) (e : H a = some (.dT kvs)) : kvs.length <= sizeLine /\ (a == sysModules) = false /\
  ∃ xs, KT H kvs xs /\ h.DictOfH (tupleKind (zP P w)) a xs := ve ok (.inl e)
end
def DGet (H : Hp) (a : Addr) (y : V) (r : Option V) : Prop :=
 (∃ kvs k, Rd H a (.dK kvs) /\ y = kV k /\ r = valV kvs k) \/ ∃ kvs k b, Rd H a (.dT kvs) /\ y = .ref b /\ H b = some (.tup (k.map kV)) /\ r = valV kvs k
def DPut (H : Hp) (a : Addr) (y v : V) (H' : Hp) : Prop :=
 (∃ kvs k, H a = some (.dK kvs) /\ y = kV k /\ kvs.length < sizeLine /\ H' = upd H a (.dK (putK kvs k v))) \/
 ∃ kvs k b, H a = some (.dT kvs) /\ y = .ref b /\ H b = some (.tup (k.map kV)) /\ kvs.length < sizeLine /\ H' = upd H a (.dT (putK kvs k v))
theorem DGet.k {H : Hp} {a : Addr} {kvs : List (Key × V)} {k : Key} (e : H a = some (.dK kvs)) : DGet H a (kV k) (valV kvs k) := .inl ⟨kvs, k, .inl e, rfl, rfl⟩
theorem DPut.k {H : Hp} {a : Addr} {kvs : List (Key × V)} {k : Key} {v : V} (e : H a = some (.dK kvs)) (hl : kvs.length < sizeLine) : DPut H a (kV k) v (upd H a (.dK (putK kvs k v))) := .inl ⟨kvs, k, e, rfl, hl, rfl⟩
section
variable {X : Cx} {pins : List (Addr × Obj)} {σ : St} {H : Hp} {s : Shared} {a : Addr} {y v : V} {u r : Value} {o : Option V} {A : Around} {E : Value -> Shared -> Prop}
theorem Inv.big (I : Inv X pins σ H s) : sysModules < s.heap.objs.size := by
 have h : mainGlobals < s.heap.objs.size := (I.mod.glob.keeps I.bk).lt
 exact Nat.lt_trans (by decide) h
theorem Yy {Q : Value -> Shared -> Prop} (hu : A.units + 1 < cLine) (I : Inv X pins σ H s) (g : DGet H a y (some v)) (ry : RelV y u) (h : ∀ w' s', Inv X pins σ H s' -> RelV v w' -> Q w' s') :
  wpAny (model X.prog X.w) A (getItem (.ref a) u) Q E s := by
 rcases g with ⟨kvs, k, e, ey, l⟩ | ⟨kvs, k, b, e, ey, eb, l⟩
 ·subst ey
  obtain ⟨z, hd, vs, rel, dd⟩ := vd I.hok e
  obtain ⟨w', hw, rw'⟩ := RelO.some_of (v := v) (o := valueAt vs k) (by rw [l]; exact rel.val k)
  exact wpAny_getItem_of (jq ry) dd.mapOf hw (h w' _ (I.tok _) rw')
 ·subst ey
  cases (show u = Value.ref b from ry)
  obtain ⟨z, hd, xs, rel, dd⟩ := ve I.hok e
  obtain ⟨w', hw, rw'⟩ := RelO.some_of (v := v) (o := (atKey xs k).map (·.2)) (by rw [l]; exact rel.val k)
  obtain ⟨p, hp, hp2⟩ := Option.map_eq_some_iff.mp hw
  refine wpAny_getItem_heap (tupleKind_room_in1 hu) (wz I.hok eb) dd hp ?_
  rw [hp2]
  exact h w' _ (I.tok _) rw'
theorem VD {Q : Value -> Shared -> Prop} (hu : A.units + 1 < cLine) (I : Inv X pins σ H s) (g : DGet H a y o) (ry : RelV y u) (h : ∀ s', Inv X pins σ H s' -> Q (.bool (!o.isSome)) s') :
  wpAny (model X.prog X.w) A (compareOp .NotIn u (.ref a)) Q E s := by
 rcases g with ⟨kvs, k, e, ey, l⟩ | ⟨kvs, k, b, e, ey, eb, l⟩
 ·subst ey
  obtain ⟨z, hd, vs, rel, dd⟩ := vd I.hok e
  refine wpAny_notIn_of (jq ry) hd dd.mapOf ?_
  rw [<- (rel.val k).isSome_eq, <- l]
  exact h _ (I.tok _)
 ·subst ey
  cases (show u = Value.ref b from ry)
  obtain ⟨z, hd, xs, rel, dd⟩ := ve I.hok e
  refine wpAny_notIn_heap (tupleKind_room_in1 hu) (wz I.hok eb) hd dd ?_
  have q := (rel.val k).isSome_eq
  rw [Option.isSome_map] at q
  rw [<- q, <- l]
  exact h _ (I.tok _)
theorem vE {h' : Heap} {t' : Nat} {ob : HO} (I : Inv X pins σ H s) (mu : Mut (H a)) (hs : Heap.SameBut a s.heap h') (he : ∃ q, h'.get? a = some q) (new : ObjOk X.prog X.w (upd H a ob) h' a ob) :
  Inv X pins σ (upd H a ob) { s with heap := h', toks := t' } :=
 I.write (x := a) (e := a) mu (.inl rfl) (fun b q hb z => (hs.2 b hb).trans z) he new
theorem XJ {P : Program} {w : World} {H' : Hp} {h' : Heap} {kvs : List (Key × V)} {vs : List (Key × Value)} (z : kvs.length <= sizeLine) (hd : (a == sysModules) = false) (rel : KV kvs vs) (dd : h'.DictOf (zP P w) a vs) :
  ObjOk P w H' h' a (.dK kvs) := ⟨z, hd, vs, rel, dd⟩
theorem Yz {H' : Hp} {Q : Unit -> Shared -> Prop} (hu : A.units + 1 < cLine) (I : Inv X pins σ H s) (g : DPut H a y v H') (ry : RelV y u) (rv : RelV v r) (h : ∀ s', Inv X pins σ H' s' -> Q () s') :
  wpAny (model X.prog X.w) A (setItem (.ref a) u r) Q E s := by
 rcases g with ⟨kvs, k, e, ey, l, eH⟩ | ⟨kvs, k, b, e, ey, eb, l, eH⟩
 ·subst ey eH
  obtain ⟨z, hd, vs, rel, dd⟩ := XI I.hok e
  have hz : vs.length <= sizeLine := by rw [<- rel.length]; exact z
  have hl : (putK kvs k v).length <= sizeLine := by have := yL kvs k v; omega
  refine wpAny_setItem_pairs (hsz := hz) (jq ry) dd fun h' dd' hs => h _ ?_
  have he : ∃ q, h'.get? a = some q := let ⟨q, _, _, hq, _⟩ := dd'; ⟨q, hq⟩
  exact vE I (by rw [e]; exact True.intro) hs he (XJ hl hd (rel.put k rv) dd')
 ·subst ey eH
  cases (show u = Value.ref b from ry)
  obtain ⟨z, hd, xs, rel, dd⟩ := QH I.hok e
  have hz : xs.length <= sizeLine := by rw [<- Paired.length rel]; exact z
  have hl : (putK kvs k v).length <= sizeLine := by have := yL kvs k v; omega
  refine wpAny_setItem_heap (hsz := hz) (tupleKind_room_in1 hu) (wz I.hok eb) dd fun h' dd' hs => h _ ?_
  obtain ⟨q, es, ep, hq, h2, h3, h4, _, h5⟩ := dd'
  refine vE I (by rw [e]; exact True.intro) hs ⟨q, hq⟩ ⟨hl, hd, _, (rel.put k eb rv).keeps fun c ys ec => ?_, q, es, ep, hq, h2, h3, h4, h5⟩
  rw [zm (ye ec e (fun z => nomatch z))]
  exact ec
end
section
variable {X : Cx} {pins : List (Addr × Obj)} {σ : St} {H : Hp} {s : Shared} {a : Addr} {kvs : List (Key × V)} {k : Key} {u : Value} {A : Around} {E : Value -> Shared -> Prop}
end
def NoSl (i : Expr) : Prop := ∀ ov iv, subscripted i false ov iv = operate [ov, iv] (getItem ov iv)
theorem VE {prog : Program} {w : World} {A : Around} {E : Value -> Shared -> Prop} {s : Shared} {env : Env} {value slice : Expr} {pos : Pos} {T id : String} {Q : Value -> Shared -> Prop}
  (hl : typeLookup (.type T) "__getitem__" = pure (some (.builtin id))) (hs : NoSl slice)
  (h : wpAny (model prog w) A (eval value env) (fun o s₁ => wpAny (model prog w) A (eval slice env) (fun i s₂ => s₂.TypeIs o T /\ wpAny (model prog w) A (getItem o i) Q E s₂) E s₁) E s) :
  wpAny (model prog w) A (eval (.Subscript value slice pos) env) Q E s := by
 refine Subscript_ (wpAny_mono h (fun o s₁ h₁ => wpAny_mono h₁ (fun i s₂ h₂ => ?_) fun _ _ x => x) fun _ _ x => x)
 obtain ⟨hT, h₂⟩ := h₂
 unfold subscriptTail
 refine wpAny_bind ?_
 rw [getitemInPython_of_ne hT.not_modules]
 refine wpAny_bind (wpAny_specialOf hT hl ?_)
 have fin : wpAny (model prog w) A (subscripted slice false o i) (fun r s₃ => wpAny (model prog w) A (letTemporaryGo value o r >>= fun _ => pure r) Q E s₃) E s₂ := by
  rw [hs o i]
  exact wpAny_operating (wpAny_mono h₂ (fun r s₃ h₃ => wpAny_bind (wpAny_letTemporaryGo (wpAny_pure h₃))) fun _ _ x => x)
 first
  | exact wpAny_pure (wpAny_bind fin)
  | exact wpAny_bind (wpAny_pure (wpAny_bind fin))
  | exact wpAny_bind fin
theorem jr {X : Cx} {pins : List (Addr × Obj)} {σ : St} {H : Hp} {s : Shared} {a : Addr} {y : V} {o : Option V} (I : Inv X pins σ H s) (g : DGet H a y o) : s.TypeIs (.ref a) "dict" := by
 rcases g with ⟨kvs, k, e, _, _⟩ | ⟨kvs, k, b, e, _, _, _⟩
 ·obtain ⟨_, _, vs, _, dd⟩ := vd I.hok e
  exact dd.typeIs
 ·obtain ⟨_, _, xs, _, dd⟩ := ve I.hok e
  exact dd.typeIs
def Jz (td ty : TE) : TE := fun σ H Q => td σ H fun x H1 => ty σ H1 fun y H2 => ∃ a v, x = .ref a /\ DGet H2 a y (some v) /\ Q v H2
def ZV (ty td : TE) : TE := fun σ H Q => ty σ H fun y H1 => td σ H1 fun x H2 => ∃ a o, x = .ref a /\ DGet H2 a y o /\ Q (.bl (!o.isSome)) H2
def JA (td ty tv : TE) : TS := fun D σ H => tv σ H fun v H1 => td σ H1 fun x H2 => ty σ H2 fun y H3 => ∃ a H4, x = .ref a /\ DPut H3 a y v H4 /\ D.nx σ H4
section
variable {X : Cx} {o i e value : Expr} {pos pos' tpos : Pos} {td ty tv : TE}
theorem VF (hu : X.A.units + 1 < cLine) (ho : PE X o td) (hi : PE X i ty) (hs : NoSl i) : PE X (.Subscript o i pos) (Jz td ty) := by
 intro pins s σ H Q I h
 refine VE PySem.F.slot_dict_getitem.lookup hs (thn (ho pins s σ H _ I h) fun u s1 ⟨x, H1, I1, rx, q1⟩ => thn (hi pins s1 σ H1 _ I1 q1) fun iv s2 ⟨y, H2, I2, ry, a, v, ex, g, q2⟩ => ?_)
 subst ex
 obtain rfl : u = Value.ref a := rx
 exact ⟨jr I2 g, Yy hu I2 g ry fun w' s3 I3 rw' => ⟨v, H2, I3, rw', q2⟩⟩
theorem YA (hu : X.A.units + 1 < cLine) (hi : PE X i ty) (ho : PE X o td) : PC X .NotIn i o (ZV ty td) := by
 intro pins s σ H Q I h
 refine thn (hi pins s σ H _ I h) fun iv s1 ⟨y, H1, I1, ry, q1⟩ => thn (ho pins s1 σ H1 _ I1 q1) fun u s2 ⟨x, H2, I2, rx, a, ov, ex, g, q2⟩ => ?_
 subst ex
 obtain rfl : u = Value.ref a := rx
 exact VD hu I2 g ry fun s3 I3 => ⟨.bl (!ov.isSome), H2, I3, rfl, q2⟩
theorem VG (hu : X.A.units + 1 < cLine) (ho : PE X o td) (hi : PE X i ty) (hv : PE X value tv) (hs : swapsWith value (some (.Subscript o i pos')) pos.line X.env = pure false) :
  PS X (.Assign [.Subscript o i pos'] value pos) (JA td ty tv) := by
 intro pins s σ H D I h
 refine wpAny_Assign_Subscript (thn (hv pins s σ H _ I h) fun r s1 ⟨v, H1, I1, rv, q1⟩ => thn (ho pins s1 σ H1 _ I1 q1) fun u s2 ⟨x, H2, I2, rx, q2⟩ => thn (hi pins s2 σ H2 _ I2 q2) fun iv s3 ⟨y, H3, I3, ry, a, H4, ex, g, q3⟩ => ?_) hs
 subst ex
 obtain rfl : u = Value.ref a := rx
 exact Yz hu I3 g ry rv fun s4 I4 => ⟨σ, H4, I4, q3⟩
end
theorem XL {P : Program} {w : World} {H : Hp} (h : Heap) (hb : sysModules < h.objs.size) : ObjOk P w H (h.push { cls := .type "dict", data := .dict #[] }) h.objs.size (.dK []) :=
 ⟨Nat.zero_le _, beq_eq_false_iff_ne.mpr (Ne.symm (Nat.ne_of_lt hb)), [], .nil, Heap.DictOf.new h⟩
def XM : TE := fun _ H Q => ∀ p, H p = none -> Q (.ref p) (upd H p (.dK []))
section
variable {X : Cx} {pos : Pos}
theorem XN : PE X (.Dict [] [] pos) XM := fun pins s σ H Q I h =>
 wpAny_Dict_empty ⟨.ref s.heap.objs.size, _, I.laid (a := s.heap.objs.size) (o := .dK []) (t' := s.toks) (fun _ _ q => Heap.get?_push_of_some _ q) (Nat.le_refl _) (XL s.heap I.big), rfl, h _ (I.hok.fresh (Nat.le_refl _))⟩
end
def yG (kvs more : List (Key × V)) : List (Key × V) := more.foldl (fun acc kv => putK acc kv.1 kv.2) kvs
theorem KV.merge : ∀ {more : List (Key × V)} {rs : List (Key × Value)} {kvs : List (Key × V)} {vs : List (Key × Value)}, KV more rs -> KV kvs vs -> KV (yG kvs more) (merged vs rs) := by
 intro more rs kvs vs r
 unfold KV at r
 induction r generalizing kvs vs with
 | nil => intro q; exact q
 | @cons p q ps qs h t ih =>
  intro r0
  have e : KV (putK kvs p.1 p.2) (stored vs q.1 q.2) := by
   have := r0.put p.1 h.2
   rw [<- h.1]; exact this
  exact ih e
theorem yM : ∀ (more kvs : List (Key × V)), (yG kvs more).length <= kvs.length + more.length
 | [], kvs => by show kvs.length <= kvs.length + 0; omega
 | p :: r, kvs => by
  have h1 := yM r (putK kvs p.1 p.2)
  have h2 := yL kvs p.1 p.2
  show (yG (putK kvs p.1 p.2) r).length <= _
  rw [List.length_cons]; omega
structure M1 (X : Cx) (o : Expr) (m : Str) (apos : Pos) (e : Expr) (cpos : Pos) : Prop where
 base : attributeBase o m X.env (eval o X.env) = eval o X.env
 few : ((backTo cpos (starEach [e] X.env)).all (fun x => !x.1) && (backToKw cpos (keywordEach [] X.env)).all (fun x => x.1.isSome)
  && decide (([e] : List Expr).length + ([] : List Keyword).length + (if ([] : List Keyword).isEmpty then 0 else 1) < 30)) = true
 line : (apos.endLine == cpos.line) = true
 trees : backTo cpos (starEach [e] X.env) = [(false, eval e X.env)]
structure M2 (X : Cx) (o : Expr) (m : Str) (apos : Pos) (e f : Expr) (cpos : Pos) : Prop where
 base : attributeBase o m X.env (eval o X.env) = eval o X.env
 few : ((backTo cpos (starEach [e, f] X.env)).all (fun x => !x.1) && (backToKw cpos (keywordEach [] X.env)).all (fun x => x.1.isSome)
  && decide (([e, f] : List Expr).length + ([] : List Keyword).length + (if ([] : List Keyword).isEmpty then 0 else 1) < 30)) = true
 line : (apos.endLine == cpos.line) = true
 trees : backTo cpos (starEach [e, f] X.env) = [(false, eval e X.env), (false, eval f X.env)]
def IsD (H : Hp) (a : Addr) : Prop := (∃ kvs, Rd H a (.dK kvs)) \/ ∃ kvs, Rd H a (.dT kvs)
theorem qI {X : Cx} {pins : List (Addr × Obj)} {σ : St} {H : Hp} {s : Shared} {a : Addr} (I : Inv X pins σ H s) (d : IsD H a) :
  s.TypeIs (.ref a) "dict" /\ (∀ b, Value.ref a = .ref b -> ∃ ob, s.heap.get? b = some ob /\ ob.dict = none) /\ (a == sysModules) = false := by
 rcases d with ⟨kvs, e⟩ | ⟨kvs, e⟩
 ·obtain ⟨_, hd, vs, _, dd⟩ := vd I.hok e
  refine ⟨dd.typeIs, fun b q => ?_, hd⟩
  cases q
  obtain ⟨ob, _, _, h1, h2, _⟩ := dd
  exact ⟨ob, h1, h2.2.1⟩
 ·obtain ⟨_, hd, xs, _, dd⟩ := ve I.hok e
  refine ⟨dd.typeIs, fun b q => ?_, hd⟩
  cases q
  obtain ⟨ob, _, _, h1, h2, _⟩ := dd
  exact ⟨ob, h1, h2.2.1⟩
section
variable {X : Cx} {pins : List (Addr × Obj)} {σ : St} {H : Hp} {s : Shared} {a : Addr} {y d : V} {u r : Value} {o : Option V} {A : Around} {E : Value -> Shared -> Prop}
theorem qJ {Q : Value -> Shared -> Prop} (hu : A.units + 1 < cLine) (I : Inv X pins σ H s) (g : DGet H a y o) (ry : RelV y u) (rd : RelV d r) (h : ∀ w' s', Inv X pins σ H s' -> RelV (o.getD d) w' -> Q w' s') :
  wpAny (model X.prog X.w) A (call (.builtin "dict.get") [.ref a, u, r]) Q E s := by
 rcases g with ⟨kvs, k, e, ey, l⟩ | ⟨kvs, k, b, e, ey, eb, l⟩
 ·subst ey
  obtain ⟨z, hd, vs, rel, dd⟩ := vd I.hok e
  refine call_meetsIn PySem.F.slot_dict_get dd.typeIs PySem.F.entry_dict_get (PySem.F.args_dict_get_3 _ _ _) (meets_dict_get_default (zP X.prog X.w) a (jq ry) hd r) ⟨_, dd.mapOf, h _ _ (I.tok _) ?_⟩
  rw [l]
  exact (rel.val k).getD rd
 ·subst ey
  cases (show u = Value.ref b from ry)
  obtain ⟨z, hd, xs, rel, dd⟩ := ve I.hok e
  refine call_meetsIn PySem.F.slot_dict_get dd.typeIs PySem.F.entry_dict_get (PySem.F.args_dict_get_3 _ _ _) (meetsH_dict_get_default (tupleKind (zP X.prog X.w)) a b hd r) ⟨tupleKind_room_in1 hu, k, xs, wz I.hok eb, dd, h _ _ (I.tok _) ?_⟩
  rw [l]
  exact (rel.val k).getD rd
end
def XQ (td ty tx : TE) : TE := fun σ H Q => td σ H fun x H1 => ∃ a, x = .ref a /\ IsD H1 a /\ ty σ H1 fun y H2 => tx σ H2 fun z H3 => ∃ o, DGet H3 a y o /\ Q (o.getD z) H3
section
variable {X : Cx} {o e f : Expr} {apos cpos : Pos} {td ty tx : TE}
theorem XR (hu : X.A.units + 1 < cLine) (ho : PE X o td) (he : PE X e ty) (hf : PE X f tx) (m : M2 X o "get" apos e f cpos) : PE X (.Call (.Attribute o "get" apos) [e, f] [] cpos) (XQ td ty tx) := by
 intro pins s σ H Q I h
 refine wpAny_Call_method m.base m.few m.line PySem.F.plainAttrs_dict PySem.F.slot_dict_get PySem.F.type_dict_get (thn (ho pins s σ H _ I h) fun u s1 ⟨x, H1, I1, rx, a, ex, d, q1⟩ => ?_)
 subst ex
 obtain rfl : u = Value.ref a := rx
 obtain ⟨t1, t2, _⟩ := qI I1 d
 refine ⟨t1, t2, ?_⟩
 rw [m.trees]
 refine Calls.callWith_builtin rfl (Calls.evalArgs_plain (Calls.spliced_cons (thn (he pins s1 σ H1 _ I1 q1) fun iv s2 ⟨y, H2, I2, ry, q2⟩ =>
  Calls.spliced_cons (thn (hf pins s2 σ H2 _ I2 q2) fun fv s3 ⟨z, H3, I3, rz, ov, g, q3⟩ => Calls.spliced_nil ?_))))
 exact qJ hu I3 g ry rz fun w' s4 I4 rw' => ⟨_, H3, I4, rw', q3⟩
end
section
variable {X : Cx} {pins : List (Addr × Obj)} {σ : St} {H : Hp} {s : Shared} {a : Addr} {kvs : List (Key × V)} {A : Around} {E : Value -> Shared -> Prop}
end
section
variable {X : Cx} {pins : List (Addr × Obj)} {σ : St} {H : Hp} {s : Shared} {a : Addr} {y : V} {u : Value} {A : Around} {E : Value -> Shared -> Prop}
end
end L2
namespace Att
open PySem PySem.W PySem.Calls PyProof.Rows
section
variable {prog : Program} {w : World} {A : Around} {E : Value -> Shared -> Prop} {s : Shared} {K : Frag}
end
end Att
namespace L2
open PySem PySem.Spec PyProof.Rows
end L2
namespace L2
open PySem PySem.Spec PyProof.Rows
end L2
namespace L2
open PySem PySem.Spec PyProof.Rows
section
variable {P : Program} {w : World} {K : PySem.W.Frag} {mg : Str -> Option Value} {base : Heap}
end
section
variable {X : Cx}
end
section
variable {κ : Type} [DecidableEq κ]
end
end L2
namespace L2
open PySem PySem.Spec PyProof.Rows
section
variable {X : Cx} {pos : Pos}
theorem xB : jE X (.Dict [] [] pos) XM := ⟨XN⟩
end
theorem VH {K : PySem.W.Frag} {k m : Bool} {a b : Addr} {xs ys : List V} {g : TG} {tb : TS} {D : Ends} {σ : St} {H : Hp} (hlen : xs.length = ys.length) (Pv : Nat -> St -> Hp -> Prop) (h0 : Pv 0 σ H) (hl : ∀ i σ H, i <= xs.length -> Pv i σ H -> SqK k K H a xs /\ SqK m K H b ys)
  (hs : ∀ i x y T σ H, xs[i]? = some x -> ys[i]? = some y -> H T = none -> Pv i σ H -> g (.ref T) σ (upd H T (.tup [x, y])) fun σ2 H2 => tb { D with nx := Pv (i + 1), ct := Pv (i + 1), bk := D.nx } σ2 H2) (hd : ∀ σ H, Pv xs.length σ H -> D.nx σ H) :
  ∃ W : Nat -> Nat -> St -> Hp -> Prop, (∃ m, W 0 m σ H) /\ ∀ i n σ H, W i n σ H ->
   ((Itz K k m a b).stop i H /\ D.nx σ H) \/ ((Itz K k m a b).go i H /\ ∃ N : St -> Hp -> Prop, (∀ σ' H', N σ' H' -> ∃ m', m' < n /\ W (i + 1) m' σ' H') /\ ∀ x H', (Itz K k m a b).yld i H x H' -> g x σ H' fun σ2 H2 => tb { D with nx := N, ct := N, bk := D.nx } σ2 H2) := by
 refine ⟨fun i m σ H => m = xs.length - i /\ i <= xs.length /\ Pv i σ H, ⟨xs.length, by simp, Nat.zero_le _, h0⟩, ?_⟩
 rintro i n σ H ⟨rfl, hi, p⟩
 obtain ⟨q1, q2⟩ := hl i σ H hi p
 by_cases hlt : i < xs.length
 ·refine .inr ⟨⟨xs, ys, xs[i], ys[i]'(by omega), q1, q2, by simp [hlt], by simp [<- hlen, hlt]⟩, Pv (i + 1), fun σ' H' p' => ⟨xs.length - (i + 1), by omega, rfl, hlt, p'⟩, fun x H' y => ?_⟩
  obtain ⟨T, x, y, rfl, hT, rfl, e1, e2⟩ := y
  exact hs i x y T σ H (e1 xs q1) (e2 ys q2) hT p
 ·have e : i = xs.length := by omega
  subst e
  exact .inl ⟨⟨xs, ys, q1, q2, .inl (Nat.le_refl _)⟩, hd σ H p⟩
end L2
namespace L2
open PySem PySem.Spec PyProof.Rows
def lay (H : Hp) : List (Addr × HO) -> Hp
 | [] => H
 | p :: r => upd (lay H r) p.1 p.2
section
variable {X : Cx} {pins : List (Addr × Obj)} {σ : St} {H : Hp} {s : Shared} {h' : Heap}
end
section
variable {X : Cx}
theorem x9 {o i value : Expr} {td ty tv : TE} {pos pos' : Pos} {k : Nat} (hr : Room k X.A) (ho : jE X o td) (hi : jE X i ty) (hv : jE X value tv) (hs : swapsWith value (some (.Subscript o i pos')) pos.line X.env = pure false := by rfl) :
  jS X (.Assign [.Subscript o i pos'] value pos) (JA td ty tv) := ⟨VG (by have := hr.units; omega) ho.out hi.out hv.out hs⟩
end
end L2
namespace L2
open PySem PySem.Spec PyProof.Rows
structure Ca (P : Program) (w : World) (K : PySem.W.Frag) (mg : Str -> Option Value) (base : Heap) (CX : CXT) (k : Nat) (x : Str) (ps : List Str) (sp : Sp) : Prop where
 ex : ∃ f fd, FnOk P w K mg base CX k f fd ps sp /\ Binds K fd ps [] /\ PySem.W.keepIn K (.ref f) = true /\ mg x = some (.ref f)
structure Me (P : Program) (w : World) (K : PySem.W.Frag) (mg : Str -> Option Value) (base : Heap) (CX : CXT) (k : Nat) (C : Addr) (m : Str) (ps : List Str) (sp : Sp) : Prop where
 ex : ∃ f fd, FnOk P w K mg base CX k f fd ps sp /\ Binds K fd ps [] /\ Meth K C m f
structure Ma (P : Program) (w : World) (K : PySem.W.Frag) (mg : Str -> Option Value) (base : Heap) (CX : CXT) (k : Nat) (x : Str) (C : Addr) (ps : List Str) (sp : Sp) : Prop where
 ex : ∃ f fd, Mk K C f /\ FnOk P w K mg base CX k f fd ps sp /\ Binds K fd ps [] /\ mg x = some (.ref C)
structure Xa (P : Program) (w : World) (K : PySem.W.Frag) (mg : Str -> Option Value) (base : Heap) (k : Nat) (x : Str) (C : Addr) (ps : List Str) (sp : Sp) : Prop where
 ex : ∃ f fd, XCl K C f /\ FnOk P w K mg base CX0 k f fd ps sp /\ Binds K fd ps [] /\ mg x = some (.ref C)
section
variable {P : Program} {w : World} {K : PySem.W.Frag} {mg : Str -> Option Value} {base : Heap} {CX : CXT} {k j : Nat} {x m : Str} {C : Addr} {ps : List Str} {sp sp' : Sp}
theorem Ca.upx (h : Ca P w K mg base CX0 k x ps sp) : Ca P w K mg base CX k x ps sp := let ⟨f, fd, a, r⟩ := h.ex; ⟨f, fd, a.upx, r⟩
theorem Me.upx (h : Me P w K mg base CX0 k C m ps sp) : Me P w K mg base CX k C m ps sp := let ⟨f, fd, a, r⟩ := h.ex; ⟨f, fd, a.upx, r⟩
end
section
variable {X : Cx} {CX : CXT} {k i : Nat} {C : Addr} {ps : List Str} {sp : Sp} {E : XK} {x m n f : Str} {p pos apos cpos np pos' epos hpos tpos : Pos} {e o a value : Expr} {es as : List Expr} {ta te tv to t1 t2 : TE} {t : TA}
theorem zv (F : Ca X.prog X.w X.K X.mg X.base CX k x ps sp) (hr : Room k X.A) (hg : Gl X x) (hx : yd CX X E) (ha : jA X (e :: es) t) (hdb : (x == ("__debug__" : Str)) = false := by decide) (h1 : zz e = false := by rfl) (h2 : es.all (fun e => !zz e) = true := by rfl) :
  jE X (.Call (.Name x p) (e :: es) [] pos) (wP sp [] E t) := let ⟨_, _, G, b, kp, mg⟩ := F.ex; Jv G hr hg mg kp b .nil hx ha hdb h1 h2
theorem ZW {pl : Sem Bool} (he : jE X o ta) (c : Cls X.K C) (F : Me X.prog X.w X.K X.mg X.base CX k C m ps sp) (hr : Room k X.A) (hx : yd CX X E) (ha : jA X (e :: es) t) (h1 : zz e = false := by rfl) (h2 : es.all (fun e => !zz e) = true := by rfl)
  (ht : eval (.Call (.Attribute o m apos) (e :: es) [] pos) X.env = (do
   let ov <- eval o X.env
   standAt apos.atName
   let (f, first) <- holding [ov] (getMethod ov m pl)
   callWith pos f first (backTo pos (starEach (e :: es) X.env)) (backToKw pos (keywordEach [] X.env))) := by rfl) :
  jE X (.Call (.Attribute o m apos) (e :: es) [] pos) (ZA C m sp [] E ta t) := let ⟨_, _, G, b, mt⟩ := F.ex; ⟨Vd he.out c mt G hr b .nil hx ha.out (zE h1) (yi h2) ht⟩
theorem qK {pl : Sem Bool} (he : jE X o ta) (c : Cls X.K C) (F : Me X.prog X.w X.K X.mg X.base CX k C m ps sp) (hr : Room k X.A) (hx : yd CX X E)
  (ht : eval (.Call (.Attribute o m apos) [] [] pos) X.env = (do
   let ov <- eval o X.env
   standAt apos.atName
   let (f, first) <- holding [ov] (getMethod ov m pl)
   callWith pos f first (backTo pos (starEach [] X.env)) (backToKw pos (keywordEach [] X.env))) := by rfl) :
  jE X (.Call (.Attribute o m apos) [] [] pos) (ZA C m sp [] E ta tNil) := let ⟨_, _, G, b, mt⟩ := F.ex; ⟨Y7 he.out c mt G hr b .nil hx ht⟩
theorem QI (F : Ma X.prog X.w X.K X.mg X.base CX k x C ps sp) (hr : Room (k + 1) X.A) (hg : Gl X x) (hx : yd CX X E) (ha : jA X (e :: es) t) (hdb : (x == ("__debug__" : Str)) = false := by decide) (h1 : zz e = false := by rfl) (h2 : es.all (fun e => !zz e) = true := by rfl) :
  jE X (.Call (.Name x p) (e :: es) [] pos) (Jr C sp [] E t) := let ⟨_, _, M, G, b, mg⟩ := F.ex; ⟨Ve M G hr hg mg b .nil hx ha.out hdb (zE h1) (yi h2)⟩
theorem yU (he : jE X e ta) (hb : attributeBase e f X.env (eval e X.env) = eval e X.env := by rfl) : jE X (.Attribute e f pos) (tFld X.K ta f) := ⟨qg he.out hb⟩
theorem yz (ha : jE X o ta) (hv : jE X value tv) (hs : swapsWith value (some (.Attribute o f pos')) pos.line X.env = pure false := by rfl) : jS X (.Assign [.Attribute o f pos'] value pos) (sFld X.K ta tv f) := ⟨qh ha.out hv.out hs⟩
theorem js (F : Xa X.prog X.w X.K X.mg X.base k x C ps sp) (hr : Room (k + 1) X.A) (hg : Gl X x) (hx : wu X E) (ha : jA X (a :: as) t) (hdb : (x == ("__debug__" : Str)) = false := by decide) (h1 : zz a = false := by rfl) (h2 : as.all (fun e => !zz e) = true := by rfl) :
  jS X (.Raise (some (.Call (.Name x np) (a :: as) [] cpos)) none pos) (Xv C sp E t) := let ⟨_, _, M, G, b, mg⟩ := F.ex; ⟨Xw M G hr hg mg b hx ha.out hdb h1 h2⟩
theorem qL {j pos'} (ha : jE X a ta) : jT X (.Compare a [.Is] [.Constant .none j pos'] pos) (tB (tIsN ta)) := ⟨YV (JS ha.out)⟩
end
end L2
namespace L2
open PySem PySem.Spec PySem.Calls PyProof.Rows
section
variable {P : Program} {w : World} {A : Around} {E : Value -> Shared -> Prop} {s : Shared} {K : PySem.W.Frag}
end
section
variable {X : Cx} {e C : Addr} {oe : Obj} {ex : Expr} {te : TE} {name : Str} {pos : Pos} {f : Addr}
def JB (C e : Addr) (oe : Obj) (te : TE) (name : Str) : TE := fun σ H Q => te σ H fun x H1 => x = .ref e /\ oe.cls = .ref C /\ (∃ vs, oe.data = .fields vs) /\ ∃ d fs v, oe.dict = some d /\ H1 d = some (XD d fs) /\ fs.lookup name = some v /\ Q v H1
theorem VI (hp : (e, oe) ∈ X.pn) (M : XCl X.K C f) (hn : PySem.W.findIn X.K (.ref C) name = some none) (hh : PySem.W.hasDictIn X.K C = true) (he : PE X ex te) (hb : attributeBase ex name X.env (eval ex X.env) = eval ex X.env) :
  PE X (.Attribute ex name pos) (JB C e oe te name) := by
 intro pins s σ H Q I h
 refine Zz hb (thn (he pins s σ H _ I h) fun u s1 g => ?_)
 obtain ⟨x, H1, I1, rx, rfl, hc, ⟨vs, hd⟩, d, fs, v, h1, h2, h3, q⟩ := g
 obtain rfl : u = Value.ref e := rx
 obtain ⟨mA, ns, r, _⟩ := XD.get I1.hok h2
 obtain ⟨u', hu, ru⟩ := RelO.some_of (v := v) (o := mA name) (by rw [<- h3]; exact r name)
 obtain ⟨od, ho, hl⟩ := wN ns
 have J : PySem.W.InstAt s1.heap e oe C (some od) := ⟨(I1.pin (e, oe) (List.mem_append_left _ hp)).1, hc, by unfold PySem.W.notCls; rw [hd], by rw [h1]; exact ho⟩
 exact qx I1.kIn J M.ga M.ha M.sb (PySem.W.findObj_own hh hn rfl (by rw [hl, hu])) (wO ru) ⟨v, H1, I1.tok _, ru, q⟩
theorem VJ (hp : (e, oe) ∈ X.pn) (M : XCl X.K C f) (hn : PySem.W.findIn X.K (.ref C) name = some none) (hh : PySem.W.hasDictIn X.K C = true) (he : jE X ex te) (hb : attributeBase ex name X.env (eval ex X.env) = eval ex X.env := by rfl) :
  jE X (.Attribute ex name pos) (JB C e oe te name) := ⟨VI hp M hn hh he.out hb⟩
end
section
variable {X : Cx} {Ch : Addr} {x n : Str} {i k : Nat} {np hpos tpos : Pos} {b0 : Stmt} {suite : List Stmt} {th : Addr -> Obj -> TS} {ps : List Str} {sp : Sp} {y : Str} {p cpos epos : Pos} {a : Expr} {as : List Expr} {t : TA}
end
end L2
namespace L2
open PySem PySem.Spec PyProof.Rows
section
variable {P : Program} {w : World} {A : Around} {E : Value -> Shared -> Prop}
end
section
variable {X : Cx} {pos : Pos}
end
end L2
namespace L2
open PySem
theorem z6 : sizeLine = 16777216 := by decide
theorem itD {c A B : Prop} [Decidable c] (e : c) (h : A) : if decide c = true then A else B := by
 rw [if_pos (decide_eq_true e)]; exact h
theorem itDN {c A B : Prop} [Decidable c] (e : ¬ c) (h : B) : if decide c = true then A else B := by
 rw [if_neg (by rw [decide_eq_false e]; decide)]; exact h
def FnIn (K : PySem.W.Frag) (x qual : Str) (st : Stmt) (f : Addr) : Prop := ∃ (oc : Value) (od : Option Addr) (kV doc pm : Value) (an : Option Addr) (cdv ct : Value) (osl : Array (Option Value)), K.lookup f = some ⟨oc, od, .func (PySem.W.fnOf x qual (zQ st) (zK st) (zo st) .none kV doc pm an cdv ct), osl⟩ /\ PySem.W.codeIn K cdv qual = true /\ PySem.W.keepIn K (.ref f) = true
theorem FnIn.fn {K : PySem.W.Frag} {x qual : Str} {st : Stmt} {f : Addr} (h : FnIn K x qual st f) : ∃ fd, Fun K x qual st f fd /\ PySem.W.keepIn K (.ref f) = true := by
 obtain ⟨_, _, _, _, _, _, _, _, _, l, c, k⟩ := h
 exact ⟨_, Xg l c k, k⟩
def DfIn (K : PySem.W.Frag) (x : Str) (st : Stmt) : Prop := ∃ f, PySem.W.nsIn K mainGlobals x = some (some (.ref f)) /\ FnIn K x x st f
def MeIn (K : PySem.W.Frag) (C : Addr) (x qual : Str) (st : Stmt) : Prop := ∃ f, PySem.W.findIn K (.ref C) x = some (some (.ref f)) /\ PySem.W.isFn K (.ref f) = true /\ FnIn K x qual st f
theorem MeIn.me {P : Program} {w : World} {K : PySem.W.Frag} {mg : Str -> Option Value} {base : Heap} {CX : CXT} {k : Nat} {C : Addr} {x qual : Str} {st : Stmt} {ps : List Str} {sp : Sp} (h : MeIn K C x qual st) (hb : ∀ (kV doc pm : Value) (an : Option Addr) (cdv ct : Value) (us : List Value), us.length = ps.length -> bindArgs (PySem.W.fnOf x qual (zQ st) (zK st) (zo st) .none kV doc pm an cdv ct) ⟨us, []⟩ = pure (ps.zip us))
  (ok : ∀ f fd, Fun K x qual st f fd -> FnOk P w K mg base CX k f fd ps sp) : Me P w K mg base CX k C x ps sp := by
 obtain ⟨f, a, n, g⟩ := h
 obtain ⟨fd, F, kp⟩ := g.fn
 exact ⟨f, fd, ok f fd F, F.binds hb, a, n, kp⟩
theorem MeIn.ma {P : Program} {w : World} {K : PySem.W.Frag} {mg : Str -> Option Value} {base : Heap} {CX : CXT} {k : Nat} {C : Addr} {x qual : Str} {st : Stmt} {ps : List Str} {sp : Sp} (h : MeIn K C "__init__" qual st) (hb : ∀ (kV doc pm : Value) (an : Option Addr) (cdv ct : Value) (us : List Value), us.length = ps.length -> bindArgs (PySem.W.fnOf "__init__" qual (zQ st) (zK st) (zo st) .none kV doc pm an cdv ct) ⟨us, []⟩ = pure (ps.zip us))
  (mk : PySem.W.makesIn K C = true) (kp : PySem.W.keepIn K (.ref C) = true) (hm : mg x = some (.ref C)) (ok : ∀ f fd, Fun K "__init__" qual st f fd -> FnOk P w K mg base CX k f fd ps sp) : Ma P w K mg base CX k x C ps sp := by
 obtain ⟨f, a, n, g⟩ := h
 obtain ⟨fd, F, _⟩ := g.fn
 exact ⟨f, fd, ⟨mk, a, n, kp⟩, ok f fd F, F.binds hb, hm⟩
theorem DfIn.ca {P : Program} {w : World} {K : PySem.W.Frag} {mg : Str -> Option Value} {base h : Heap} {CX : CXT} {k : Nat} {x : Str} {st : Stmt} {ps : List Str} {sp : Sp} (X : K.In h) (G : h.Ns mainGlobals mg) (d : DfIn K x st) (hb : ∀ (kV doc pm : Value) (an : Option Addr) (cdv ct : Value) (us : List Value), us.length = ps.length -> bindArgs (PySem.W.fnOf x x (zQ st) (zK st) (zo st) .none kV doc pm an cdv ct) ⟨us, []⟩ = pure (ps.zip us))
  (ok : ∀ f fd, Fun K x x st f fd -> FnOk P w K mg base CX k f fd ps sp) : Ca P w K mg base CX k x ps sp := by
 obtain ⟨f, a, g⟩ := d
 obtain ⟨fd, F, kp⟩ := g.fn
 exact ⟨f, fd, ok f fd F, F.binds hb, kp, PySem.W.mg_of X G a⟩
theorem DfIn.mk {K : PySem.W.Frag} {x : Str} {st : Stmt} {f : Addr} {oc : Value} {od : Option Addr} {kV doc pm : Value} {an : Option Addr} {cdv ct : Value} {osl : Array (Option Value)} (a : PySem.W.nsIn K mainGlobals x = some (some (.ref f))) (l : K.lookup f = some ⟨oc, od, .func (PySem.W.fnOf x x (zQ st) (zK st) (zo st) .none kV doc pm an cdv ct), osl⟩) (c : PySem.W.codeIn K cdv x = true) (k : PySem.W.keepIn K (.ref f) = true) : DfIn K x st := ⟨f, a, oc, od, kV, doc, pm, an, cdv, ct, osl, l, c, k⟩
theorem MeIn.mk {K : PySem.W.Frag} {C : Addr} {x qual : Str} {st : Stmt} {f : Addr} {oc : Value} {od : Option Addr} {kV doc pm : Value} {an : Option Addr} {cdv ct : Value} {osl : Array (Option Value)} (a : PySem.W.findIn K (.ref C) x = some (some (.ref f))) (l : K.lookup f = some ⟨oc, od, .func (PySem.W.fnOf x qual (zQ st) (zK st) (zo st) .none kV doc pm an cdv ct), osl⟩) (c : PySem.W.codeIn K cdv qual = true) (k : PySem.W.keepIn K (.ref f) = true) (n : PySem.W.isFn K (.ref f) = true) : MeIn K C x qual st := ⟨f, a, n, oc, od, kV, doc, pm, an, cdv, ct, osl, l, c, k⟩
theorem XcIn.mk {K : PySem.W.Frag} {C f : Addr} (a : PySem.W.findIn K (.ref C) "__init__" = some (some (.ref f))) (b : xIn K C f = true) (c : PySem.W.typeIn K (.ref f) = some (.type "function")) : ∃ f, PySem.W.findIn K (.ref C) "__init__" = some (some (.ref f)) /\ xIn K C f = true /\ PySem.W.typeIn K (.ref f) = some (.type "function") := ⟨f, a, b, c⟩
structure OwnIn (K : PySem.W.Frag) (x : Str) (C : Addr) : Prop where
 n : PySem.W.nsIn K mainGlobals x = some (some (.ref C))
 pg : PySem.W.plainGet K C Str.empty = true
 hd : PySem.W.hasDictIn K C = true
 po : PySem.W.plainOver K C = true
 sa : PySem.W.findIn K (.ref C) "__setattr__" = some (some (.builtin "object.__setattr__"))
 mks : PySem.W.makesIn K C = true
 kp : PySem.W.keepIn K (.ref C) = true
theorem OwnIn.cls {K : PySem.W.Frag} {x : Str} {C : Addr} (o : OwnIn K x C) : Cls K C := ⟨o.pg, o.hd, o.po, o.sa⟩
end L2
namespace L2
open PySem PySem.Spec PyProof.Rows
section
variable {X : Cx} {pos : Pos}
theorem ZX (K : PySem.W.Frag) (h : X.K = K := by rfl) : jIx X (rIxT K) := h ▸ zA
theorem jt (K : PySem.W.Frag) (h : X.K = K := by rfl) : jIx X (rIxL K) := h ▸ zG
theorem wa (K : PySem.W.Frag) {es : List Expr} {k : Nat} {gs : TGs} {n : Nat} (hc : X.calm = true) (g : jGs X es gs) (h : X.K = K := by rfl) (hn : (assignEach es X.env).length = n := by rfl) (hst : (assignEach es X.env).findIdx? (·.1) = none := by rfl) : jG X (.Tuple es k pos) (gTup K n gs) := h ▸ yW hc g hn hst
theorem ju (K : PySem.W.Frag) (h : X.K = K := by rfl) : jCa X (.builtin "len") (fun xs H Q => ∃ p ys, xs = [.ref p] /\ (SqL K H p ys \/ SqT K H p ys) /\ Q (.int ys.length) H) := h ▸ zC
theorem Zd (K : PySem.W.Frag) (h : X.K = K := by rfl) : jCa X (.builtin "isinstance") (fun xs H Q => ∃ x t T b, xs = [x, .ty T] /\ TyOf K H x t /\ PySem.W.kitOne K t (.type T) = some b /\ Q (.bl b) H) := h ▸ zR
theorem vF (K : PySem.W.Frag) (h : X.K = K := by rfl) : jCa X (.type "tuple") (fun xs H Q => ∃ p ys, xs = [.ref p] /\ ((SqL K H p ys /\ ∀ l, H l = none -> Q (.ref l) (upd H l (.tup ys))) \/ (SqT K H p ys /\ Q (.ref p) H))) := h ▸ zZ
theorem jw (K : PySem.W.Frag) (h : X.K = K := by rfl) : jCa X (.type "list") (fun xs H Q => ∃ p ys, xs = [.ref p] /\ (SqL K H p ys \/ SqT K H p ys) /\ ∀ l, H l = none -> Q (.ref l) (upd H l (.lst ys))) := h ▸ j9
theorem VL (K : PySem.W.Frag) {e : Expr} {ta : TE} {f : Str} (he : jE X e ta) (h : X.K = K := by rfl) (hb : attributeBase e f X.env (eval e X.env) = eval e X.env := by rfl) : jE X (.Attribute e f pos) (tFld K ta f) := h ▸ yU he hb
end
end L2
namespace K11
open PySem
def sg (c : Nat) : Str := ⟨#[c]⟩
theorem wA (a : Array Nat) : ∀ (k : Nat) (acc : Array Nat), ((List.replicate k a).foldl (· ++ ·) acc).size = acc.size + k * a.size
 | 0, acc => by simp
 | k + 1, acc => by
  rw [List.replicate_succ, List.foldl_cons, wA a k, Array.size_append, Nat.add_mul]
  omega
theorem VM {z : Str} {n : Int} (hz : z.length = 1) : (Txt.mul z n).length <= n.toNat := by
 unfold Txt.mul
 split
 ·simp [Str.empty, Str.length]
 ·rename_i h
  split
  ·rw [hz]; omega
  ·show ((List.replicate n.toNat z.cps).foldl (· ++ ·) #[]).size <= n.toNat
   have e : z.cps.size = 1 := hz
   rw [wA, e]
   simp
theorem qM {z : Str} {n : Int} (hz : z.length = 1) (h0 : 0 <= n) (h1 : n <= 1000) : MulOk z n := by
 have hs : sizeLine = 16777216 := by decide
 refine ⟨?_, fun a b => ?_, fun a b => ?_⟩
 ·have e1 : decide (n < -(2 ^ 63 : Int)) = false := decide_eq_false (by omega)
  have e2 : decide (n ≥ 2 ^ 63) = false := decide_eq_false (by omega)
  rw [e1, e2]; rfl
 ·rw [hz]
  have : (1 : Int) <= (2 ^ 63 - 1) / n := Int.le_ediv_of_mul_le (by omega) (by omega)
  intro c
  have c' : (1 : Int) > (2 ^ 63 - 1) / n := c
  omega
 ·rw [hz]
  unfold Builtin.Str.tooLong
  exact decide_eq_false (by rw [hs]; omega)
end K11
namespace K11
open PySem PySem.Spec PyProof.Rows Builtin Builtin.Str
abbrev cl (z : Str) : List Nat := z.cps.toList
theorem yY (z : Str) : (cl z).length = z.length := by simp [Str.length]
theorem yk (x y : Str) : cl (x ++ y) = cl x ++ cl y := by
 show (x.cps ++ y.cps).toList = _
 simp
theorem vG {sep x y : Str} {r : List Str} : cl (Str.join sep (x :: y :: r)) = cl x ++ (cl sep ++ cl (Str.join sep (y :: r))) := by
 show cl (x ++ sep ++ Str.join sep (y :: r)) = _
 rw [yk, yk, List.append_assoc]
end K11
namespace GN
open PySem L2
def top (i : Nat) : Stmt := PySem.Challenge.pw_reusewise_k35_ifs_and_cases.main.body.getD i (.Pass ⟨0, 0, 0, 0⟩)
abbrev vH : Stmt := yQ (top 5) 0
abbrev Ze : Stmt := top 7
abbrev yZ : Stmt := top 9
abbrev sIn : Stmt := top 10
abbrev Zf : Stmt := top 11
abbrev Zg : Stmt := top 12
abbrev yA : Stmt := top 13
abbrev Zh : Stmt := top 14
abbrev QJ : Stmt := top 16
abbrev sRes : Stmt := top 17
abbrev sRun : Stmt := top 19
abbrev sBy : Stmt := top 20
abbrev Zi : Stmt := top 21
abbrev Zj : Stmt := top 24
abbrev Zk : Stmt := yQ (top 26) 0
abbrev Zl : Stmt := yQ (top 26) 1
abbrev sGo : Stmt := yQ (top 26) 2
abbrev XS : Stmt := yQ (top 26) 3
abbrev vI : Stmt := yQ (top 26) 4
abbrev wB : Stmt := yQ (top 26) 5
abbrev XT : Stmt := top 28
abbrev sNm : Stmt := top 29
abbrev XU : Stmt := top 30
abbrev XV : Stmt := top 34
abbrev sDue : Stmt := top 41
abbrev XW : Stmt := top 42
abbrev sLaw : Stmt := top 43
abbrev Zm : Stmt := top 31
abbrev XX : Stmt := top 32
abbrev vJ : Stmt := top 33
abbrev Zn : Stmt := top 35
abbrev XY : Stmt := top 36
abbrev XZ : Stmt := top 37
abbrev X0 : Stmt := top 38
abbrev vK : Stmt := top 39
abbrev vL : Stmt := top 40
end GN
namespace L2
open PySem
section
variable {X : Cx} {o i : Expr} {to ti : TE} {pos : Pos}
theorem VN (ho : jE X o to) (hi : jE X i ti) (ha : ∀ v, assign (.Subscript o i pos) X.env v = (do
   let ov <- holding [v] (eval o X.env)
   let iv <- holding [v, ov] (eval i X.env)
   standAt pos
   holding [v, ov, iv] (setItem ov iv v)
   release [v, ov, iv] []) := by intro _; rfl) : jG X (.Subscript o i pos) (gSub to ti Jt) := ⟨J0 ho.out hi.out Xe ha⟩
theorem qN : jOp X (binaryOp .Mult) rRep := ⟨qu⟩
theorem wC : jMt X "list.reverse" jd := ⟨j2⟩
end
end L2
namespace GN
open PySem L2 K11
theorem zp {H : Hp} {p : Addr} (h : H p = none) (o : HO) : Same H (upd H p o) := fun b u q => by rw [zm (zn q h)]; exact q
def LIM : Nat := 4611686018427387904
def Sta (K : PySem.W.Frag) (H : Hp) (st : Addr) (B : Nat) : Prop := ∃ (a : Addr) (ns : List Int) (k : Nat), H st = some (.lst [.ref a, .int (k : Nat)]) /\ (a = st -> ∀ H', SqL K H' a (ns.map V.int)) /\ SqL K H a (ns.map V.int) /\ k <= B
structure Kp (st : Addr) (H H' : Hp) : Prop where
 k : ∀ b u, b ≠ st -> H b = some u -> H' b = some u
 s : ∀ a k, H st = some (.lst [.ref a, .int k]) -> ∃ k', H' st = some (.lst [.ref a, .int k'])
theorem Kp.refl {st : Addr} {H : Hp} : Kp st H H := ⟨fun _ _ _ h => h, fun _ k h => ⟨k, h⟩⟩
theorem Kp.trans {st : Addr} {H H1 H2 : Hp} (a : Kp st H H1) (b : Kp st H1 H2) : Kp st H H2 := ⟨fun c u n h => b.k c u n (a.k c u n h), fun x k h => let ⟨k', h'⟩ := a.s x k h; b.s x k' h'⟩
theorem Kp.of {st : Addr} {H H1 : Hp} (a : Same H H1) : Kp st H H1 := ⟨fun c u _ h => a c u h, fun _ k h => ⟨k, a _ _ h⟩⟩
theorem Kp.new {st p : Addr} {H H1 : Hp} {o : HO} (a : Kp st H H1) (h : H1 p = none) : Kp st H (upd H1 p o) := a.trans (.of (zp h o))
theorem Kp.put {st p : Addr} {H H1 : Hp} {o : HO} (a : Kp st H H1) (h : H p = none) : Kp st H (upd H1 p o) := ⟨fun b u n q => by rw [zm (zn q h)]; exact a.k b u n q, fun x k q => by
 obtain ⟨k', h'⟩ := a.s x k q
 exact ⟨k', by rw [zm (zn q h)]; exact h'⟩⟩
theorem Kp.seq {K : PySem.W.Frag} {st a : Addr} {H H' : Hp} {xs : List V} (e : Kp st H H') (n : a ≠ st) (h : SqL K H a xs) : SqL K H' a xs := by
 rcases h with (h | ⟨o, h⟩) | h
 ·exact .inl (.inl (e.k _ _ n h))
 ·exact .inl (.inr ⟨o, e.k _ _ n h⟩)
 ·exact .inr h
theorem Kp.free {st p : Addr} {H H' : Hp} (e : Kp st H H') (n : p ≠ st) (h : H' p = none) : H p = none := by
 cases q : H p with
 | none => rfl
 | some o =>
  rw [e.k p o n q] at h
  cases h
section
variable {K : PySem.W.Frag} {H H' : Hp} {st : Addr} {B B' : Nat}
theorem Sta.ex (h : Sta K H st B) : ∃ o, H st = some o := let ⟨_, _, _, e, _⟩ := h; ⟨_, e⟩
theorem Sta.mono (h : Sta K H st B) (l : B <= B') : Sta K H st B' := let ⟨a, ns, k, h1, h2, h3, h4⟩ := h; ⟨a, ns, k, h1, h2, h3, Nat.le_trans h4 l⟩
theorem Sta.same (h : Sta K H st B) (s : Same H H') : Sta K H' st B := let ⟨a, ns, k, h1, h2, h3, h4⟩ := h; ⟨a, ns, k, s _ _ h1, h2, s.seq h3, h4⟩
theorem Sta.new (h : Sta K H st B) {p : Addr} (hp : H p = none) (o : HO) : Sta K (upd H p o) st B := h.same (zp hp o)
theorem Sta.ne {p : Addr} (h : Sta K H st B) (hp : H p = none) : p ≠ st := fun e => by
 obtain ⟨o, q⟩ := h.ex
 rw [e, q] at hp
 cases hp
theorem Sta.neR {p : Addr} {ts : List Addr} (h : Sta K H st B) (hp : H p = some (.lst (ts.map V.ref))) : p ≠ st := fun e => by
 obtain ⟨a, ns, k, h1, _⟩ := h
 rw [e, h1] at hp
 have e2 := congrArg (fun o => match o with | some (HO.lst l) => l | _ => []) hp
 simp only at e2
 match ts, e2 with
 | [_, _], e2 => simp at e2
 | [], e2 => simp at e2
 | [_], e2 => simp at e2
 | _ :: _ :: _ :: _, e2 => simp at e2
theorem Sta.neI {p : Addr} {ts : List Int} (h : Sta K H st B) (hp : H p = some (.lst (ts.map V.int))) : p ≠ st := fun e => by
 obtain ⟨a, ns, k, h1, _⟩ := h
 rw [e, h1] at hp
 have e2 := congrArg (fun o => match o with | some (HO.lst l) => l | _ => []) hp
 simp only at e2
 match ts, e2 with
 | [], e2 => simp at e2
 | _ :: _, e2 => simp at e2
theorem Sta.neW {p : Addr} {x : Str} {xs : List V} (h : Sta K H st B) (hp : H p = some (.lst (.str x :: xs))) : p ≠ st := fun e => by
 obtain ⟨a, ns, k, h1, _⟩ := h
 rw [e, h1] at hp
 simp at hp
theorem Sta.put {H2 : Hp} {p : Addr} {o : HO} (S0 : Sta K H st B) (hp : H p = none) (k : Kp st H H2) (S2 : Sta K H2 st B') : Sta K (upd H2 p o) st B' := by
 obtain ⟨a, ns, i, h1, h2, h3, _⟩ := S0
 obtain ⟨a', ns', i', g1, g2, g3, g4⟩ := S2
 obtain ⟨k', h'⟩ := k.s a _ h1
 rw [g1] at h'
 have ea : a' = a := by
  have := congrArg (fun o => match o with | some (HO.lst (V.ref x :: _)) => x | _ => 0) h'
  exact this
 subst ea
 have g1' : upd H2 p o st = some (.lst [.ref a', .int ((i' : Nat) : Int)]) := by rw [zm (zn h1 hp)]; exact g1
 have key : a' ≠ p -> Sta K (upd H2 p o) st B' := fun n => by
  refine ⟨a', ns', i', g1', g2, ?_, g4⟩
  rcases g3 with (g | ⟨o, g⟩) | g
  ·exact .inl (.inl (by rw [zm n]; exact g))
  ·exact .inl (.inr ⟨o, by rw [zm n]; exact g⟩)
  ·exact .inr g
 rcases h3 with (h | ⟨_, h⟩) | h
 ·exact key (zn h hp)
 ·exact key (zn h hp)
 ·exact ⟨a', ns, i', g1', fun _ _ => .inr h, .inr h, g4⟩
def Tups (H H' : Hp) : Prop := ∀ p xs, H p = some (.tup xs) -> H' p = some (.tup xs)
theorem Tups.of (s : Same H H') : Tups H H' := fun p xs h => s p _ h
theorem Tups.trans {H2 : Hp} (a : Tups H H') (b : Tups H' H2) : Tups H H2 := fun p xs h => b p xs (a p xs h)
theorem Kp.tups (k : Kp st H H') (h : Sta K H st B) : Tups H H' := fun p xs q => k.k p _ (fun e => by
 obtain ⟨_, _, _, h1, _⟩ := h
 rw [e, h1] at q
 cases q) q
end
def yB (K : PySem.W.Frag) : Sp := fun vs H Q _ => ∃ (st : Addr) (m : Int) (B : Nat), vs = [.ref st, .int m] /\ Sta K H st B /\ B < LIM /\ 0 < m /\ ∀ (H' : Hp) (r : Int), Kp st H H' -> Sta K H' st (B + 1) -> 0 <= r -> r < m -> Q (.int r) H'
def LET : Str := "abcdefghijklmnopqrstuvwxyz"
theorem qO : cl LET = (List.range 26).map (97 + ·) := by decide +kernel
def lt (i : Nat) : Str := sg (97 + i)
theorem qP {i : Nat} (h : i < 26) : atI LET.cps.toList (i : Int) = some (97 + i) := by
 refine zq ?_
 show (cl LET)[i]? = _
 rw [qO, List.getElem?_map, List.getElem?_range h]
 rfl
theorem vM {m : Int} (h0 : 0 <= m) (h : m < 26) : atI LET.cps.toList m = some (97 + m.toNat) := by
 have e := qP (i := m.toNat) (by omega)
 rw [Int.toNat_of_nonneg h0] at e
 exact e
theorem vN : LET.length = 26 := by decide +kernel
def core (k : Nat) : Str := lt (k / 2 % 26) ++ ("z" : Str) ++ lt (k / 52 % 26)
def ys (k : Nat) : Str := Txt.mul "y" ((k % 2 : Nat) : Int)
def nm (z : Str) (b : Bool) (k : Nat) : Str := if b = true then core k ++ z ++ ys k else ys k ++ z ++ core k
theorem VO (k : Nat) : cl (core k) = [97 + k / 2 % 26, 122, 97 + k / 52 % 26] := by
 unfold core
 rw [yk, yk]
 rfl
theorem jx (k : Nat) : (core k).length = 3 := by rw [<- yY, VO]; rfl
theorem qR (k : Nat) : (ys k).length <= 1 := by
 have h := VM (z := "y") (n := ((k % 2 : Nat) : Int)) rfl
 unfold ys
 omega
theorem xh (a b : Str) : (a ++ b).length = a.length + b.length := by rw [<- yY, yk, List.length_append, yY, yY]
def spNm : Sp := fun vs H Q _ => ∃ (p : Addr) (z : Str) (b : Bool) (xs : List V) (k : Nat), vs = [.ref p, .int (k : Nat)] /\ H p = some (.lst (.str z :: .bl b :: xs)) /\ z.length <= 6 /\ Q (.str (nm z b k)) H
section
variable {P : Program} {w : World} {K : PySem.W.Frag} {mg : Str -> Option Value} {base : Heap} {f : Addr} {fd : FuncData}
theorem scDraw : FnScope ["_law_state", "_law_many", "_law_k", "_law_cell"] ["_law_state", "_law_many"] (zo XT) := ⟨rfl, rfl, rfl, by decide +kernel, rfl, by decide +kernel, by decide +kernel⟩
theorem VP (F : Fun K "_law_draw" "_law_draw" XT f fd) (m_len : mg "len" = none) : FnOk P w K mg base CX0 1 f fd ["_law_state", "_law_many"] (yB K) := by
 refine F.by scDraw (fun vs H Q E h => ?_) (fun cdv A outer s H vs Q E hr h => ?_)
 ·obtain ⟨st, m, B, rfl, _⟩ := h
  rfl
 obtain ⟨st, m, B, rfl, ⟨a, ns, k, hst, hne, hS, hk⟩, hB, hm, q⟩ := h
 refine ⟨_,
  (zj (zu (i := 2) scDraw.nd rfl (Or.inl rfl) (zt zG (jv 0) zi (fun _ _ => rfl)))
  (zj (j7 (zB yj (jv 2) zi) (VN (jv 0) zi))
  (zj (zM (zw ZK (jv 2) (zI zC rfl m_len PySem.boot_len (ja_c (zt zG (jv 0) zi (fun _ _ => rfl)) zh)) (zy _))
   (zk (zF (zB yS (zt zG (zt zG (jv 0) zi (fun _ _ => rfl)) (jv 2) (fun _ _ => rfl)) (jv 1)))) zH)
  (zj (zu (i := 3) scDraw.nd rfl (Or.inl rfl) (zB yj (zB vz (jv 2) zi) zi))
  (zj (zM (zw ZM (zI zC rfl m_len PySem.boot_len (ja_c (zt zG (jv 0) zi (fun _ _ => rfl)) zh)) zi (zy _))
   (zk (zu (i := 3) scDraw.nd rfl (Or.inl rfl) (zB yj (jv 3) (zB vz (zt zG (zt zG (jv 0) zi (fun _ _ => rfl)) (zB yS (zB vz (jv 2) zi) (zI zC rfl m_len PySem.boot_len (ja_c (zt zG (jv 0) zi (fun _ _ => rfl)) zh))) (fun _ _ => rfl)) (zB yj zi (jv 2)))))) zH)
  (zk (zF (zB yS (zB yS (jv 3) zi) (jv 1))))))))), ?_⟩
 refine ⟨_, rfl, st, _, _, _, rfl, rfl, SqL.of hst, zq (j := 1) rfl, ?_⟩
 refine ⟨_, rfl, _, _, rfl, rfl, _, rfl, st, _, 1, 1, rfl, rfl, hst, rfl, ?_⟩
 have kp : Kp st H (upd H st (.lst [.ref a, .int ((k + 1 : Nat) : Int)])) := ⟨fun b u n h => by rw [zm n]; exact h, fun x y h => by
  rw [hst] at h
  cases h
  exact ⟨_, zg⟩⟩
 have hst1 := zg (H := H) (a := st) (o := .lst [.ref a, .int ((k + 1 : Nat) : Int)])
 have hS1 : SqL K (upd H st (.lst [.ref a, .int ((k + 1 : Nat) : Int)])) a (ns.map V.int) := by
  by_cases e : a = st
  ·exact hne e _
  ·exact kp.seq e hS
 have fin : ∀ r : Int, 0 <= r -> r < m -> Q (.int r) (upd H st (.lst [.ref a, .int ((k + 1 : Nat) : Int)])) := fun r h0 h1 => q _ r kp ⟨a, ns, k + 1, hst1, hne, hS1, by omega⟩ h0 h1
 show (tSeq _ _ : TS) _ _ (upd H st (.lst [.ref a, .int ((k + 1 : Nat) : Int)]))
 generalize upd H st (.lst [.ref a, .int ((k + 1 : Nat) : Int)]) = H1 at *
 have ix0 : atI [V.ref a, V.int ((k + 1 : Nat) : Int)] 0 = some (.ref a) := zq (j := 0) rfl
 have mm : ∀ x : Int, 0 <= x % m /\ x % m < m := fun x => ⟨Int.emod_nonneg x (by omega), Int.emod_lt_of_pos x hm⟩
 refine ⟨_, rfl, _, rfl, st, _, _, _, rfl, rfl, SqL.of hst1, ix0, _, _, rfl, .inl hS1, _, _, rfl, rfl, _, rfl, ?_⟩
 rw [List.length_map]
 refine ite2 (fun c => ?_) (fun c => ?_)
 ·rw [decide_eq_true_eq] at c
  have hi : k < ns.length := by omega
  have hx : (ns.map V.int)[k]? = some (.int ns[k]) := by rw [List.getElem?_map, List.getElem?_eq_getElem hi]; rfl
  exact ⟨_, rfl, st, _, _, _, rfl, rfl, SqL.of hst1, ix0, _, rfl, a, _, _, _, rfl, rfl, hS1, zq hx, _, rfl, _, _, rfl, rfl, hm, fin _ (mm _).1 (mm _).2⟩
 ·refine ⟨_, rfl, _, _, rfl, rfl, .inr ⟨by decide, by decide⟩, _, _, rfl, rfl, ?_⟩
  have tail : ∀ (c : Int) (D : Ends), D.rt = Q -> (tRet (tOp (rI (fun _ j => 0 < j) fun i j => V.int (i % j)) (tOp (rI (fun _ j => 0 < j) fun i j => V.int (i % j)) (tVar 3) (tC (.int 2147483629))) (tVar 1)) : TS) D [some (.ref st), some (.int m), some (.int (k : Nat)), some (.int c)] H1 := fun c D e => by
   refine ⟨_, rfl, _, _, rfl, rfl, (by show (0 : Int) < _; decide), _, rfl, _, _, rfl, rfl, hm, ?_⟩
   rw [e]
   exact fin _ (mm _).1 (mm _).2
  refine ⟨_, rfl, st, _, _, _, rfl, rfl, SqL.of hst1, ix0, _, _, rfl, .inl hS1, _, _, rfl, rfl, _, rfl, ?_⟩
  rw [List.length_map]
  refine ite2 (fun c2 => ?_) (fun c2 => tail _ _ rfl)
  rw [decide_eq_true_eq] at c2
  have hl : (0 : Int) < (ns.length : Nat) := by omega
  have c0 := Int.emod_nonneg ((k : Nat) * 7 : Int) (show ((ns.length : Nat) : Int) ≠ 0 by omega)
  have c1 := Int.emod_lt_of_pos ((k : Nat) * 7 : Int) hl
  have hi : (((k : Nat) * 7 : Int) % (ns.length : Nat)).toNat < ns.length := by omega
  have hx : (ns.map V.int)[(((k : Nat) * 7 : Int) % (ns.length : Nat)).toNat]? = some (.int ns[(((k : Nat) * 7 : Int) % (ns.length : Nat)).toNat]) := by rw [List.getElem?_map, List.getElem?_eq_getElem hi]; rfl
  have hx2 : atI (ns.map V.int) (((k : Nat) * 7 : Int) % (ns.length : Nat)) = some (.int ns[(((k : Nat) * 7 : Int) % (ns.length : Nat)).toNat]) := by
   have e := zq hx
   rw [Int.toNat_of_nonneg c0] at e
   exact e
  refine ⟨_, rfl, _, rfl, st, _, _, _, rfl, rfl, SqL.of hst1, ix0, _, rfl, _, _, rfl, rfl, .inr ⟨by decide, by decide⟩, _, rfl, st, _, _, _, rfl, rfl, SqL.of hst1, ix0, _, _, rfl, .inl hS1, _, _, rfl, rfl, (by rw [List.length_map]; exact hl), ?_⟩
  refine ⟨a, _, _, _, rfl, rfl, hS1, (by rw [List.length_map]; exact hx2), _, rfl, _, _, rfl, rfl, _, _, rfl, rfl, .inr ⟨by show -(2 ^ 64) < (48271 + (k : Nat) : Int); omega, by show (48271 + (k : Nat) : Int) < 2 ^ 64; unfold LIM at hB; omega⟩, _, _, rfl, rfl, tail _ _ rfl⟩
theorem scNm : FnScope ["_law_world", "_law_k", "_law_letters", "_law_core"] ["_law_world", "_law_k"] (zo sNm) := ⟨rfl, rfl, rfl, by decide +kernel, rfl, by decide +kernel, by decide +kernel⟩
theorem QK (F : Fun K "_law_name" "_law_name" sNm f fd) : FnOk P w K mg base CX0 1 f fd ["_law_world", "_law_k"] spNm := by
 refine F.by scNm (fun vs H Q E h => ?_) (fun cdv A outer s H vs Q E hr h => ?_)
 ·obtain ⟨p, z, b, xs, k, rfl, _⟩ := h
  rfl
 obtain ⟨p, z, b, xs, k, rfl, hp, hz, q⟩ := h
 refine ⟨_,
  (zj (zu (i := 2) scNm.nd rfl (Or.inl rfl) zL)
  (zj (zu (i := 3) scNm.nd rfl (Or.inl rfl) (zB yv (zB yv (zt j8 (jv 2) (zB yS (zB xb (jv 1) zi) zi) (fun _ _ => rfl)) zL) (zt j8 (jv 2) (zB yS (zB xb (jv 1) zi) zi) (fun _ _ => rfl))))
  (zj (zM (yn (zt zG (jv 0) zi (fun _ _ => rfl)))
   (zk (zF (zB yv (zB yv (jv 3) (zt zG (jv 0) zi (fun _ _ => rfl))) (zB wo zL (zB yS (jv 1) zi))))) zH)
  (zk (zF (zB yv (zB yv (zB wo zL (zB yS (jv 1) zi)) (zt zG (jv 0) zi (fun _ _ => rfl))) (jv 3))))))), ?_⟩
 have sl := z6
 have e1 : ((k : Nat) : Int) / 2 % 26 = ((k / 2 % 26 : Nat) : Int) := by omega
 have e2 : ((k : Nat) : Int) / 52 % 26 = ((k / 52 % 26 : Nat) : Int) := by omega
 have e3 : ((k : Nat) : Int) % 2 = ((k % 2 : Nat) : Int) := by omega
 have cl3 := jx k
 have yl := qR k
 have ec : (⟨#[97 + (((k : Nat) : Int) / 2 % 26).toNat]⟩ : Str) ++ ("z" : Str) ++ (⟨#[97 + (((k : Nat) : Int) / 52 % 26).toNat]⟩ : Str) = core k := by
  rw [e1, e2]
  rfl
 suffices rest : ∀ c3 : Str, c3 = core k -> (tSeq _ _ : TS) { nx := fun _ H' => Q .non H', rt := Q } [some (.ref p), some (.int (k : Nat)), some (.str LET), some (.str c3)] H by
  exact ⟨_, rfl, _, rfl, _, _, rfl, rfl, ⟨by decide, by decide⟩, _, _, rfl, rfl, (by show (0 : Int) < _; decide), LET, _, _, rfl, rfl, by rw [vN]; decide, vM (by omega) (by omega), _, _, rfl, rfl, by show 1 + 1 <= sizeLine; decide, _, rfl, _, rfl, _, _, rfl, rfl, ⟨by decide, by decide⟩, _, _, rfl, rfl, (by show (0 : Int) < _; decide), LET, _, _, rfl, rfl, by rw [vN]; decide, vM (by omega) (by omega), _, _, rfl, rfl, by show 2 + 1 <= sizeLine; decide, rest _ ec⟩
 rintro _ rfl
 have mo : MulOk "y" (((k % 2 : Nat) : Int)) := qM rfl (by omega) (by omega)
 refine ⟨_, rfl, p, _, _, _, rfl, rfl, SqL.of hp, zq (j := 1) rfl, _, rfl, ?_⟩
 unfold nm at q
 cases b with
 | true =>
  rw [if_pos rfl] at q
  refine iteT ?_
  refine ⟨_, rfl, _, rfl, p, _, _, _, rfl, rfl, SqL.of hp, zq (j := 0) rfl, _, _, rfl, rfl, by omega, _, rfl, _, _, rfl, rfl, (by show (0 : Int) < _; decide), _, _, rfl, rfl, by rw [e3]; exact mo, ?_⟩
  rw [e3]
  exact ⟨_, _, rfl, rfl, by rw [xh]; show (core k).length + z.length + (ys k).length <= _; omega, q⟩
 | false =>
  rw [if_neg (by decide)] at q
  refine iteF ?_
  refine ⟨_, rfl, _, _, rfl, rfl, (by show (0 : Int) < _; decide), _, _, rfl, rfl, by rw [e3]; exact mo, ?_⟩
  rw [e3]
  refine ⟨_, rfl, p, _, _, _, rfl, rfl, SqL.of hp, zq (j := 0) rfl, _, _, rfl, rfl, by show (ys k).length + z.length <= _; omega, _, rfl, _, _, rfl, rfl, by show (Txt.mul "y" (((k % 2 : Nat) : Int)) ++ z).length + (core k).length <= _; rw [xh]; show (ys k).length + z.length + (core k).length <= _; omega, q⟩
end
end GN
namespace L2
open PySem PySem.Spec PyProof.Rows
def BMn (mg : Str -> Option Value) (h : Heap) : Prop := ∃ bm ob, mg "__builtins__" = some (.ref bm) /\ bm ≠ builtinsNs /\ h.get? bm = some ob /\ ob.cls = .type "module" /\ ob.dict = some builtinsNs /\ ob.data = .plain
theorem BMn.at {mg : Str -> Option Value} {h : Heap} {P : Addr} {ps : Array Value} (B : BMn mg h) (g : h.Ns mainGlobals mg) (hP : h.get? P = some { cls := .none, data := .fields ps }) : h.BuiltinsAt mg P /\ mainGlobals ≠ P := by
 obtain ⟨bm, ob, b1, b2, b3, b4, b5, b6⟩ := B
 refine ⟨⟨bm, ob, b1, b2, fun q => ?_, fun q => ?_, b3, b4, b5, b6⟩, fun q => ?_⟩
 ·obtain ⟨o, es, ep, e, hd, _⟩ := g
  rw [q, e] at b3; cases b3; rw [hd] at b6; cases b6
 ·rw [q, hP] at b3; cases b3; cases b4
 ·obtain ⟨o, es, ep, e, hd, _⟩ := g
  rw [q, hP] at e; cases e; cases hd
theorem BMn.keeps {mg : Str -> Option Value} {h h' : Heap} (B : BMn mg h) (k : ∀ b o, h.get? b = some o -> h'.get? b = some o) : BMn mg h' :=
 let ⟨bm, ob, b1, b2, b3, r⟩ := B; ⟨bm, ob, b1, b2, k _ _ b3, r⟩
theorem YB {P : Program} {w : World} {K : PySem.W.Frag} {mg mb : Str -> Option Value} {CX : CXT} {k : Nat} {fa a T : Addr} {fd : FuncData} {x : Str} {sp : Sp} {s₁ : Shared} {vs : List Value} {ns : List Int}
  (KX : K.In s₁.heap) (hT : s₁.heap.get? T = some { cls := .none, data := .fields #[] }) (hTK : K.lookup T = none) (hTc : isCodeTable s₁.heap T) (hns : s₁.heap.Ns mainGlobals mg) (hb : s₁.heap.Ns builtinsNs mb) (hbb : ∀ x : Str, x ≠ "__name__" -> mb x = bootBuiltins x) (hlim : s₁.heap.NoLimit) (hBM : BMn mg s₁.heap) (hg : s₁.gens = #[])
  (ha : s₁.heap.get? a = some { cls := .type "list", data := .seq vs.toArray }) (hi : IntsAre vs ns) (hl : ns.length <= sizeLine) (hr : Room k callerA)
  (F : ∀ base : Heap, K.In base -> base.Ns mainGlobals mg -> BMn mg base -> FnOk P w K mg base CX k fa fd [x] sp) (hbind : ∀ (s : Shared) (u : Value), BindsTo s fd ⟨[u], []⟩ [(x, u)])
  (hsp : ∀ H : Hp, H T = some (.tbl #[]) -> SqL K H a (ns.map V.int) -> sp [.ref a] H (fun v _ => v = .bl true) fun _ _ _ => False)
  (hCX : ∀ H e s', CX [] H s₁ (fun _ _ _ => False) e s' -> False) :
  codeAny (model P w) callerA (.call (.ref fa) ⟨[.ref a], []⟩) (fun r s' => r = .ok (.ret (.bool true)) /\ OldK s₁.heap s'.heap /\ s'.os = s₁.os /\ AllBare s'.gens) s₁ := by
 have rv := wX hi
 have lenV := hi.length
 have nTa : a ≠ T := fun e => by rw [e, hT] at ha; cases ha
 have core : ∀ H : Hp, (∀ b, H b = none \/ (∃ o xs, H b = some (.frz o (.lst xs))) \/ (b = T /\ H b = some (.tbl #[]))) -> H T = some (.tbl #[]) -> SqL K H a (ns.map V.int) -> HOk P w H s₁.heap -> (∀ b, H b ≠ none -> b = a \/ b = T) -> (H a ≠ none -> K.lookup a = none) ->
   codeAny (model P w) callerA (.call (.ref fa) ⟨[.ref a], []⟩) (fun r s' => r = .ok (.ret (.bool true)) /\ OldK s₁.heap s'.heap /\ s'.os = s₁.os /\ AllBare s'.gens) s₁ := by
  intro H hO hHT hS hok hA hK
  have base_of : ∀ {b : Addr} {o : Obj}, s₁.heap.get? b = some o -> H b = none -> (hidT s₁.heap H).get? b = some o := fun e n => YT e n
  have noA : ∀ {b : Addr} {o : Obj} {es : Array DictEntry} {ep : Nat}, s₁.heap.get? b = some o -> o.data = .dict es ep -> H b = none := fun {b o es ep} e d => by
   cases q : H b with
   | none => rfl
   | some u =>
    rcases hA b (by rw [q]; simp) with e' | e'
    ·subst e'
     rw [ha] at e; cases e
     have d' : Data.seq vs.toArray _ = Data.dict es ep := d
     cases d'
    ·subst e'
     rw [hT] at e; cases e
     have d' : Data.fields #[] = Data.dict es ep := d
     cases d'
  have nsK : ∀ {b : Addr} {m : Str -> Option Value}, s₁.heap.Ns b m -> (hidT s₁.heap H).Ns b m := fun {b m} ⟨o, es, ep, e, d, r⟩ => ⟨o, es, ep, base_of e (noA e d), d, r⟩
  have hBb : BMn mg (hidT s₁.heap H) := by
   obtain ⟨bm, ob, b1, b2, b3, b4, b5, b6⟩ := hBM
   refine ⟨bm, ob, b1, b2, base_of b3 ?_, b4, b5, b6⟩
   cases q : H bm with
   | none => rfl
   | some u =>
    rcases hA bm (by rw [q]; simp) with e' | e'
    ·subst e'
     rw [ha] at b3; cases b3; cases b6
    ·subst e'
     rw [hT] at b3; cases b3; cases b6
  have hKb : K.In (hidT s₁.heap H) := fun b o e => base_of (KX b o e) (by
   cases q : H b with
   | none => rfl
   | some u =>
    rcases hA b (by rw [q]; simp) with e' | e'
    ·subst e'
     rw [hK (by rw [q]; simp)] at e; cases e
    ·subst e'
     rw [hTK] at e; cases e)
  have hM : Mod K mg (hidT s₁.heap H) := ⟨hKb, nsK hns, ⟨mb, nsK hb, hbb⟩, let ⟨mc, h1, h2⟩ := hlim; ⟨mc, nsK h1, h2⟩⟩
  have e0 : Env0 P w K mg (hidT s₁.heap H) callerA [] s₁ H := ⟨rfl, hM, fun b o e => WT e, Nat.le_of_eq (Ym _ _), trivial, fun b hb => absurd (show b ∈ ([] : List Addr) from hb) (by simp), hok, .of_eq hg⟩
  refine codeAny_mono ((F _ hKb (nsK hns) hBb).run callerA [] s₁ H ⟨[.ref a], []⟩ [.ref a] [.ref a] _ _ hr e0 (hbind s₁ (.ref a)) (.cons rfl .nil) (hsp H hHT hS)) fun r s' h => ?_
  cases r with
  | error e => exact (hCX H e s' h).elim
  | ok fl =>
   cases fl with
   | next => exact False.elim h
   | brk => exact False.elim h
   | cont => exact False.elim h
   | ret u =>
    obtain ⟨v, H', os, bare, un, hok', r', q⟩ := h
    have q' : v = .bl true := q
    subst q'
    obtain rfl : u = Value.bool true := r'
    refine ⟨rfl, ⟨fun b o e => ?_, fun b o e => un.there b o e (by simp)⟩, os, bare⟩
    cases q : H b with
    | none => exact .inl (un.keep b o e q (by intro z; exact absurd (show b ∈ ([] : List Addr) from z) (by simp)) (by simp))
    | some u =>
     rcases hO b with z | ⟨ob, xs, z⟩ | ⟨rfl, z⟩
     ·rw [q] at z; cases z
     ·have z2 := un.frzs b ob _ z
      obtain ⟨e1, _⟩ := hok b _ z
      obtain ⟨e2, _⟩ := hok' b _ z2
      rw [e] at e1; cases e1
      exact .inl e2
     ·obtain ⟨more, z2⟩ := un.tbls b _ z
      have e2 : s'.heap.get? b = some { cls := .none, data := .fields (#[] ++ more) } := hok' b _ z2
      rw [hT] at e; cases e
      exact .inr (.inl ⟨hTc, rfl, #[], more, rfl, e2⟩)
 cases hk : K.lookup a with
 | some o =>
  have e := KX a o hk
  rw [ha] at e
  cases e
  refine core (fun b => if b = T then some (.tbl #[]) else none) (fun b => ?_) (if_pos rfl) (.inr ⟨_, vs.toArray, _, hk, rfl, rfl, rfl, by rw [List.size_toArray, lenV]; exact hl, by simpa using rv⟩) (fun b u z => ?_) (fun b z => ?_) fun z => absurd (if_neg nTa) z
  ·by_cases hb : b = T
   ·exact .inr (.inr ⟨hb, if_pos hb⟩)
   ·exact .inl (if_neg hb)
  ·by_cases hb : b = T
   ·have z' := (if_pos hb).symm.trans z
    cases z'
    subst hb
    exact hT
   ·have z' := (if_neg hb).symm.trans z
    cases z'
  ·by_cases hb : b = T
   ·exact .inr hb
   ·exact absurd (if_neg hb) z
 | none =>
  refine core (fun b => if b = T then some (.tbl #[]) else if b = a then some (.frz { cls := .type "list", data := .seq vs.toArray } (.lst (ns.map V.int))) else none) (fun b => ?_) (if_pos rfl) (.inl (.inr ⟨{ cls := .type "list", data := .seq vs.toArray }, (if_neg nTa).trans (if_pos rfl)⟩)) (fun b u z => ?_) (fun b z => ?_) fun _ => hk
  ·by_cases hb : b = T
   ·exact .inr (.inr ⟨hb, if_pos hb⟩)
   ·by_cases hb2 : b = a
    ·exact .inr (.inl ⟨_, _, (if_neg hb).trans (if_pos hb2)⟩)
    ·exact .inl ((if_neg hb).trans (if_neg hb2))
  ·by_cases hb : b = T
   ·have z' := (if_pos hb).symm.trans z
    cases z'
    subst hb
    exact hT
   ·by_cases hb2 : b = a
    ·have z' : some (HO.frz { cls := .type "list", data := .seq vs.toArray } (.lst (ns.map V.int))) = some u := ((if_neg hb).trans (if_pos hb2)).symm.trans z
     cases z'
     subst hb2
     exact ⟨ha, by rw [List.length_map]; exact hl, vs, _, rv, ha⟩
    ·have z' : none = some u := ((if_neg hb).trans (if_neg hb2)).symm.trans z
     cases z'
  ·by_cases hb : b = T
   ·exact .inr hb
   ·by_cases hb2 : b = a
    ·exact .inl hb2
    ·exact absurd ((if_neg hb).trans (if_neg hb2)) z
def spTopT (K : PySem.W.Frag) (T : Addr) : Sp := fun vs H Q _ => ∃ (a : Addr) (ns : List Int), vs = [.ref a] /\ SqL K H a (ns.map V.int) /\ ns.length <= 63 /\ H T = some (.tbl #[]) /\ ∀ H', Q (.bl true) H'
theorem VQ {l : PySem.W.OpenLaw} {w : World} {K : PySem.W.Frag} {h : Heap} {mg : Str -> Option Value} {fa T : Addr} {st : Stmt} {k : Nat} (d : DfIn K "law" st) (X : K.In h) (G : h.Ns mainGlobals mg) (hfa : mg "law" = some (.ref fa))
  (hb : ∀ (kV doc pm : Value) (an : Option Addr) (cdv ct : Value) (s : Shared) (u : Value), BindsTo s (PySem.W.fnOf "law" "law" (zQ st) (zK st) (zo st) .none kV doc pm an cdv ct) ⟨[u], []⟩ [("_law_script", u)])
  (ok : ∀ (base : Heap) (fd : FuncData), BMn mg base -> Fun K "law" "law" st fa fd -> FnOk l.prog w K mg base CX0 k fa fd ["_law_script"] (spTopT K T)) :
  ∃ fd : FuncData, (∀ (s : Shared) (u : Value), BindsTo s fd ⟨[u], []⟩ [("_law_script", u)]) /\ ∀ base : Heap, K.In base -> base.Ns mainGlobals mg -> BMn mg base -> FnOk l.prog w K mg base CX0 k fa fd ["_law_script"] (spTopT K T) := by
 obtain ⟨fl, al, oc, od, kV, doc, pm, an, cdv, ct, osl, lk, cc, kk⟩ := d
 have e : fl = fa := by
  have := PySem.W.mg_of X G al
  rw [hfa] at this
  injection this with this
  injection this with this
  exact this.symm
 subst e
 exact ⟨_, fun s v => hb _ _ _ _ _ _ s v, fun base _ _ B => ok base _ B (Xg (st := st) lk cc kk)⟩
theorem walkT {l : PySem.W.OpenLaw} {q : Program} {loose : List Str} {XP : (Str -> Option Value) -> Heap -> Prop} {d : DefRec} {K : Params -> PySem.W.Frag} {as : List Addr} {e : ∀ p, as = (K p).map (·.1)} {T c : Addr} {k : Nat} (hn : l.most = some 63) (hr : Room k callerA) (hdf : d.params.defaults = []) (hnm : d.name = "law")
  (hc : ∀ p, PySem.W.codeHdIn (K p) c T = true) (hTK : ∀ p, (K p).lookup T = none)
  (F : ∀ (w : World) (mg : Str -> Option Value) (fa : Addr) (h : Heap), (K w.params).In h -> h.Ns mainGlobals mg -> mg "law" = some (.ref fa) -> ∃ fd : FuncData, (∀ (s : Shared) (u : Value), BindsTo s fd ⟨[u], []⟩ [("_law_script", u)]) /\ ∀ base : Heap, (K w.params).In base -> base.Ns mainGlobals mg -> BMn mg base -> FnOk l.prog w (K w.params) mg base CX0 k fa fd ["_law_script"] (spTopT (K w.params) T)) :
  PySem.W.WalkO q loose XP (PySem.W.kmHook K as e [T]).says l.row.toRowW d [] (fun f vs => PySem.call f vs) := by
 refine Att.attach_call hn hdf fun w s₀ s₁ mg mb fa o pm cd doc a vs ns G Y ho hd hcd hmg hobj hints hlen hg => ?_
 have KX := PySem.W.km_in_of Y
 have hT := PySem.W.km_tabs_of Y T (by simp)
 obtain ⟨fd, hb, hF⟩ := F w mg fa _ KX G.T.g (by rw [hnm] at hmg; exact hmg)
 obtain ⟨o1, vs1, _, _, _, _, _, _, _, c1, c2, c3, c4, _⟩ := PySem.W.codeHd_of_K KX (hc w.params)
 exact YB KX hT (hTK w.params) ⟨c, o1, vs1, c1, c2, c3, c4⟩ G.T.g G.T.b G.T.builtins G.T.nolimit G.T.bmain hg hobj hints (Nat.le_trans hlen (by decide)) hr hF hb (fun H hO hS => ⟨a, ns, rfl, hS, hlen, hO, fun _ => rfl⟩) fun _ _ _ z => z
end L2
namespace L2
open PySem PySem.Spec PyProof.Rows
def FunO (f : Addr) (fd : FuncData) : HO := .ext fun h => h.get? f = some { cls := .type "function", data := .func fd }
def CodO (c : Addr) (qual : Str) : HO := .ext fun h => h.CodeRec (.ref c) qual
theorem X1 {P : Program} {w : World} {H : Hp} {h : Heap} {f : Addr} {fd : FuncData} (e : h.get? f = some { cls := .type "function", data := .func fd }) : ObjOk P w H h f (FunO f fd) :=
 ⟨e, ⟨_, e⟩, fun _ _ p k => k _ p⟩
theorem qS {P : Program} {w : World} {H : Hp} {h : Heap} {c : Addr} {qual : Str} (e : h.CodeRec (.ref c) qual) : ObjOk P w H h c (CodO c qual) :=
 ⟨e, (let ⟨_, oc, _, _, q, e, _⟩ := e; by cases q; exact ⟨oc, e⟩), fun _ _ ⟨d, oc, vs, t, q, e, r⟩ k => by cases q; exact ⟨c, oc, vs, t, rfl, k _ e, r⟩⟩
abbrev lamF (mg : Str -> Option Value) (qual : Str) (params : Arguments) (body : Expr) (scope : Scope) (c : Addr) (ctv : Value) : FuncData := PySem.W.kla_fn "<lambda>" qual params body scope [] ((mg "__name__").getD .none) (.ref c) ctv
def tLam (mg : Str -> Option Value) (T : Addr) (qual : Str) (params : Arguments) (body : Expr) (scope : Scope) (pos : Pos) : TE := fun _ H Q => ∃ ps, H T = some (.tbl ps) /\ TriplesOk ps.toList /\
 ((codeAmong pos ps.toList = none /\ ∀ (c f : Addr) (ctv : Value), H c = none -> H f = none -> f ≠ c -> Q (.ref f) (upd (upd (upd H T (.tbl (ps ++ #[rawInt pos.line, rawInt pos.col, .ref c]))) c (CodO c qual)) f (FunO f (lamF mg qual params body scope c ctv)))) \/
   (∃ c, codeAmong pos ps.toList = some (.ref c) /\ ∀ (f : Addr) (ctv : Value), H f = none -> Q (.ref f) (upd H f (FunO f (lamF mg qual params body scope c ctv)))))
theorem qT {X : Cx} {c T : Addr} {params : Arguments} {body : Expr} {scope : Scope} {pos : Pos} {qual : Str} (hB : BMn X.mg X.base) (hcode : X.env.code = .ref c) (hc : PySem.W.codeHdIn X.K c T = true) (hq : X.env.qual ++ "<lambda>" = qual)
  (hdef : defaultsOf params X.env = ([], [])) (hcl : closureFor scope X.env = pure []) : PE X (.Lambda params body scope pos) (tLam X.mg T qual params body scope pos) := by
 intro pins s σ H Q I h
 refine PySem.W.kla_eval hdef ?_
 rw [hq]
 obtain ⟨ps, hT, tr, h⟩ := h
 have gT : s.heap.get? T = some { cls := .none, data := .fields ps } := I.hok T _ hT
 have hg := I.mod.glob.keeps I.bk
 obtain ⟨bAt, hgP⟩ := (hB.keeps I.bk).at hg gT
 rcases h with ⟨nf, h⟩ | ⟨c', hit, h⟩
 ·refine PySem.W.kla_makeFunction (mg := X.mg) hcl I.ok.glob hg hcode (PySem.W.codeHd_of_K I.kIn hc) gT tr nf hgP bAt fun c' ctv h' tk ext ge lt rec tab => ?_
  have hc0 : H c' = none := I.hok.fresh ge
  have hf0 : H h'.objs.size = none := I.hok.fresh (Nat.le_trans ge (Nat.le_of_lt lt))
  have nfc : h'.objs.size ≠ c' := Nat.ne_of_gt lt
  have ncT : T ≠ c' := zn hT hc0
  have nfT : T ≠ h'.objs.size := zn hT hf0
  have elsewhere : ∀ b, b ≠ T -> b ≠ c' -> b ≠ h'.objs.size -> upd (upd (upd H T (.tbl (ps ++ #[rawInt pos.line, rawInt pos.col, .ref c']))) c' (CodO c' qual)) h'.objs.size (FunO h'.objs.size (lamF X.mg qual params body scope c' ctv)) b = H b := fun b h1 h2 h3 => by rw [zm h3, zm h2, zm h1]
  have hU : ∀ b u, H b = some u -> b ≠ T -> upd (upd (upd H T (.tbl (ps ++ #[rawInt pos.line, rawInt pos.col, .ref c']))) c' (CodO c' qual)) h'.objs.size (FunO h'.objs.size (lamF X.mg qual params body scope c' ctv)) b = some u := fun b u e n => by
   rw [elsewhere b n (zn e hc0) (zn e hf0)]; exact e
  have hTb : upd (upd (upd H T (.tbl (ps ++ #[rawInt pos.line, rawInt pos.col, .ref c']))) c' (CodO c' qual)) h'.objs.size (FunO h'.objs.size (lamF X.mg qual params body scope c' ctv)) T = some (.tbl (ps ++ #[rawInt pos.line, rawInt pos.col, .ref c'])) := by
   rw [zm nfT, zm ncT]; exact zg
  have keep : ∀ b o, b ≠ T -> s.heap.get? b = some o -> (h'.push (PySem.W.kla_obj "<lambda>" qual params body scope [] ((X.mg "__name__").getD .none) c' ctv)).get? b = some o := fun b o n e => Heap.get?_push_of_some _ (ext b o n e)
  have neT : ∀ b, H b = none -> b ≠ T := fun b e n => by rw [n, hT] at e; cases e
  refine ⟨.ref h'.objs.size, _, I.un (t' := tk) (H' := upd (upd (upd H T (.tbl (ps ++ #[rawInt pos.line, rawInt pos.col, .ref c']))) c' (CodO c' qual)) h'.objs.size (FunO h'.objs.size (lamF X.mg qual params body scope c' ctv))) ⟨fun b o e n _ _ => keep b o (neT b n) e, fun b o e n _ _ => ⟨o.slots, keep b o (neT b n) e⟩, fun b o e n _ => ?_, fun b o e _ => ?_, fun b xs e => hU b _ e (fun z => by rw [z, hT] at e; cases e), fun b o xs e => hU b _ e (fun z => by rw [z, hT] at e; cases e), fun b qs e => ?_⟩ ?_, rfl, h c' _ ctv hc0 hf0 nfc⟩
  ·have l := Heap.lt_size e
   rw [elsewhere b (neT b n) (Nat.ne_of_lt (Nat.lt_of_lt_of_le l ge)) (Nat.ne_of_lt (Nat.lt_trans (Nat.lt_of_lt_of_le l ge) lt))]
   exact n
  ·by_cases z : b = T
   ·rw [z]; exact ⟨_, Heap.get?_push_of_some _ tab⟩
   ·exact ⟨o, keep b o z e⟩
  ·by_cases z : b = T
   ·subst z
    rw [hT] at e; cases e
    exact ⟨_, hTb⟩
   ·exact ⟨#[], by rw [hU b _ e z]; simp⟩
  ·intro b u e
   by_cases z1 : b = h'.objs.size
   ·subst z1
    rw [zg] at e; cases e
    exact X1 (Heap.get?_push_size _ rfl)
   rw [zm z1] at e
   by_cases z2 : b = c'
   ·subst z2
    rw [zg] at e; cases e
    obtain ⟨d, oc, vs, t, q, e, r⟩ := rec
    exact qS ⟨d, oc, vs, t, q, Heap.get?_push_of_some _ e, r⟩
   rw [zm z2] at e
   by_cases z3 : b = T
   ·subst z3
    rw [zg] at e; cases e
    exact Heap.get?_push_of_some _ tab
   rw [zm z3] at e
   refine (I.hok b u e).stay (fun d v hd q => keep d v ?_ q) (fun d q => hU d _ q fun z => by rw [z, hT] at q; cases q) fun d xs q => hU d _ q fun z => by rw [z, hT] at q; cases q
   rcases hd with rfl | hd
   ·exact z3
   ·intro z
    rw [z, hT] at hd; cases hd
 ·refine PySem.W.kla_makeFunctionHit (mg := X.mg) hcl I.ok.glob hg hcode (PySem.W.codeHd_of_K I.kIn hc) gT tr hit bAt fun ctv h' tk kp sz => ?_
  have hf0 : H h'.objs.size = none := I.hok.fresh sz
  exact ⟨.ref h'.objs.size, _, I.laid (t' := tk) (o := FunO h'.objs.size (lamF X.mg qual params body scope c' ctv)) (fun b u e => Heap.get?_push_of_some _ (kp b u e)) sz (X1 (Heap.get?_push_size _ rfl)), rfl, h _ ctv hf0⟩
theorem qU {X : Cx} {c T : Addr} {params : Arguments} {body : Expr} {scope : Scope} {pos : Pos} {qual : Str} (hB : BMn X.mg X.base) (hcode : X.env.code = .ref c) (hc : PySem.W.codeHdIn X.K c T = true) (hq : X.env.qual ++ "<lambda>" = qual)
  (hdef : defaultsOf params X.env = ([], []) := by rfl) (hcl : closureFor scope X.env = pure [] := by rfl) : jE X (.Lambda params body scope pos) (tLam X.mg T qual params body scope pos) := ⟨qT hB hcode hc hq hdef hcl⟩
theorem qV {CX : CXT} {P : Program} {w : World} {K : PySem.W.Frag} {mg : Str -> Option Value} {base : Heap} {k : Nat} {f c : Addr} {name qual : Str} {params : Arguments} {body : Expr} {scope : Scope} {pm ct : Value}
  {N ps : List Str} {sp : Sp} (here : ∀ vs H Q E, sp vs H Q E -> H f = some (FunO f (PySem.W.kla_fn name qual params body scope [] pm (.ref c) ct)) /\ H c = some (CodO c qual)) (S : FnScope N ps scope)
  (len : ∀ vs H Q E, sp vs H Q E -> vs.length = ps.length)
  (hbody : ∀ (A : Around) (outer : List Env) (s : Shared) (H : Hp) (vs : List V) (Q : VK) (E : XK), Room k (A.deeper (envOfC qual scope s.heap.objs.size f (.ref c))) -> sp vs H Q E ->
   ∃ t, PE (cxOf CX P w K mg base N qual scope f (.ref c) A outer s H E) body t /\ t (yJ N vs) H Q) :
  FnOk P w K mg base CX (k + 1) f (PySem.W.kla_fn name qual params body scope [] pm (.ref c) ct) ps sp := by
 refine ⟨len, fun A outer s H args us vs Q E hr e0 hb r hsp => ?_⟩
 have hl := len _ _ _ _ hsp
 have lim : s.heap.NoLimit := e0.mod.nolimit.keeps fun b o e => (e0.bs b o e).1
 have hkind : ∀ y ∈ ps.zip us, scope.names.lookup y.1 = some .local \/ (scope.names.lookup y.1 = some .cell /\ ((cellsFrom (s.heap.objs.size + 1) scope.names []).lookup y.1).isSome = true) := fun ⟨n, v⟩ hy => by
  rcases S.par n (List.of_mem_zip hy).1 with q | q
  ·exact .inl q
  ·exact .inr ⟨q, PySem.W.cellsFrom_some _ _ _ (.inl q)⟩
 obtain ⟨hf, hc⟩ := here _ _ _ _ hsp
 have of := (e0.hok f _ hf).1
 have oc := (e0.hok c _ hc).1
 refine PySem.W.kla_callFunE hr.depth of rfl S.co S.gen rfl oc (hb _ _ _ _ ?_)
 refine wpAny_newFunctionEnv_cells S.kind hkind fun env he s1 x => ?_
 subst he
 refine ⟨lim.keeps x.toInCall.keep, PySem.W.kla_codeExpr ?_⟩
 obtain ⟨t, ht, hq⟩ := hbody A outer s H vs Q E (hr.deeper _) hsp
 have I : Inv (cxOf CX P w K mg base N qual scope f (.ref c) A outer s H E) [] (yJ N vs) H s1 := wU S hr.hd e0 hl r x
 refine wpAny_mono (ht [] s1 (yJ N vs) H _ I hq) (fun u s' hs => ?_) fun e s' hs => hs
 obtain ⟨v, H', J, rv, q⟩ := hs
 exact ⟨v, H', J.os, J.bare, J.base, J.hok, rv, q⟩
def X2 (fo : Addr -> Value -> FuncData) (sp : Addr -> Addr -> Value -> Sp) (E : XK) (i : Nat) (t : TA) : TE := fun σ H Q => ∃ f, σ[i]? = some (some (.ref f)) /\ ∃ c ct, H f = some (FunO f (fo c ct)) /\ t σ H fun vs H1 => H1 f = some (FunO f (fo c ct)) /\ sp f c ct vs H1 Q E
theorem X3 {X : Cx} {CX : CXT} {k : Nat} {fo : Addr -> Value -> FuncData} {ps : List Str} {sp : Addr -> Addr -> Value -> Sp} {E : XK} {i : Nat} {x : Str} {p pos : Pos} {e : Expr} {es : List Expr} {t : TA}
  (F : ∀ f c ct, FnOk X.prog X.w X.K X.mg X.base CX k f (fo c ct) ps (sp f c ct)) (hr : Room k X.A) (hn : PE X (.Name x p) (tVar i)) (hb : ∀ c ct, Binds X.K (fo c ct) ps []) (hx : yd CX X E) (ha : PA X (e :: es) t)
  (he : starEach (e :: es) X.env = (false, eval e X.env) :: starEach es X.env) (hpl : (backTo pos (starEach es X.env)).any (·.1) = false) :
  PE X (.Call (.Name x p) (e :: es) [] pos) (X2 fo sp E i t) := by
 intro pins s σ H Q I h
 obtain ⟨f, hf, c, ct, hF, h⟩ := h
 refine wpAny_Call_Name_kw (thn (hn pins s σ H (fun v H1 => v = .ref f /\ H1 = H) I ⟨_, hf, rfl, rfl⟩) fun u s0 ⟨v, H0, I0, r0, e1, e2⟩ => ?_)
 subst e1; subst e2
 cases r0
 refine PySem.W.callWith_F ⟨_, _, _, _, (I0.hok f _ hF).1⟩ (thn (ha pos pins s0 σ H0 _ I0 h) fun us s1 ⟨vs, H1, I1, r, hF1, q⟩ => ⟨⟨_, _, _, _, (I1.hok f _ hF1).1⟩, ?_⟩) he hpl
 exact vn (F f c ct) hr (hb c ct) .nil hx I1 r (by rw [List.append_nil]; exact q)
theorem X4 {X : Cx} {CX : CXT} {k : Nat} {fo : Addr -> Value -> FuncData} {ps : List Str} {sp : Addr -> Addr -> Value -> Sp} {E : XK} {i : Nat} {x : Str} {p pos : Pos} {e : Expr} {es : List Expr} {t : TA}
  (F : ∀ f c ct, FnOk X.prog X.w X.K X.mg X.base CX k f (fo c ct) ps (sp f c ct)) (hr : Room k X.A) (hn : jE X (.Name x p) (tVar i)) (hb : ∀ c ct, Binds X.K (fo c ct) ps []) (hx : yd CX X E) (ha : jA X (e :: es) t) (h1 : zz e = false := by rfl) (h2 : es.all (fun e => !zz e) = true := by rfl) :
  jE X (.Call (.Name x p) (e :: es) [] pos) (X2 fo sp E i t) := ⟨X3 F hr hn.out hb hx ha.out (zE h1) (yi h2)⟩
structure CaD (P : Program) (w : World) (K : PySem.W.Frag) (mg : Str -> Option Value) (base : Heap) (CX : CXT) (k : Nat) (x : Str) (ps : List Str) (dvs : List V) (sp : Sp) : Prop where
 ex : ∃ f fd, FnOk P w K mg base CX k f fd ps sp /\ Binds K fd ps [] /\ (∃ ds, Binds K fd ps ds /\ Vals dvs ds) /\ PySem.W.keepIn K (.ref f) = true /\ mg x = some (.ref f)
section
variable {X : Cx} {CX : CXT} {k : Nat} {x : Str} {ps : List Str} {sp : Sp} {dvs : List V} {E : XK} {p pos : Pos} {e : Expr} {es : List Expr} {t : TA}
theorem qW (F : CaD X.prog X.w X.K X.mg X.base CX k x ps dvs sp) (hr : Room k X.A) (hg : Gl X x) (hx : yd CX X E) (ha : jA X (e :: es) t) (hdb : (x == ("__debug__" : Str)) = false := by decide) (h1 : zz e = false := by rfl) (h2 : es.all (fun e => !zz e) = true := by rfl) :
  jE X (.Call (.Name x p) (e :: es) [] pos) (wP sp dvs E t) := let ⟨_, _, G, _, ⟨_, b, r⟩, kp, mg⟩ := F.ex; Jv G hr hg mg kp b r hx ha hdb h1 h2
end
def DdIn (K : PySem.W.Frag) (x : Str) (st : Stmt) (c D : Addr) : Prop := ∃ f, PySem.W.nsIn K mainGlobals x = some (some (.ref f)) /\ ∃ (oc : Value) (od : Option Addr) (kV doc pm : Value) (an : Option Addr) (ct : Value) (osl : Array (Option Value)), K.lookup f = some ⟨oc, od, .func (PySem.W.fnOf x x (zQ st) (zK st) (zo st) (.ref D) kV doc pm an (.ref c) ct), osl⟩ /\ PySem.W.codeIn K (.ref c) x = true /\ PySem.W.keepIn K (.ref f) = true
theorem DdIn.mk {K : PySem.W.Frag} {x : Str} {st : Stmt} {f c D : Addr} {oc : Value} {od : Option Addr} {kV doc pm : Value} {an : Option Addr} {ct : Value} {osl : Array (Option Value)} (a : PySem.W.nsIn K mainGlobals x = some (some (.ref f))) (l : K.lookup f = some ⟨oc, od, .func (PySem.W.fnOf x x (zQ st) (zK st) (zo st) (.ref D) kV doc pm an (.ref c) ct), osl⟩) (cc : PySem.W.codeIn K (.ref c) x = true) (k : PySem.W.keepIn K (.ref f) = true) : DdIn K x st c D := ⟨f, a, oc, od, kV, doc, pm, an, ct, osl, l, cc, k⟩
structure FunD (K : PySem.W.Frag) (x : Str) (st : Stmt) (c D f : Addr) (fd : FuncData) : Prop where
 ex : ∃ (oc : Value) (od : Option Addr) (kV doc pm : Value) (an : Option Addr) (ct : Value) (osl : Array (Option Value)), fd = PySem.W.fnOf x x (zQ st) (zK st) (zo st) (.ref D) kV doc pm an (.ref c) ct /\ K.lookup f = some ⟨oc, od, .func fd, osl⟩ /\ PySem.W.codeIn K (.ref c) x = true
theorem FunD.by {P : Program} {w : World} {K : PySem.W.Frag} {mg : Str -> Option Value} {base : Heap} {x : Str} {st : Stmt} {f c D : Addr} {fd : FuncData} {N ps : List Str} {k : Nat} {sp : Sp} (F : FunD K x st c D f fd) (S : FnScope N ps (zo st)) (len : ∀ vs H Q E, sp vs H Q E -> vs.length = ps.length)
  (hbody : ∀ (A : Around) (outer : List Env) (s : Shared) (H : Hp) (vs : List V) (Q : VK) (E : XK), Room k (A.deeper (envOfC x (zo st) s.heap.objs.size f (.ref c))) -> sp vs H Q E ->
   ∃ t, jSs (cxOf CX0 P w K mg base N x (zo st) f (.ref c) A outer s H E).nox (zK st) t /\ t { nx := fun _ H' => Q .non H', rt := Q } (yJ N vs) H) : FnOk P w K mg base CX0 (k + 1) f fd ps sp := by
 obtain ⟨oc, od, kV, doc, pm, an, ct, osl, rfl, lk, hcd⟩ := F.ex
 refine Y9 lk hcd S len fun A outer s H vs Q E hr hsp => ?_
 obtain ⟨t, h, q⟩ := hbody A outer s H vs Q E hr hsp
 exact ⟨t, h.out.nox, q⟩
def DtIn (K : PySem.W.Frag) (D : Addr) (i : Int) : Prop := ∃ (d : Option Addr) (t : Tok) (n : Nat) (sl : Array (Option Value)), K.lookup D = some ⟨.type "tuple", d, .seq #[.int i t] n, sl⟩
theorem DtIn.mk {K : PySem.W.Frag} {D : Addr} {i : Int} {d : Option Addr} {t : Tok} {n : Nat} {sl : Array (Option Value)} (a : K.lookup D = some ⟨.type "tuple", d, .seq #[.int i t] n, sl⟩) : DtIn K D i := ⟨d, t, n, sl, a⟩
theorem DdIn.ca {P : Program} {w : World} {K : PySem.W.Frag} {mg : Str -> Option Value} {base h : Heap} {k : Nat} {x : Str} {st : Stmt} {c D : Addr} {ps : List Str} {dvs : List V} {sp : Sp} (X : K.In h) (G : h.Ns mainGlobals mg) (d : DdIn K x st c D)
  (hb : ∀ (kV doc pm : Value) (an : Option Addr) (ct : Value), Binds K (PySem.W.fnOf x x (zQ st) (zK st) (zo st) (.ref D) kV doc pm an (.ref c) ct) ps [])
  (hd : ∀ (kV doc pm : Value) (an : Option Addr) (ct : Value), ∃ ds, Binds K (PySem.W.fnOf x x (zQ st) (zK st) (zo st) (.ref D) kV doc pm an (.ref c) ct) ps ds /\ Vals dvs ds)
  (ok : ∀ f fd, FunD K x st c D f fd -> FnOk P w K mg base CX0 k f fd ps sp) : CaD P w K mg base CX0 k x ps dvs sp := by
 obtain ⟨f, a, oc, od, kV, doc, pm, an, ct, osl, l, cc, kp⟩ := d
 exact ⟨f, _, ok f _ ⟨oc, od, kV, doc, pm, an, ct, osl, rfl, l, cc⟩, hb kV doc pm an ct, hd kV doc pm an ct, kp, PySem.W.mg_of X G a⟩
end L2
namespace L2
open PySem PySem.Spec PyProof.Rows
theorem YC : typeLookup (.type "tuple") "__reversed__" = pure none := by rw [typeLookup_type, builtinLookup_eq_fast]; kernel_rfl
theorem rev_slot_next : Slot "reversed" "__next__" "reversed.__next__" :=
 .of (owner := "reversed") (n := "__next__") (by rw [typeLookup_type, builtinLookup_eq_fast]; kernel_rfl) (by decide +kernel) (by decide +kernel) (by decide +kernel)
  (by first | exact .inl (by decide +kernel) | exact .inr (by decide +kernel)) (by rw [isSubtype_type]; kernel_rfl)
theorem y0 : entryFor table "reversed.__next__" = some Builtin.«reversed.__next__» := entryFor_of_tree (by kernel_rfl)
section
variable {prog : Program} {w : World} {A : Around} {E : Value -> Shared -> Prop} {s : Shared}
theorem xt {l : Addr} {items : Array Value} {Q₁ : Value -> Shared -> Prop} (hl : IsTup s.heap l items) (hz : items.size <= sizeLine)
  (h : ∀ tk, Q₁ (.ref s.heap.objs.size) { s with heap := s.heap.push { cls := .type "reversed", data := .fields #[.ref l, rawInt ((items.size : Int) - 1)] }, toks := tk }) :
  codeAny (model prog w) A (.call (.builtin "reversed.__new__") ⟨[.type "reversed", .ref l], []⟩) (wants Q₁ E) s := by
 refine codeAny_of_tree ?_
 show wpAny _ A.in1 (do checkBuiltinCall "reversed.__new__" ⟨[.type "reversed", .ref l], []⟩; again (.builtin "reversed.__new__" ⟨[.type "reversed", .ref l], []⟩)) _ _ s
 refine wpAny_bind (wpAny_of_eq (F.newCall_reversed_1 _) (wpAny_pure ⟨plainId_quiet F.plain_reversed_new _, codeAny_builtin F.entry_reversed_new ?_⟩))
 rw [Around.under_plainId F.plain_reversed_new _]
 unfold Builtin.«reversed.__new__»
 refine wpAny_bind (wpAny_of_eq (newClass_reversed _) ?_)
 try dsimp only
 refine wpAny_bind (wpAny_of_eq (a := ()) (by first | rfl | kernel_rfl) ?_)
 refine wpAny_bind (wpAny_of_eq (a := ()) (by first | rfl | kernel_rfl) ?_)
 try dsimp only
 refine wpAny_bind (wpAny_specialOf hl.typeIs YC ?_)
 try dsimp only
 refine wpAny_bind ?_
 wp_delta
 refine wpAny_bind (wpAny_isInstance (T := "tuple") (b := false) hl.typeIs (by rw [isSubtype_type]; kernel_rfl) ?_)
 refine wpAny_ite_split (fun hab => absurd hab (by decide)) (fun _ => ?_)
 try dsimp only
 refine wpAny_bind (wpAny_specialOf hl.typeIs slot_tuple_getitem.lookup ?_)
 try dsimp only
 rw [if_pos (by decide)]
 refine wpAny_pure ?_
 rw [if_neg (by decide)]
 have hn := xp
 refine wpAny_bind (len_tuple hl (by omega) ?_)
 refine wpAny_bind (wpAny_of_eq (a := some ((items.size : Nat) : Int)) (by first | rfl | kernel_rfl) ?_)
 try dsimp only
 refine wpAny_bind ?_
 show wpAny _ _ (newObj (.type "reversed") (.fields [Value.ref l, rawInt (((items.size : Nat) : Int) - 1)].toArray)) _ _ _
 refine wpAny_newObj_type ?_
 exact wpAny_pure (h _)
theorem xu : Slot "reversed" "__init__" "object.__init__" :=
 .of (owner := "object") (n := "__init__") (by rw [typeLookup_type, builtinLookup_eq_fast]; kernel_rfl) (by decide +kernel) (by decide +kernel) (by decide +kernel)
  (by first | exact .inl (by decide +kernel) | exact .inr (by decide +kernel)) (by rw [isSubtype_type]; kernel_rfl)
theorem called_reversed : TypeCalled "reversed" "reversed.__new__" "object.__init__" :=
 ⟨by decide +kernel, by decide +kernel, ⟨_, _, F.mro_reversed⟩, F.made_reversed, by decide +kernel, F.sub_reversed_self, xu⟩
def IsRevT (h : Heap) (a l : Addr) (i : Int) : Prop := ∃ o, h.get? a = some o /\ o.cls = .type "reversed" /\ o.data = .fields #[.ref l, rawInt i]
theorem IsRevT.typeIs {a l : Addr} {i : Int} (x : IsRevT s.heap a l i) : s.TypeIs (.ref a) "reversed" := let ⟨o, ho, hc, _⟩ := x; ⟨o, ho, hc⟩
theorem IsRevT.at {h h' : Heap} {a l : Addr} {i : Int} (x : IsRevT h a l i) (e : ∀ o, h.get? a = some o -> h'.get? a = some o) : IsRevT h' a l i := let ⟨o, ho, r⟩ := x; ⟨o, e _ ho, r⟩
theorem xk {l : Addr} {items : Array Value} {Q : Value -> Shared -> Prop} (hl : IsTup s.heap l items) (hz : items.size <= sizeLine)
  (h : ∀ tk, Q (.ref s.heap.objs.size) { s with heap := s.heap.push { cls := .type "reversed", data := .fields #[.ref l, rawInt ((items.size : Int) - 1)] }, toks := tk }) :
  wpAny (model prog w) A (call (.type "reversed") [.ref l]) Q E s := by
 refine callType_codes (Q₁ := fun obj s₁ => s₁.TypeIs obj "reversed" /\ Q obj s₁) called_reversed (F.typeCall_reversed_1 _) F.entry_object_init
  (xt hl hz fun tk => ⟨⟨_, Heap.get?_push_size _ rfl, rfl⟩, h tk⟩) fun obj s₁ h₁ => ?_
 exact ⟨h₁.1, F.args_object_init_2 obj _, object_init_meets called_reversed.init.lookup called_reversed.made (by decide) prog w A.in1 _ s₁ ⟨h₁.1, rfl, h₁.2⟩⟩
theorem vf : Manifest.owners.lookup (String.ofList ['d', 'e', 's', 'r', 'e', 'v', 'e', 'r'].reverse) = some Manifest.sig_reversed := by kernel_rfl
theorem xn (a : Value) : argsOk "reversed.__next__" ⟨[a], []⟩ := by
 unfold argsOk; rw [signature?_of (id := "reversed.__next__") (n := ['_', '_', 't', 'x', 'e', 'n', '_', '_']) (o := ['d', 'e', 's', 'r', 'e', 'v', 'e', 'r']) (by kernel_rfl) vf]; kernel_rfl
theorem YD {it l : Addr} {i : Nat} {items : Array Value} {x : Value} {Q : Option Value -> Shared -> Prop} (hit : IsRevT s.heap it l (i : Int)) (hl : IsTup s.heap l items) (hz : items.size <= sizeLine) (hx : items[i]? = some x)
  (hQ : ∀ h' tk, IsRevT h' it l ((i : Int) - 1) -> Heap.SameBut it s.heap h' -> Q (some x) { s with heap := h', toks := tk }) : wpAny (model prog w) A (pyNext (.ref it)) Q E s := by
 obtain ⟨o, ho, hc, hd⟩ := id hit
 unfold pyNext
 refine wpAny_bind (wpAny_attempt (wpAny_callSpecial?_slot (name := Str.ofString "__next__") hit.typeIs rev_slot_next
  (wpAny_call_entry rev_slot_next hit.typeIs y0 ?_ (xn _))))
 unfold Builtin.«reversed.__next__»
 refine wpAny_bind (wpAny_of_eq (a := (Value.ref it, [])) rfl ?_)
 try dsimp only
 refine wpAny_bind (wpAny_field ho hd (x := .ref l) rfl ?_)
 refine wpAny_bind (wpAny_field ho hd (x := rawInt (i : Int)) rfl ?_)
 show wpAny _ _ (if (i : Int) < 0 then _ else _) _ _ s
 rw [if_neg (by omega)]
 refine wpAny_bind (wpAny_specialOf hl.typeIs slot_tuple_getitem.lookup ?_)
 try dsimp only
 rw [if_neg (by decide)]
 refine wpAny_bind (wpAny_mkInt ?_)
 have hn := xp
 have hi : i < items.size := by
  rcases Nat.lt_or_ge i items.size with c | c
  ·exact c
  ·rw [Array.getElem?_eq_none c] at hx; cases hx
 refine wpAny_bind (wpAny_attempt (getItem_tuple (j := i) hl (by omega) (by omega) (by unfold seqIndex?; simp; omega) hx ?_))
 try dsimp only
 refine wpAny_bind (wpAny_field ho hd (x := rawInt (i : Int)) rfl ?_)
 show wpAny _ _ (setField (.ref it) 1 (rawInt ((i : Int) - 1)) >>= fun _ => ret x) _ _ _
 refine wpAny_bind (wpAny_setField ho hd (by simp) ?_)
 first
 | refine wpAny_pure ⟨x, rfl, wpAny_pure (hQ _ _ ?_ (Heap.SameBut.update ..))⟩
 | refine wpAny_bind (wpAny_pure (wpAny_pure ⟨x, rfl, wpAny_pure (hQ _ _ ?_ (Heap.SameBut.update ..))⟩))
 exact ⟨_, Heap.get?_update_self _ ho (Obj.isFreed_of_fields (Obj.data_mapFields hd _)), (Obj.cls_mapFields ..).trans hc, by
  rw [Obj.data_mapFields hd]; simp⟩
theorem X5 {it l : Addr} {Q : Option Value -> Shared -> Prop} (hh : A.handled = none) (hit : IsRevT s.heap it l (-1))
  (hQ : ∀ h', Heap.ExtBut it s.heap h' -> Q none { s with heap := h' }) : wpAny (model prog w) A (pyNext (.ref it)) Q E s := by
 obtain ⟨o, ho, hc, hd⟩ := id hit
 unfold pyNext
 refine wpAny_bind (wpAny_attempt (wpAny_callSpecial?_slot (name := Str.ofString "__next__") hit.typeIs rev_slot_next
  (wpAny_call_entry rev_slot_next hit.typeIs y0 ?_ (xn _))))
 unfold Builtin.«reversed.__next__»
 refine wpAny_bind (wpAny_of_eq (a := (Value.ref it, [])) rfl ?_)
 try dsimp only
 refine wpAny_bind (wpAny_field ho hd (x := .ref l) rfl ?_)
 refine wpAny_bind (wpAny_field ho hd (x := rawInt (-1)) rfl ?_)
 show wpAny _ _ (if (-1 : Int) < 0 then _ else _) _ _ s
 rw [if_pos (by decide)]
 refine wpAny_bind (wpAny_rule ?_)
 refine wpAny_bind ?_
 wp_delta
 refine wpAny_bind (wpAny_setField ho hd (by simp) ?_)
 refine wpAny_setField (Heap.get?_update_self _ ho (Obj.isFreed_of_fields (Obj.data_mapFields hd _))) (Obj.data_mapFields hd _) (by simp) ?_
 show wpAny _ _ (Builtin.SmallTypes.stopIteration >>= _) _ _ _
 refine wpAny_bind ?_
 unfold Builtin.SmallTypes.stopIteration
 refine wpAny_bind ?_
 simp only [newExc, newTuple]
 refine wpAny_bind (wpAny_newObj_type ?_ (by size_fits))
 refine wpAny_bind (m := firstArgMember _ _) (wpAny_of_eq (a := Value.none) (by first | rfl | (simp only [firstArgMember]; rfl)) ?_)
 refine wpAny_newObj_type ?_ (by size_fits)
 simp only [raiseNew]
 refine wpAny_bind (wpAny_handled ?_)
 first | rw [show A.in1.handled = none from hh] | rw [hh]
 refine wpAny_bind (wpAny_pure (wpAny_throw ?_))
 refine wpAny_bind (wpAny_isInstance (T := "StopIteration") (b := true) ⟨_, Heap.get?_push_size _ rfl, rfl⟩ isSubtype_stop ?_)
 exact wpAny_pure (hQ _ fun b o hb e => Heap.get?_push_of_some _ (Heap.get?_push_of_some _ ((Heap.get?_update_other _ _ (Ne.symm hb)).trans ((Heap.get?_update_other _ _ (Ne.symm hb)).trans e))))
theorem xo : Slot "reversed" "__iter__" "reversed.__iter__" :=
 .of (owner := "reversed") (n := "__iter__") (by rw [typeLookup_type, builtinLookup_eq_fast]; kernel_rfl) (by decide +kernel) (by decide +kernel) (by decide +kernel)
  (by first | exact .inl (by decide +kernel) | exact .inr (by decide +kernel)) (by rw [isSubtype_type]; kernel_rfl)
theorem wH (a : Value) : argsOk "reversed.__iter__" ⟨[a], []⟩ := by
 unfold argsOk; rw [signature?_of (id := "reversed.__iter__") (n := ['_', '_', 'r', 'e', 't', 'i', '_', '_']) (o := ['d', 'e', 's', 'r', 'e', 'v', 'e', 'r']) (by kernel_rfl) vf]; kernel_rfl
theorem wD : entryFor table "reversed.__iter__" = some Builtin.«dict_keyiterator.__iter__» :=
 entryFor_alias (id' := "dict_keyiterator.__iter__") (by kernel_rfl) (by first | rfl | decide +kernel | (unfold String.splitOn; simp +decide [String.splitOnAux])) (by decide +kernel) (by kernel_rfl)
theorem vg {it l : Addr} {i : Int} {Q : Value -> Shared -> Prop} (hit : IsRevT s.heap it l i) (h : Q (.ref it) s) : wpAny (model prog w) A (pyIter (.ref it)) Q E s := by
 refine wpAny_pyIter_slot hit.typeIs xo (wpAny_call_entry xo hit.typeIs wD ?_ (wH _))
 show wpAny _ _ (ret (.ref it)) _ _ s
 exact wpAny_pure ⟨_, rfl, "reversed", _, hit.typeIs, rev_slot_next.lookup, h⟩
end
def ItvT (K : PySem.W.Frag) (a : Addr) (n : Nat) : It :=
 ⟨fun i H => i < n /\ ∃ xs x, SqT K H a xs /\ xs[n - 1 - i]? = some x, fun i H x H' => H' = H /\ ∀ xs, SqT K H a xs -> xs[n - 1 - i]? = some x, fun i _ => n <= i⟩
theorem YE {P : Program} {w : World} {K : PySem.W.Frag} {tg : Expr} (a it : Addr) (n : Nat) : Turn P w K tg (ItvT K a n) [it] it (fun i h => i <= n /\ IsRevT h it a ((n : Int) - 1 - (i : Nat))) where
 mem := by simp
 obj := fun i h st b hb => by
  have e : b = it := by simpa using hb
  subst e
  obtain ⟨_, o, e, c, d⟩ := st
  exact ⟨o, e, fun v z => by rw [d] at z; cases z⟩
 keep := fun i h h' st k => ⟨st.1, st.2.at fun o e => k it (by simp) o e⟩
 item := by
  intro X hP hw hK hc i pins s σ H E I hf st hg
  subst hP hw hK
  obtain ⟨hi, xs, x, hq, hx⟩ := hg
  obtain ⟨its, rv, p, hz⟩ := I.tuple hq
  obtain ⟨u, hu, ru⟩ := rv.get hx
  have hl := rv.length
  obtain ⟨f0, f1, f2, f3, f4, f5⟩ := hf it (by simp)
  obtain ⟨_, st2⟩ := st
  have e1 : (n : Int) - 1 - (i : Nat) = ((n - 1 - i : Nat) : Int) := by omega
  rw [e1] at st2
  refine YD st2 p (by rw [List.size_toArray]; omega) (x := u) (by simpa using hu) fun h' tk st' sb => ?_
  have I1 : Inv X pins σ H { s with heap := h', toks := tk } := I.turned (t' := tk) (fun b o hb e => (sb.2 b hb).trans e) f0 f1 f3 f4 f5
  obtain ⟨o, e, c, d⟩ := id st'
  refine ⟨u, rfl, v0 (s := { s with heap := h', toks := tk }) e c d (by decide) ⟨x, H, I1, ru, ⟨rfl, fun ys hy => by rw [I.tuple_inj hy hq]; exact hx⟩, ⟨hi, ?_⟩, fun b hb => (hf b hb).1⟩⟩
  have e2 : (n : Int) - 1 - ((i + 1 : Nat) : Int) = ((n - 1 - i : Nat) : Int) - 1 := by omega
  rw [e2]
  exact st'
 done := by
  intro X hP hw hK hc i pins s σ H E I hf st hg
  subst hP hw hK
  obtain ⟨f0, f1, f2, f3, f4, f5⟩ := hf it (by simp)
  obtain ⟨h1, st2⟩ := st
  have h2 : n <= i := hg
  have e1 : (n : Int) - 1 - (i : Nat) = -1 := by omega
  rw [e1] at st2
  exact X5 (I.ok.hd hc) st2 fun h' eb => ⟨rfl, I.turned (t' := s.toks) (fun b o hb e => eb b o hb e) f0 f1 f3 f4 f5⟩
 self := fun _ _ _ _ _ st h => vg st.2 h
section
variable {X : Cx} {tg : Expr}
def JC (K : PySem.W.Frag) (ta : TA) : TI := fun σ H R => ta σ H fun vs H1 => ∃ a xs, vs = [.ref a] /\ SqT K H1 a xs /\ R (ItvT K a xs.length) H1
theorem VR {a : Expr} {ta : TA} {p pos : Pos} (hg : Gl X "reversed") (hm : X.mg "reversed" = none) (ha : PA X [a] ta) (hs : starEach [a] X.env = [(false, eval a X.env)] := by rfl) : PI X tg (.Call (.Name "reversed" p) [a] [] pos) (JC X.K ta) := by
 intro pins s σ H R I h
 refine Call_ (yF I hg hm boot_reversed (PyProof.Rows.callWith_type1 (thn (ha pos pins s σ H _ I h) fun us s1 ⟨vs, H1, I1, r1, q1⟩ => ?_) hs rfl))
 obtain ⟨l, xs, e, hq, q⟩ := q1
 subst e
 obtain ⟨u, rfl, rx⟩ := we r1
 cases rx
 obtain ⟨its, rv, pl, hz⟩ := I1.tuple hq
 have hl := rv.length
 refine xk pl (by rw [List.size_toArray]; omega) fun tk => ?_
 have hr : IsRevT (s1.heap.push { cls := .type "reversed", data := .fields #[.ref l, rawInt ((its.toArray.size : Int) - 1)] }) s1.heap.objs.size l ((its.toArray.size : Int) - 1) := ⟨_, Heap.get?_push_size _ rfl, rfl, rfl⟩
 refine vg (s := { s1 with heap := s1.heap.push { cls := .type "reversed", data := .fields #[.ref l, rawInt ((its.toArray.size : Int) - 1)] }, toks := tk }) hr ?_
 refine ⟨s1.heap.objs.size, [s1.heap.objs.size], _, _, H1, rfl, I1.kept (t' := tk) fun b o e => Heap.get?_push_of_some _ e, YE l _ xs.length, ⟨Nat.zero_le _, ?_⟩, fun b hb => ?_, q⟩
 ·have e : (xs.length : Int) - 1 - ((0 : Nat) : Int) = (its.toArray.size : Int) - 1 := by simp [hl]
  rw [e]
  exact hr
 have e : b = s1.heap.objs.size := by simpa using hb
 subst e
 exact I1.fpOk (Nat.le_refl _) (I1.hok.fresh (Nat.le_refl _))
theorem VS {a : Expr} {t : TA} {p pos : Pos} (hg : Gl X "reversed") (hm : X.mg "reversed" = none) (ha : jA X [a] t) (h : zz a = false := by rfl) : jI X tg (.Call (.Name "reversed" p) [a] [] pos) (JC X.K t) := ⟨VR hg hm ha.out (zE h)⟩
end
theorem X6 {K : PySem.W.Frag} {a : Addr} {xs : List V} {g : TG} {tb : TS} {D : Ends} {σ : St} {H : Hp} (Pv : Nat -> St -> Hp -> Prop) (h0 : Pv 0 σ H) (hl : ∀ i σ H, i <= xs.length -> Pv i σ H -> SqT K H a xs)
  (hs : ∀ i x σ H, xs.reverse[i]? = some x -> Pv i σ H -> g x σ H fun σ2 H2 => tb { D with nx := Pv (i + 1), ct := Pv (i + 1), bk := D.nx } σ2 H2) (hd : ∀ σ H, Pv xs.length σ H -> D.nx σ H) :
  ∃ W : Nat -> Nat -> St -> Hp -> Prop, (∃ m, W 0 m σ H) /\ ∀ i m σ H, W i m σ H ->
   ((ItvT K a xs.length).stop i H /\ D.nx σ H) \/ ((ItvT K a xs.length).go i H /\ ∃ N : St -> Hp -> Prop, (∀ σ' H', N σ' H' -> ∃ m', m' < m /\ W (i + 1) m' σ' H') /\ ∀ x H', (ItvT K a xs.length).yld i H x H' -> g x σ H' fun σ2 H2 => tb { D with nx := N, ct := N, bk := D.nx } σ2 H2) := by
 refine ⟨fun i m σ H => m = xs.length - i /\ i <= xs.length /\ Pv i σ H, ⟨xs.length, by simp, Nat.zero_le _, h0⟩, ?_⟩
 rintro i m σ H ⟨rfl, hi, p⟩
 have q := hl i σ H hi p
 by_cases hlt : i < xs.length
 ·refine .inr ⟨⟨hlt, xs, xs[xs.length - 1 - i], q, by rw [List.getElem?_eq_getElem]⟩, Pv (i + 1), fun σ' H' p' => ⟨xs.length - (i + 1), by omega, rfl, hlt, p'⟩, fun x H' y => ?_⟩
  obtain ⟨e, y⟩ := y
  subst e
  refine hs i x σ _ ?_ p
  rw [List.getElem?_reverse hlt]
  exact y xs q
 ·have e : i = xs.length := by omega
  subst e
  exact .inl ⟨Nat.le_refl _, hd σ H p⟩
end L2
namespace GN
open PySem L2 K11
inductive PtL (H : Hp) : List V -> List V -> Prop
 | nil : PtL H [] []
 | num {i : Int} {vs xs : List V} : PtL H vs xs -> PtL H (.int i :: vs) (.int i :: xs)
 | shp {p q : Addr} {t : Str} {us vs xs ys : List V} : H p = some (.tup [.str t, .ref q]) -> H q = some (.tup us) -> us.length <= 9 -> PtL H us xs -> PtL H vs ys -> PtL H (.ref p :: vs) (.str t :: (xs ++ ys))
theorem PtL.keep {H H' : Hp} {vs xs : List V} (t : Tups H H') (h : PtL H vs xs) : PtL H' vs xs := by
 induction h with
 | nil => exact .nil
 | num _ ih => exact .num ih
 | shp a b c _ _ ih1 ih2 => exact .shp (t _ _ a) (t _ _ b) c ih1 ih2
theorem PtL.app {H : Hp} {us vs xs ys : List V} (h : PtL H us xs) (g : PtL H vs ys) : PtL H (us ++ vs) (xs ++ ys) := by
 induction h with
 | nil => exact g
 | num _ ih => exact .num ih
 | shp a b c d _ _ ih2 =>
  rw [List.cons_append, List.cons_append, List.append_assoc]
  exact .shp a b c d ih2
def At : V -> Prop
 | .int _ => True
 | .str _ => True
 | _ => False
def lamX : Expr := match zK yA with
 | [.Return (some (.Call _ [_, _, l] _ _)) _] => l
 | _ => .Constant .none 0 ⟨0, 0, 0, 0⟩
def lamP : Arguments := match lamX with
 | .Lambda a _ _ _ => a
 | _ => zQ yA
def lamB : Expr := match lamX with
 | .Lambda _ b _ _ => b
 | e => e
def lamS : Scope := match lamX with
 | .Lambda _ _ s _ => s
 | _ => zo yA
def lamPos : Pos := match lamX with
 | .Lambda _ _ _ p => p
 | _ => ⟨0, 0, 0, 0⟩
def lamQ : Str := ("parts_of" : Str) ++ (".<locals>." : Str) ++ ("<lambda>" : Str)
abbrev xD (mg : Str -> Option Value) (c : Addr) (ct : Value) : FuncData := lamF mg lamQ lamP lamB lamS c ct
def spId (mg : Str -> Option Value) (f c : Addr) (ct : Value) : Sp := fun vs H Q _ => ∃ v, vs = [v] /\ H f = some (FunO f (xD mg c ct)) /\ H c = some (CodO c lamQ) /\ Q v H
theorem QL : FnScope ["shape_value"] ["shape_value"] lamS := ⟨rfl, rfl, rfl, by decide +kernel, rfl, by decide +kernel, by decide +kernel⟩
theorem VT : ∃ p, lamB = .Name "shape_value" p := ⟨_, rfl⟩
def spWhole : Sp := fun vs H Q _ => ∃ v, vs = [v] /\ ((∃ i, v = .int i /\ Q (.bl true) H) \/ (∃ p xs, v = .ref p /\ H p = some (.tup xs) /\ Q (.bl false) H))
def ZY (mg : Str -> Option Value) : Sp := fun vs H Q _ => ∃ (v : V) (m : Nat) (f c : Addr) (ct : Value) (full : List V), vs = [v, .int (m : Nat), .ref f] /\ m <= 300 /\ H f = some (FunO f (xD mg c ct)) /\ H c = some (CodO c lamQ) /\ PtL H [v] full /\
 ∀ (H' : Hp) (l : Addr), Same H H' -> H l = none -> H' l = some (.lst (full.take m)) -> Q (.ref l) H'
def Tb (T : Addr) (H : Hp) : Prop := ∃ ps, H T = some (.tbl ps) /\ (ps = #[] \/ ∃ c, ps = #[rawInt lamPos.line, rawInt lamPos.col, .ref c] /\ H c = some (CodO c lamQ))
def KT (T : Addr) (H H' : Hp) : Prop := ∀ b u, b ≠ T -> H b = some u -> H' b = some u
theorem KT.trans {T : Addr} {H H1 H2 : Hp} (a : KT T H H1) (b : KT T H1 H2) : KT T H H2 := fun c u n h => b c u n (a c u n h)
theorem KT.of {T : Addr} {H H1 : Hp} (s : Same H H1) : KT T H H1 := fun c u _ h => s c u h
theorem Tb.tbl {T : Addr} {H : Hp} (h : Tb T H) : ∃ ps, H T = some (.tbl ps) := let ⟨ps, e, _⟩ := h; ⟨ps, e⟩
theorem Tb.same {T : Addr} {H H' : Hp} (h : Tb T H) (s : Same H H') : Tb T H' := by
 obtain ⟨ps, e, h⟩ := h
 refine ⟨ps, s _ _ e, ?_⟩
 rcases h with h | ⟨c, h, g⟩
 ·exact .inl h
 ·exact .inr ⟨c, h, s _ _ g⟩
theorem KT.lst {T : Addr} {H H' : Hp} (k : KT T H H') (h : Tb T H) {p : Addr} {xs : List V} (q : H p = some (.lst xs)) : H' p = some (.lst xs) := k p _ (let ⟨_, e⟩ := h.tbl; ye q e (by intro z; cases z)) q
def ZZ (T : Addr) : Sp := fun vs H Q _ => ∃ (v : V) (m : Nat) (full : List V), vs = [v, .int (m : Nat)] /\ m <= 300 /\ Tb T H /\ PtL H [v] full /\ ∀ (H' : Hp) (l : Addr), KT T H H' -> Tb T H' -> H l = none -> H' l = some (.lst (full.take m)) -> Q (.ref l) H'
section
variable {P : Program} {w : World} {K : PySem.W.Frag} {mg : Str -> Option Value} {base : Heap} {f : Addr} {fd : FuncData}
theorem qX (f c : Addr) (ct : Value) : FnOk P w K mg base CX0 1 f (xD mg c ct) ["shape_value"] (spId mg f c ct) := by
 refine qV (k := 0) (N := ["shape_value"]) (fun vs H Q E h => ?_) QL (fun vs H Q E h => ?_) (fun A outer s H vs Q E hr h => ?_)
 ·obtain ⟨v, rfl, h1, h2, _⟩ := h
  exact ⟨h1, h2⟩
 ·obtain ⟨v, rfl, _⟩ := h
  rfl
 ·obtain ⟨v, rfl, h1, h2, q⟩ := h
  obtain ⟨p, e⟩ := VT
  rw [e]
  exact ⟨tVar 0, pv 0, v, rfl, q⟩
theorem qY (c : Addr) (ct : Value) : Binds K (xD mg c ct) ["shape_value"] [] := .all fun us hl => match us, hl with | [_], _ => rfl
theorem scWhole : FnScope ["thing"] ["thing"] (zo yZ) := ⟨rfl, rfl, rfl, by decide +kernel, rfl, by decide +kernel, by decide +kernel⟩
theorem ok_whole (F : Fun K "is_whole" "is_whole" yZ f fd) (m_isinstance : mg "isinstance" = none) (m_int : mg "int" = none) (m_bool : mg "bool" = none) : FnOk P w K mg base CX0 1 f fd ["thing"] spWhole := by
 refine F.by scWhole (fun vs H Q E h => ?_) (fun cdv A outer s H vs Q E hr h => ?_)
 ·obtain ⟨v, rfl, _⟩ := h
  rfl
 obtain ⟨v, rfl, h⟩ := h
 refine ⟨_,
  (zk (zF (wk (zI zR rfl m_isinstance PyProof.Rows.boot_isinstance (ja_c (jv 0) (ja_c (yf (v := .ty "int") rfl m_int PyProof.Rows.boot_int rfl) zh))) (wj (j6 (zI zR rfl m_isinstance PyProof.Rows.boot_isinstance (ja_c (jv 0) (ja_c (yf (v := .ty "bool") rfl m_bool PyProof.Rows.boot_bool rfl) zh)))))))), ?_⟩
 rcases h with ⟨i, rfl, q⟩ | ⟨p, xs, rfl, hp, q⟩
 ·exact ⟨_, rfl, _, _, _, _, rfl, .int _, rfl, _, rfl, iteT ⟨_, rfl, _, _, _, _, rfl, .int _, rfl, _, rfl, q⟩⟩
 ·exact ⟨_, rfl, _, _, _, _, rfl, .tup hp, rfl, _, rfl, iteF q⟩
theorem scFirst : FnScope ["value", "most", "shape_of", "told", "left", "one", "pair", "part"] ["value", "most", "shape_of"] (zo Zh) := ⟨rfl, rfl, rfl, by decide +kernel, rfl, by decide +kernel, by decide +kernel⟩
theorem YF {told xs full : List V} {m : Nat} (e : told ++ xs = full) (h : told.length <= m) (d : xs = [] \/ told.length = m) : told = full.take m := by
 subst e
 rcases d with rfl | d
 ·rw [List.append_nil, List.take_of_length_le h]
 ·rw [<- d, List.take_left]
theorem X7 (F : Fun K "first_parts" "first_parts" Zh f fd) (GW : Ca P w K mg base CX0 1 "is_whole" ["thing"] spWhole) (m_len : mg "len" = none) (m_reversed : mg "reversed" = none) : FnOk P w K mg base CX0 2 f fd ["value", "most", "shape_of"] (ZY mg) := by
 refine F.by scFirst (fun vs H Q E h => ?_) (fun cdv A outer s H vs Q E hr h => ?_)
 ·obtain ⟨v, m, f, c, ct, full, rfl, _⟩ := h
  rfl
 obtain ⟨v, m, fl, c, ct, full, rfl, hm, hf, hc, hP, q⟩ := h
 refine ⟨_,
  (zj (zu (i := 3) scFirst.nd rfl (Or.inl rfl) (zV zh))
  (zj (zu (i := 4) scFirst.nd rfl (Or.inl rfl) (zV (ja_c (jv 0) zh)))
  (zj (wm PassesOwn.never (jW.pt (j5 (zw ZM (zI zC rfl m_len PySem.boot_len (ja_c (jv 4) zh)) zi (zy _)) (vx (zw ZK (zI zC rfl m_len PySem.boot_len (ja_c (jv 3) zh)) (jv 1) (zy _)))))
   (zj (zu (i := 5) scFirst.nd rfl (Or.inl rfl) (vy PySem.F.plainAttrs_list PySem.F.slot_list_pop PySem.F.type_list_pop Xs (jv 4)))
   (zk (zM (yn (zv GW hr rfl zx (ja_c (jv 5) zh)))
    (zk (zN (yN PySem.F.plainAttrs_list PySem.F.slot_list_append PySem.F.type_list_append yb (jv 3) (ja_c (jv 5) zh))))
    (zj (zu (i := 6) scFirst.nd rfl (Or.inl rfl) (X4 (fo := xD mg) (sp := spId mg) (fun f c ct => qX f c ct) hr (jv 2) (fun c ct => qY c ct) zx (ja_c (jv 5) zh)))
    (zj (zN (yN PySem.F.plainAttrs_list PySem.F.slot_list_append PySem.F.type_list_append yb (jv 3) (ja_c (zt zA (jv 6) zi (fun _ _ => rfl)) zh)))
    (zk (yp PassesOwn.never rfl (VS rfl m_reversed (ja_c (zt zA (jv 6) zi (fun _ _ => rfl)) zh)) (zr (i := 7) scFirst.nd rfl (Or.inl rfl))
     (zk (zN (yN PySem.F.plainAttrs_list PySem.F.slot_list_append PySem.F.type_list_append yb (jv 4) (ja_c (jv 7) zh))))))))))))
  (zk (zF (jv 3)))))), ?_⟩
 have sl := z6
 refine ⟨by show 0 <= sizeLine; decide, fun lt h1 => ⟨_, rfl, by show 1 <= sizeLine; decide, fun lf h2 => ?_⟩⟩
 have s1 := zp (o := .lst []) h1
 have flf : H lf = none := s1.free h2
 have s2 := s1.new (o := .lst [v]) h2
 have ntf : lt ≠ lf := zn (zg (H := H) (a := lt) (o := .lst [])) h2
 have hP2 := hP.keep (.of s2)
 refine ⟨fun k σ H' => ∃ (told ls xs : List V) (x y z : Option V), k = m - told.length /\ σ = [some v, some (.int (m : Nat)), some (.ref fl), some (.ref lt), some (.ref lf), x, y, z] /\ Same H H' /\ H' lt = some (.lst told) /\ H' lf = some (.lst ls) /\ PtL H' ls.reverse xs /\ told ++ xs = full /\ told.length <= m /\ ls.length <= 1 + 9 * told.length,
  ⟨_, [], [v], full, none, none, none, rfl, rfl, s2, old h2 zg, zg, hP2, rfl, Nat.zero_le _, by simp⟩, ?_⟩
 rintro k σ H3 ⟨told, ls, xs, x, y, z, rfl, rfl, sm, ht, hl, hx, e, hlen, hls⟩
 refine ⟨_, rfl, _, _, rfl, .inl (SqL.of hl), _, _, rfl, rfl, _, rfl, ?_⟩
 have fin : (xs = [] \/ told.length = m) -> Q (.ref lt) H3 := fun d => q _ lt sm h1 (by rw [ht, YF e hlen d])
 refine ite2 (fun c1 => ?_) (fun c1 => ?_)
 ·rw [decide_eq_true_eq] at c1
  have c1 : 0 < ls.length := by omega
  refine ⟨_, rfl, _, _, rfl, .inl (SqL.of ht), _, rfl, _, _, rfl, rfl, _, rfl, ?_⟩
  by_cases c2 : told.length < m
  ·rw [decide_eq_true (show ((told.length : Nat) : Int) < (m : Nat) by omega)]
   refine iteT ⟨_, fun _ _ h => h, ?_⟩
   obtain ⟨ls', one, rfl⟩ : ∃ ls' one, ls = ls' ++ [one] := ⟨ls.dropLast, ls.getLast (by intro z; rw [z] at c1; simp at c1), (List.dropLast_concat_getLast _).symm⟩
   refine ⟨_, rfl, .inl ⟨rfl, _, SqL.of hl⟩, lf, _, one, rfl, rfl, hl, by simp, ?_⟩
   rw [List.dropLast_concat]
   rw [List.reverse_append, List.reverse_singleton] at hx
   rw [List.length_append] at hls
   have hls : ls'.length <= 9 * told.length := by simp at hls; omega
   have t4 : Tups H3 (upd H3 lf (.lst ls')) := fun b xs z => by rw [zm (ye z hl (by intro z; cases z))]; exact z
   have s4 := sm.put (o := .lst ls') flf
   have ht4 : upd H3 lf (.lst ls') lt = some (.lst told) := by rw [zm ntf]; exact ht
   have hl4 := zg (H := H3) (a := lf) (o := .lst ls')
   replace hx := hx.keep t4
   clear fin
   generalize upd H3 lf (.lst ls') = H4 at *
   cases hx with
   | @num i vs xs2 hx =>
    refine ⟨_, rfl, _, rfl, .inl ⟨i, rfl, _, rfl, iteT ?_⟩⟩
    refine ⟨_, rfl, .inl ⟨rfl, _, SqL.of ht4⟩, _, rfl, lt, _, _, rfl, rfl, ht4, by omega, ?_⟩
    have t5 : Tups H4 (upd H4 lt (.lst (told ++ [.int i]))) := fun b xs z => by rw [zm (ye z ht4 (by intro z; cases z))]; exact z
    refine ⟨m - (told ++ [V.int i]).length, by rw [List.length_append]; show m - (told.length + 1) < _; omega, told ++ [.int i], ls', xs2, _, _, _, rfl, rfl, s4.put h1, zg, by rw [zm ntf.symm]; exact hl4, hx.keep t5, by rw [<- e]; simp, by rw [List.length_append]; show told.length + 1 <= m; omega, by rw [List.length_append]; show _ <= 1 + 9 * (told.length + 1); omega⟩
   | @shp p pq t us vs ys zs hp hq hu hus hx =>
    refine ⟨_, rfl, _, rfl, .inr ⟨p, _, rfl, hp, _, rfl, iteF ?_⟩⟩
    refine ⟨fl, rfl, c, ct, s4 _ _ hf, _, rfl, s4 _ _ hf, _, rfl, s4 _ _ hf, s4 _ _ hc, ?_⟩
    refine ⟨_, rfl, .inl ⟨rfl, _, SqL.of ht4⟩, _, rfl, p, _, _, _, rfl, rfl, SqT.of hp, zq (j := 0) rfl, lt, _, _, rfl, rfl, ht4, by omega, ?_⟩
    have t5 : Tups H4 (upd H4 lt (.lst (told ++ [.str t]))) := fun b xs z => by rw [zm (ye z ht4 (by intro z; cases z))]; exact z
    have s5 := s4.put (o := .lst (told ++ [.str t])) h1
    have ht5 := zg (H := H4) (a := lt) (o := .lst (told ++ [.str t]))
    have hl5 : upd H4 lt (.lst (told ++ [.str t])) lf = some (.lst ls') := by rw [zm ntf.symm]; exact hl4
    replace hp := t5 _ _ hp
    replace hq := t5 _ _ hq
    replace hus := hus.keep t5
    replace hx := hx.keep t5
    generalize upd H4 lt (.lst (told ++ [.str t])) = H5 at *
    refine ⟨_, rfl, p, _, _, _, rfl, rfl, SqT.of hp, zq (j := 1) rfl, pq, us, rfl, SqT.of hq, X6 (xs := us) (fun i σ H' => ∃ x, σ = [some v, some (.int (m : Nat)), some (.ref fl), some (.ref lt), some (.ref lf), some (.ref p), some (.ref p), x] /\ Same H H' /\ Tups H5 H' /\ H' lt = some (.lst (told ++ [.str t])) /\ H' lf = some (.lst (ls' ++ us.reverse.take i))) ⟨_, rfl, s5, fun _ _ h => h, ht5, by simpa using hl5⟩ (fun i σ H' _ h => SqT.of (h.choose_spec.2.2.1 _ _ hq)) ?_ ?_⟩
    ·rintro i y σ H6 hy ⟨x, rfl, s6, t6, ht6, hl6⟩
     have hi : i < us.reverse.length := (List.getElem?_eq_some_iff.mp hy).1
     rw [List.length_reverse] at hi
     refine ⟨_, rfl, .inl ⟨rfl, _, SqL.of hl6⟩, _, rfl, lf, _, _, rfl, rfl, hl6, by rw [List.length_append, List.length_take]; omega, ?_⟩
     refine ⟨_, rfl, s6.put flf, t6.trans (fun b xs z => by rw [zm (ye z hl6 (by intro z; cases z))]; exact z), by rw [zm ntf]; exact ht6, ?_⟩
     rw [zg, List.append_assoc, List.take_succ, hy]
     rfl
    ·rintro σ H6 ⟨x, rfl, s6, t6, ht6, hl6⟩
     rw [List.take_of_length_le (by simp)] at hl6
     refine ⟨m - (told ++ [V.str t]).length, by rw [List.length_append]; show m - (told.length + 1) < _; omega, told ++ [.str t], ls' ++ us.reverse, ys ++ zs, _, _, _, rfl, rfl, s6, ht6, hl6, ?_, by rw [<- e]; simp, by rw [List.length_append]; show told.length + 1 <= m; omega, by rw [List.length_append, List.length_append, List.length_reverse]; show _ <= 1 + 9 * (told.length + 1); omega⟩
     rw [List.reverse_append, List.reverse_reverse]
     exact (hus.app hx).keep t6
  ·rw [decide_eq_false (show ¬ ((told.length : Nat) : Int) < (m : Nat) by omega)]
   exact iteF ⟨_, rfl, fin (.inr (by omega))⟩
 ·rw [decide_eq_true_eq] at c1
  have e0 : ls = [] := List.length_eq_zero_iff.mp (by omega)
  subst e0
  cases hx
  exact iteF ⟨_, rfl, fin (.inl rfl)⟩
theorem YG {c D : Addr} (dt : DtIn K D 100) (kV doc pm : Value) (an : Option Addr) (ct : Value) : Binds K (PySem.W.fnOf "parts_of" "parts_of" (zQ yA) (zK yA) (zo yA) (.ref D) kV doc pm an (.ref c) ct) ["value", "most"] [] := fun s us X hl => by
 obtain ⟨d, t, n, sl, lk⟩ := dt
 have hl' : us.length = 2 := by simp at hl; omega
 match us, hl' with
 | [_, _], _ => exact PySem.W.binds_K X rfl lk rfl rfl rfl
theorem YH {c D : Addr} (dt : DtIn K D 100) (kV doc pm : Value) (an : Option Addr) (ct : Value) : ∃ ds, Binds K (PySem.W.fnOf "parts_of" "parts_of" (zQ yA) (zK yA) (zo yA) (.ref D) kV doc pm an (.ref c) ct) ["value", "most"] ds /\ Vals [.int 100] ds := by
 obtain ⟨d, t, n, sl, lk⟩ := dt
 refine ⟨[.int 100 t], fun s us X hl => ?_, .cons ⟨_, rfl⟩ .nil⟩
 have hl' : us.length = 1 := by simp at hl; omega
 match us, hl' with
 | [_], _ => exact PySem.W.binds_K X rfl lk rfl rfl rfl
theorem VU : FnScope ["value", "most"] ["value", "most"] (zo yA) := ⟨rfl, rfl, rfl, by decide +kernel, rfl, by decide +kernel, by decide +kernel⟩
theorem X8 {c D T : Addr} (F : FunD K "parts_of" yA c D f fd) (hB : BMn mg base) (hc : PySem.W.codeHdIn K c T = true) (GF : Ca P w K mg base CX0 2 "first_parts" ["value", "most", "shape_of"] (ZY mg)) : FnOk P w K mg base CX0 3 f fd ["value", "most"] (ZZ T) := by
 refine F.by VU (fun vs H Q E h => ?_) (fun A outer s H vs Q E hr h => ?_)
 ·obtain ⟨v, m, full, rfl, _⟩ := h
  rfl
 obtain ⟨v, m, full, rfl, hm, hT, hP, q⟩ := h
 refine ⟨_,
  (zk (zF (zv GF hr rfl zx (ja_c (jv 0) (ja_c (jv 1) (ja_c (qU (params := lamP) (body := lamB) (scope := lamS) (pos := lamPos) (T := T) (qual := lamQ) hB rfl hc rfl) zh)))))), ?_⟩
 obtain ⟨ps, hT1, hT2⟩ := hT
 refine ⟨_, rfl, _, rfl, ps, hT1, ?_⟩
 rcases hT2 with rfl | ⟨c', rfl, hc'⟩
 ·refine ⟨trivial, .inl ⟨rfl, fun c' fl ct h1 h2 h3 => ?_⟩⟩
  have n1 : T ≠ c' := zn hT1 h1
  have n2 : T ≠ fl := zn hT1 h2
  have kt : KT T H (upd (upd (upd H T (.tbl (#[] ++ #[rawInt lamPos.line, rawInt lamPos.col, .ref c']))) c' (CodO c' lamQ)) fl (FunO fl (xD mg c' ct))) := fun b u n e => by rw [zm (zn e h2), zm (zn e h1), zm n]; exact e
  have e1 : upd (upd (upd H T (.tbl (#[] ++ #[rawInt lamPos.line, rawInt lamPos.col, .ref c']))) c' (CodO c' lamQ)) fl (FunO fl (xD mg c' ct)) T = some (.tbl #[rawInt lamPos.line, rawInt lamPos.col, .ref c']) := by rw [zm n2, zm n1]; exact zg
  have e2 : upd (upd (upd H T (.tbl (#[] ++ #[rawInt lamPos.line, rawInt lamPos.col, .ref c']))) c' (CodO c' lamQ)) fl (FunO fl (xD mg c' ct)) c' = some (CodO c' lamQ) := by rw [zm h3.symm]; exact zg
  refine ⟨v, m, fl, c', ct, full, rfl, hm, zg, e2, hP.keep (fun p xs e => kt p _ (ye e hT1 (by intro z; cases z)) e), fun H' l s' hl e => q H' l (kt.trans (.of s')) ((Tb.same ⟨_, e1, .inr ⟨c', rfl, e2⟩⟩ s')) ?_ e⟩
  cases hz : H l with
  | none => rfl
  | some u =>
   by_cases z : l = T
   ·subst z
    exact absurd (e1.symm.trans hl) (by intro y; cases y)
   ·exact absurd ((kt l u z hz).symm.trans hl) (by intro y; cases y)
 ·refine ⟨trivial, .inr ⟨c', ?_, fun fl ct h2 => ?_⟩⟩
  ·show (if ((lamPos.line : Nat) : Int) == _ && _ then _ else _) = _
   rw [if_pos (by simp)]
  have s1 := zp (o := FunO fl (xD mg c' ct)) h2
  refine ⟨v, m, fl, c', ct, full, rfl, hm, zg, s1 _ _ hc', hP.keep (.of s1), fun H' l s' hl e => q H' l (.of (s1.trans s')) (Tb.same ⟨_, hT1, .inr ⟨c', rfl, hc'⟩⟩ (s1.trans s')) (s1.free hl) e⟩
end
end GN
namespace L2
open PySem PySem.Spec PyProof.Rows
section
variable {prog : Program} {w : World} {A : Around} {s : Shared} {E : Value -> Shared -> Prop}
end
end L2
namespace L2
open PySem PySem.Spec PyProof.Rows
section
variable {X : Cx} {scope : Scope} {cl : List (Str × Addr)} {S : List Nat} {pins : List (Addr × Obj)} {σ : St} {H : Hp} {s : Shared} {ex : List Addr} {M : List Str} {C : Addr}
variable {tg elt iter : Expr} {ifs : List Expr} {pos : Pos} {wi : TI} {g : TG} {tt : TT} {te : TE}
end
section
variable {X : Cx} {scope : Scope} {M : List Str} {tg elt l : Expr} {ifs : List Expr} {pos : Pos} {tl : TE} {g : TG} {tt : TT} {te : TE}
end
end L2
namespace PySem.W
open PySem PySem.Spec PySem.Calls PyProof.Rows
section
variable {prog : Program} {w : World} {A : Around} {E : Value -> Shared -> Prop} {s : Shared} {K : Frag} {e C : Addr} {ox od : Obj}
end
structure XIs (K : Frag) (C : Addr) : Prop where
 ga : findIn K (.ref C) "__getattribute__" = some (some (.builtin "BaseException.__getattribute__"))
 ha : findIn K (.ref C) "__getattr__" = some none
 sb : subIn K (.ref C) (.type "BaseException") = some true
 hd : hasDictIn K C = true
 cl : findIn K (.ref C) "__class__" = some (some (.builtin "object.__class__"))
 gs : specialIn K (.builtin "object.__class__") "__get__" = some (some (.builtin "getset_descriptor.__get__"))
 tk : takesIn K (.builtin "object.__class__") = some true
 mo : mroIn K C (.type "object") = some true
end PySem.W
namespace L2
open PySem PySem.Spec PyProof.Rows
end L2
namespace L2
open PySem PySem.Spec PyProof.Rows
section
variable {X : Cx}
end
end L2
namespace L2
open PySem PySem.Spec PyProof.Rows
def BG : Nat := 2 ^ 1000
section
variable {X : Cx}
theorem VV : jCa X (.type "int") (fun xs H Q => (∃ i, xs = [.int i] /\ Q (.int i) H) \/ ∃ k, xs = [.bl k] /\ Q (.int (if k then 1 else 0)) H) := ⟨Yq⟩
theorem yy {st : Stmt} : jS X st (fun _ _ _ => False) := ⟨fun _ _ _ _ _ _ h => h.elim⟩
end
section
variable {X : Cx} {Ch : Addr} {x n z : Str} {i j k : Nat} {np hpos tpos pz spos : Pos} {b0 : Stmt} {suite : List Stmt} {th : Addr -> Obj -> TS} {ps : List Str} {sp : Sp} {y : Str} {p cpos : Pos} {a : Expr} {as : List Expr} {t : TA}
end
end L2
namespace GN
open PySem L2 K11
theorem jy : ∀ {zs : List Str}, (∀ z ∈ zs, z.length = 1) -> (Str.join "" zs).length = zs.length
 | [], _ => rfl
 | [x], h => h x List.mem_cons_self
 | x :: y :: r, h => by
  have ih := jy (zs := y :: r) fun z hz => h z (List.mem_cons_of_mem _ hz)
  rw [<- yY, vG, List.length_append, List.length_append, yY, yY, yY, ih, h x List.mem_cons_self]
  show 1 + (0 + (y :: r).length) = (y :: r).length + 1
  omega
theorem X9 {zs : List Str} (h : ∀ z ∈ zs, z.length = 1) : wide "" zs = zs.length := by
 unfold wide
 have e : ∀ {l : List Str}, (∀ z ∈ l, z.length = 1) -> (l.map (·.length)).sum = l.length := by
  intro l
  induction l with
  | nil => intro _; rfl
  | cons a l ih => intro h; rw [List.map_cons, List.sum_cons, ih fun z hz => h z (List.mem_cons_of_mem _ hz), h a List.mem_cons_self, List.length_cons]; omega
 rw [e h]
 rfl
theorem qZ {s : List V} {m : Int} (h : 0 <= m) : cutV s none (some m) = s.take m.toNat := by
 unfold cutV
 have c1 : HT.sIx s.length 0 none = 0 := rfl
 have c2 : HT.sIx s.length s.length (some m) = min m.toNat s.length := by
  show (if m < 0 then (m + (s.length : Nat)).toNat else min m.toNat s.length) = _
  rw [if_neg (by omega)]
 rw [c1, c2, List.drop_zero, Nat.sub_zero]
 rcases Nat.le_total m.toNat s.length with c | c
 ·rw [Nat.min_eq_left c]
 ·rw [Nat.min_eq_right c, List.take_of_length_le (Nat.le_refl _), List.take_of_length_le c]
theorem t30 : (10 : Int) ^ (30 : Int).toNat = 1000000000000000000000000000000 := by decide
def Sm (i : Int) : Prop := -1000000000000000000000000000000 < i /\ i < 1000000000000000000000000000000
def Wa (K : PySem.W.Frag) : Sp := fun vs H Q _ => ∃ (st : Addr) (B : Nat), vs = [.ref st] /\ Sta K H st B /\ B + 8 < LIM /\ ∀ (H' : Hp) (p : Addr) (z : Str) (b : Bool), Kp st H H' -> Sta K H' st (B + 8) -> H' p = some (.lst [.str z, .bl b]) -> z.length <= 6 -> Q (.ref p) H'
inductive Th (H : Hp) : Bool -> V -> Prop
 | int (i : Int) : Th H true (.int i)
 | bl (b : Bool) : Th H false (.bl b)
 | non : Th H false .non
 | str (x : Str) : Th H false (.str x)
 | lst {p : Addr} {xs : List V} : H p = some (.lst xs) -> Th H false (.ref p)
 | tup {p : Addr} {xs : List V} : H p = some (.tup xs) -> Th H false (.ref p)
 | dK {p : Addr} {xs : List (Key × V)} : H p = some (.dK xs) -> Th H false (.ref p)
theorem Th.keep {H H' : Hp} {b : Bool} {v : V} (s : Same H H') (h : Th H b v) : Th H' b v := by
 cases h with
 | int i => exact .int i
 | bl b => exact .bl b
 | non => exact .non
 | str x => exact .str x
 | lst h => exact .lst (s _ _ h)
 | tup h => exact .tup (s _ _ h)
 | dK h => exact .dK (s _ _ h)
def jz : Sp := fun vs H Q _ => ∃ (v : V) (b : Bool), vs = [v] /\ Th H b v /\ Q (.bl b) H
def spIn : Sp := fun vs H Q _ => ∃ i : Int, vs = [.int i] /\ Q (.bl (decide (-1000000000000000000000000000000 < i /\ i < 1000000000000000000000000000000))) H
section
variable {P : Program} {w : World} {K : PySem.W.Frag} {mg : Str -> Option Value} {base : Heap} {f : Addr} {fd : FuncData}
theorem scStem : FnScope ["_law_state", "_law_letters", "_law_stem_here"] ["_law_state"] (zo XU) := ⟨rfl, rfl, rfl, by decide +kernel, rfl, by decide +kernel, by decide +kernel⟩
theorem q5 : (["_law_state", "_law_letters", "_law_stem_here", "_law_k"] : List Str).Nodup := by decide +kernel
theorem VW (F : Fun K "_law_stem" "_law_stem" XU f fd) (GD : Ca P w K mg base CX0 1 "_law_draw" ["_law_state", "_law_many"] (yB K)) (m_range : mg "range" = none) : FnOk P w K mg base CX0 2 f fd ["_law_state"] (Wa K) := by
 refine F.by scStem (fun vs H Q E h => ?_) (fun cdv A outer s H vs Q E hr h => ?_)
 ·obtain ⟨st, B, rfl, _⟩ := h
  rfl
 obtain ⟨st, B, rfl, S0, hB, q⟩ := h
 refine ⟨_,
  (zj (zu (i := 1) scStem.nd rfl (Or.inr rfl) zL)
  (zj (zu (i := 2) scStem.nd rfl (Or.inl rfl) (yN PySem.F.plainAttrs_str PySem.F.slot_str_join PySem.F.type_str_join Vx zL (ja_c (xa ["_law_k"] rfl (zW rfl m_range (ja_c (zv GD hr rfl zx (ja_c (jv 0) (ja_c zi zh))) zh)) (fun _ _ _ _ _ => (zr (i := 3) q5 rfl (Or.inl rfl))) (fun _ _ _ _ _ => z9) (fun _ _ _ _ _ => (zt j8 (jv 1) (zv GD hr rfl zx (ja_c (jv 0) (ja_c zi zh))) (fun _ _ => rfl)))) zh)))
  (zk (zF (zV (ja_c (jv 2) (ja_c (xx zY (zv GD hr rfl zx (ja_c (jv 0) (ja_c zi zh))) zi (zy _)) zh))))))), ?_⟩
 have sl := z6
 have LM : LIM = 4611686018427387904 := rfl
 refine ⟨rfl, _, rfl, st, 7, B, rfl, S0, by omega, by decide, fun H1 r k1 S1 r0 r1 => ?_⟩
 refine ⟨_, rfl, by omega, by omega, ym (n := r.toNat) (fun i τ ys H' => Kp st H H' /\ Sta K H' st (B + 1 + i) /\ (∃ x, τ = [some (.ref st), some (.str LET), none, x]) /\ ∃ zs : List Str, ys = zs.map V.str /\ zs.length = i /\ ∀ z ∈ zs, z.length = 1) ⟨k1, S1, ⟨none, rfl⟩, [], rfl, rfl, fun z hz => by cases hz⟩ ?_ ?_⟩
 ·rintro i τ ys H2 hi ⟨k2, S2, ⟨x, rfl⟩, zs, rfl, hl, h1⟩
  refine ⟨_, rfl, _, rfl, st, 26, B + 1 + i, rfl, S2, by omega, by decide, fun H3 r3 k3 S3 q0 q1 => ?_⟩
  refine ⟨LET, _, _, rfl, rfl, by rw [vN]; decide, vM q0 q1, by rw [List.length_map]; omega, k2.trans k3, S3, ⟨_, rfl⟩, zs ++ [⟨#[97 + r3.toNat]⟩], by simp, by simp [hl], ?_⟩
  intro z hz
  rcases List.mem_append.mp hz with hz | hz
  ·exact h1 z hz
  ·rw [List.mem_singleton.mp hz]
   rfl
 rintro τ ys H2 ⟨k2, S2, _, zs, rfl, hl, h1⟩ pj hpj
 refine ⟨"", pj, zs, rfl, rfl, SqL.of zg, by rw [X9 h1]; omega, ?_⟩
 have zl : (Str.join "" zs).length <= 6 := by rw [jy h1]; omega
 replace k2 := k2.new (o := .lst (zs.map V.str)) hpj
 replace S2 := (S2.mono (show _ <= B + 7 by omega)).new hpj (.lst (zs.map V.str))
 generalize upd H2 pj (.lst (zs.map V.str)) = H3 at *
 generalize Str.join "" zs = z at *
 refine ⟨_, rfl, _, rfl, st, 2, B + 7, rfl, S2, by omega, by decide, fun H4 r4 k4 S4 _ _ => ?_⟩
 refine ⟨rfl, by show 2 <= sizeLine; decide, fun p hp => ?_⟩
 exact q _ p z _ ((k2.trans k4).new hp) (S4.new hp _) zg zl
theorem Wb : FnScope ["thing"] ["thing"] (zo yZ) := ⟨rfl, rfl, rfl, by decide +kernel, rfl, by decide +kernel, by decide +kernel⟩
theorem YI (F : Fun K "is_whole" "is_whole" yZ f fd) (m_isinstance : mg "isinstance" = none) (m_int : mg "int" = none) (m_bool : mg "bool" = none) : FnOk P w K mg base CX0 1 f fd ["thing"] jz := by
 refine F.by Wb (fun vs H Q E h => ?_) (fun cdv A outer s H vs Q E hr h => ?_)
 ·obtain ⟨v, b, rfl, _⟩ := h
  rfl
 obtain ⟨v, b, rfl, hT, q⟩ := h
 refine ⟨_,
  (zk (zF (wk (zI zR rfl m_isinstance PyProof.Rows.boot_isinstance (ja_c (jv 0) (ja_c (yf (v := .ty "int") rfl m_int PyProof.Rows.boot_int rfl) zh))) (wj (j6 (zI zR rfl m_isinstance PyProof.Rows.boot_isinstance (ja_c (jv 0) (ja_c (yf (v := .ty "bool") rfl m_bool PyProof.Rows.boot_bool rfl) zh)))))))), ?_⟩
 cases hT with
 | int i => exact ⟨_, rfl, _, _, _, _, rfl, .int _, rfl, _, rfl, iteT ⟨_, rfl, _, _, _, _, rfl, .int _, rfl, _, rfl, q⟩⟩
 | bl b => exact ⟨_, rfl, _, _, _, _, rfl, .bl _, rfl, _, rfl, iteT ⟨_, rfl, _, _, _, _, rfl, .bl _, rfl, _, rfl, q⟩⟩
 | non => exact ⟨_, rfl, _, _, _, _, rfl, .non, rfl, _, rfl, iteF q⟩
 | str x => exact ⟨_, rfl, _, _, _, _, rfl, .str _, rfl, _, rfl, iteF q⟩
 | lst h => exact ⟨_, rfl, _, _, _, _, rfl, .lst h, rfl, _, rfl, iteF q⟩
 | tup h => exact ⟨_, rfl, _, _, _, _, rfl, .tup h, rfl, _, rfl, iteF q⟩
 | dK h => exact ⟨_, rfl, _, _, _, _, rfl, .dK h, rfl, _, rfl, iteF q⟩
theorem scIn : FnScope ["number"] ["number"] (zo sIn) := ⟨rfl, rfl, rfl, by decide +kernel, rfl, by decide +kernel, by decide +kernel⟩
theorem QM (F : Fun K "in_bounds" "in_bounds" sIn f fd) : FnOk P w K mg base CX0 1 f fd ["number"] spIn := by
 refine F.by scIn (fun vs H Q E h => ?_) (fun cdv A outer s H vs Q E hr h => ?_)
 ·obtain ⟨i, rfl, _⟩ := h
  rfl
 obtain ⟨i, rfl, q⟩ := h
 refine ⟨_, (zk (zF (Xo ZK ZK (j4 (zB vA zi zi)) (jv 0) (zB vA zi zi)))), ?_⟩
 refine ⟨_, _, rfl, rfl, ⟨by decide, by decide, by decide⟩, _, rfl, _, rfl, _, _, rfl, rfl, ?_⟩
 rw [t30]
 by_cases c : -1000000000000000000000000000000 < i
 ·refine ⟨_, rfl, itD c ?_⟩
  refine ⟨_, _, rfl, rfl, ⟨by decide, by decide, by decide⟩, _, _, rfl, rfl, ?_⟩
  rw [t30]
  have e : decide (-1000000000000000000000000000000 < i /\ i < 1000000000000000000000000000000) = decide (i < 1000000000000000000000000000000) := by simp [c]
  rw [e] at q
  exact q
 ·refine ⟨_, rfl, itDN c ?_⟩
  have e : decide (-1000000000000000000000000000000 < i /\ i < 1000000000000000000000000000000) = false := by simp [c]
  rw [e] at q
  exact q
end
end GN
namespace L2
open PySem PySem.Spec PyProof.Rows
section
variable {X : Cx}
end
end L2
namespace L2
open PySem PySem.Spec PyProof.Rows
def Sme : Nat -> Hp -> V -> V -> Prop
 | 0, _, _, _ => False
 | n + 1, H, x, y => (wV x = true /\ x = y) \/ ∃ a b xs ys, x = .ref a /\ y = .ref b /\ ((H a = some (.lst xs) /\ H b = some (.lst ys)) \/ (H a = some (.tup xs) /\ H b = some (.tup ys))) /\ xs.length = ys.length /\ ∀ (i : Nat) u v, xs[i]? = some u -> ys[i]? = some v -> Sme n H u v
section
variable {X : Cx} {pins : List (Addr × Obj)} {σ : St} {H : Hp} {s : Shared}
theorem xi {A : Around} {n : Nat} {xs ys : List V} {us vs : List Value} (r : Vals xs us) (r' : Vals ys vs) (go : ∀ {x y : V} {u v : Value}, Sme n H x y -> RelV x u -> RelV y v -> SeqAt.EqAt A s u v true)
  (h : ∀ (i : Nat) u v, xs[i]? = some u -> ys[i]? = some v -> Sme n H u v) (j : Nat) (h1 : j < us.toArray.size) (h2 : j < vs.toArray.size) : SeqAt.EqAt A s us.toArray[j] vs.toArray[j] true := by
 have l1 := r.length
 have l2 := r'.length
 simp at h1 h2
 have hx : xs[j]? = some (xs[j]'(by omega)) := List.getElem?_eq_getElem _
 have hy : ys[j]? = some (ys[j]'(by omega)) := List.getElem?_eq_getElem _
 obtain ⟨u, e1, rx⟩ := r.get hx
 obtain ⟨v, e2, ry⟩ := r'.get hy
 have g1 : us.toArray[j] = u := by
  have := List.getElem?_eq_some_iff.mp e1
  simpa using this.2
 have g2 : vs.toArray[j] = v := by
  have := List.getElem?_eq_some_iff.mp e2
  simpa using this.2
 rw [g1, g2]
 exact go (h j _ _ hx hy) rx ry
theorem Wc {A : Around} {n : Nat} {a b : Addr} {xs ys : List V} (hu : A.units < cLine) (I : Inv X pins σ H s) (hl : xs.length = ys.length) (hab : (H a = some (.lst xs) /\ H b = some (.lst ys)) \/ (H a = some (.tup xs) /\ H b = some (.tup ys)))
  (go : ∀ {x y : V} {u v : Value}, Sme n H x y -> RelV x u -> RelV y v -> SeqAt.EqAt A.in1 s u v true) (h : ∀ (i : Nat) u v, xs[i]? = some u -> ys[i]? = some v -> Sme n H u v) : SeqAt.RcAt A s (.ref a) (.ref b) true := by
 rcases hab with ⟨h1, h2⟩ | ⟨h1, h2⟩
 ·obtain ⟨i1, v1, m1, _⟩ := I.list (SqL.of h1)
  obtain ⟨i2, v2, m2, _⟩ := I.list (SqL.of h2)
  have n1 := v1.length
  have n2 := v2.length
  have main := SeqAt.RcAt.lists (A := A) (s := s) (e := fun _ => true) m1.isList m2.isList (by simp; omega) hu (fun j x y => xi v1 v2 go h j x y)
  rw [show ((List.range i1.toArray.size).all fun _ => true) = true from List.all_eq_true.mpr fun _ _ => rfl] at main
  exact main
 ·obtain ⟨i1, v1, m1, _⟩ := I.tuple (SqT.of h1)
  obtain ⟨i2, v2, m2, _⟩ := I.tuple (SqT.of h2)
  have n1 := v1.length
  have n2 := v2.length
  have main := SeqAt.RcAt.tuples (A := A) (s := s) (e := fun _ => true) m1 m2 hu (fun j x y => xi v1 v2 go h j x y)
  have eb : ((List.range (min i1.toArray.size i2.toArray.size)).all (fun _ => true) && i1.toArray.size == i2.toArray.size) = true := by
   rw [show (List.range (min i1.toArray.size i2.toArray.size)).all (fun _ => true) = true from List.all_eq_true.mpr fun _ _ => rfl]
   simp
   omega
  rw [eb] at main
  exact main
theorem Zo (I : Inv X pins σ H s) : ∀ (n : Nat) {A : Around} (hu : A.units + n < cLine) {x y : V} {u v : Value}, Sme n H x y -> RelV x u -> RelV y v -> SeqAt.EqAt A s u v true
 | 0, _, _, _, _, _, _, h, _, _ => h.elim
 | n + 1, A, hu, x, y, u, v, h, rx, ry => by
  rcases h with ⟨f, rfl⟩ | ⟨a, b, xs, ys, rfl, rfl, hab, hl, h⟩
  ·have k := qo (A := A) (s := s) rx ry f f
   rw [Xz f] at k
   exact k
  ·cases rx
   cases ry
   by_cases c : a = b
   ·subst c
    exact .same _
   ·exact .of_refs c (Wc (by omega) I hl hab (fun {x y u v} => Zo I n (A := A.in1) (by show A.units + 1 + n < cLine; omega)) h)
def rSme (n : Nat) (b : Bool) : R2 := fun x y H Q => ∃ p p', x = .ref p /\ y = .ref p' /\ Sme n H x y /\ Q (.bl b) H
theorem q8 {n : Nat} (hn : n <= 32) (hu : X.A.units + 64 < cLine) : OpR X (compareOp .Eq) (rSme n true) := by
 intro pins s σ H x y v u Q I rx ry h
 obtain ⟨p, p', rfl, rfl, h, q⟩ := h
 cases rx
 cases ry
 match n, h with
 | n + 1, h =>
  rcases h with ⟨f, _⟩ | ⟨a, b, xs, ys, e1, e2, hab, hl, h⟩
  ·cases f
  ·cases e1
   cases e2
   exact Wc (A := X.A) (by omega) I hl hab (fun {x y u v} => Zo I n (A := X.A.in1) (by show X.A.units + 1 + n < cLine; omega)) h _ _ _ _ ⟨.bl true, H, I, rfl, q⟩
theorem q9 {k n : Nat} (hn : n <= 32) (hr : Room k X.A) : jOp X (compareOp .Eq) (rSme n true) := ⟨q8 hn hr.units⟩
theorem Qa {n : Nat} (hn : n <= 32) (hu : X.A.units + 64 < cLine) : OpR X (compareOp .NotEq) (rSme n false) := by
 intro pins s σ H x y v u Q I rx ry h
 obtain ⟨p, p', rfl, rfl, h, q⟩ := h
 cases rx
 cases ry
 match n, h with
 | n + 1, h =>
  rcases h with ⟨f, _⟩ | ⟨a, b, xs, ys, e1, e2, hab, hl, h⟩
  ·cases f
  ·cases e1
   cases e2
   have go : ∀ {x y : V} {u v : Value}, Sme n H x y -> RelV x u -> RelV y v -> SeqAt.EqAt X.A.in1 s u v true := fun {x y u v} => Zo I n (A := X.A.in1) (by show X.A.units + 1 + n < cLine; omega)
   rcases hab with ⟨h1, h2⟩ | ⟨h1, h2⟩
   ·obtain ⟨i1, v1, m1, _⟩ := I.list (SqL.of h1)
    obtain ⟨i2, v2, m2, _⟩ := I.list (SqL.of h2)
    have n1 := v1.length
    have n2 := v2.length
    have main := SeqAt.RcNeAt.lists (A := X.A) (s := s) (e := fun _ => true) m1.isList m2.isList (by simp; omega) (by omega) (fun j x y => xi v1 v2 go h j x y)
    rw [show ((List.range i1.toArray.size).all fun _ => true) = true from List.all_eq_true.mpr fun _ _ => rfl] at main
    exact main _ _ _ _ ⟨.bl false, H, I, rfl, q⟩
   ·obtain ⟨i1, v1, m1, _⟩ := I.tuple (SqT.of h1)
    obtain ⟨i2, v2, m2, _⟩ := I.tuple (SqT.of h2)
    have n1 := v1.length
    have n2 := v2.length
    have main := SeqAt.RcNeAt.tuples (A := X.A) (s := s) (e := fun _ => true) m1 m2 (by omega) (fun j x y => xi v1 v2 go h j x y)
    have eb : ((List.range (min i1.toArray.size i2.toArray.size)).all (fun _ => true) && i1.toArray.size == i2.toArray.size) = true := by
     rw [show (List.range (min i1.toArray.size i2.toArray.size)).all (fun _ => true) = true from List.all_eq_true.mpr fun _ _ => rfl]
     simp
     omega
    rw [eb] at main
    exact main _ _ _ _ ⟨.bl false, H, I, rfl, q⟩
theorem Qb {k n : Nat} (hn : n <= 32) (hr : Room k X.A) : jOp X (compareOp .NotEq) (rSme n false) := ⟨Qa hn hr.units⟩
end
end L2
namespace PySem.SeqAt
open PySem PySem.Spec PyProof.Rows
end PySem.SeqAt
namespace L2
open PySem PySem.Spec PyProof.Rows
section
variable {X : Cx}
end
end L2
namespace L2
open PySem PySem.Spec PyProof.Rows
section
variable {X : Cx}
end
end L2
namespace L2
open PySem PySem.Spec PyProof.Rows
section
variable {prog : Program} {w : World} {A : Around} {E : Value -> Shared -> Prop}
end
inductive TyN (H : Hp) : V -> Bool -> Prop where
 | int (i : Int) : TyN H (.int i) false
 | str (z : Str) : TyN H (.str z) false
 | bl (b : Bool) : TyN H (.bl b) false
 | non : TyN H .non false
 | lst {a : Addr} {xs : List V} (e : H a = some (.lst xs)) : TyN H (.ref a) true
 | tup {a : Addr} {xs : List V} (e : H a = some (.tup xs)) : TyN H (.ref a) true
section
variable {X : Cx}
variable {CX : CXT} {k : Nat} {C : Addr} {ps : List Str} {sp : Sp} {E : XK} {x m : Str} {p pos apos : Pos} {e o : Expr} {es : List Expr} {ta : TE} {t : TA}
theorem yD {o i : Expr} {td ty : TE} {pos : Pos} (hr : Room k X.A) (ho : jE X o td) (hi : jE X i ty) (hs : NoSl i := by intro _ _; rfl) : jE X (.Subscript o i pos) (Jz td ty) := ⟨VF (Xh hr) ho.out hi.out hs⟩
theorem We {o e f : Expr} {td ty tx : TE} {apos cpos : Pos} (hr : Room k X.A) (ho : jE X o td) (he : jE X e ty) (hf : jE X f tx) (m : M2 X o "get" apos e f cpos := by exact ⟨rfl, rfl, rfl, rfl⟩) : jE X (.Call (.Attribute o "get" apos) [e, f] [] cpos) (XQ td ty tx) := ⟨XR (Xh hr) ho.out he.out hf.out m⟩
end
section
variable {g : TG} {tt : TT} {te : TE} {Q : VK} {σ : St} {H : Hp}
end
end L2
namespace L2
open PySem PySem.Spec PyProof.Rows
section
variable {X : Cx} {k : Nat} {o e f i : Expr} {td ty tx : TE} {apos cpos pos : Pos}
theorem vh (hr : Room k X.A) (hi : jE X i ty) (ho : jE X o td) (h1 : behindInMarks .NotIn o = false := by rfl) : jT X (.Compare i [.NotIn] [o] pos) (tB (ZV ty td)) := ⟨YV (YA (Xh hr) hi.out ho.out) (h1 := h1)⟩
end
end L2
namespace L2
open PySem PySem.Spec PyProof.Rows
section
variable {prog : Program} {w : World} {A : Around} {E : Value -> Shared -> Prop} {h : Heap} {g : Array GenState} {d : Drawn} {t : Nat} {os : OsState}
variable {nm q : Str} {C N : Addr} {bs bm bmB : List Value} {hdct : Bool} {sn : List Str} {sub : List Value} {ab : Bool} {col : Option Bool} {dd : Option Addr} {k0 k1 k2 k3 k5 : Option Value} {B Bn newId nid initId inN : String} {bmN : List Value}
abbrev Z0 (h : Heap) (C : Addr) : Heap := (((h.push (yq [])).push (yu C h.objs.size)).push (yq [])).update (h.objs.size + 1) (Obj.mapFields (·.setIfInBounds 0 (.ref ((h.push (yq [])).push (yu C h.objs.size)).objs.size)))
theorem vO (Fn : ExcBaseFacts Bn newId inN bmN) (hBn : bmB.contains (.type Bn) = true) (F : ExcBaseFacts B nid initId bmB) (T : OwnTail h bmB bm) {mN : Str -> Option Value} {Q : Fin -> Shared -> Prop}
  (hC : h.get? C = some (excClassObj nm q C N bs bm hdct sn sub ab col dd k0 k1 k2 k3 k5 newId)) (hn : h.Ns N mN) (hi : mN "__init__" = none)
  (hq : Q (.done (.ret (.ref (h.objs.size + 1)))) ⟨Z0 h C, g, d, t, os⟩) :
  wpAny (model prog w) A (Builtin.«type.__call__» ⟨[.ref C], []⟩) Q E ⟨h, g, d, t, os⟩ := by
 repeat (first | with_reducible refine wpAny_madeBy_exc hC ?_ | with_reducible refine wpAny_loadPart_at hC ?_ | wp_step)
 refine codeAny_call_builtin_code (Code.quiet_builtin _ Fn.quiet) (wpAny_check_new_subU Fn hBn T hC (codeAny_exc_new_subU Fn hBn F T hC ?_ (Nat.zero_le _)))
 show wpAny _ _ _ _ _ _
 have k : ∀ b o, h.get? b = some o -> ((h.push (yq [])).push (yu C h.objs.size)).get? b = some o := fun b o e => Heap.get?_push_of_some _ (Heap.get?_push_of_some _ e)
 have C1 := k _ _ hC
 have e1 : ((h.push (yq [])).push (yu C h.objs.size)).get? (h.objs.size + 1) = some (yu C h.objs.size) := Heap.get?_push_at (by simp only [Heap.size_push]) rfl
 have cC : (Value.ref C :: bm).contains (.ref C) = true := by simp
 unfold isInstance
 repeat (first | with_reducible refine wpAny_loadPart_at e1 ?_ | (with_reducible refine wpAny_isSubtype_exc C1 ?_; rw [cC]) | wp_step)
 show wpAny _ _ (typeLookup (.ref C) _) _ _ _
 refine wpAny_typeLookup_tail C1 (hn.keeps k) (T.keeps k) F.mroIs F.init.lookup ?_
 rw [hi]
 refine wpAny_holding (wpAny_bind (wpAny_of_eq (F.init.bind _) ?_))
 refine wpAny_bind (ZP F (T.keeps k) C1 e1 rfl rfl rfl (Nat.zero_le _) ?_)
 exact wpAny_pure (wpAny_pure hq)
theorem Wf (Fn : ExcBaseFacts Bn newId inN bmN) (hBn : bmB.contains (.type Bn) = true) (F : ExcBaseFacts B nid initId bmB) (T : OwnTail h bmB bm) {mN : Str -> Option Value} {Q : Value -> Shared -> Prop}
  (hC : h.get? C = some (excClassObj nm q C N bs bm hdct sn sub ab col dd k0 k1 k2 k3 k5 newId)) (hn : h.Ns N mN) (hi : mN "__init__" = none)
  (hq : Q (.ref (h.objs.size + 1)) ⟨Z0 h C, g, d, t, os⟩) : wpAny (model prog w) A (call (.ref C) []) Q E ⟨h, g, d, t, os⟩ := by
 have f1 := tc_lookup
 have f2 := tc_bind (.ref C)
 have hT : (⟨h, g, d, t, os⟩ : Shared).TypeIs (.ref C) "type" := ⟨_, hC, rfl⟩
 refine wpAny_call (codeAny_of_tree ?_)
 show wpAny _ _ (callAny (.ref C) ⟨[], []⟩) _ _ _
 repeat (any_goals (first | assumption | (with_reducible refine wpAny_loadPart_at hC ?_) | wp_step))
 refine ⟨rfl, codeAny_call_builtin_at (Code.quiet_builtin _ (by decide +kernel)) entry_typeCall (wpAny_check_type_call_sub hC ?_)⟩
 exact vO Fn hBn F T hC hn hi hq
end
theorem VX {K : PySem.W.Frag} {h : Heap} {N : Addr} {mg : Str -> Option Value} {n : Str} (X : K.In h) (G : h.Ns N mg) (e : PySem.W.nsIn K N n = some none) : mg n = none := by
 obtain ⟨o, es, ep, ho, hd, _, hf⟩ := G
 unfold PySem.W.nsIn at e
 split at e
 ·rename_i c d es' n' sl q
  have := X _ _ q
  rw [ho] at this
  cases this
  cases hd
  split at e
  ·cases e
  ·rename_i he
   rw [<- hf]
   unfold nsFind findBy
   rw [<- Array.find?_toList, he]
   rfl
 ·cases e
def xIn0 (K : PySem.W.Frag) (C : Addr) : Bool := match K.lookup C with
 | some ⟨.type "type", _, .cls cd, sl⟩ => (match cd.mro, sl.toList with
  | .ref C' :: bm, [_, _, _, _, some (.builtin n), _] => C' == C && n == "ValueError.__new__" && !cd.hasDel && PySem.W.tailIn K bmV bm && PySem.W.nsOkIn K cd.ns && PySem.W.nsIn K cd.ns "__init__" == some none && bm.contains (.type "BaseException")
  | _, _ => false)
 | _ => false
structure XCl0 (K : PySem.W.Frag) (C : Addr) : Prop where
 cls : xIn0 K C = true
 kp : PySem.W.keepIn K (.ref C) = true
theorem XCl0.at {K : PySem.W.Frag} {C : Addr} (c : XCl0 K C) {h : Heap} (X : K.In h) : ∃ nm q N bs bm hdct sn sub ab col dd k0 k1 k2 k3 k5 mN, h.get? C = some (excClassObj nm q C N bs bm hdct sn sub ab col dd k0 k1 k2 k3 k5 "ValueError.__new__") /\
  OwnTail h bmV bm /\ h.Ns N mN /\ mN "__init__" = none /\ bm.contains (.type "BaseException") = true := by
 have q := c.cls
 unfold xIn0 at q
 split at q
 ·rename_i dd cd sl ho
  split at q
  ·rename_i C' bm k0 k1 k2 k3 n k5 hm hs
   simp only [Bool.and_eq_true, beq_iff_eq, Bool.not_eq_true'] at q
   obtain ⟨⟨⟨⟨⟨⟨rfl, rfl⟩, hdel⟩, ht⟩, hok⟩, hi⟩, hb⟩ := q
   obtain ⟨nm, bs, mro, ns, qn, hd, sn, sub, ab, col, del⟩ := cd
   dsimp only at hm hdel hok hi
   subst hm hdel
   have es : sl = #[k0, k1, k2, k3, some (.builtin "ValueError.__new__"), k5] := by
    obtain ⟨l⟩ := sl
    simp only at hs
    rw [hs]
   subst es
   have nN := PySem.Heap.Ns.of_isNs (PySem.W.isNs_of_in X hok)
   exact ⟨nm, qn, ns, bs, bm, hd, sn, sub, ab, col, dd, k0, k1, k2, k3, k5, _, X _ _ ho, PySem.W.tail_of_in X ht, nN, VX X nN hi, hb⟩
  ·cases q
 ·cases q
def Z3 (C : Addr) (E : XK) : TS := fun _ _ H => E (.ref C) none H
section
variable {X : Cx} {k : Nat} {C : Addr} {E : XK} {x : Str} {np cpos pos : Pos}
theorem YJ (M : XCl0 X.K C) (hr : Room k X.A) (hg : Gl X x) (hm : X.mg x = some (.ref C)) (hx : wu X E) (hdb : (x == ("__debug__" : Str)) = false := by decide) :
  PS X (.Raise (some (.Call (.Name x np) [] [] cpos)) none pos) (Z3 C E) := by
 intro pins s σ H D I h
 obtain ⟨nm, q, N, bs, bm, hdct, sn, sub, ab, col, dd, k0, k1, k2, k3, k5, mN, hC0, T0, n0, i0, hB⟩ := M.at I.mod.kin
 rw [arm_exec_Raise]
 simp only [evalOpt, Option.map]
 refine wpAny_bind (wpAny_standAt (ZO (C := C) (nm := nm) (q := q) (N := N) (bs := bs) (hdct := hdct) (sn := sn) (sub := sub) (ab := ab) (col := col) (dd := dd) (k0 := k0) (k1 := k1) (k2 := k2) (k3 := k3) (k5 := k5) (newId := "ValueError.__new__") hB hr.hd (wpAny_bind ?_)))
 refine wpAny_Call_Name_kw (y8 I hg hm ?_ hdb)
 refine PySem.W.callWith_K0 I.kIn M.kp ?_
 obtain ⟨hh, g, d, tk, os⟩ := s
 have kb : ∀ b o, X.base.get? b = some o -> hh.get? b = some o := I.bk
 refine Wf PySem.F.excBase_ValueError (by decide +kernel) PySem.F.excBase_ValueError (T0.keeps kb) (kb _ _ hC0) (n0.keeps kb) i0 ?_
 have e1 : (((hh.push (yq [])).push (yu C hh.objs.size)).push (yq [])).get? (hh.objs.size + 1) = some (yu C hh.objs.size) := Heap.get?_push_of_some _ (Heap.get?_push_at (by simp only [Heap.size_push]) rfl)
 have ge := Heap.get?_update_self (Obj.mapFields (·.setIfInBounds 0 (.ref ((hh.push (yq [])).push (yu C hh.objs.size)).objs.size))) e1 rfl
 have kk : ∀ b o, hh.get? b = some o -> (Z0 hh C).get? b = some o := fun b o e => by
  rw [Heap.get?_update_other _ _ (Nat.ne_of_gt (Nat.lt_succ_of_lt (Heap.lt_size e)))]
  exact Heap.get?_push_of_some _ (Heap.get?_push_of_some _ (Heap.get?_push_of_some _ e))
 have I2 : Inv X pins σ H ⟨Z0 hh C, g, d, tk, os⟩ := I.un (Un.kept kk) (I.hok.kept kk)
 have he : hh.objs.size <= hh.objs.size + 1 := Nat.le_succ _
 refine wpAny_bind (wpAny_standAt (wpAny_pure ⟨_, _, _, rfl, I2.bk _ _ hC0, ge, rfl, rfl, rfl, hx pins σ _ _ ⟨_, .ref C, none, H, hh.objs.size, rfl, I2, I.hok.fresh he, I.sz, he, fun p hp => Heap.lt_size (I.pin p hp).1, .inl ⟨_, _, ge, rfl, rfl, rfl, rfl, rfl⟩, h⟩⟩))
theorem xj (M : XCl0 X.K C) (hr : Room k X.A) (hg : Gl X x) (hm : X.mg x = some (.ref C)) (hx : wu X E) (hdb : (x == ("__debug__" : Str)) = false := by decide) :
  jS X (.Raise (some (.Call (.Name x np) [] [] cpos)) none pos) (Z3 C E) := ⟨YJ M hr hg hm hx hdb⟩
end
end L2
namespace L2
open PySem
section
variable {X : Cx} {T id : String} {name : Str} {rm : V -> List V -> Hp -> VK -> Prop} {o e : Expr} {es : List Expr} {to : TE} {t : TA} {apos cpos : Pos}
theorem VY (K : PySem.W.Frag) (pa : PlainAttrs T) (slot : Slot T name id) (hty : typeOf (.builtin id) = pure (.type "method_descriptor")) (hm : jMt X id rm) (ho : jE X o to) (h : X.K = K := by rfl)
  (hbase : attributeBase o name X.env (eval o X.env) = eval o X.env := by rfl) (hline : (apos.endLine == cpos.line) = true := by rfl) : jE X (.Call (.Attribute o name apos) [] [] cpos) (tBM0 K T rm to) := h ▸ vy pa slot hty hm ho hbase hline
end
end L2
namespace GN
open PySem L2 K11
abbrev Kvs := List (Key × V)
def szOf (kvs : Kvs) (t : Str) : Option Nat := match valV kvs (.inr t) with
 | some (.int n) => some n.toNat
 | _ => none
def dl (kvs : Kvs) : V -> Option Nat
 | .int i => if -1000000000000000000000000000000 < i /\ i < 1000000000000000000000000000000 then some 0 else none
 | .str t => szOf kvs t
 | _ => none
def hgt (kvs : Kvs) : List V -> Option Nat
 | [] => some 0
 | x :: xs => match hgt kvs xs, dl kvs x with
  | some n, some s => if s <= n then some (n - s + 1) else none
  | _, _ => none
structure Rm (kvs : Kvs) : Prop where
 e : ∀ kv ∈ kvs, ∃ (t : Str) (n : Nat), kv = (.inr t, .int (n : Int)) /\ n <= 9
 l : kvs.length <= 100
inductive Pz (kvs : Kvs) (H : Hp) : List V -> List V -> Prop
 | nil : Pz kvs H [] []
 | num {i : Int} {vs xs : List V} : Sm i -> Pz kvs H vs xs -> Pz kvs H (.int i :: vs) (.int i :: xs)
 | shp {p q : Addr} {t : Str} {us vs xs ys : List V} : H p = some (.tup [.str t, .ref q]) -> H q = some (.tup us) -> szOf kvs t = some us.length -> us.length <= 9 -> Pz kvs H us xs -> Pz kvs H vs ys -> Pz kvs H (.ref p :: vs) (.str t :: (xs ++ ys))
section
variable {kvs : Kvs} {H H' : Hp} {us vs xs ys : List V}
theorem Pz.keep (t : Tups H H') (h : Pz kvs H vs xs) : Pz kvs H' vs xs := by
 induction h with
 | nil => exact .nil
 | num a _ ih => exact .num a ih
 | shp a b c d _ _ ih1 ih2 => exact .shp (t _ _ a) (t _ _ b) c d ih1 ih2
theorem Pz.pt (h : Pz kvs H vs xs) : PtL H vs xs := by
 induction h with
 | nil => exact .nil
 | num _ _ ih => exact .num ih
 | shp a b _ d _ _ ih1 ih2 => exact .shp a b d ih1 ih2
theorem Pz.split : ∀ {us vs zs : List V}, Pz kvs H (us ++ vs) zs -> ∃ xs ys, zs = xs ++ ys /\ Pz kvs H us xs /\ Pz kvs H vs ys
 | [], vs, zs, h => ⟨[], zs, rfl, .nil, h⟩
 | u :: us, vs, zs, h => by
  rw [List.cons_append] at h
  cases h with
  | num a h =>
   obtain ⟨xs, ys, e, h1, h2⟩ := Pz.split h
   exact ⟨_ :: xs, ys, by rw [e]; rfl, .num a h1, h2⟩
  | shp a b c d e h =>
   obtain ⟨xs, ys, e', h1, h2⟩ := Pz.split h
   exact ⟨_ :: (_ ++ xs), ys, by rw [e', List.cons_append, List.append_assoc], .shp a b c d e h1, h2⟩
end
end GN
namespace GN
open PySem L2 K11
def But (v : Addr) (H H' : Hp) : Prop := ∀ b o, b ≠ v -> H b = some o -> H' b = some o
theorem But.refl {v : Addr} {H : Hp} : But v H H := fun _ _ _ h => h
theorem But.of {v : Addr} {H H' : Hp} (s : Same H H') : But v H H' := fun b o _ h => s b o h
theorem But.trans {v : Addr} {H H1 H2 : Hp} (a : But v H H1) (b : But v H1 H2) : But v H H2 := fun c o n h => b c o n (a c o n h)
theorem But.put {v : Addr} {H : Hp} {o : HO} : But v H (upd H v o) := fun b o' n h => by rw [zm n]; exact h
theorem But.tups {v : Addr} {H H' : Hp} {xs : List V} (h : But v H H') (g : H v = some (.lst xs)) : Tups H H' := fun p ys q => h p _ (ye q g (by intro z; cases z)) q
theorem But.fresh {v : Addr} {H H1 H2 : Hp} (s : Same H H1) (n : H v = none) (h : But v H1 H2) : Same H H2 := fun b o q => h b o (zn q n) (s b o q)
def KnR (H : Hp) (q : Addr) (l : List (Str × Nat)) : Prop := ∃ ts : List Addr, H q = some (.tup (ts.map V.ref)) /\ ts.length = l.length /\ ∀ (i : Nat) t a, ts[i]? = some t -> l[i]? = some a -> H t = some (.tup [.str a.1, .int (a.2 : Int)])
def Kn (H : Hp) (p : Addr) (ks : List (List (Str × Nat))) : Prop := ∃ qs : List Addr, H p = some (.tup (qs.map V.ref)) /\ qs.length = ks.length /\ ∀ (i : Nat) q l, qs[i]? = some q -> ks[i]? = some l -> KnR H q l
theorem KnR.keep {H H' : Hp} {q : Addr} {l : List (Str × Nat)} (t : Tups H H') (h : KnR H q l) : KnR H' q l := let ⟨ts, a, b, c⟩ := h; ⟨ts, t _ _ a, b, fun i x y h1 h2 => t _ _ (c i x y h1 h2)⟩
theorem Kn.keep {H H' : Hp} {p : Addr} {ks : List (List (Str × Nat))} (t : Tups H H') (h : Kn H p ks) : Kn H' p ks := let ⟨qs, a, b, c⟩ := h; ⟨qs, t _ _ a, b, fun i x y h1 h2 => (c i x y h1 h2).keep t⟩
structure KsOk (ks : List (List (Str × Nat))) : Prop where
 n : ks.flatten.length <= 100
 s : ∀ a ∈ ks.flatten, a.2 <= 9
def puts (l : List (Str × Nat)) (kvs : Kvs) : Kvs := l.foldl (fun kvs a => putK kvs (.inr a.1) (.int (a.2 : Int))) kvs
theorem Wg (a b : List (Str × Nat)) (kvs : Kvs) : puts (a ++ b) kvs = puts b (puts a kvs) := List.foldl_append
structure Rm' (kvs : Kvs) (n : Nat) : Prop where
 e : ∀ kv ∈ kvs, ∃ (t : Str) (n : Nat), kv = (.inr t, .int (n : Int)) /\ n <= 9
 l : kvs.length <= n
theorem Qc {kvs : Kvs} {n : Nat} {a : Str × Nat} (h : Rm' kvs n) (ha : a.2 <= 9) : Rm' (putK kvs (.inr a.1) (.int (a.2 : Int))) (n + 1) := by
 unfold putK
 split
 ·refine ⟨fun kv hkv => ?_, by rw [List.length_map]; have := h.l; omega⟩
  obtain ⟨x, hx, e⟩ := List.mem_map.mp hkv
  obtain ⟨t, m, ex, hm⟩ := h.e x hx
  split at e
  ·rename_i c
   rw [<- e, c]
   exact ⟨_, _, rfl, ha⟩
  ·rw [<- e]
   exact ⟨t, m, ex, hm⟩
 ·refine ⟨fun kv hkv => ?_, by rw [List.length_append]; have := h.l; show _ + 1 <= _; omega⟩
  rcases List.mem_append.mp hkv with z | z
  ·exact h.e kv z
  ·rw [List.mem_singleton.mp z]
   exact ⟨_, _, rfl, ha⟩
theorem Z4 : ∀ {l : List (Str × Nat)} {kvs : Kvs} {n : Nat}, Rm' kvs n -> (∀ a ∈ l, a.2 <= 9) -> Rm' (puts l kvs) (n + l.length)
 | [], _, _, h, _ => h
 | a :: l, kvs, n, h, hs => by
  have := Z4 (l := l) (Qc h (hs a List.mem_cons_self)) fun x hx => hs x (List.mem_cons_of_mem _ hx)
  rw [List.length_cons, show n + (l.length + 1) = n + 1 + l.length by omega]
  exact this
theorem KsOk.rm {ks : List (List (Str × Nat))} (h : KsOk ks) : Rm (puts ks.flatten []) := by
 have r := Z4 (l := ks.flatten) (kvs := []) (n := 0) ⟨(fun kv hk => by cases hk), Nat.le_refl _⟩ h.s
 exact ⟨r.e, by have := r.l; have := h.n; omega⟩
theorem xO {α : Type} {l : List α} {i : Nat} {x : α} (h : l[i]? = some x) : l.take i ++ [x] = l.take (i + 1) := by
 rw [List.take_add_one, h]
 rfl
theorem Z5 {ks : List (List (Str × Nat))} {i : Nat} {k : List (Str × Nat)} (h : ks[i]? = some k) : (ks.take (i + 1)).flatten = (ks.take i).flatten ++ k := by
 rw [<- xO h, List.flatten_append]
 simp
theorem Qd {ks : List (List (Str × Nat))} {i : Nat} {k : List (Str × Nat)} (h : ks[i]? = some k) : (ks.take i).flatten.length + k.length <= ks.flatten.length := by
 have e : ks.flatten = (ks.take (i + 1)).flatten ++ (ks.drop (i + 1)).flatten := by rw [<- List.flatten_append, List.take_append_drop]
 rw [e, List.length_append, Z5 h, List.length_append]
 omega
theorem jB : ∀ {l : List (Str × Nat)} {kvs : Kvs}, (puts l kvs).length <= kvs.length + l.length
 | [], _ => Nat.le_refl _
 | a :: l, kvs => by
  have := jB (l := l) (kvs := putK kvs (.inr a.1) (.int (a.2 : Int)))
  have h2 : (putK kvs (.inr a.1) (.int (a.2 : Int))).length <= kvs.length + 1 := by
   unfold putK
   split
   ·rw [List.length_map]; omega
   ·rw [List.length_append]; exact Nat.le_refl _
  show (puts l (putK kvs (.inr a.1) (.int (a.2 : Int)))).length <= _
  rw [List.length_cons]
  omega
theorem Rm.sz {kvs : Kvs} (h : Rm kvs) {t : Str} : (valV kvs (.inr t) = none /\ szOf kvs t = none) \/ ∃ n : Nat, valV kvs (.inr t) = some (.int (n : Int)) /\ szOf kvs t = some n /\ n <= 9 := by
 unfold szOf
 cases e : valV kvs (.inr t) with
 | none => exact .inl ⟨rfl, rfl⟩
 | some v =>
  unfold valV at e
  obtain ⟨kv, hk, ev⟩ := Option.map_eq_some_iff.mp e
  obtain ⟨t', n, e1, e2⟩ := h.e kv (List.mem_of_find?_eq_some hk)
  rw [e1] at ev
  subst ev
  exact .inr ⟨n, rfl, rfl, e2⟩
theorem jC {kvs : Kvs} : ∀ {a b : List V}, hgt kvs b = none -> hgt kvs (a ++ b) = none
 | [], _, h => h
 | x :: a, b, h => by
  have ih := jC (a := a) h
  show (match hgt kvs (a ++ b), dl kvs x with | some n, some s => if s <= n then some (n - s + 1) else none | _, _ => none) = none
  rw [ih]
def Z6 : Sp := fun vs H Q _ => ∃ (p : Addr) (ks : List (List (Str × Nat))), vs = [.ref p] /\ Kn H p ks /\ KsOk ks /\ ∀ (H' : Hp) (d : Addr), Same H H' -> H d = none -> H' d = some (.dK (puts ks.flatten [])) -> Q (.ref d) H'
def Z7 (C : Addr) : Sp := fun vs H Q E => ∃ (t : Str) (d vl : Addr) (kvs : Kvs) (vals : List V), vs = [.str t, .ref d, .ref vl] /\ H d = some (.dK kvs) /\ Rm kvs /\ H vl = some (.lst vals) /\ vals.length <= 300 /\
 (((szOf kvs t = none \/ ∃ s, szOf kvs t = some s /\ vals.length < s) /\ E (.ref C) none H) \/
   ∃ (s : Nat) (us rest : List V), szOf kvs t = some s /\ vals = rest.reverse ++ us.reverse /\ us.length = s /\ ∀ H' p q, But vl H H' -> H' vl = some (.lst rest.reverse) -> H' p = some (.tup [.str t, .ref q]) -> H' q = some (.tup us) -> Q (.ref p) H')
def NotL (H : Hp) (v : V) : Prop := v = .non \/ (∃ i, v = .int i) \/ (∃ z, v = .str z) \/ (∃ p xs, v = .ref p /\ H p = some (.tup xs) /\ ∀ x ∈ xs, At x) \/ ∃ p, v = .ref p /\ H p = some (.dK [])
def Z8 (C : Addr) : Sp := fun vs H Q E => ∃ (pk : Addr) (v : V) (ks : List (List (Str × Nat))), vs = [.ref pk, v] /\ Kn H pk ks /\ KsOk ks /\
 ((NotL H v /\ E (.ref C) none H) \/ ∃ l xs, v = .ref l /\ H l = some (.lst xs) /\ xs.length <= 300 /\ (∀ x ∈ xs, ∃ b, Th H b x) /\ (hgt (puts ks.flatten []) xs ≠ some 1 -> ∀ H', Same H H' -> E (.ref C) none H') /\ (hgt (puts ks.flatten []) xs = some 1 -> ∀ H' v, Same H H' -> Pz (puts ks.flatten []) H' [v] xs -> Q v H'))
section
variable {P : Program} {w : World} {K : PySem.W.Frag} {mg : Str -> Option Value} {base : Heap} {f C : Addr} {fd : FuncData}
theorem scSizes : FnScope ["kinds", "found", "kind", "tag", "size"] ["kinds"] (zo Ze) := ⟨rfl, rfl, rfl, by decide +kernel, rfl, by decide +kernel, by decide +kernel⟩
theorem Wh (F : Fun K "sizes" "sizes" Ze f fd) : FnOk P w K mg base CX0 1 f fd ["kinds"] Z6 := by
 refine F.by scSizes (fun vs H Q E h => ?_) (fun cdv A outer s H vs Q E hr h => ?_)
 ·obtain ⟨p, ks, rfl, _⟩ := h
  rfl
 obtain ⟨p, ks, rfl, ⟨qs, hp, hlen, hK⟩, hF, q⟩ := h
 refine ⟨_,
  (zj (zu (i := 1) scSizes.nd rfl (Or.inl rfl) xB)
  (zj (yp PassesOwn.never rfl (xr (jv 0)) (zr (i := 2) scSizes.nd rfl (Or.inl rfl))
   (zk (yp PassesOwn.never rfl (xr (jv 2)) (yW rfl (zD (zr (i := 3) scSizes.nd rfl (Or.inl rfl)) (zD (zr (i := 4) scSizes.nd rfl (Or.inl rfl)) yo)))
    (zk (x9 hr (jv 1) (jv 3) (jv 4))))))
  (zk (zF (jv 1))))), ?_⟩
 have sl := z6
 intro d hd
 have s1 := zp (o := .dK []) hd
 refine ⟨_, rfl, _, rfl, ⟨_, SqT.of (s1 _ _ hp)⟩, x5 (xs := qs.map V.ref) (fun i σ H' => Same H H' /\ H' d = some (.dK (puts (ks.take i).flatten [])) /\ ∃ x y z, σ = [some (.ref p), some (.ref d), x, y, z]) ⟨s1, zg, none, none, none, rfl⟩ (fun i σ H' _ h => SqT.of (h.1 _ _ hp)) ?_ ?_⟩
 ·rintro i v σ H1 hv ⟨s1, hd1, x, y, z, rfl⟩
  rw [List.getElem?_map] at hv
  obtain ⟨qq, hq, rfl⟩ := Option.map_eq_some_iff.mp hv
  have hi : i < qs.length := (List.getElem?_eq_some_iff.mp hq).1
  have hk : ks[i]? = some (ks[i]'(by omega)) := List.getElem?_eq_getElem _
  obtain ⟨k, ek⟩ : ∃ k, k = ks[i]'(by omega) := ⟨_, rfl⟩
  rw [<- ek] at hk
  obtain ⟨ts, hts, htl, hT⟩ := hK i qq k hq hk
  have hl := Qd hk
  have hkl := hF.n
  refine ⟨_, rfl, _, rfl, ⟨_, SqT.of (s1 _ _ hts)⟩, x5 (xs := ts.map V.ref) (fun j σ H' => Same H H' /\ H' d = some (.dK (puts ((ks.take i).flatten ++ k.take j) [])) /\ ∃ y z, σ = [some (.ref p), some (.ref d), some (.ref qq), y, z]) ⟨s1, by rw [List.take_zero, List.append_nil]; exact hd1, _, _, rfl⟩ (fun i σ H' _ h => SqT.of (h.1 _ _ hts)) ?_ ?_⟩
  ·rintro j v σ H2 hv ⟨s2, hd2, y, z, rfl⟩
   rw [List.getElem?_map] at hv
   obtain ⟨tt, ht, rfl⟩ := Option.map_eq_some_iff.mp hv
   have hj : j < ts.length := (List.getElem?_eq_some_iff.mp ht).1
   have ha : k[j]? = some (k[j]'(by omega)) := List.getElem?_eq_getElem _
   obtain ⟨a, ea⟩ : ∃ a, a = k[j]'(by omega) := ⟨_, rfl⟩
   rw [<- ea] at ha
   have e2 := hT j tt a ht ha
   refine ⟨_, _, rfl, SqT.of (s2 _ _ e2), rfl, _, _, rfl, _, _, rfl, rfl, _, rfl, _, rfl, _, rfl, d, _, rfl, DPut.k (k := .inr a.1) hd2 ?_, s2.put hd, ?_, _, _, rfl⟩
   ·have := jB (l := (ks.take i).flatten ++ k.take j) (kvs := [])
    rw [List.length_append, List.length_take] at this
    simp only [List.length_nil] at this
    omega
   ·rw [zg, <- xO ha, <- List.append_assoc, Wg _ [a]]
    rfl
  ·rintro σ H2 ⟨s2, hd2, y, z, rfl⟩
   rw [List.length_map, htl, List.take_of_length_le (Nat.le_refl _), <- Z5 hk] at hd2
   exact ⟨s2, hd2, _, _, _, rfl⟩
 ·rintro σ H1 ⟨s1, hd1, x, y, z, rfl⟩
  rw [List.length_map, hlen, List.take_of_length_le (Nat.le_refl _)] at hd1
  exact ⟨_, rfl, q _ d s1 hd hd1⟩
theorem scShape : FnScope ["tag", "known_sizes", "values", "parts"] ["tag", "known_sizes", "values"] (zo Zg) := ⟨rfl, rfl, rfl, by decide +kernel, rfl, by decide +kernel, by decide +kernel⟩
theorem VZ : (["tag", "known_sizes", "values", "parts", "place"] : List Str).Nodup := by decide +kernel
theorem Wi (F : Fun K "shape" "shape" Zg f fd) (mC : mg "NoValue" = some (.ref C)) (xC : XCl0 K C) (m_len : mg "len" = none) (m_range : mg "range" = none) (m_tuple : mg "tuple" = none) : FnOk P w K mg base (CXf P w) 1 f fd ["tag", "known_sizes", "values"] (Z7 C) := by
 refine F.byx scShape (fun vs H Q E h => ?_) (fun cdv A outer s H vs Q E hr h => ?_)
 ·obtain ⟨t, d, vl, kvs, vals, rfl, _⟩ := h
  rfl
 obtain ⟨t, d, vl, kvs, vals, rfl, hd, hRm, hvl, hle, hq⟩ := h
 refine ⟨_,
  (zj (zM (jW.pt (xX (vh hr (jv 0) (jv 1)) (xq (zw ZM (yD hr (jv 1) (jv 0) (fun _ _ => rfl)) (zI zC rfl m_len PySem.boot_len (ja_c (jv 2) zh)) (zy _)))))
   (zk (xj xC hr rfl mC xM))  zH)
  (zj (yx ["place"] (i := 3) scShape.nd rfl (Or.inl rfl) rfl (zW rfl m_range (ja_c (yD hr (jv 1) (jv 0) (fun _ _ => rfl)) zh)) (fun _ _ _ _ _ => (zr (i := 4) VZ rfl (Or.inl rfl))) (fun _ _ _ _ _ => z9) (fun _ _ _ _ _ => (VY K PySem.F.plainAttrs_list PySem.F.slot_list_pop PySem.F.type_list_pop Xs (jv 2))))
  (zk (zF (zO (ja_c (jv 0) (ja_c (yw zZ rfl m_tuple PyProof.Rows.boot_tuple (ja_c (jv 3) zh)) zh))))))), ?_⟩
 have sl := z6
 have dg : DGet H d (.str t) (valV kvs (.inr t)) := DGet.k (k := .inr t) hd
 refine ⟨_, rfl, _, rfl, d, _, rfl, dg, _, rfl, ?_⟩
 rcases hq with ⟨hb, q⟩ | ⟨n, us, rest, hn, ev, hu, q⟩
 ·rcases hRm.sz (t := t) with ⟨e1, e2⟩ | ⟨n, e1, e2, _⟩
  ·rw [e1]
   exact iteT q
  ·rw [e1]
   refine iteF ⟨_, rfl, _, rfl, d, _, rfl, by rw [<- e1]; exact dg, _, rfl, vl, _, rfl, .inl (SqL.of hvl), _, _, rfl, rfl, _, rfl, ite2 (fun _ => q) (fun c => ?_)⟩
   exfalso
   apply c
   rw [decide_eq_true_eq]
   rcases hb with z | ⟨s, z, z2⟩
   ·rw [e2] at z; cases z
   ·rw [e2] at z
    injection z with z
    omega
 ·rcases hRm.sz (t := t) with ⟨e1, e2⟩ | ⟨n', e1, e2, n9⟩
  ·rw [e2] at hn; cases hn
  rw [e2] at hn
  injection hn with hn
  subst hn
  rw [e1]
  refine iteF ⟨_, rfl, _, rfl, d, _, rfl, by rw [<- e1]; exact dg, _, rfl, vl, _, rfl, .inl (SqL.of hvl), _, _, rfl, rfl, _, rfl, ite2 (fun c => ?_) (fun _ => ?_)⟩
  ·exfalso
   rw [decide_eq_true_eq, ev, List.length_append, List.length_reverse, List.length_reverse] at c
   omega
  refine ⟨_, rfl, _, rfl, d, _, rfl, by rw [<- e1]; exact dg, _, rfl, by omega, by omega, ym (lo := 0) (n := (n' : Int).toNat) (fun j τ ys H' => But vl H H' /\ H' vl = some (.lst (rest.reverse ++ (us.drop j).reverse)) /\ (∃ x, τ = [some (.str t), some (.ref d), some (.ref vl), none, x]) /\ ys = us.take j) ⟨.refl, by rw [List.drop_zero, <- ev]; exact hvl, ⟨none, rfl⟩, rfl⟩ ?_ ?_⟩
  ·rintro j τ ys H1 hj ⟨b1, h1, ⟨x, rfl⟩, rfl⟩
   have hj' : j < us.length := by omega
   have ed := List.drop_eq_getElem_cons hj'
   rw [ed, List.reverse_cons, <- List.append_assoc] at h1
   refine ⟨_, rfl, .inl ⟨rfl, _, SqL.of h1⟩, vl, _, us[j], rfl, rfl, h1, by simp, ?_⟩
   rw [List.dropLast_concat]
   refine ⟨by rw [List.length_take]; omega, b1.trans .put, zg, ⟨_, rfl⟩, ?_⟩
   exact xO (List.getElem?_eq_getElem hj')
  ·rintro τ ys H1 ⟨b1, h1, _, rfl⟩ lp hlp
   rw [show (n' : Int).toNat = us.length by omega, List.drop_length, List.reverse_nil, List.append_nil] at h1
   rw [show (n' : Int).toNat = us.length by omega, List.take_length]
   have s2 := zp (o := .lst us) hlp
   refine ⟨_, rfl, _, rfl, lp, us, rfl, .inl ⟨SqL.of zg, fun q1 hq1 => ⟨by show 2 <= sizeLine; omega, fun p hp => ?_⟩⟩⟩
   have s3 := zp (o := .tup us) hq1
   have s4 := zp (o := .tup [.str t, .ref q1]) hp
   exact q _ p q1 (b1.trans (.of ((s2.trans s3).trans s4))) (s4 _ _ (s3 _ _ (s2 _ _ h1))) zg (s4 _ _ zg)
theorem scGrown : FnScope ["kinds", "parts", "known_sizes", "values", "thing"] ["kinds", "parts"] (zo Zf) := ⟨rfl, rfl, rfl, by decide +kernel, rfl, by decide +kernel, by decide +kernel⟩
theorem Wj (F : Fun K "grown" "grown" Zf f fd) (mC : mg "NoValue" = some (.ref C)) (xC : XCl0 K C) (m_len : mg "len" = none) (m_isinstance : mg "isinstance" = none) (m_list : mg "list" = none) (m_str : mg "str" = none) (m_reversed : mg "reversed" = none) (GS : Ca P w K mg base CX0 1 "sizes" ["kinds"] Z6) (GH : Ca P w K mg base (CXf P w) 1 "shape" ["tag", "known_sizes", "values"] (Z7 C)) (GW : Ca P w K mg base CX0 1 "is_whole" ["thing"] jz) (GI : Ca P w K mg base CX0 1 "in_bounds" ["number"] spIn) : FnOk P w K mg base (CXf P w) 2 f fd ["kinds", "parts"] (Z8 C) := by
 refine F.byx scGrown (fun vs H Q E h => ?_) (fun cdv A outer s H vs Q E hr h => ?_)
 ·obtain ⟨pk, v, ks, rfl, _⟩ := h
  rfl
 obtain ⟨pk, v, ks, rfl, hK, hok, hq⟩ := h
 refine ⟨_,
  (zj (zM (wg (yn (zI zR rfl m_isinstance PyProof.Rows.boot_isinstance (ja_c (jv 1) (ja_c (yf (v := .ty "list") rfl m_list PyProof.Rows.boot_list rfl) zh)))))
   (zk (xj xC hr rfl mC xM))  zH)
  (zj (zu (i := 2) scGrown.nd rfl (Or.inl rfl) (zv GS.upx hr rfl xm (ja_c (jv 0) zh)))
  (zj (zu (i := 3) scGrown.nd rfl (Or.inl rfl) (zV zh))
  (zj (yp ownx rfl (qB rfl m_reversed (ja_c (jv 1) zh)) (zr (i := 4) scGrown.nd rfl (Or.inl rfl))
   (zk (zM (yn (zI zR rfl m_isinstance PyProof.Rows.boot_isinstance (ja_c (jv 4) (ja_c (yf (v := .ty "str") rfl m_str PyProof.Rows.boot_str rfl) zh))))
    (zk (zN (yN PySem.F.plainAttrs_list PySem.F.slot_list_append PySem.F.type_list_append yb (jv 3) (ja_c (zv GH hr rfl xm (ja_c (jv 4) (ja_c (jv 2) (ja_c (jv 3) zh)))) zh))))
    (zk (zM (jW.pt (j5 (yn (zv GW.upx hr rfl xm (ja_c (jv 4) zh))) (vx (yn (zv GI.upx hr rfl xm (ja_c (jv 4) zh))))))
     (zk (zN (yN PySem.F.plainAttrs_list PySem.F.slot_list_append PySem.F.type_list_append yb (jv 3) (ja_c (jv 4) zh))))
     (zk (xj xC hr rfl mC xM)))))))
  (zj (zM (zw wn (zI zC rfl m_len PySem.boot_len (ja_c (jv 3) zh)) zi (zy _))
   (zk (xj xC hr rfl mC xM))  zH)
  (zk (zF (zt zG (jv 3) zi (fun _ _ => rfl))))))))), ?_⟩
 have sl := z6
 rcases hq with ⟨hn, q⟩ | ⟨l, xs, rfl, hl, h300, hth, qE, qQ⟩
 ·rcases hn with rfl | ⟨i, rfl⟩ | ⟨z, rfl⟩ | ⟨p, ys, rfl, hp, _⟩ | ⟨p, rfl, hp⟩
  ·exact ⟨_, rfl, _, _, _, _, rfl, .non, rfl, _, rfl, iteT q⟩
  ·exact ⟨_, rfl, _, _, _, _, rfl, .int _, rfl, _, rfl, iteT q⟩
  ·exact ⟨_, rfl, _, _, _, _, rfl, .str _, rfl, _, rfl, iteT q⟩
  ·exact ⟨_, rfl, _, _, _, _, rfl, .tup hp, rfl, _, rfl, iteT q⟩
  ·exact ⟨_, rfl, _, _, _, _, rfl, .dK hp, rfl, _, rfl, iteT q⟩
 obtain ⟨kvs, ek⟩ : ∃ kvs, kvs = puts ks.flatten [] := ⟨_, rfl⟩
 have hRm : Rm kvs := by rw [ek]; exact hok.rm
 rw [<- ek] at qE qQ
 refine ⟨_, rfl, _, _, _, _, rfl, .lst hl, rfl, _, rfl, iteF ?_⟩
 refine ⟨_, rfl, pk, ks, rfl, hK, hok, fun H1 d s1 nd hd1 => ?_⟩
 rw [<- ek] at hd1
 refine ⟨by show 0 <= sizeLine; omega, fun vl hvl => ?_⟩
 have s2 := zp (o := .lst []) hvl
 have s02 := s1.trans s2
 have nvl : H vl = none := s1.free hvl
 have nlv : l ≠ vl := zn hl nvl
 have ndv : d ≠ vl := zn hd1 hvl
 refine ⟨_, rfl, l, _, rfl, SqL.of (s02 _ _ hl), Vv (xs := xs) (fun i σ H' => ∃ (vals : List V) (vt : Option V), σ = [some (.ref pk), some (.ref l), some (.ref d), some (.ref vl), vt] /\ But vl H1 H' /\ Same H H' /\ H' vl = some (.lst vals) /\ hgt kvs (xs.drop (xs.length - i)) = some vals.length /\ vals.length <= i /\ Pz kvs H' vals.reverse (xs.drop (xs.length - i))) ⟨[], none, rfl, .of s2, s02, zg, by rw [Nat.sub_zero, List.drop_length]; rfl, Nat.le_refl _, by rw [Nat.sub_zero, List.drop_length]; exact .nil⟩ ?_ ?_ ?_⟩
 ·rintro i σ H' hi ⟨vals, vt, _, _, s', _⟩
  exact SqL.of (s' _ _ hl)
 ·rintro i x σ H2 hx ⟨vals, vt, rfl, b2, sm, gv, hg, hle, hP⟩
  have hi : i < xs.length := by
   have := (List.getElem?_eq_some_iff.mp hx).1
   rw [List.length_reverse] at this
   exact this
  rw [List.getElem?_reverse hi] at hx
  have hdr : xs.drop (xs.length - (i + 1)) = x :: xs.drop (xs.length - i) := by
   have h1 : xs.length - (i + 1) < xs.length := by omega
   rw [List.drop_eq_getElem_cons h1, show xs.length - (i + 1) + 1 = xs.length - i by omega]
   congr 1
   rw [show xs.length - 1 - i = xs.length - (i + 1) by omega] at hx
   exact (List.getElem?_eq_some_iff.mp hx).2
  have bad : dl kvs x = none \/ (∃ s, dl kvs x = some s /\ vals.length < s) -> ∀ H', Same H H' -> E (.ref C) none H' := fun hb => qE (by
   have e : xs = xs.take (xs.length - (i + 1)) ++ xs.drop (xs.length - (i + 1)) := (List.take_append_drop ..).symm
   have hz : hgt kvs (xs.drop (xs.length - (i + 1))) = none := by
    rw [hdr]
    show (match hgt kvs (xs.drop (xs.length - i)), dl kvs x with | some n, some s => if s <= n then some (n - s + 1) else none | _, _ => none) = none
    rw [hg]
    rcases hb with z | ⟨s, z, z2⟩
    ·rw [z]
    ·rw [z]
     show (if s <= vals.length then _ else _) = none
     rw [if_neg (by omega)]
   rw [e, jC hz]
   intro z
   cases z)
  have hl300 : vals.length <= 300 := by omega
  have fin : ∀ (H' : Hp) (y : V) (vals' : List V) (s : Nat), dl kvs x = some s -> s <= vals.length -> But vl H2 H' -> vals'.length + s = vals.length -> H' vl = some (.lst (vals' ++ [y])) -> Pz kvs H' (y :: vals'.reverse) (x :: xs.drop (xs.length - i)) -> ∃ (vals : List V) (vt : Option V), [some (.ref pk), some (.ref l), some (.ref d), some (.ref vl), some x] = [some (.ref pk), some (.ref l), some (.ref d), some (.ref vl), vt] /\ But vl H1 H' /\ Same H H' /\ H' vl = some (.lst vals) /\ hgt kvs (xs.drop (xs.length - (i + 1))) = some vals.length /\ vals.length <= i + 1 /\ Pz kvs H' vals.reverse (xs.drop (xs.length - (i + 1))) := fun H' y vals' s e1 e2 b3 e3 g P => by
   refine ⟨_, _, rfl, b2.trans b3, But.fresh sm nvl b3, g, ?_, by rw [List.length_append]; show _ + 1 <= _; omega, by rw [hdr, List.reverse_append]; exact P⟩
   rw [hdr]
   show (match hgt kvs (xs.drop (xs.length - i)), dl kvs x with | some n, some s => if s <= n then some (n - s + 1) else none | _, _ => none) = _
   rw [hg, e1]
   show (if s <= vals.length then some (vals.length - s + 1) else none) = _
   rw [if_pos e2, List.length_append]
   show some (vals.length - s + 1) = some (vals'.length + 1)
   rw [show vals.length - s + 1 = vals'.length + 1 by omega]
  have gd2 : H2 d = some (.dK kvs) := b2 _ _ ndv hd1
  obtain ⟨b, hT⟩ := hth x (List.mem_of_getElem? hx)
  have hT2 := hT.keep sm
  cases hT2 with
  | str z =>
   refine ⟨_, rfl, _, _, _, _, rfl, .str _, rfl, _, rfl, iteT ?_⟩
   have ez : dl kvs (.str z) = szOf kvs z := rfl
   refine ⟨_, rfl, .inl ⟨rfl, _, SqL.of gv⟩, _, rfl, _, rfl, _, rfl, z, d, vl, kvs, vals, rfl, gd2, hRm, gv, hl300, ?_⟩
   rcases hRm.sz (t := z) with ⟨_, e2⟩ | ⟨n, _, e2, n9⟩
   ·exact .inl ⟨.inl e2, bad (.inl (ez.trans e2)) _ sm⟩
   ·rcases Nat.lt_or_ge vals.length n with c | c
    ·exact .inl ⟨.inr ⟨n, e2, c⟩, bad (.inr ⟨n, ez.trans e2, c⟩) _ sm⟩
    ·have ev : vals = ((vals.reverse).drop n).reverse ++ ((vals.reverse).take n).reverse := by
      rw [<- List.reverse_append, List.take_append_drop, List.reverse_reverse]
     have ul : ((vals.reverse).take n).length = n := by rw [List.length_take, List.length_reverse]; omega
     refine .inr ⟨n, (vals.reverse).take n, (vals.reverse).drop n, e2, ev, ul, fun H3 p qq b3 g3 gp gq => ?_⟩
     refine ⟨vl, _, _, rfl, rfl, g3, by rw [List.length_reverse, List.length_drop, List.length_reverse]; omega, ?_⟩
     have t3 : Tups H2 H3 := b3.tups gv
     have nb : But vl H3 (upd H3 vl (.lst (((vals.reverse).drop n).reverse ++ [V.ref p]))) := .put
     have t4 := nb.tups g3
     refine fin _ (.ref p) _ n (ez.trans e2) c (b3.trans nb) (by rw [List.length_reverse, List.length_drop, List.length_reverse]; omega) zg ?_
     have hP' := hP
     rw [<- List.take_append_drop n vals.reverse] at hP'
     obtain ⟨xs1, xs2, ex, p1, p2⟩ := hP'.split
     rw [ex, List.reverse_reverse]
     exact .shp (t4 _ _ gp) (t4 _ _ gq) (by rw [ul]; exact e2) (by omega) (p1.keep (t3.trans t4)) (p2.keep (t3.trans t4))
  | int j =>
   refine ⟨_, rfl, _, _, _, _, rfl, .int _, rfl, _, rfl, iteF ?_⟩
   refine ⟨_, rfl, _, _, rfl, .int j, _, rfl, iteT ⟨_, rfl, _, rfl, _, rfl, ?_⟩⟩
   by_cases c : -1000000000000000000000000000000 < j /\ j < 1000000000000000000000000000000
   ·rw [decide_eq_true c]
    have ej : dl kvs (.int j) = some 0 := if_pos c
    refine iteT ⟨_, rfl, .inl ⟨rfl, _, SqL.of gv⟩, _, rfl, vl, _, _, rfl, rfl, gv, by omega, ?_⟩
    have nb : But vl H2 (upd H2 vl (.lst (vals ++ [V.int j]))) := .put
    exact fin _ (.int j) vals 0 ej (Nat.zero_le _) nb rfl zg (.num c (hP.keep (nb.tups gv)))
   ·rw [decide_eq_false c]
    have ej : dl kvs (.int j) = none := if_neg c
    exact iteF (bad (.inl ej) _ sm)
  | bl j => exact ⟨_, rfl, _, _, _, _, rfl, .bl _, rfl, _, rfl, iteF ⟨_, rfl, _, _, rfl, .bl j, _, rfl, iteF (iteF (bad (.inl rfl) _ sm))⟩⟩
  | non => exact ⟨_, rfl, _, _, _, _, rfl, .non, rfl, _, rfl, iteF ⟨_, rfl, _, _, rfl, .non, _, rfl, iteF (iteF (bad (.inl rfl) _ sm))⟩⟩
  | lst h => exact ⟨_, rfl, _, _, _, _, rfl, .lst h, rfl, _, rfl, iteF ⟨_, rfl, _, _, rfl, .lst h, _, rfl, iteF (iteF (bad (.inl rfl) _ sm))⟩⟩
  | tup h => exact ⟨_, rfl, _, _, _, _, rfl, .tup h, rfl, _, rfl, iteF ⟨_, rfl, _, _, rfl, .tup h, _, rfl, iteF (iteF (bad (.inl rfl) _ sm))⟩⟩
  | dK h => exact ⟨_, rfl, _, _, _, _, rfl, .dK h, rfl, _, rfl, iteF ⟨_, rfl, _, _, rfl, .dK h, _, rfl, iteF (iteF (bad (.inl rfl) _ sm))⟩⟩
 ·rintro σ H2 ⟨vals, vt, rfl, b2, sm, gv, hg, hle, hP⟩
  rw [Nat.sub_self, List.drop_zero] at hg hP
  refine ⟨_, rfl, vl, _, rfl, .inl (SqL.of gv), rfl, _, rfl, ite2 (fun c => ?_) (fun c => ?_)⟩
  ·refine qE (fun z => ?_) _ sm
   rw [hg] at z
   injection z with z
   rw [z] at c
   exact absurd c (by decide)
  ·have h1 : vals.length = 1 := by
    by_cases z : vals.length = 1
    ·exact z
    ·exfalso
     apply c
     simp
     omega
   match vals, h1 with
   | [y], _ => exact ⟨_, rfl, vl, _, _, _, rfl, rfl, SqL.of gv, zq (j := 0) rfl, qQ hg _ y sm hP⟩
end
end GN
namespace K31
open PySem L2
open GN (vH yZ sIn QJ sRes)
def Sm (i : Int) : Prop := -1000000000000000000000000000000 < i /\ i < 1000000000000000000000000000000
set_option exponentiation.threshold 2000 in
theorem QV {i : Int} (h : i.natAbs < 10 ^ 100) : i.natAbs < BG := Nat.lt_of_lt_of_le h (by unfold BG; decide +kernel)
inductive Nu (H : Hp) : V -> Option Int -> Prop
 | int {i : Int} : Sm i -> Nu H (.int i) (some i)
 | tup {p : Addr} {xs : List V} : H p = some (.tup xs) -> Nu H (.ref p) none
def res (w : Str) (i j : Int) : Int := if w = "plus" then i + j else if w = "minus" then i - j else if w = "times" then i * j else if w = "over" then i.fdiv j else if w = "rest" then i.fmod j else if w = "less" then (if i < j then 1 else 0) else (if i = j then 1 else 0)
def fw (w : Str) : Option Int -> Option Int -> Str
 | some i, some j => if j = 0 /\ (w = "over" \/ w = "rest") then "nought" else if -1000000000000000000000000000000 < res w i j /\ res w i j < 1000000000000000000000000000000 then "" else "great"
 | _, _ => "nonumber"
def spWhole : Sp := fun vs H Q _ => ∃ v o, vs = [v] /\ Nu H v o /\ Q (.bl o.isSome) H
def spIn : Sp := fun vs H Q _ => ∃ i : Int, vs = [.int i] /\ Q (.bl (decide (-1000000000000000000000000000000 < i /\ i < 1000000000000000000000000000000))) H
def spFault (C : Addr) : Sp := fun vs H Q _ => ∃ e v, vs = [.ref e, v] /\ H e = some (XO e C none) /\ ∀ d, H d = none -> d ≠ e -> Q .non (upd (upd H d (XD d [("word", v)])) e (XO e C (some d)))
section
variable {P : Program} {w : World} {K : PySem.W.Frag} {mg : Str -> Option Value} {base : Heap} {f R C : Addr} {fd : FuncData}
theorem V0 : FnScope ["self", "word"] ["self", "word"] (zo vH) := ⟨rfl, rfl, rfl, by decide +kernel, rfl, by decide +kernel, by decide +kernel⟩
theorem ok_fault {fi : Addr} (F : Fun K "__init__" "Fault.__init__" vH f fd) (xw : PySem.W.takerIn K C "word" = some none) (M : XCl K C fi) (B : XBase K R) (mR : mg "ReuseError" = some (.ref R)) : FnOk P w K mg base CX0 1 f fd ["self", "word"] (spFault C) := by
 refine F.by V0 (fun vs H Q E h => ?_) (fun cdv A' outer s H vs Q E hr h => ?_)
 ·obtain ⟨e, v, rfl, _⟩ := h
  rfl
 obtain ⟨e, v, rfl, hX, q⟩ := h
 refine ⟨_, zj (zN ⟨Xx M B rfl mR (ja_c (jv 0) (ja_c (jv 1) zh)).out⟩) (zk ⟨Vu M (jv 0).out (jv 1).out⟩), ?_⟩
 refine ⟨_, rfl, _, rfl, e, [v], none, rfl, by show 1 <= sizeLine; decide, hX, ?_⟩
 exact ⟨_, rfl, _, rfl, e, rfl, hX, xw, fun d hd ne => q d hd ne⟩
theorem scWhole : FnScope ["thing"] ["thing"] (zo yZ) := ⟨rfl, rfl, rfl, by decide +kernel, rfl, by decide +kernel, by decide +kernel⟩
theorem ok_whole (F : Fun K "is_whole" "is_whole" yZ f fd) (m_isinstance : mg "isinstance" = none) (m_int : mg "int" = none) (m_bool : mg "bool" = none) : FnOk P w K mg base CX0 1 f fd ["thing"] spWhole := by
 refine F.by scWhole (fun vs H Q E h => ?_) (fun cdv A outer s H vs Q E hr h => ?_)
 ·obtain ⟨v, o, rfl, _⟩ := h
  rfl
 obtain ⟨v, o, rfl, h, q⟩ := h
 refine ⟨_,
  (zk (zF (wk (zI zR rfl m_isinstance PyProof.Rows.boot_isinstance (ja_c (jv 0) (ja_c (yf (v := .ty "int") rfl m_int PyProof.Rows.boot_int rfl) zh))) (wj (j6 (zI zR rfl m_isinstance PyProof.Rows.boot_isinstance (ja_c (jv 0) (ja_c (yf (v := .ty "bool") rfl m_bool PyProof.Rows.boot_bool rfl) zh)))))))), ?_⟩
 cases h with
 | int h => exact ⟨_, rfl, _, _, _, _, rfl, .int _, rfl, _, rfl, iteT ⟨_, rfl, _, _, _, _, rfl, .int _, rfl, _, rfl, q⟩⟩
 | tup h => exact ⟨_, rfl, _, _, _, _, rfl, .tup h, rfl, _, rfl, iteF q⟩
theorem raised {C : Addr} {H : Hp} {E : XK} {v : V} (hE : ∀ d H', Same H H' -> H' d = some (XD d [("word", v)]) -> E (.ref C) (some d) H') (e : Addr) (he : H e = none) :
  spFault C [.ref e, v] (upd H e (XO e C none)) (fun u H2 => u = .non /\ ∃ dx, H2 e = some (XO e C dx) /\ E (.ref C) dx (drp H2 e)) E0 := by
 refine ⟨e, v, rfl, zg, fun d hd hne => ⟨rfl, some d, zg, ?_⟩⟩
 have hd' : H d = none := by rw [zm hne] at hd; exact hd
 refine hE d _ (fun b u hb => ?_) ?_
 ·rw [wt (zn hb he), zm (zn hb he), zm (zn hb hd'), zm (zn hb he)]
  exact hb
 ·rw [wt hne, zm hne]
  exact zg
end
end K31
namespace L2
open PySem PySem.Spec PyProof.Rows
section
variable {X : Cx}
end
end L2
namespace L2
open PySem PySem.Spec PyProof.Rows
theorem Zp : (["__module__", "__name__", "__qualname__", "__doc__", "__annotations__"] : List Str).contains ("keys" : Str) = false := by decide +kernel
theorem yO : entryFor table "dict.update.loop" = some Builtin.«dict.update.loop» := entryFor_of_tree (by kernel_rfl)
theorem yh : plainId "dict.update.loop" = true := by decide +kernel
section
variable {prog : Program} {w : World} {A : Around}
end
section
variable {X : Cx}
end
end L2
namespace L2
open PySem PySem.Spec PyProof.Rows
theorem Zq : typeLookup (.type "zip") "keys" = pure none := am_miss_of_fast (by decide +kernel)
theorem xP : typeLookup (.type "zip") "__getattr__" = pure none := by rw [typeLookup_type, builtinLookup_eq_fast]; kernel_rfl
theorem yI : entryFor table "zip.__getattribute__" = some Builtin.«object.__getattribute__» :=
 entryFor_alias (id' := "object.__getattribute__") (by kernel_rfl) (by decide +kernel) (by decide +kernel) (by kernel_rfl)
theorem yE (a : Addr) (fs : Array Value) (sl : Array (Option Value)) (name : Str) (u : Tok) (hmiss : typeLookup (.type "zip") name = pure none) (hname : (["__module__", "__name__", "__qualname__", "__doc__", "__annotations__"] : List Str).contains name = false) (hsz : name.length + 100 <= sizeLine := by size_fits) :
  Meets (Builtin.«object.__getattribute__» ⟨[.ref a, .str name u], []⟩) (fun A R s => s.heap.get? a = some { cls := .type "zip", dict := none, data := .fields fs, slots := sl } /\ raisesAttr (.ref a) name A R s) :=
 Meets.of_wp fun prog w A R s hs => by
  obtain ⟨hp, g, d, tk, os⟩ := s
  obtain ⟨hx, hs⟩ := hs
  have hT : (⟨hp, g, d, tk, os⟩ : Shared).TypeIs (.ref a) "zip" := ⟨_, hx, rfl⟩
  unfold Builtin.«object.__getattribute__»
  repeat (any_goals (first | assumption | wp_step))
  simp only [hname, Bool.false_eq_true, if_false]
  repeat (any_goals (first | assumption | wp_step))
  exact wpAny_raiseAttrError hs.1 hs.2 (attrMsg_fits (by decide +kernel) hsz)
section
variable {prog : Program} {w : World} {A : Around}
theorem Zr {E : Value -> Shared -> Prop} {s : Shared} {a : Addr} {fs : Array Value} {Q : Option Value -> Shared -> Prop} (hx : s.heap.get? a = some { cls := .type "zip", data := .fields fs }) (hA : A.handled = none)
  (h : ∀ h' tk, (∀ b o, s.heap.get? b = some o -> h'.get? b = some o) -> Q none { s with heap := h', toks := tk }) : wpAny (model prog w) A (getAttr? (.ref a) "keys") Q E s := by
 obtain ⟨hp, g, d, tk, os⟩ := s
 have hT : ∀ t', (⟨hp, g, d, t', os⟩ : Shared).TypeIs (.ref a) "zip" := fun _ => ⟨_, hx, rfl⟩
 have g1 := sub_AttributeError
 have g2 := PySem.F.slot_zip_getattribute.lookup
 have g3 := PySem.F.slot_zip_getattribute.bind (.ref a)
 have g4 := xP
 unfold getAttr? getAttrBy? getAttrBy
 repeat (any_goals (first | assumption | exact hT _ | ((with_reducible show wpAny _ _ (call (Value.builtin "zip.__getattribute__") _ _) _ _ _); refine call_meets PySem.F.slot_zip_getattribute (hT _) yI (PySem.F.args_zip_getattribute_2 _ _) (yE a fs #[] "keys" _ Zq Zp (by show 4 + 100 <= sizeLine; decide)) ⟨hx, hA, fun h' tk' e hx' => ?_⟩) | wp_step))
 obtain ⟨t', u', he⟩ := hx'.there
 show wpAny _ _ (getattributeRaised _ _ _ _ _ _ _) _ _ _
 unfold getattributeRaised
 repeat (any_goals (first | assumption | wp_step))
 exact h _ _ hx'.keeps
theorem jD {κ : Type} [DecidableEq κ] {knd : KeyKind prog w κ} {R : Result -> Shared -> Prop} {k m : Bool} {B l r D : Nat} {xs ys : Array Value} {more : List (κ × Value)} {res : Value} (hh : A.handled = none) (ll : l < B) (rl : r < B) (hD : B + 4 < D) (hz : more.length <= sizeLine) (hx : xs.size = more.length)
  (hp : ∀ (j : Nat) k v, more[j]? = some (k, v) -> ∃ ku, xs[j]? = some ku /\ ys[j]? = some v /\ knd.is k ku = true) :
  ∀ (d i : Nat) (s : Shared) (f g : Value), more.length - i = d -> i <= more.length -> ZS k m s.heap B l r i f g -> ZF B s.heap f g -> Sq k s.heap l xs -> Sq m s.heap r ys -> D < s.heap.objs.size -> s.heap.DictOf knd D (merged [] (more.take i)) ->
   (∀ h' tk, (∀ (b : Nat) o, (b < B \/ B + 4 < b) -> b ≠ D -> s.heap.get? b = some o -> h'.get? b = some o) -> h'.DictOf knd D (merged [] more) -> R (.ok (.ret res)) { s with heap := h', toks := tk }) ->
   codeAny (model prog w) A (.builtin "dict.update.loop" ⟨[.ref D, .ref (B + 4), rawInt i, res], []⟩) R s := by
 intro d
 induction d with
 | zero =>
  intro i s f g hm hi Z hf hl hr hs hd hR
  have e : i = more.length := by omega
  refine codeAny_builtin yO ?_
  rw [Around.under_plainId yh _]
  show wpAny _ A.in1 (pyNext (.ref (B + 4)) >>= _) _ _ s
  refine wpAny_bind (wx (A := A.in1) hh Z hf hl hr ll rl (.inl (Array.getElem?_eq_none (by omega))) fun h' kz => ?_)
  show wpAny _ A.in1 (Builtin.Dict.addKeywords D [] >>= fun _ => ret res) _ _ _
  refine wpAny_bind (wpAny_pure (wpAny_pure ?_))
  rw [e, List.take_of_length_le (Nat.le_refl _)] at hd
  obtain ⟨o, es, ep, ho, hr'⟩ := hd
  exact hR h' s.toks (fun b o nb _ e' => kz b o nb e') ⟨o, es, ep, kz _ _ (.inr hD) ho, hr'⟩
 | succ d ih =>
  intro i s f g hm hi Z hf hl hr hs hd hR
  have hlt : i < more.length := by omega
  obtain ⟨kv, ekv⟩ : ∃ kv, more[i]? = some kv := ⟨_, List.getElem?_eq_getElem hlt⟩
  obtain ⟨ke, v⟩ := kv
  obtain ⟨ku, e1, e2, e3⟩ := hp i ke v ekv
  refine codeAny_builtin yO ?_
  rw [Around.under_plainId yh _]
  show wpAny _ A.in1 (pyNext (.ref (B + 4)) >>= _) _ _ s
  refine wpAny_bind (jn (A := A.in1) Z hf hl hr ll rl e1 e2 fun h' T ct z hT p sz kz => ?_)
  show wpAny _ A.in1 (holding [Value.ref s.heap.objs.size] _ >>= _) _ _ _
  refine wpAny_bind (wpAny_holding (wpAny_bind (wpAny_tryCatch ?_)))
  unfold Builtin.Dict.pairItems
  refine wpAny_bind (wpAny_typeOf ⟨_, p, rfl⟩ ?_)
  rw [if_pos (by decide +kernel)]
  refine wpAny_bind ?_
  unfold seqItems?
  refine wpAny_bind (wpAny_load p ?_)
  refine wpAny_pure (wpAny_pure ?_)
  show wpAny _ A.in1 (holding [ku, v] (dictSet D ku v)) _ _ _
  have hd' : h'.DictOf knd D (merged [] (more.take i)) := by
   obtain ⟨o, es, ep, ho, hr'⟩ := hd
   exact ⟨o, es, ep, kz _ _ (.inr hD) ho, hr'⟩
  have lz : (merged [] (more.take i)).length <= sizeLine := by
   have := merged_length_le [] (more.take i)
   rw [List.length_take] at this
   simp only [List.length_nil] at this
   omega
  refine wpAny_holding (wpAny_dictSet_pairs (hsz := lz) e3 hd' fun h'' hd'' sb'' => ?_)
  rw [<- merged_take_succ [] more i (ke, v) ekv] at hd''
  have up : ∀ (b : Nat) o, b ≠ D -> h'.get? b = some o -> h''.get? b = some o := fun b o nb e => sb''.extBut b o nb e
  have sz'' : s.heap.objs.size < h''.objs.size := Heap.lt_size (up _ _ (Nat.ne_of_gt hs) p)
  refine wpAny_pure ⟨plainId_quiet yh _, ih (i + 1) _ (rawInt T) (.bool ct) (by omega) hlt (z.at fun b o h1 h2 e => up b o (by omega) e) ?_ ((hl.at fun o e => kz _ o (by omega) e).at fun o e => up _ o (by omega) e) ((hr.at fun o e => kz _ o (by omega) e).at fun o e => up _ o (by omega) e) (Nat.lt_trans hs sz'') hd'' fun h3 tk k3 d3 => ?_⟩
  ·rcases hT with e | ⟨lT, o, hT⟩
   ·subst e
    exact .inr ⟨_, ct, _, rfl, rfl, up _ _ (Nat.ne_of_gt hs) p, by omega⟩
   ·by_cases c : T = D
    ·obtain ⟨o, es, ep, ho, _⟩ := hd''
     exact .inr ⟨T, ct, o, rfl, rfl, by rw [c]; exact ho, lT⟩
    ·exact .inr ⟨T, ct, o, rfl, rfl, up _ _ c (kz _ _ (by omega) hT), lT⟩
  ·exact hR h3 tk (fun b o b1 b2 e' => k3 b o b1 b2 (up _ _ b2 (kz _ _ b1 e'))) d3
end
section
variable {X : Cx} {a b : Expr} {ta : TA} {p1 p2 pos1 pos2 : Pos}
def zkv (ns : List Str) (ys : List V) : List (Key × V) := (ns.zip ys).map fun p => (.inr p.1, p.2)
def Wk (K : PySem.W.Frag) (ta : TA) : TE := fun σ H Q => ta σ H fun vs H1 => ∃ (a b : Addr) (ns : List Str) (ys : List V), vs = [.ref a, .ref b] /\ (SqL K H1 a (ns.map V.str) \/ SqT K H1 a (ns.map V.str)) /\ (SqL K H1 b ys \/ SqT K H1 b ys) /\ ns.length = ys.length /\ ns.Nodup /\ ∀ d, H1 d = none -> Q (.ref d) (upd H1 d (.dK (zkv ns ys)))
theorem Wl {ns : List Str} {ys : List V} (h : ns.length = ys.length) : (zkv ns ys).map (·.1) = ns.map Sum.inr := by
 unfold zkv
 rw [List.map_map]
 have : ((fun x => x.1) ∘ fun (p : Str × V) => ((Sum.inr p.1 : Key), p.2)) = fun p => (Sum.inr p.1 : Key) := rfl
 rw [this]
 have e := List.map_fst_zip (l₁ := ns) (l₂ := ys) (by omega)
 conv => rhs; rw [<- e]
 rw [List.map_map]
 rfl
theorem Wm (hc : X.calm = true) (hgL : Gl X "dict") (hmL : X.mg "dict" = none) (hgZ : Gl X "zip") (hmZ : X.mg "zip" = none) (ha : PA X [a, b] ta)
  (h1 : starEach [a, b] X.env = [(false, eval a X.env), (false, eval b X.env)] := by rfl) (h2 : starEach [b] X.env = [(false, eval b X.env)] := by rfl) : PE X (.Call (.Name "dict" p1) [.Call (.Name "zip" p2) [a, b] [] pos2] [] pos1) (Wk X.K ta) := by
 intro pins s σ H Q I h
 refine Call_ (yF I hgL hmL PyProof.Rows.boot_dict (PyProof.Rows.callWith_type1 (Calls.spliced_cons (Call_ (yF I hgZ hmZ boot_zip (PyProof.Rows.callWith_type1 (thn (ha pos2 pins s σ H _ I h) fun us s1 g => ?_) (by rw [h1, h2]) (by rw [h2]; rfl))))) rfl rfl))
 obtain ⟨vs, H1, I1, r1, a1, b1, ns, ys, rfl, hq1, hq2, ll, hn, q⟩ := g
 obtain ⟨u, u', rfl, e1, e2⟩ := Zy r1
 cases e1
 cases e2
 obtain ⟨k1, i1, v1, q1, z1, l1⟩ := I1.sq hq1
 obtain ⟨k2, i2, v2, q2, z2, l2⟩ := I1.sq hq2
 refine wv q1 q2 fun h' Z sz kp => Calls.spliced_nil ?_
 have hh : X.A.handled = none := I1.ok.hd hc
 have n1 := v1.length
 have n2 := v2.length
 rw [List.length_map] at n1 z1
 have big := I1.big
 obtain ⟨B, eB⟩ : ∃ B : Nat, B = s1.heap.objs.size := ⟨_, rfl⟩
 rw [<- eB] at Z sz l1 l2 ⊢
 obtain ⟨more, emore⟩ : ∃ more : List (Key × Value), more = (ns.zip i2).map fun p => (.inr p.1, p.2) := ⟨_, rfl⟩
 have lmore : more.length = ns.length := by rw [emore, List.length_map, List.length_zip]; omega
 have hmore : ∀ (j : Nat) k v, more[j]? = some (k, v) -> ∃ ku, i1.toArray[j]? = some ku /\ i2.toArray[j]? = some v /\ (zP X.prog X.w).is k ku = true := fun j k v hj => by
  rw [emore, List.getElem?_map] at hj
  obtain ⟨⟨n, v'⟩, hz, e⟩ := Option.map_eq_some_iff.mp hj
  cases e
  rw [List.getElem?_zip_eq_some] at hz
  obtain ⟨ku, hu, ru⟩ := v1.get (i := j) (x := .str n) (by rw [List.getElem?_map, hz.1]; rfl)
  obtain ⟨t, rfl⟩ := ru
  exact ⟨_, by simpa using hu, by simpa using hz.2, xT _ _ n t⟩
 have km : KV (zkv ns ys) more := by
  have : ∀ {ns : List Str} {ys : List V} {us : List Value}, Vals ys us -> ns.length = ys.length -> KV (zkv ns ys) ((ns.zip us).map fun p => ((.inr p.1 : Key), p.2)) := fun {ns ys us} hv hl => by
   induction hv generalizing ns with
   | nil =>
    cases ns with
    | nil => exact .nil
    | cons _ _ => simp at hl
   | cons r _ ih =>
    cases ns with
    | nil => simp at hl
    | cons n ns => exact .cons ⟨rfl, r⟩ (ih (by simpa using hl))
  rw [emore]
  exact this v2 ll
 have keys : more.map (·.1) = ns.map Sum.inr := by
  rw [<- Wl ll]
  have : ∀ {a : List (Key × V)} {b : List (Key × Value)}, KV a b -> b.map (·.1) = a.map (·.1) := fun {a b} z => by
   induction z with
   | nil => rfl
   | cons h _ ih => rw [List.map_cons, List.map_cons, h.1, ih]
  exact this km
 refine callType_codes (Q₁ := fun obj s₁ => obj = .ref h'.objs.size /\ s₁ = { s1 with heap := h'.push { cls := .type "dict", data := .dict #[] } }) PySem.F.kt_called_dict (PySem.F.kt_typeCall_dict_1 _) PySem.F.entry_dict_init (kt_code_dict_new _ ⟨rfl, rfl⟩) ?_
 rintro obj s₁ ⟨rfl, rfl⟩
 have new : (h'.push { cls := .type "dict", data := .dict #[] }).DictOf (zP X.prog X.w) h'.objs.size [] := Heap.DictOf.new h'
 have Z1 : ZS k1 k2 (h'.push { cls := .type "dict", data := .dict #[] }) B a1 b1 0 .none (.bool false) := Z.at fun b o _ _ e => Heap.get?_push_of_some _ e
 refine ⟨new.typeIs, PySem.F.args_dict_init_2 _ _, ?_⟩
 unfold Builtin.«dict.__init__»
 refine wpAny_bind ?_
 unfold Builtin.Dict.selfAndRest
 refine wpAny_bind (wpAny_notOrdered_dict new.typeIs ?_)
 show wpAny _ _ (pure (h'.objs.size, [Value.ref (B + 4)])) _ _ _
 refine wpAny_pure ?_
 show wpAny _ _ (Builtin.Dict.updateFrom "dict.__init__" h'.objs.size (.ref (B + 4)) [] .none) _ _ _
 unfold Builtin.Dict.updateFrom
 refine wpAny_bind (wpAny_typeOf ⟨_, Z1.z, rfl⟩ ?_)
 rw [if_pos (by decide +kernel)]
 refine wpAny_bind (Zr Z1.z hh fun h2 t2 k2' => ?_)
 rw [if_pos (show ((none : Option Value).isNone = true) from rfl)]
 have Z2 : ZS k1 k2 h2 B a1 b1 0 .none (.bool false) := Z1.at fun b o _ _ e => k2' _ _ e
 obtain ⟨o, es, ep, ho, hr⟩ := id new
 have ho1 := k2' _ _ ho
 have ltD : h'.objs.size < h2.objs.size := Heap.lt_size ho1
 have kall : ∀ b o, s1.heap.get? b = some o -> h2.get? b = some o := fun b o e => k2' _ _ (Heap.get?_push_of_some _ (kp _ _ e))
 have ty : ∀ t, Shared.TypeIs { s1 with heap := h2, toks := t } (.ref (B + 4)) "zip" := fun t => ⟨_, Z2.z, rfl⟩
 refine wpAny_bind (wpAny_rule (wpAny_bind (wpAny_pyIter_slot (ty _) PySem.F.slot_zip_iter (wpAny_call_entry PySem.F.slot_zip_iter (ty _) PySem.F.entry_zip_iter ?_ (PySem.F.args_zip_iter_1 _)))))
 show wpAny _ _ (ret (.ref (B + 4))) _ _ _
 refine wpAny_pure ⟨_, rfl, "zip", _, ty _, PySem.F.slot_zip_next.lookup, ?_⟩
 refine wpAny_pure ⟨plainId_quiet yh _, ?_⟩
 refine jD (A := X.A.in1) (knd := zP X.prog X.w) (B := B) (xs := i1.toArray) (ys := i2.toArray) (more := more) hh l1 l2 (by rw [sz]; omega) (by omega) (by rw [List.size_toArray]; omega) hmore more.length 0 _ _ _ (by omega) (Nat.zero_le _) Z2 (.inl rfl) (q1.at fun o e => kall _ o e) (q2.at fun o e => kall _ o e) ltD ⟨o, es, ep, ho1, hr⟩ (fun h3 tk kk dd => ?_)
 rw [merged_nil_of_nodup more (by rw [keys]; exact List.Pairwise.map _ (fun i j (ne : i ≠ j) e => ne (Sum.inr.inj e)) hn)] at dd
 have hk : ∀ b o, s1.heap.get? b = some o -> h3.get? b = some o := fun b o e => by
  have lb : b < B := by rw [eB]; exact Heap.lt_size e
  exact kk b o (.inl lb) (Nat.ne_of_lt (Nat.lt_of_lt_of_le lb (by rw [sz]; exact Nat.le_add_right _ _))) (kall _ _ e)
 refine ⟨rfl, .ref h'.objs.size, _, I1.laid (t' := tk) hk (by rw [sz, eB]; exact Nat.le_add_right _ _) (show ObjOk X.prog X.w _ h3 _ (.dK (zkv ns ys)) from ⟨by rw [Paired.length km]; omega, ?_, more, km, dd⟩), rfl, q _ (I1.hok.fresh (by rw [sz, eB]; exact Nat.le_add_right _ _))⟩
 exact beq_eq_false_iff_ne.mpr (fun e => by rw [sz, eB] at e; rw [<- e] at big; exact absurd big (Nat.not_lt.mpr (Nat.le_add_right _ _)))
theorem xE (hc : X.calm = true) (hgL : Gl X "dict") (hmL : X.mg "dict" = none) (hgZ : Gl X "zip") (hmZ : X.mg "zip" = none) (ha : jA X [a, b] ta) (h1 : zz a = false := by rfl) (h2 : zz b = false := by rfl) :
  jE X (.Call (.Name "dict" p1) [.Call (.Name "zip" p2) [a, b] [] pos2] [] pos1) (Wk X.K ta) := ⟨Wm hc hgL hmL hgZ hmZ ha.out (by rw [zE h1, zE h2]; rfl) (by rw [zE h2]; rfl)⟩
end
end L2
namespace L2
open PySem PySem.Spec PyProof.Rows
abbrev Cx.plusP (X : Cx) (pins : List (Addr × Obj)) : Cx := { X with pn := X.pn ++ pins }
section
variable {X : Cx} {Ch : Addr} {x : Str} {np hpos tpos : Pos} {b0 : Stmt} {suite body : List Stmt} {th : Addr -> Obj -> TS} {tb : XK -> TS}
theorem Inv.ofPlus {pins pins' : List (Addr × Obj)} {σ : St} {H : Hp} {s : Shared} (ok : X.Ok) (I : Inv (X.plusP pins) pins' σ H s) : Inv X (pins ++ pins') σ H s :=
 ⟨ok, I.os, I.bare, I.base, I.loc, I.cell, I.free, I.freeC, fun q hq => I.pin q (by simpa using hq), I.hok, I.len⟩
theorem Inv.few {pins pins' : List (Addr × Obj)} {σ : St} {H : Hp} {s : Shared} (I : Inv X (pins ++ pins') σ H s) : Inv X pins σ H s :=
 ⟨I.ok, I.os, I.bare, I.base, I.loc, I.cell, I.free, I.freeC, fun q hq => I.pin q (by rw [<- List.append_assoc]; exact List.mem_append_left _ hq), I.hok, I.len⟩
end
end L2
namespace L2
open PySem PySem.Spec PyProof.Rows
def HB (X : Cx) (hs : List ExceptHandler) (Tk : Ends -> XK) : Prop := ∀ (pins : List (Addr × Obj)) (σ : St) (D : Ends) (e : Addr) (C : Value) (dx : Option Addr) (H' : Hp) (T : Addr) (s : Shared), Tr s.heap e C dx T .none -> Inv X pins σ H' s -> H' e = none -> H' T = none -> X.s₀.heap.objs.size <= T -> (∀ p ∈ X.pn ++ pins, p.1 ≠ T) -> Tk D C dx H' ->
 wpAny (model X.prog X.w) X.A (handleBy (.ref e) X.env hs) (SP X pins D) X.xe s
def xN (K : PySem.W.Frag) (Ch : Addr) (i n : Nat) (th : Addr -> Obj -> TS) (Tk : Ends -> XK) : Ends -> XK := fun D C dx H =>
 (PySem.W.exmOne K C (.ref Ch) = some true /\ ∀ (e : Addr) (oe : Obj) (vs : Array Value) (σ : St), σ.length = n -> oe.cls = C -> oe.dict = dx -> oe.data = .fields vs -> vs[2]? = some .none -> H e = none -> th e oe (D.behind i) (σ.set i (some (.ref e))) H) \/ (PySem.W.exmOne K C (.ref Ch) = some false /\ Tk D C dx H)
def xNil : Ends -> XK := fun _ _ _ _ => False
section
variable {X : Cx} {Ch : Addr} {x n : Str} {i : Nat} {np hpos tpos : Pos} {b0 : Stmt} {suite body : List Stmt} {th : Addr -> Obj -> TS} {tb : XK -> TS} {h0 : ExceptHandler} {hs : List ExceptHandler} {Tk : Ends -> XK}
theorem Qe : HB X [] xNil := fun _ _ _ _ _ _ _ _ _ _ _ _ _ _ _ h => False.elim h
theorem QN (R : HB X hs Tk) (hN : X.N.Nodup) (hi : X.N[i]? = some n) (hg : Gl X x) (hm : X.mg x = some (.ref Ch)) (hS : ∀ e oe, jSs (X.inEx (.ref e) [(e, oe)]) (b0 :: suite) (th e oe)) (hl : X.env.scope.names.lookup n = some .local := by rfl) (hdb : (x == ("__debug__" : Str)) = false := by decide) :
  HB X (.ExceptHandler (some (.Name x np)) (some n) (b0 :: suite) hpos :: hs) (xN X.K Ch i X.N.length th Tk) := by
 intro pins σ D e C dx H' T s t J ne nT sT pT h
 obtain ⟨oe, vs, g1, g2, g3, g4, g5⟩ := t.ex
 have Jm : Inv (X.inEx (.ref e) []) pins σ H' s := J.inEx (.ref e) fun q hq => nomatch hq
 have LT : PySem.W.Looks (model X.prog X.w) s.heap (typeOf (.ref e)) C := g2 ▸ (PySem.W.Looks.ld g1).andThen .now
 refine wpAny_handleBy_cons (codeAny_handlers_test (y8 Jm hg hm ?_ hdb)) (by intro q; cases q)
 rcases h with ⟨hex, hth⟩ | ⟨hex, hn⟩
 ·refine PySem.W.Looks.here (PySem.W.exm_one (K := X.K) J.kIn LT hex) ?_
  refine codeAny_handlers_suite_as (x8 (v := none) t fun h3 t3 m3 => ?_)
  have J3 : Inv X pins σ H' { s with heap := h3 } := Inv.moved J (m3.mono (fun b z => nomatch z) fun _ z => z) fun b hb => by
   rw [List.mem_singleton.mp hb]
   obtain ⟨ot, ts, q1, q2, _⟩ := t.tb
   exact ⟨nT, .inr sT, (J.apart q1 q2).1, (J.apart q1 q2).2, pT⟩
  obtain ⟨oe3, vs3, a1, a2, a3, a4, a5⟩ := t3.ex
  have ap := Inv.apart (s := { s with heap := h3 }) J3 a1 a4
  have J4 : Inv (X.inEx (.ref e) [(e, oe3)]) pins σ H' { s with heap := h3 } := J3.inEx (.ref e) fun q hq => by
   rw [List.mem_singleton.mp hq]
   exact ⟨a1, ne, ap.1, fun z => by
    obtain ⟨_, o, ho, nf⟩ := J3.funs.mem z
    have ho' : h3.get? e = some o := ho
    rw [a1] at ho'
    cases ho'
    exact nf vs3 a4, fun v z => by rw [a4] at z; cases z⟩
  refine wd (X := X.inEx (.ref e) [(e, oe3)]) (v := .ref e) J4 hN hi (.inl hl) rfl (fun s4 J5 => ?_) (.inr hl)
  refine wpAny_mono ((hS e oe3).out pins s4 _ H' (D.behind i) J5 (hth e oe3 vs3 _ J3.len a2 a3 a4 a5.2 ne)) (fun f s5 q => ?_) fun _ _ z => False.elim z
  cases f with
  | next =>
   obtain ⟨σ', H5, I5, q⟩ := q
   exact xc (I5.outEx J.ok) hN hi hl fun s6 I6 => ⟨_, _, I6, q⟩
  | brk =>
   obtain ⟨σ', H5, I5, q⟩ := q
   exact xc (I5.outEx J.ok) hN hi hl fun s6 I6 => ⟨_, _, I6, q⟩
  | cont =>
   obtain ⟨σ', H5, I5, q⟩ := q
   exact xc (I5.outEx J.ok) hN hi hl fun s6 I6 => ⟨_, _, I6, q⟩
  | ret w =>
   obtain ⟨v, σ', H5, I5, r, q⟩ := q
   exact xc (I5.outEx J.ok) hN hi hl fun s6 I6 => ⟨v, _, _, I6, r, q⟩
 ·refine PySem.W.Looks.here (PySem.W.exm_one (K := X.K) J.kIn LT hex) ?_
  exact R pins σ D e C dx H' T s t J ne nT sT pT hn
theorem YK {pins : List (Addr × Obj)} {σ : St} {D : Ends} {u : Value} {s' : Shared} (hst : X.stack = X.env :: X.outer) (hf : X.env.frame = some X.env.locals) (R : HB X hs Tk)
  (h : Air X pins σ (Tk D) u s') :
  wpAny (model X.prog X.w) X.A (noteFrame u X.env) (fun _ s2 => wpAny (model X.prog X.w) X.A (setFlight u none) (fun _ s3 => wpAny (model X.prog X.w) X.A (handleBy u X.env hs) (SP X pins D) X.xe s3) X.xe s2) X.xe s' := by
 obtain ⟨e, C, dx, H', k, rfl, I, ne, hk, he, hp, st, hth⟩ := h
 have fr : X.A.frames = some (X.env :: X.outer) := hst ▸ I.ok.frames
 have fs : s'.heap.FunFrames X.base (X.env :: X.outer) := hst ▸ I.stack
 have pk : ∀ b, k <= b -> ∀ p ∈ X.pn ++ pins, p.1 ≠ b := fun b hb p q z => absurd (Nat.lt_of_lt_of_le (hp p q) hb) (by rw [z]; exact Nat.lt_irrefl _)
 have two : ∀ (h1 : Heap) (T : Addr) (xs : List Addr), Tr h1 e C dx T (rawInt X.env.locals) -> Mv ((X.env :: X.outer).filterMap (·.frame)) xs s'.heap h1 -> (∀ b ∈ xs, H' b = none /\ X.s₀.heap.objs.size <= b /\ (∀ p ∈ X.pn ++ pins, p.1 ≠ b) /\ ∃ o vs, s'.heap.get? b = some o /\ o.data = .fields vs) -> s'.heap.objs.size <= T ->
   wpAny (model X.prog X.w) X.A (setFlight (.ref e) none) (fun _ s3 => wpAny (model X.prog X.w) X.A (handleBy (.ref e) X.env hs) (SP X pins D) X.xe s3) X.xe { s' with heap := h1 } := by
  intro h1 T xs t m hxs hT
  have J1 : Inv X pins σ H' { s' with heap := h1 } := I.moved (hst ▸ m) fun b hb => by
   obtain ⟨r1, r2, r3, o, vs, r4, r5⟩ := hxs b hb
   exact ⟨r1, .inr r2, (I.apart r4 r5).1, (I.apart r4 r5).2, r3⟩
  have nT : H' T = none := I.hok.fresh hT
  have sT : X.s₀.heap.objs.size <= T := Nat.le_trans I.sz hT
  have pT : ∀ p ∈ X.pn ++ pins, p.1 ≠ T := fun p q z => absurd (Nat.lt_of_lt_of_le (Heap.lt_size (I.pin p q).1) hT) (by rw [z]; exact Nat.lt_irrefl _)
  refine x8 (s := { s' with heap := h1 }) (v := none) t fun h2 t2 m2 => R pins σ D e C dx H' T { s' with heap := h2 } t2 (Inv.moved (s := { s' with heap := h1 }) J1 (m2.mono (fun b z => nomatch z) fun _ z => z) fun b hb => ?_) ne nT sT pT hth
  rw [List.mem_singleton.mp hb]
  obtain ⟨ot, ts, q1, q2, _⟩ := t.tb
  exact ⟨nT, .inr sT, (J1.apart q1 q2).1, (J1.apart q1 q2).2, pT⟩
 rcases st with ⟨oe, vs, h1, rfl, rfl, h4, h5, h6⟩ | ⟨T0, t0, n0, s0⟩
 ·refine w5 fr fs hf h1 h4 h5 h6 fun h' T hs t m => two h' T [e] t m (fun b hb => ?_) hs
  rw [List.mem_singleton.mp hb]
  exact ⟨ne, Nat.le_trans hk he, pk e he, oe, vs, h1, h4⟩
 ·refine ji fr fs hf t0 fun h' T hs t m => two h' T [e, T0] t m (fun b hb => ?_) hs
  rcases List.mem_cons.mp hb with r | hb
  ·rw [r]
   obtain ⟨oe, vs, q1, _, _, q4, _⟩ := t0.ex
   exact ⟨ne, Nat.le_trans hk he, pk e he, oe, vs, q1, q4⟩
  ·rw [List.mem_singleton.mp hb]
   obtain ⟨ot, ts, q1, q2, _⟩ := t0.tb
   exact ⟨n0, Nat.le_trans hk s0, pk T0 s0, ot, ts, q1, q2⟩
end
end L2
namespace L2
open PySem PySem.Spec PyProof.Rows
def onW (X : Cx) (pins : List (Addr × Obj)) (hs : List ExceptHandler) (D : Ends) : Value -> Shared -> Prop := fun u s2 => wpAny (model X.prog X.w) X.A (setFlight u none) (fun _ s3 => wpAny (model X.prog X.w) X.A (handleBy u X.env hs) (SP X pins D) X.xe s3) X.xe s2
abbrev Cx.inTryW (X : Cx) (pins : List (Addr × Obj)) (hs : List ExceptHandler) (D : Ends) : Cx := { X with pn := X.pn ++ pins, xe := fun u s' => wpAny (model X.prog X.w) X.A (noteFrame u X.env) (fun _ s2 => onW X pins hs D u s2) X.xe s' }
section
variable {X : Cx} {tpos : Pos} {body : List Stmt} {tb : Ends -> TS} {h0 : ExceptHandler} {hs : List ExceptHandler} {Tk : Ends -> XK}
theorem Inv.toTryW {pins : List (Addr × Obj)} {σ : St} {H : Hp} {s : Shared} {D : Ends} (I : Inv X pins σ H s) : Inv (X.inTryW pins hs D) [] σ H s :=
 ⟨⟨I.ok.mod, I.ok.kind, I.ok.glob, I.ok.blt, I.ok.above, I.ok.inj, I.ok.has, I.ok.cab, I.ok.hd, I.ok.frames, I.ok.stk, I.ok.exf, I.ok.bs, I.ok.bsz, I.ok.noex, I.ok.exfs, I.ok.funs, I.ok.frf⟩, I.os, I.bare, I.base, I.loc, I.cell, I.free, I.freeC, fun q hq => I.pin q (by simpa using hq), I.hok, I.len⟩
theorem Inv.ofTryW {pins : List (Addr × Obj)} {σ : St} {H : Hp} {s : Shared} {D : Ends} (ok : X.Ok) (I : Inv (X.inTryW pins hs D) [] σ H s) : Inv X pins σ H s :=
 ⟨ok, I.os, I.bare, I.base, I.loc, I.cell, I.free, I.freeC, fun q hq => I.pin q (by simpa using hq), I.hok, I.len⟩
theorem Wn {pins : List (Addr × Obj)} {D : Ends} : PassesOwn (model (X.inTryW pins hs D).prog (X.inTryW pins hs D).w) (X.inTryW pins hs D).A (X.inTryW pins hs D).env (X.inTryW pins hs D).xe := PassesOwn.looking
theorem YL {pins : List (Addr × Obj)} {D : Ends} (R : HB X hs Tk) (ok : X.Ok) (hst : X.stack = X.env :: X.outer := by rfl) (hf : X.env.frame = some X.env.locals := by rfl) : yd (CXf X.prog X.w) (X.inTryW pins hs D) (Tk D) := fun pins' σ H1 s1 u s2 I h => by
 have I0 : Inv (X.plusP pins) pins' σ H1 s1 := ⟨⟨I.ok.mod, I.ok.kind, I.ok.glob, I.ok.blt, I.ok.above, I.ok.inj, I.ok.has, I.ok.cab, I.ok.hd, I.ok.frames, I.ok.stk, I.ok.exf, I.ok.bs, I.ok.bsz, I.ok.noex, I.ok.exfs, I.ok.funs, I.ok.frf⟩, I.os, I.bare, I.base, I.loc, I.cell, I.free, I.freeC, I.pin, I.hok, I.len⟩
 obtain ⟨e, C, dx, H', k, rfl, I5, ne, hk, he, hp, st, hE⟩ := Xt (X := X.plusP pins) rfl rfl I0 h
 have a : Air X (pins ++ pins') σ (Tk D) (.ref e) s2 := ⟨e, C, dx, H', k, rfl, I5.ofPlus ok, ne, hk, he, fun p q => hp p (by simpa using q), st, hE⟩
 have g := YK hst hf R a
 have sp : ∀ f s3, SP X (pins ++ pins') D f s3 -> SP X pins D f s3 := fun f s3 q => by
  cases f with
  | next => obtain ⟨σ', H5, I5, q⟩ := q; exact ⟨_, _, I5.few, q⟩
  | brk => obtain ⟨σ', H5, I5, q⟩ := q; exact ⟨_, _, I5.few, q⟩
  | cont => obtain ⟨σ', H5, I5, q⟩ := q; exact ⟨_, _, I5.few, q⟩
  | ret w => obtain ⟨v, σ', H5, I5, r, q⟩ := q; exact ⟨v, _, _, I5.few, r, q⟩
 exact wpAny_mono g (fun _ s2 q => wpAny_mono q (fun _ s3 q => wpAny_mono q sp fun _ _ z => z) fun _ _ z => z) fun _ _ z => z
def QO (tb : Ends -> TS) : TS := fun D σ H => tb D D σ H
theorem V1 (hb : ∀ pins D, X.Ok -> jSs (X.inTryW pins (h0 :: hs) D) body (tb D)) : jS X (.Try body (h0 :: hs) [] [] tpos) (QO tb) := by
 constructor
 intro pins s σ H D I h
 refine wpAny_Try_except (wpAny_mono ((hb pins D I.ok).out [] s σ H D I.toTryW h) (fun f s1 q => ?_) (fun u s1 q => q))
 cases f with
 | next =>
  obtain ⟨σ', H5, I5, q⟩ := q
  exact wpAny_execs_nil ⟨_, _, I5.ofTryW I.ok, q⟩
 | brk =>
  obtain ⟨σ', H5, I5, q⟩ := q
  exact ⟨_, _, I5.ofTryW I.ok, q⟩
 | cont =>
  obtain ⟨σ', H5, I5, q⟩ := q
  exact ⟨_, _, I5.ofTryW I.ok, q⟩
 | ret w =>
  obtain ⟨v, σ', H5, I5, r, q⟩ := q
  exact ⟨v, _, _, I5.ofTryW I.ok, r, q⟩
def Qf (tc : TT) (tb : Ends -> TS) : TS := fun D σ H => vm tc (tb D) D σ H
theorem Wo {c : Expr} {sts : List Stmt} {wpos : Pos} {tc : TT} (hc : ∀ pins D, X.Ok -> jT (X.inTryW pins (h0 :: hs) D) c tc) (hb : ∀ pins D, X.Ok -> jSs (X.inTryW pins (h0 :: hs) D) sts (tb D)) : jS X (.Try [.While c sts [] wpos] (h0 :: hs) [] [] tpos) (Qf tc tb) :=
 V1 (tb := fun D => vm tc (tb D)) fun pins D ok => zk (wm Wn (hc pins D ok) (hb pins D ok))
end
end L2
namespace PySem.W
open PySem PySem.Spec PySem.Calls PyProof.Rows
section
variable {prog : Program} {w : World} {A : Around} {E : Value -> Shared -> Prop} {s : Shared} {K : Frag} {e C : Addr} {ox : Obj} {od : Option Obj}
end
end PySem.W
namespace L2
open PySem PySem.Spec PyProof.Rows
inductive ClsV : V -> Value -> Prop where
 | ref (C : Addr) : ClsV (.ref C) (.ref C)
 | ty (T : String) : ClsV (.ty T) (.type T)
inductive ClsVs : List V -> List Value -> Prop where
 | nil : ClsVs [] []
 | cons {D : V} {c : Value} {Ds : List V} {cs : List Value} (h : ClsV D c) (t : ClsVs Ds cs) : ClsVs (D :: Ds) (c :: cs)
inductive Asked (K : PySem.W.Frag) (t : Value) (H : Hp) : V -> Bool -> Prop where
 | one {D : V} {c : Value} {b : Bool} (h : ClsV D c) (e : PySem.W.kitOne K t c = some b) : Asked K t H D b
 | tup {tp : Addr} {Ds : List V} {cs : List Value} {b : Bool} (ht : H tp = some (.tup Ds)) (h : ClsVs Ds cs) (e : PySem.W.kitAny K t cs = some b) : Asked K t H (.ref tp) b
section
variable {X : Cx} {e C d : Addr} {oe : Obj} {pins : List (Addr × Obj)} {s : Shared} {σ : St} {H : Hp} {od : Option Obj} {D : V} {b : Bool} {u : Value} {Q : VK}
end
section
variable {X : Cx} {k : Nat} {C f : Addr} {ps : List Str} {sp : Sp} {x name : Str} {np cpos pos : Pos} {a ex : Expr} {as : List Expr} {t : TA} {te : TE}
end
end L2
namespace GN
open PySem L2 K11
theorem nxt {D : Ends} {σ : St} {H : Hp} (h : D.nx σ H) : YX D σ H := h
theorem yC {b : Bool} {A B : Prop} (e : b = true) (h : A) : if b = true then A else B := by rw [if_pos e]; exact h
theorem zX {b : Bool} {A B : Prop} (e : b = false) (h : B) : if b = true then A else B := by rw [if_neg (by rw [e]; decide)]; exact h
def KX (S : List Addr) (H H' : Hp) : Prop := ∀ b o, b ∉ S -> H b = some o -> H' b = some o
section
variable {S S' : List Addr} {H H1 H2 : Hp} {a : Addr} {o : HO}
theorem KX.refl : KX S H H := fun _ _ _ h => h
theorem KX.trans (x : KX S H H1) (y : KX S H1 H2) : KX S H H2 := fun b o n h => y b o n (x b o n h)
theorem KX.mono (x : KX S H H1) (h : ∀ b ∈ S, b ∈ S') : KX S' H H1 := fun b o n q => x b o (fun z => n (h b z)) q
theorem KX.of (h : Same H H1) : KX S H H1 := fun b o _ q => h b o q
theorem KX.put (x : KX S H H1) (h : a ∈ S) : KX S H (upd H1 a o) := fun b u n q => by
 rw [zm (fun z => n (by rw [z]; exact h))]
 exact x b u n q
theorem KX.new (x : KX S H H1) (h : H1 a = none) : KX S H (upd H1 a o) := fun b u n q => by
 have := x b u n q
 rw [zm (zn this h)]
 exact this
end
inductive Dd
 | num (i : Int)
 | op (w a b : Str)
 | mk (t : Str) (ns : List Str)
def IsDd (H : Hp) : Dd -> Addr -> Prop
 | .num i, p => H p = some (.tup [.str "num", .int i])
 | .op w a b, p => H p = some (.tup [.str "op", .str w, .str a, .str b])
 | .mk t ns, p => ∃ q, H p = some (.tup [.str "make", .str t, .ref q]) /\ H q = some (.tup (ns.map V.str))
def IsBy (H : Hp) : List (Str × Dd) -> Str -> Addr -> Prop
 | [], x, p => H p = some (.tup [.str "give", .str x])
 | (n, d) :: r, x, p => ∃ pd pb, H p = some (.tup [.str "let", .str n, .ref pd, .ref pb]) /\ IsDd H d pd /\ IsBy H r x pb
abbrev En := List (Str × List V)
def valE (e : En) (n : Str) : Option (List V) := (e.find? fun p => decide (p.1 = n)).map (·.2)
def putE (e : En) (n : Str) (v : List V) : En := if (e.any fun p => decide (p.1 = n)) = true then e.map (fun p => if p.1 = n then (p.1, v) else p) else e ++ [(n, v)]
theorem y6 (n : Str) : ∀ e : En, (e.any fun p => decide (p.1 = n)) = (valE e n).isSome
 | [] => rfl
 | p :: r => by
  rw [List.any_cons]
  unfold valE
  rw [List.find?_cons]
  by_cases c : p.1 = n
  ·simp [c]
  ·rw [decide_eq_false c, Bool.false_or]
   exact y6 n r
theorem jF {e : En} {n m : Str} {v : List V} (h : m = n \/ (valE e m).isSome = true) : (valE (putE e n v) m).isSome = true := by
 rw [<- y6, List.any_eq_true]
 unfold putE
 by_cases a : (e.any fun p => decide (p.1 = n)) = true
 ·rw [if_pos a]
  have : (e.any fun p => decide (p.1 = m)) = true := by
   rcases h with rfl | h
   ·exact a
   ·rw [y6]; exact h
  obtain ⟨p, hp, hd⟩ := List.any_eq_true.mp this
  refine ⟨_, List.mem_map.mpr ⟨p, hp, rfl⟩, ?_⟩
  split
  ·exact hd
  ·exact hd
 ·rw [if_neg a]
  rcases h with rfl | h
  ·exact ⟨_, List.mem_append_right _ (List.mem_singleton.mpr rfl), by simp⟩
  ·rw [<- y6] at h
   obtain ⟨p, hp, hd⟩ := List.any_eq_true.mp h
   exact ⟨p, List.mem_append_left _ hp, hd⟩
inductive ER (R : V -> List V -> Prop) : List (Key × V) -> En -> Prop
 | nil : ER R [] []
 | cons {n : Str} {v : V} {f : List V} {kvs : List (Key × V)} {e : En} : R v f -> ER R kvs e -> ER R ((.inr n, v) :: kvs) ((n, f) :: e)
section
variable {R R' : V -> List V -> Prop} {kvs : List (Key × V)} {e : En} {n : Str} {v : V} {f : List V}
theorem ER.mono (h : ER R kvs e) (g : ∀ v f, R v f -> R' v f) : ER R' kvs e := by
 induction h with
 | nil => exact .nil
 | cons a _ ih => exact .cons (g _ _ a) ih
theorem ER.val (h : ER R kvs e) (g : valE e n = some f) : ∃ v, valV kvs (.inr n) = some v /\ R v f := by
 induction h with
 | nil => cases g
 | @cons m u w kvs e a _ ih =>
  unfold valE at g
  rw [List.find?_cons] at g
  by_cases c : m = n
  ·rw [decide_eq_true c] at g
   cases g
   exact ⟨u, zT (by rw [c]), a⟩
  ·rw [decide_eq_false c] at g
   obtain ⟨v, h1, h2⟩ := ih g
   exact ⟨v, by rw [ya (fun z => c (Sum.inr.inj z))]; exact h1, h2⟩
theorem ER.any (h : ER R kvs e) : (kvs.any fun kv => decide (kv.1 = (Sum.inr n : Key))) = (e.any fun p => decide (p.1 = n)) := by
 induction h with
 | nil => rfl
 | @cons m u w kvs e a _ ih =>
  rw [List.any_cons, List.any_cons, ih]
  congr 1
  by_cases c : m = n
  ·rw [decide_eq_true c, decide_eq_true (by rw [c])]
  ·rw [decide_eq_false c, decide_eq_false (fun z => c (Sum.inr.inj z))]
theorem ER.app {k2 : List (Key × V)} {e2 : En} (h : ER R kvs e) (g : ER R k2 e2) : ER R (kvs ++ k2) (e ++ e2) := by
 induction h with
 | nil => exact g
 | cons a _ ih => exact .cons a ih
theorem ER.mapput (h : ER R kvs e) (g : R v f) : ER R (kvs.map fun kv => if kv.1 = Sum.inr n then (kv.1, v) else kv) (e.map fun p => if p.1 = n then (p.1, f) else p) := by
 induction h with
 | nil => exact .nil
 | @cons m u w kvs e a _ ih =>
  rw [List.map_cons, List.map_cons]
  by_cases c : m = n
  ·rw [if_pos (by rw [c]), if_pos c]
   exact .cons g ih
  ·rw [if_neg (fun z => c (Sum.inr.inj z)), if_neg c]
   exact .cons a ih
theorem ER.put (h : ER R kvs e) (g : R v f) : ER R (putK kvs (.inr n) v) (putE e n f) := by
 unfold putK putE
 rw [h.any]
 split
 ·exact h.mapput g
 ·exact h.app (.cons g .nil)
end
def Vl (H : Hp) (v : V) (f : List V) : Prop := PtL H [v] f /\ ∀ i, v = .int i -> Sm i
def nf : List V -> Option Int
 | .int i :: _ => some i
 | _ => none
theorem Vl.nu {H : Hp} {v : V} {f : List V} (h : Vl H v f) : K31.Nu H v (nf f) := by
 obtain ⟨h1, h2⟩ := h
 cases h1 with
 | num _ => exact .int (h2 _ rfl)
 | shp a _ _ _ _ => exact .tup a
def OkD (ks : List Str) : Dd -> Prop
 | .num i => Sm i
 | .op _ a b => a ∈ ks /\ b ∈ ks
 | .mk _ ns => (∀ n ∈ ns, n ∈ ks) /\ ns.length <= 3
def OkB : List Str -> List (Str × Dd) -> Str -> Prop
 | ks, [], x => x ∈ ks
 | ks, (n, d) :: r, x => OkD ks d /\ OkB (ks ++ [n]) r x
def Bnd (ks : List Str) (e : En) : Prop := ∀ n ∈ ks, (valE e n).isSome = true
theorem Bnd.get {ks : List Str} {e : En} (h : Bnd ks e) {n : Str} (m : n ∈ ks) : ∃ f, valE e n = some f := Option.isSome_iff_exists.mp (h n m)
theorem Bnd.put {ks : List Str} {e : En} (h : Bnd ks e) {n : Str} {f : List V} : Bnd (ks ++ [n]) (putE e n f) := fun m hm => by
 rcases List.mem_append.mp hm with hm | hm
 ·exact jF (.inr (h m hm))
 ·exact jF (.inl (List.mem_singleton.mp hm))
end GN
namespace GN
open PySem L2 K11
structure Rn (K : PySem.W.Frag) (cR : Addr) : Prop where
 cl : Cls K cR
 a1 : NoAttr K cR "defs"
 a2 : NoAttr K cR "steps"
 a3 : NoAttr K cR "done"
 a4 : NoAttr K cR "waiting"
 a5 : NoAttr K cR "body"
 a6 : NoAttr K cR "names"
 a7 : NoAttr K cR "end"
abbrev RF (d : Addr) (st : Int) (wl : Addr) (b : V) (nd : Addr) (e : V) : List (Str × V) := [("defs", .ref d), ("steps", .int st), ("done", .int 0), ("waiting", .ref wl), ("body", b), ("names", .ref nd), ("end", e)]
def RO (cR dx d : Addr) (st : Int) (wl : Addr) (b : V) (nd : Addr) (e : V) : HO := .ins cR dx (RF d st wl b nd e)
def ErrW (C : Addr) (E : XK) (H : Hp) (w : Str) : Prop := ∀ dd H', Same H H' -> H' dd = some (XD dd [("word", .str w)]) -> E (.ref C) (some dd) H'
theorem ErrW.at {C : Addr} {E : XK} {H H1 : Hp} {w : Str} (h : ErrW C E H w) (s : Same H H1) : ErrW C E H1 w := fun dd H' s' e => h dd H' (s.trans s') e
def vals (kvs : List (Key × V)) (ns : List Str) : List V := ns.map fun n => (valV kvs (.inr n)).getD .non
section
variable {P : Program} {w : World} {K : PySem.W.Frag} {mg : Str -> Option Value} {base : Heap} {f R C cR : Addr} {fd : FuncData}
end
end GN
namespace GN
open PySem L2 K11
theorem KX.tups {S : List Addr} {H H' : Hp} (k : KX S H H') (h : ∀ a ∈ S, ∀ xs, H a ≠ some (.tup xs)) : Tups H H' := fun p xs q => k p _ (fun z => h p z xs q) q
def Wp (cR T : Addr) : Sp := fun vs H Q _ => ∃ (r dx d wl nd : Addr) (st : Int) (b v : V) (f : List V), vs = [.ref r, v] /\ H r = some (RO cR dx d st wl b nd .non) /\ H wl = some (.lst []) /\ Tb T H /\ Vl H v f /\
 ∀ H' tp l, KX [r, T] H H' -> Tb T H' -> H' r = some (RO cR dx d st wl b nd (.ref tp)) -> H' tp = some (.tup [.str "told", .ref l]) -> H' l = some (.lst (f.take 100)) -> H l = none -> Q .non H'
theorem Wq (kvs : List (Key × V)) (k : Key) (v : V) : (putK kvs k v).length <= kvs.length + 1 := by
 unfold putK
 split
 ·rw [List.length_map]; omega
 ·rw [List.length_append]; exact Nat.le_refl _
section
variable {P : Program} {w : World} {K : PySem.W.Frag} {mg : Str -> Option Value} {base : Heap} {f R C cR T : Addr} {fd : FuncData}
theorem Qg : FnScope ["self", "value", "last"] ["self", "value"] (zo XS) := ⟨rfl, rfl, rfl, by decide +kernel, rfl, by decide +kernel, by decide +kernel⟩
theorem V2 (F : Fun K "give" "Run.give" XS f fd) (N : Rn K cR) (GP : CaD P w K mg base CX0 3 "parts_of" ["value", "most"] [.int 100] (ZZ T)) (m_len : mg "len" = none) : FnOk P w K mg base CX0 4 f fd ["self", "value"] (Wp cR T) := by
 refine F.by Qg (fun vs H Q E h => ?_) (fun cdv A outer s H vs Q E hr h => ?_)
 ·obtain ⟨r, dx, d, wl, nd, st, b, v, ff, rfl, _⟩ := h
  rfl
 obtain ⟨r, dx, d, wl, nd, st, b, v, ff, rfl, hR, hW, hT, hv, q⟩ := h
 refine ⟨_,
  (zk (zM (zw zY (zI zC rfl m_len PySem.boot_len (ja_c (yU (jv 0)) zh)) zi (zy _))
   (zk (yz (jv 0) (zO (ja_c zL (ja_c (qW GP hr rfl zx (ja_c (jv 1) zh)) zh)))))
   (zj yy (zj yy (zj yy (zk yy)))))), ?_⟩
 have sl := z6
 refine ⟨_, rfl, r, cR, dx, _, _, rfl, hR, N.cl, N.a4, rfl, wl, _, rfl, .inl (SqL.of hW), rfl, _, rfl, yC rfl ?_⟩
 obtain ⟨ps0, hTt⟩ := hT.tbl
 have nTr : r ≠ T := fun z => by
  rw [z, hTt] at hR
  cases hR
 refine ⟨_, rfl, v, 100, ff, rfl, by decide, hT, hv.1, fun H1 l k1 T1 hl0 hl => ⟨by show 2 <= sizeLine; decide, fun tp htp => ?_⟩⟩
 have hR1 := k1 _ _ nTr hR
 have nrl : r ≠ tp := zn hR1 htp
 refine ⟨_, rfl, r, cR, dx, _, rfl, by rw [zm nrl]; exact hR1, N.cl, N.a7, by show 7 < 1000; decide, ?_⟩
 have n2 := zp htp (.tup [.str "told", .ref l])
 have nlr : l ≠ r := fun z => by
  rw [z, hR] at hl0
  cases hl0
 refine q _ tp l ?_ ?_ zg (by rw [zm nrl.symm]; exact zg) (by rw [zm nlr]; exact n2 _ _ hl) hl0
 ·have : KX [r, T] H H1 := fun a o na ha => k1 a o (fun z => na (by simp [z])) ha
  exact (this.new htp).put (by simp)
 ·obtain ⟨ps, e1, e2⟩ := T1.same n2
  refine ⟨ps, by rw [zm nTr.symm]; exact e1, ?_⟩
  rcases e2 with e2 | ⟨c, e2, e3⟩
  ·exact .inl e2
  ·exact .inr ⟨c, e2, by rw [zm (ye e3 (n2 _ _ hR1) (by unfold CodO RO; intro z; cases z))]; exact e3⟩
theorem scGo : FnScope ["self", "body"] ["self"] (zo sGo) := ⟨rfl, rfl, rfl, by decide +kernel, rfl, by decide +kernel, by decide +kernel⟩
end
end GN
namespace L2
open PySem
theorem FnOk.dn {P : Program} {w : World} {K : PySem.W.Frag} {mg : Str -> Option Value} {base : Heap} {k : Nat} {f : Addr} {fd : FuncData} {ps : List Str} {sp sp' : Sp} (F : FnOk P w K mg base (CXf P w) k f fd ps sp) (h : ∀ vs H Q E, sp' vs H Q E -> sp vs H Q E0) : FnOk P w K mg base CX0 k f fd ps sp' :=
 ⟨fun vs H Q E q => F.len _ _ _ _ (h vs H Q E q), fun A outer s H args us vs Q E hr he hb hv hs => codeAny_mono (F.run A outer s H args us vs Q E0 hr he hb hv (h vs H Q E hs)) fun r s' q => by
  cases r with
  | error e =>
   obtain ⟨_, _, _, _, _, _, _, _, _, _, _, _, _, z⟩ := q
   exact z.elim
  | ok fl =>
   cases fl with
   | ret u => exact q
   | _ => exact q⟩
theorem Ca.dn {P : Program} {w : World} {K : PySem.W.Frag} {mg : Str -> Option Value} {base : Heap} {k : Nat} {x : Str} {ps : List Str} {sp sp' : Sp} (F : Ca P w K mg base (CXf P w) k x ps sp) (h : ∀ vs H Q E, sp' vs H Q E -> sp vs H Q E0) : Ca P w K mg base CX0 k x ps sp' := let ⟨f, fd, a, r⟩ := F.ex; ⟨f, fd, a.dn h, r⟩
end L2
namespace GN
open PySem L2 K11
def Z9 (cR : Addr) : Sp := fun vs H Q _ => ∃ (b dx d : Addr) (st : Int), vs = [.ref b, .ref d, .int st] /\ H b = some (.ins cR dx []) /\ ∀ H' wl nd, KX [b] H H' -> H wl = none -> H nd = none -> H' b = some (RO cR dx d st wl .non nd .non) -> H' wl = some (.lst []) -> H' nd = some (.dK []) -> Q .non H'
def Ya (cR : Addr) : Sp := fun vs H Q _ => ∃ (r dx d wl nd vl one pp pb : Addr) (st : Int) (b : V) (n : Str) (kvs : List (Key × V)) (ps : List Str) (us : List V), vs = [.ref r, .str n, .ref vl] /\ H r = some (RO cR dx d st wl b nd .non) /\ H d = some (.dK kvs) /\ valV kvs (.inr n) = some (.ref one) /\ H one = some (.tup [.str n, .ref pp, .ref pb]) /\ H pp = some (.tup (ps.map V.str)) /\ ps.Nodup /\ H vl = some (.lst us) /\ ps.length = us.length /\
 ∀ H' nd', KX [r] H H' -> H nd' = none -> H' r = some (RO cR dx d st wl (.ref pb) nd' .non) -> H' nd' = some (.dK (zkv ps us)) -> Q .non H'
def spBy : Sp := fun vs H Q _ => ∃ (pd one : Addr) (n : Str) (rest : List V), vs = [.ref pd] /\ H pd = some (.tup [.ref one]) /\ H one = some (.tup (.str n :: rest)) /\ ∀ H' d, Same H H' -> H d = none -> H' d = some (.dK [(.inr n, .ref one)]) -> Q (.ref d) H'
def Grw (ks : List (List (Str × Nat))) (xs : List V) : Prop := xs.length <= 300 /\ (∀ x ∈ xs, At x) /\ hgt (puts ks.flatten []) xs = some 1
def Args (H : Hp) (ks : List (List (Str × Nat))) (al : Addr) (as : List Addr) (xss : List (List V)) : Prop := H al = some (.lst (as.map V.ref)) /\ as.length = xss.length /\ ∀ (j : Nat) a xs, as[j]? = some a -> xss[j]? = some xs -> H a = some (.lst xs) /\ Grw ks xs
theorem Args.same {H H' : Hp} {ks : List (List (Str × Nat))} {al : Addr} {as : List Addr} {xss : List (List V)} (h : Args H ks al as xss) (s : Same H H') : Args H' ks al as xss := ⟨s _ _ h.1, h.2.1, fun j a xs h1 h2 => ⟨s _ _ (h.2.2 j a xs h1 h2).1, (h.2.2 j a xs h1 h2).2⟩⟩
section
variable {P : Program} {w : World} {K : PySem.W.Frag} {mg : Str -> Option Value} {base : Heap} {f R C cR T : Addr} {fd : FuncData}
theorem V3 : FnScope ["self", "defs", "steps"] ["self", "defs", "steps"] (zo Zk) := ⟨rfl, rfl, rfl, by decide +kernel, rfl, by decide +kernel, by decide +kernel⟩
theorem Wr (F : Fun K "__init__" "Run.__init__" Zk f fd) (N : Rn K cR) : FnOk P w K mg base CX0 1 f fd ["self", "defs", "steps"] (Z9 cR) := by
 refine F.by V3 (fun vs H Q E h => ?_) (fun cdv A outer s H vs Q E hr h => ?_)
 ·obtain ⟨b, dx, d, st, rfl, _⟩ := h
  rfl
 obtain ⟨b, dx, d, st, rfl, hb, q⟩ := h
 refine ⟨_,
  (zj (yz (jv 0) (jv 1))
  (zj (yz (jv 0) (jv 2))
  (zj (yz (jv 0) zi)
  (zj (yz (jv 0) (zV zh))
  (zj (yz (jv 0) Xn)
  (zj (yz (jv 0) xB)
  (zk (yz (jv 0) Xn)))))))), ?_⟩
 have sl := z6
 refine ⟨_, rfl, _, rfl, b, cR, dx, _, rfl, hb, N.cl, N.a1, by show 0 < 1000; decide, ?_⟩
 refine ⟨_, rfl, _, rfl, b, cR, dx, _, rfl, zg, N.cl, N.a2, by show 1 < 1000; decide, ?_⟩
 refine ⟨_, rfl, b, cR, dx, _, rfl, zg, N.cl, N.a3, by show 2 < 1000; decide, ?_⟩
 have k1 : KX [b] H (upd (upd (upd H b (.ins cR dx (putF "defs" (.ref d) []))) b (.ins cR dx (putF "steps" (.int st) (putF "defs" (.ref d) [])))) b (.ins cR dx (putF "done" (.int 0) (putF "steps" (.int st) (putF "defs" (.ref d) []))))) := ((KX.refl.put (by simp)).put (by simp)).put (by simp)
 have b1 := zg (H := upd (upd H b (.ins cR dx (putF "defs" (.ref d) []))) b (.ins cR dx (putF "steps" (.int st) (putF "defs" (.ref d) [])))) (a := b) (o := .ins cR dx (putF "done" (.int 0) (putF "steps" (.int st) (putF "defs" (.ref d) []))))
 generalize upd (upd (upd H b (.ins cR dx (putF "defs" (.ref d) []))) b (.ins cR dx (putF "steps" (.int st) (putF "defs" (.ref d) [])))) b (.ins cR dx (putF "done" (.int 0) (putF "steps" (.int st) (putF "defs" (.ref d) [])))) = H1 at *
 have fr : ∀ {H2 : Hp} {z : Addr}, KX [b] H H2 -> H2 b ≠ none -> H2 z = none -> H z = none /\ z ≠ b := fun {H2 z} k n e => by
  have nz : z ≠ b := fun c => n (by rw [<- c]; exact e)
  refine ⟨?_, nz⟩
  cases c : H z with
  | none => rfl
  | some o =>
   have := k z o (by simp [nz]) c
   rw [e] at this
   cases this
 refine ⟨by show 0 <= sizeLine; decide, fun wl hwl => ?_⟩
 obtain ⟨fw, nwb⟩ := fr k1 (by rw [b1]; intro z; cases z) hwl
 refine ⟨_, rfl, b, cR, dx, _, rfl, by rw [zm nwb.symm]; exact b1, N.cl, N.a4, by show 3 < 1000; decide, ?_⟩
 refine ⟨_, rfl, b, cR, dx, _, rfl, zg, N.cl, N.a5, by show 4 < 1000; decide, ?_⟩
 obtain ⟨fs2, efs2⟩ : ∃ fs, fs = putF "body" V.non (putF "waiting" (.ref wl) (putF "done" (.int 0) (putF "steps" (.int st) (putF "defs" (.ref d) [])))) := ⟨_, rfl⟩
 rw [<- efs2]
 have k2 : KX [b] H (upd (upd (upd H1 wl (.lst [])) b (.ins cR dx (putF "waiting" (.ref wl) (putF "done" (.int 0) (putF "steps" (.int st) (putF "defs" (.ref d) [])))))) b (.ins cR dx fs2)) := ((k1.new hwl).put (by simp)).put (by simp)
 have b2 := zg (H := upd (upd H1 wl (.lst [])) b (.ins cR dx (putF "waiting" (.ref wl) (putF "done" (.int 0) (putF "steps" (.int st) (putF "defs" (.ref d) [])))))) (a := b) (o := .ins cR dx fs2)
 have w2 : upd (upd (upd H1 wl (.lst [])) b (.ins cR dx (putF "waiting" (.ref wl) (putF "done" (.int 0) (putF "steps" (.int st) (putF "defs" (.ref d) [])))))) b (.ins cR dx fs2) wl = some (.lst []) := by
  rw [zm nwb, zm nwb]
  exact zg
 generalize upd (upd (upd H1 wl (.lst [])) b (.ins cR dx (putF "waiting" (.ref wl) (putF "done" (.int 0) (putF "steps" (.int st) (putF "defs" (.ref d) [])))))) b (.ins cR dx fs2) = H2 at *
 intro nd hnd
 obtain ⟨fn, nnb⟩ := fr k2 (by rw [b2]; intro z; cases z) hnd
 refine ⟨_, rfl, b, cR, dx, _, rfl, by rw [zm nnb.symm]; exact b2, N.cl, N.a6, by rw [efs2]; show 5 < 1000; decide, ?_⟩
 refine ⟨_, rfl, b, cR, dx, _, rfl, zg, N.cl, N.a7, by rw [efs2]; show 6 < 1000; decide, ?_⟩
 have nwn : wl ≠ nd := zn w2 hnd
 refine q _ wl nd (((k2.new hnd).put (by simp)).put (by simp)) fw fn ?_ ?_ ?_
 ·rw [zg, efs2]
  rfl
 ·rw [zm nwb, zm nwb, zm nwn]
  exact w2
 ·rw [zm nnb, zm nnb]
  exact zg
theorem scBegin : FnScope ["self", "name", "values", "one"] ["self", "name", "values"] (zo Zl) := ⟨rfl, rfl, rfl, by decide +kernel, rfl, by decide +kernel, by decide +kernel⟩
theorem Ws (F : Fun K "begin_def" "Run.begin_def" Zl f fd) (N : Rn K cR) (m_dict : mg "dict" = none) (m_zip : mg "zip" = none) : FnOk P w K mg base CX0 1 f fd ["self", "name", "values"] (Ya cR) := by
 refine F.by scBegin (fun vs H Q E h => ?_) (fun cdv A outer s H vs Q E hr h => ?_)
 ·obtain ⟨r, dx, d, wl, nd, vl, one, pp, pb, st, b, n, kvs, ps, us, rfl, _⟩ := h
  rfl
 obtain ⟨r, dx, d, wl, nd, vl, one, pp, pb, st, b, n, kvs, ps, us, rfl, hR, hd, hv, h1, hp, hn, hl, ll, q⟩ := h
 refine ⟨_,
  (zj (zu (i := 3) scBegin.nd rfl (Or.inl rfl) (yD hr (yU (jv 0)) (jv 1)))
  (zj (yz (jv 0) (zt zA (jv 3) zi (fun _ _ => rfl)))
  (zk (yz (jv 0) (xE rfl rfl m_dict rfl m_zip (ja_c (zt zA (jv 3) zi (fun _ _ => rfl)) (ja_c (jv 2) zh))))))), ?_⟩
 have sl := z6
 refine ⟨_, rfl, r, cR, dx, _, _, rfl, hR, N.cl, N.a1, rfl, _, rfl, d, .ref one, rfl, by rw [<- hv]; exact DGet.k (k := .inr n) hd, ?_⟩
 refine ⟨_, rfl, one, _, _, _, rfl, rfl, SqT.of h1, zq (j := 2) rfl, _, rfl, r, cR, dx, _, rfl, hR, N.cl, N.a5, by show 7 < 1000; decide, ?_⟩
 have k1 : KX [r] H (upd H r (.ins cR dx (putF "body" (.ref pb) (RF d st wl b nd .non)))) := KX.refl.put (by simp)
 have r1 : upd H r (.ins cR dx (putF "body" (.ref pb) (RF d st wl b nd .non))) r = some (RO cR dx d st wl (.ref pb) nd .non) := zg
 generalize upd H r (.ins cR dx (putF "body" (.ref pb) (RF d st wl b nd .non))) = H1 at *
 have ne1 : ∀ {z : Addr} {o : HO}, H z = some o -> (∀ C dx fs, o ≠ .ins C dx fs) -> z ∉ [r] := fun {z o} e n c => by
  rw [List.mem_singleton.mp c, hR] at e
  cases e
  exact n _ _ _ rfl
 have h11 := k1 _ _ (ne1 h1 (by intro _ _ _ z; cases z)) h1
 have hp1 := k1 _ _ (ne1 hp (by intro _ _ _ z; cases z)) hp
 have hl1 := k1 _ _ (ne1 hl (by intro _ _ _ z; cases z)) hl
 refine ⟨_, rfl, one, _, _, _, rfl, rfl, SqT.of h11, zq (j := 1) rfl, _, rfl, pp, vl, ps, us, rfl, .inr (SqT.of hp1), .inl (SqL.of hl1), ll, hn, fun nd' hnd' => ?_⟩
 have nnr : nd' ≠ r := fun z => by
  rw [z, r1] at hnd'
  cases hnd'
 have fn : H nd' = none := by
  cases c : H nd' with
  | none => rfl
  | some o =>
   have := k1 nd' o (by simp [nnr]) c
   rw [hnd'] at this
   cases this
 refine ⟨_, rfl, r, cR, dx, _, rfl, by rw [zm nnr.symm]; exact r1, N.cl, N.a6, by show 7 < 1000; decide, ?_⟩
 exact q _ nd' ((k1.new hnd').put (by simp)) fn zg (by rw [zm nnr]; exact zg)
theorem scBy : FnScope ["defs", "found", "one"] ["defs"] (zo sBy) := ⟨rfl, rfl, rfl, by decide +kernel, rfl, by decide +kernel, by decide +kernel⟩
theorem QP (F : Fun K "by_name" "by_name" sBy f fd) : FnOk P w K mg base CX0 1 f fd ["defs"] spBy := by
 refine F.by scBy (fun vs H Q E h => ?_) (fun cdv A outer s H vs Q E hr h => ?_)
 ·obtain ⟨pd, one, n, rest, rfl, _⟩ := h
  rfl
 obtain ⟨pd, one, n, rest, rfl, hp, h1, q⟩ := h
 refine ⟨_,
  (zj (zu (i := 1) scBy.nd rfl (Or.inl rfl) xB)
  (zj (yp PassesOwn.never rfl (xr (jv 0)) (zr (i := 2) scBy.nd rfl (Or.inl rfl))
   (zk (x9 hr (jv 1) (zt zA (jv 2) zi (fun _ _ => rfl)) (jv 2))))
  (zk (zF (jv 1))))), ?_⟩
 have sl := z6
 intro d hd
 have s1 := zp hd (.dK [])
 refine ⟨_, rfl, _, rfl, ⟨_, SqT.of (s1 _ _ hp)⟩, x5 (xs := [V.ref one]) (fun i σ H' => Same H H' /\ H' d = some (.dK (if i = 0 then [] else [(.inr n, .ref one)])) /\ ∃ x, σ = [some (.ref pd), some (.ref d), x]) ⟨s1, zg, none, rfl⟩ (fun i σ H' _ h => SqT.of (h.1 _ _ hp)) ?_ ?_⟩
 ·rintro i v σ H1 hv ⟨s2, hd2, x, rfl⟩
  match i, hv with
  | 0, hv =>
   cases hv
   refine ⟨_, rfl, _, rfl, _, rfl, one, _, _, _, rfl, rfl, SqT.of (s2 _ _ h1), zq (j := 0) rfl, d, _, rfl, DPut.k (k := .inr n) hd2 (by show 0 < sizeLine; omega), s2.put hd, zg, _, rfl⟩
  | i + 1, hv => simp at hv
 ·rintro σ H1 ⟨s2, hd2, x, rfl⟩
  exact ⟨_, rfl, q _ d s2 hd hd2⟩
theorem V4 : FnScope ["kinds", "defs", "name", "args"] ["kinds", "defs", "name", "args"] (zo Zi) := ⟨rfl, rfl, rfl, by decide +kernel, rfl, by decide +kernel, by decide +kernel⟩
theorem V5 : (["kinds", "defs", "name", "args", "parts"] : List Str).Nodup := by decide +kernel
end
end GN
namespace GN
open PySem L2 K11
structure Ft (K : PySem.W.Frag) (mg : Str -> Option Value) (C : Addr) : Prop where
 m : mg "Fault" = some (.ref C)
 cl : ∃ f, XCl K C f
 fn : PySem.W.findIn K (.ref C) "word" = some none
 hd : PySem.W.hasDictIn K C = true
 ex : PySem.W.exmOne K (.ref C) (.ref C) = some true
def Ans (H : Hp) (p : Addr) : List V ⊕ Str -> Prop
 | .inl f => ∃ l, H p = some (.tup [.str "told", .ref l]) /\ H l = some (.lst (f.take 100))
 | .inr w => H p = some (.tup [.str "fault", .str w])
theorem vP : ∀ {ps : List Str} {xss : List (List V)}, ps.length = xss.length -> Bnd ps (ps.zip xss)
 | ps, xss, h, n, hn => by
  rw [<- y6, List.any_eq_true]
  obtain ⟨i, hi⟩ := List.getElem?_of_mem hn
  have hl := (List.getElem?_eq_some_iff.mp hi).1
  refine ⟨(n, xss[i]'(by omega)), List.mem_of_getElem? (i := i) ?_, by simp⟩
  rw [List.getElem?_zip_eq_some]
  exact ⟨hi, List.getElem?_eq_getElem _⟩
theorem KT.kx {T : Addr} {S : List Addr} {H H1 H2 : Hp} (a : KT T H H1) (b : KX S H1 H2) (h : ∀ z ∈ S, z = T \/ H z = none) : KT T H H2 := fun c u n q => b c u (fun z => by
 rcases h c z with e | e
 ·exact n e
 ·rw [e] at q; cases q) (a c u n q)
theorem Tb.kx {T : Addr} {S : List Addr} {H H' : Hp} (h : Tb T H) (k : KX S H H') (n : ∀ z ∈ S, (∃ C dx fs, H z = some (.ins C dx fs)) \/ ∃ kvs, H z = some (.dK kvs)) : Tb T H' := by
 obtain ⟨ps, e, h⟩ := h
 refine ⟨ps, k _ _ (fun z => ?_) e, ?_⟩
 ·rcases n T z with ⟨C, dx, fs, h'⟩ | ⟨kvs, h'⟩
  ·rw [e] at h'; cases h'
  ·rw [e] at h'; cases h'
 ·rcases h with h | ⟨c, h, g⟩
  ·exact .inl h
  ·refine .inr ⟨c, h, k _ _ (fun z => ?_) g⟩
   rcases n c z with ⟨C, dx, fs, h'⟩ | ⟨kvs, h'⟩
   ·rw [g] at h'; unfold CodO at h'; cases h'
   ·rw [g] at h'; unfold CodO at h'; cases h'
section
variable {P : Program} {w : World} {K : PySem.W.Frag} {mg : Str -> Option Value} {base : Heap} {f R C cR T : Addr} {fd : FuncData}
theorem scRun : FnScope ["program", "name", "args", "steps", "defs", "values", "running", "fault"] ["program", "name", "args", "steps"] (zo sRun) := ⟨rfl, rfl, rfl, by decide +kernel, rfl, by decide +kernel, by decide +kernel⟩
end
end GN
namespace GN
open PySem L2 K11
mutual
inductive Bd
 | give (x : Str)
 | iff (x : Str) (b c : Bd)
 | cs (x : Str) (as : Arms)
inductive Arms
 | nil
 | cons (t : Str) (ns : List Str) (b : Bd) (r : Arms)
end
mutual
def Bd.sz : Bd -> Nat
 | .give _ => 1
 | .iff _ b c => b.sz + c.sz + 1
 | .cs _ as => as.sz + 1
def Arms.sz : Arms -> Nat
 | .nil => 0
 | .cons _ ns b r => ns.length + b.sz + r.sz + 1
end
mutual
def IsBd (H : Hp) : Bd -> Addr -> Prop
 | .give x, p => H p = some (.tup [.str "give", .str x])
 | .iff x b c, p => ∃ q r, H p = some (.tup [.str "if", .str x, .ref q, .ref r]) /\ IsBd H b q /\ IsBd H c r
 | .cs x as, p => ∃ q ts, H p = some (.tup [.str "case", .str x, .ref q]) /\ H q = some (.tup (ts.map V.ref)) /\ IsArms H as ts
def IsArms (H : Hp) : Arms -> List Addr -> Prop
 | .nil, ts => ts = []
 | .cons t ns b r, ts => ∃ p q s ts', ts = p :: ts' /\ H p = some (.tup [.str t, .ref q, .ref s]) /\ H q = some (.tup (ns.map V.str)) /\ IsBd H b s /\ IsArms H r ts'
end
mutual
theorem IsBd.keep {H H' : Hp} (t : Tups H H') : ∀ {b : Bd} {p : Addr}, IsBd H b p -> IsBd H' b p
 | .give x, p, h => t _ _ h
 | .iff x b c, p, h => let ⟨q, r, a, e, f⟩ := h; ⟨q, r, t _ _ a, IsBd.keep t e, IsBd.keep t f⟩
 | .cs x as, p, h => let ⟨q, ts, a, e, f⟩ := h; ⟨q, ts, t _ _ a, t _ _ e, IsArms.keep t f⟩
theorem IsArms.keep {H H' : Hp} (t : Tups H H') : ∀ {as : Arms} {ts : List Addr}, IsArms H as ts -> IsArms H' as ts
 | .nil, ts, h => h
 | .cons g ns b r, ts, h => let ⟨p, q, s, ts', e, a1, a2, a3, a4⟩ := h; ⟨p, q, s, ts', e, t _ _ a1, t _ _ a2, IsBd.keep t a3, IsArms.keep t a4⟩
end
def Arms.hs : Arms -> List (Str × List Str × Bd)
 | .nil => []
 | .cons t ns b r => (t, ns, b) :: r.hs
theorem Arms.hs_sz : ∀ {as : Arms} {a : Str × List Str × Bd}, a ∈ as.hs -> a.2.2.sz + a.2.1.length < as.sz
 | .nil, _, h => by cases h
 | .cons t ns b r, a, h => by
  rcases List.mem_cons.mp h with rfl | h
  ·show b.sz + ns.length < ns.length + b.sz + r.sz + 1; omega
  ·have := Arms.hs_sz h
   show _ < ns.length + b.sz + r.sz + 1
   omega
theorem IsArms.get {H : Hp} : ∀ {as : Arms} {ts : List Addr}, IsArms H as ts -> ts.length = as.hs.length /\ ∀ (i : Nat) (p : Addr) (a : Str × List Str × Bd), ts[i]? = some p -> as.hs[i]? = some a -> ∃ q s, H p = some (.tup [.str a.1, .ref q, .ref s]) /\ H q = some (.tup (a.2.1.map V.str)) /\ IsBd H a.2.2 s
 | .nil, ts, h => by
  have h' : ts = [] := h
  subst h'
  exact ⟨rfl, fun i p a e => by simp at e⟩
 | .cons t ns b r, ts, h => by
  obtain ⟨p', q, s, ts', rfl, a1, a2, a3, a4⟩ := h
  obtain ⟨l, g⟩ := IsArms.get a4
  refine ⟨by show ts'.length + 1 = r.hs.length + 1; omega, fun i p a e1 e2 => ?_⟩
  match i, e1, e2 with
  | 0, e1, e2 => cases e1; cases e2; exact ⟨q, s, a1, a2, a3⟩
  | i + 1, e1, e2 => exact g i p a (by simpa using e1) (by rw [Arms.hs, List.getElem?_cons_succ] at e2; exact e2)
def pcs (kvs : Kvs) : Nat -> List V -> List V -> List (List V)
 | _, [], acc => if acc = [] then [] else [acc]
 | lack, x :: xs, acc =>
  if lack - 1 + (dl kvs x).getD 0 = 0 then (acc ++ [x]) :: pcs kvs 1 xs [] else pcs kvs (lack - 1 + (dl kvs x).getD 0) xs (acc ++ [x])
theorem V6 (kvs : Kvs) (n : Nat) (acc : List V) : pcs kvs n [] acc = if acc = [] then [] else [acc] := rfl
theorem xF (kvs : Kvs) (n : Nat) (x : V) (xs acc : List V) : pcs kvs n (x :: xs) acc = if n - 1 + (dl kvs x).getD 0 = 0 then (acc ++ [x]) :: pcs kvs 1 xs [] else pcs kvs (n - 1 + (dl kvs x).getD 0) xs (acc ++ [x]) := rfl
theorem Qh {kvs : Kvs} {H : Hp} {xs : List V} (h : Pz kvs H [] xs) : xs = [] := by cases h; rfl
theorem Wt {kvs : Kvs} {H : Hp} {us xs : List V} (h : Pz kvs H us xs) : ∀ (n : Nat) (ys acc : List V), 0 < us.length -> us.length <= n -> pcs kvs n (xs ++ ys) acc = if us.length = n then (acc ++ xs) :: pcs kvs 1 ys [] else pcs kvs (n - us.length) ys (acc ++ xs) := by
 induction h with
 | nil => intro n ys acc h; exact absurd h (by decide)
 | @num i vs xs hi hv ih =>
  intro n ys acc _ hn
  have hn : vs.length + 1 <= n := hn
  rw [List.cons_append, xF]
  have d0 : (dl kvs (.int i)).getD 0 = 0 := by
   have : dl kvs (.int i) = some 0 := if_pos hi
   rw [this]; rfl
  rw [d0]
  show _ = if vs.length + 1 = n then _ else _
  by_cases c : vs = []
  ·subst c
   cases hv
   by_cases c1 : n = 1
   ·rw [if_pos (by omega), if_pos (by show 0 + 1 = n; omega)]
    rfl
   ·rw [if_neg (by omega), if_neg (by show ¬ 0 + 1 = n; omega)]
    rfl
  ·have lv : 0 < vs.length := by cases vs with | nil => exact absurd rfl c | cons _ _ => exact Nat.succ_pos _
   rw [if_neg (by omega), ih (n - 1 + 0) ys _ lv (by omega), List.append_assoc]
   by_cases c1 : vs.length + 1 = n
   ·rw [if_pos (by omega), if_pos c1]; rfl
   ·rw [if_neg (by omega), if_neg c1, show n - 1 + 0 - vs.length = n - (vs.length + 1) by omega]; rfl
 | @shp p q t us vs xs zs h1 h2 hs h9 g1 g2 ih1 ih2 =>
  intro n ys acc _ hn
  have hn : vs.length + 1 <= n := hn
  rw [List.cons_append, xF]
  have d0 : (dl kvs (.str t)).getD 0 = us.length := by
   have : dl kvs (.str t) = some us.length := hs
   rw [this]; rfl
  rw [d0]
  show _ = if vs.length + 1 = n then _ else _
  have tail : ∀ acc' : List V, n ≠ 1 -> pcs kvs (n - 1) (zs ++ ys) acc' = if vs.length + 1 = n then (acc' ++ zs) :: pcs kvs 1 ys [] else pcs kvs (n - (vs.length + 1)) ys (acc' ++ zs) := fun acc' c1 => by
   by_cases c : vs = []
   ·subst c
    cases g2
    rw [if_neg (by show ¬ 0 + 1 = n; omega), List.append_nil]
    rfl
   ·have lv : 0 < vs.length := by cases vs with | nil => exact absurd rfl c | cons _ _ => exact Nat.succ_pos _
    rw [ih2 (n - 1) ys _ lv (by omega)]
    by_cases c2 : vs.length + 1 = n
    ·rw [if_pos (by omega), if_pos c2]
    ·rw [if_neg (by omega), if_neg c2, show n - 1 - vs.length = n - (vs.length + 1) by omega]
  by_cases cu : us = []
  ·subst cu
   cases g1
   by_cases c1 : n = 1
   ·have : vs = [] := by cases vs with | nil => rfl | cons _ _ => simp at hn; omega
    subst this
    cases g2
    rw [if_pos (by show n - 1 + 0 = 0; omega), if_pos (by show 0 + 1 = n; omega)]
    rfl
   ·rw [if_neg (by show ¬ n - 1 + 0 = 0; omega)]
    have := tail (acc ++ [.str t]) c1
    rw [List.append_assoc] at this
    exact this
  ·have lu : 0 < us.length := by cases us with | nil => exact absurd rfl cu | cons _ _ => exact Nat.succ_pos _
   rw [if_neg (by omega), List.append_assoc, ih1 (n - 1 + us.length) (zs ++ ys) _ lu (by omega)]
   by_cases c1 : n = 1
   ·have : vs = [] := by cases vs with | nil => rfl | cons _ _ => simp at hn; omega
    subst this
    cases g2
    rw [if_pos (by omega), if_pos (by show 0 + 1 = n; omega), List.append_assoc, List.append_nil]
    rfl
   ·rw [if_neg (by omega), show n - 1 + us.length - us.length = n - 1 by omega, tail _ c1, List.append_assoc, List.append_assoc]
    rfl
theorem vQ {kvs : Kvs} {H : Hp} : ∀ {us xs : List V}, Pz kvs H us xs -> ∃ fs, pcs kvs 1 xs [] = fs /\ fs.length = us.length /\ ∀ (j : Nat) u f, us[j]? = some u -> fs[j]? = some f -> Pz kvs H [u] f
 | [], xs, h => by
  rw [Qh h]
  exact ⟨[], rfl, rfl, fun j u f h => by simp at h⟩
 | u :: us, xs, h => by
  obtain ⟨x1, x2, rfl, a, b⟩ := Pz.split (us := [u]) (vs := us) h
  obtain ⟨fs, e, l, g⟩ := vQ b
  refine ⟨x1 :: fs, ?_, by rw [List.length_cons, List.length_cons, l], fun j u' f h1 h2 => ?_⟩
  ·rw [Wt a 1 x2 [] (by show 0 < 1; decide) (by show 1 <= 1; decide), if_pos (by rfl : [u].length = 1), e]
   rfl
  ·match j, h1, h2 with
   | 0, h1, h2 => cases h1; cases h2; exact a
   | j + 1, h1, h2 => exact g j u' f (by simpa using h1) (by simpa using h2)
end GN
namespace GN
open PySem L2 K11
theorem Wu {kvs : Kvs} {H : Hp} {v : V} {f : List V} (h : Pz kvs H [v] f) : Vl H v f := ⟨h.pt, fun i e => by
 rw [e] at h
 cases h with
 | num a _ => exact a⟩
def tgf : List V -> Str
 | .str t :: _ => t
 | _ => ""
def fnd (as : Arms) (t : Str) : Option (Str × List Str × Bd) := as.hs.find? fun a => decide (a.1 = t)
def putA (e : En) : List Str -> List (List V) -> En
 | n :: ns, f :: fs => putA (putE e n f) ns fs
 | _, _ => e
def OkA (kvs : Kvs) (as : Arms) : Prop := ∀ a ∈ as.hs, a.1 ≠ "" /\ szOf kvs a.1 = some a.2.1.length
def JD (C : Addr) : Sp := fun vs H Q E => ∃ (q : Addr) (t : Str) (ts : List Addr) (as : Arms), vs = [.ref q, .str t] /\ H q = some (.tup (ts.map V.ref)) /\ IsArms H as ts /\ (∀ (i : Nat) p a, ts[i]? = some p -> as.hs[i]? = some a -> fnd as t = some a -> Q (.ref p) H) /\ (fnd as t = none -> ErrW C E H "noshape")
def jH (cR C : Addr) : Sp := fun vs H Q E => ∃ (r dx d wl nd p q1 q2 : Addr) (st : Int) (b v : V) (z x : Str) (f : List V), vs = [.ref r, .ref p, v] /\ H r = some (RO cR dx d st wl b nd .non) /\ H p = some (.tup [.str z, .str x, .ref q1, .ref q2]) /\ Vl H v f /\
 (∀ i, nf f = some i -> ∀ H', KX [r] H H' -> H' r = some (RO cR dx d st wl (.ref (if i ≠ 0 then q1 else q2)) nd .non) -> Q .non H') /\ (nf f = none -> ErrW C E H "nonumber")
def Wv (cR C : Addr) : Sp := fun vs H Q E => ∃ (r dx d wl nd q : Addr) (st : Int) (b v : V) (f : List V) (ts : List Addr) (as : Arms) (kvs : Kvs) (ks : List (Key × V)) (e : En), vs = [.ref r, .ref q, v] /\ H r = some (RO cR dx d st wl b nd .non) /\ H nd = some (.dK ks) /\ ks.length <= 1000 /\ ER (fun v f => Pz kvs H [v] f) ks e /\ H q = some (.tup (ts.map V.ref)) /\ IsArms H as ts /\ OkA kvs as /\ Pz kvs H [v] f /\
 (∀ a, fnd as (tgf f) = some a -> ∀ H' ks' s, KX [r, nd] H H' -> H' r = some (RO cR dx d st wl (.ref s) nd .non) -> IsBd H' a.2.2 s -> H' nd = some (.dK ks') -> ER (fun v f => Pz kvs H' [v] f) ks' (putA e a.2.1 (pcs kvs 1 f.tail [])) -> ks'.length <= ks.length + a.2.1.length -> Q .non H') /\ (fnd as (tgf f) = none -> ErrW C E H "noshape")
theorem vi : ∀ {ns : List Str} {fs : List (List V)} {j : Nat} {n : Str} {f : List V} {e : En}, ns[j]? = some n -> fs[j]? = some f -> putA e (ns.take (j + 1)) (fs.take (j + 1)) = putE (putA e (ns.take j) (fs.take j)) n f
 | [], _, _, _, _, _, h, _ => by simp at h
 | _ :: _, [], _, _, _, _, _, h => by simp at h
 | m :: ns, g :: fs, 0, n, f, e, h1, h2 => by cases h1; cases h2; rfl
 | m :: ns, g :: fs, j + 1, n, f, e, h1, h2 => by
  rw [List.take_succ_cons, List.take_succ_cons, List.take_succ_cons, List.take_succ_cons]
  show putA (putE e m g) (ns.take (j + 1)) (fs.take (j + 1)) = putE (putA (putE e m g) (ns.take j) (fs.take j)) n f
  exact vi (by simpa using h1) (by simpa using h2)
theorem xQ {α : Type} {p : α -> Bool} : ∀ {l : List α} {i : Nat} {a : α}, (∀ j b, j < i -> l[j]? = some b -> p b = false) -> l[i]? = some a -> p a = true -> l.find? p = some a
 | [], i, a, _, h, _ => by simp at h
 | x :: l, 0, a, _, h, hp => by cases h; rw [List.find?_cons, hp]
 | x :: l, i + 1, a, g, h, hp => by
  rw [List.find?_cons, g 0 x (by omega) rfl]
  exact xQ (i := i) (fun j b hj hb => g (j + 1) b (by omega) (by simpa using hb)) (by simpa using h) hp
section
variable {P : Program} {w : World} {K : PySem.W.Frag} {mg : Str -> Option Value} {base : Heap} {f R C cR T : Addr} {fd : FuncData}
theorem scArm : FnScope ["arms", "tag", "arm"] ["arms", "tag"] (zo Zj) := ⟨rfl, rfl, rfl, by decide +kernel, rfl, by decide +kernel, by decide +kernel⟩
theorem Qi (F : Fun K "arm_of" "arm_of" Zj f fd) (GX : Xa P w K mg base 1 "Fault" C ["self", "word"] (K31.spFault C)) : FnOk P w K mg base (CXf P w) 3 f fd ["arms", "tag"] (JD C) := by
 refine F.byx scArm (fun vs H Q E h => ?_) (fun cdv A outer s H vs Q E hr h => ?_)
 ·obtain ⟨q, t, ts, as, rfl, _⟩ := h
  rfl
 obtain ⟨q, t, ts, as, rfl, hq, hA, q1, q2⟩ := h
 refine ⟨_,
  (zj (yp ownx rfl (xr (jv 0)) (zr (i := 2) scArm.nd rfl (Or.inl rfl))
   (zk (zM (zw zY (zt zA (jv 2) zi (fun _ _ => rfl)) (jv 1) (zy _))
    (zk (zF (jv 2))) zH)))
  (zk (js GX hr rfl xM (ja_c zL zh)))), ?_⟩
 obtain ⟨lt, hg⟩ := hA.get
 refine ⟨_, rfl, _, rfl, ⟨_, SqT.of hq⟩, x5 (xs := ts.map V.ref) (fun i σ H' => H' = H /\ (∃ x, σ = [some (.ref q), some (.str t), x]) /\ ∀ j a, j < i -> as.hs[j]? = some a -> a.1 ≠ t) ⟨rfl, ⟨none, rfl⟩, fun j a h => absurd h (by omega)⟩ (fun i σ H' _ h => by rw [h.1]; exact SqT.of hq) ?_ ?_⟩
 ·rintro i v σ H1 hv ⟨rfl, ⟨x, rfl⟩, hno⟩
  rw [List.getElem?_map] at hv
  obtain ⟨p, hp, rfl⟩ := Option.map_eq_some_iff.mp hv
  have hi := (List.getElem?_eq_some_iff.mp hp).1
  obtain ⟨a, ha⟩ : ∃ a, as.hs[i]? = some a := ⟨_, List.getElem?_eq_getElem (by omega)⟩
  obtain ⟨q', s', g1, g2, g3⟩ := hg i p a hp ha
  refine ⟨_, rfl, p, _, _, _, rfl, rfl, SqT.of g1, zq (j := 0) rfl, _, rfl, rfl, _, rfl, ?_⟩
  by_cases c : a.1 = t
  ·refine yC (decide_eq_true (by rw [c])) ⟨_, rfl, q1 i p a hp ha ?_⟩
   exact xQ (fun j b hj hb => decide_eq_false (hno j b hj hb)) ha (decide_eq_true c)
  ·refine zX (decide_eq_false (fun e => c (V.str.inj e))) (nxt ⟨rfl, ⟨_, rfl⟩, fun j b hj hb => ?_⟩)
   by_cases cj : j = i
   ·subst cj
    rw [ha] at hb
    cases hb
    exact c
   ·exact hno j b (by omega) hb
 ·rintro σ H1 ⟨rfl, ⟨x, rfl⟩, hno⟩
  rw [List.length_map, lt] at hno
  refine ⟨by show 1 <= sizeLine; decide, fun e he => K31.raised (fun d H2 s2 hd => q2 ?_ d H2 s2 hd) e he⟩
  refine List.find?_eq_none.mpr fun a ha => ?_
  obtain ⟨j, hj⟩ := List.getElem?_of_mem ha
  have := hno j a (List.getElem?_eq_some_iff.mp hj).1 hj
  simpa using this
theorem Ww : FnScope ["self", "body", "value"] ["self", "body", "value"] (zo vI) := ⟨rfl, rfl, rfl, by decide +kernel, rfl, by decide +kernel, by decide +kernel⟩
theorem YM (F : Fun K "choose" "Run.choose" vI f fd) (N : Rn K cR) (GX : Xa P w K mg base 1 "Fault" C ["self", "word"] (K31.spFault C)) (GW : Ca P w K mg base CX0 1 "is_whole" ["thing"] K31.spWhole) : FnOk P w K mg base (CXf P w) 3 f fd ["self", "body", "value"] (jH cR C) := by
 refine F.byx Ww (fun vs H Q E h => ?_) (fun cdv A outer s H vs Q E hr h => ?_)
 ·obtain ⟨r, dx, d, wl, nd, p, q1, q2, st, b, v, z, x, f, rfl, _⟩ := h
  rfl
 obtain ⟨r, dx, d, wl, nd, p, q1, q2, st, b, v, z, x, f, rfl, hR, hp, hv, k1, k2⟩ := h
 have r1 : Room 1 _ := hr.mono (by decide)
 refine ⟨_,
  (zj (zM (wg (yn (zv GW.upx r1 rfl xm (ja_c (jv 2) zh))))
   (zk (js GX hr rfl xM (ja_c zL zh))) zH)
  (zk (yz (jv 0) (jf (zw wn (jv 2) zi (zy _)) (zt zA (jv 1) zi (fun _ _ => rfl)) (zt zA (jv 1) zi (fun _ _ => rfl)))))), ?_⟩
 have nu := hv.nu
 refine ⟨_, rfl, v, nf f, rfl, nu, _, rfl, ?_⟩
 cases ho : nf f with
 | none =>
  exact iteT ⟨by show 1 <= sizeLine; decide, fun e he => K31.raised (fun d H2 s2 hd => k2 ho d H2 s2 hd) e he⟩
 | some i =>
  rw [ho] at nu
  cases nu with
  | int hi =>
   refine iteF (nxt ?_)
   refine ⟨_, rfl, rfl, _, rfl, ?_⟩
   by_cases c : i = 0
   ·refine zX (by simp [c]) ⟨_, rfl, p, _, _, _, rfl, rfl, SqT.of hp, zq (j := 3) rfl, _, rfl, r, cR, dx, _, rfl, hR, N.cl, N.a5, by show 7 < 1000; decide, ?_⟩
    refine k1 i ho _ (KX.refl.put (by simp)) ?_
    rw [if_neg (fun h => h c)]
    exact zg
   ·refine yC (by simp [c]) ⟨_, rfl, p, _, _, _, rfl, rfl, SqT.of hp, zq (j := 2) rfl, _, rfl, r, cR, dx, _, rfl, hR, N.cl, N.a5, by show 7 < 1000; decide, ?_⟩
    refine k1 i ho _ (KX.refl.put (by simp)) ?_
    rw [if_pos c]
    exact zg
theorem scTake : FnScope ["self", "arms", "value", "shape", "arm", "name", "part"] ["self", "arms", "value"] (zo wB) := ⟨rfl, rfl, rfl, by decide +kernel, rfl, by decide +kernel, by decide +kernel⟩
theorem V7 (F : Fun K "take_arm" "Run.take_arm" wB f fd) (N : Rn K cR) (GA : Ca P w K mg base (CXf P w) 3 "arm_of" ["arms", "tag"] (JD C)) (GW : Ca P w K mg base CX0 1 "is_whole" ["thing"] K31.spWhole) (m_zip : mg "zip" = none) : FnOk P w K mg base (CXf P w) 4 f fd ["self", "arms", "value"] (Wv cR C) := by
 refine F.byx scTake (fun vs H Q E h => ?_) (fun cdv A outer s H vs Q E hr h => ?_)
 ·obtain ⟨r, dx, d, wl, nd, q, st, b, v, f, ts, as, kvs, ks, e, rfl, _⟩ := h
  rfl
 obtain ⟨r, dx, d, wl, nd, q, st, b, v, f, ts, as, kvs, ks, e, rfl, hR, hN, hk, hE, hq, hA, hO, hv, k1, k2⟩ := h
 have r1 : Room 1 _ := hr.mono (by decide)
 refine ⟨_,
  (zj (zu (i := 3) scTake.nd rfl (Or.inl rfl) (jf (yn (zv GW.upx r1 rfl xm (ja_c (jv 2) zh))) (zO (ja_c zL (ja_c (zO zh) zh))) (jv 2)))
  (zj (zu (i := 4) scTake.nd rfl (Or.inl rfl) (zv GA hr rfl xm (ja_c (jv 1) (ja_c (zt zA (jv 3) zi (fun _ _ => rfl)) zh))))
  (zj (yp ownx rfl (qH rfl m_zip (ja_c (zt zA (jv 4) zi (fun _ _ => rfl)) (ja_c (zt zA (jv 3) zi (fun _ _ => rfl)) zh))) (yW rfl (zD (zr (i := 5) scTake.nd rfl (Or.inl rfl)) (zD (zr (i := 6) scTake.nd rfl (Or.inl rfl)) yo)))
   (zk (x9 hr (yU (jv 0)) (jv 5) (jv 6))))
  (zk (yz (jv 0) (zt zA (jv 4) zi (fun _ _ => rfl))))))), ?_⟩
 have sl := z6
 have nu := (Wu hv).nu
 obtain ⟨lt, hg⟩ := hA.get
 have nrn : nd ≠ r := fun z => by
  rw [z, hR] at hN
  cases hN
 have tu : ∀ {H' : Hp}, KX [r, nd] H H' -> Tups H H' := fun {H'} k => k.tups fun a ha xs z => by
  rcases List.mem_cons.mp ha with e | ha
  ·rw [e, hR] at z; cases z
  ·rw [List.mem_singleton.mp ha, hN] at z; cases z
 refine ⟨_, rfl, v, nf f, rfl, nu, _, rfl, ?_⟩
 cases hv with
 | @num i _ xs hi hn =>
  cases hn
  have nof : fnd as (tgf [.int i]) = none := List.find?_eq_none.mpr fun a ha e => (hO a ha).1 (of_decide_eq_true e)
  refine iteT ⟨by show 0 <= sizeLine; decide, fun t1 h1 => ⟨by show 2 <= sizeLine; decide, fun t2 h2 => ?_⟩⟩
  have n2 := (zp h1 (.tup [])).new (o := .tup [.str "", .ref t1]) h2
  refine ⟨_, rfl, _, rfl, t2, _, _, _, rfl, rfl, SqT.of zg, zq (j := 0) rfl, q, "", ts, as, rfl, n2 _ _ hq, hA.keep (.of n2), fun i' p a _ _ e => ?_, fun _ => (k2 nof).at n2⟩
  have e' : fnd as (tgf [.int i]) = some a := e
  rw [nof] at e'
  cases e'
 | @shp p q' t us _ xs ys h1 h2 hs h9 g1 g2 =>
  cases g2
  rw [List.append_nil] at *
  refine iteF ⟨_, rfl, ?_⟩
  refine ⟨_, rfl, _, rfl, p, _, _, _, rfl, rfl, SqT.of h1, zq (j := 0) rfl, q, t, ts, as, rfl, hq, hA, fun i p' a hp' ha hf => ?_, fun hno => k2 hno⟩
  obtain ⟨q2, s2, a1, a2, a3⟩ := hg i p' a hp' ha
  have am : a ∈ as.hs := List.mem_of_getElem? ha
  have at_ : a.1 = t := by simpa using List.find?_some hf
  have ln : a.2.1.length = us.length := by
   have h1 := (hO a am).2
   rw [at_, hs] at h1
   exact (Option.some.inj h1).symm
  obtain ⟨fs, efs, lf, hfs⟩ := vQ g1
  refine ⟨_, rfl, p', _, _, _, rfl, rfl, SqT.of a1, zq (j := 1) rfl, _, rfl, p, _, _, _, rfl, rfl, SqT.of h1, zq (j := 1) rfl, q2, q', false, false, _, _, rfl, SqT.of a2, SqT.of h2, VH (xs := a.2.1.map V.str) (ys := us) (by rw [List.length_map]; exact ln) (fun j σ H' => KX [r, nd] H H' /\ H' r = some (RO cR dx d st wl b nd .non) /\ (∃ x y, σ = [some (.ref r), some (.ref q), some (.ref p), some (.ref p), some (.ref p'), x, y]) /\ ∃ ks', H' nd = some (.dK ks') /\ ks'.length <= ks.length + j /\ ER (fun v f => Pz kvs H' [v] f) ks' (putA e (a.2.1.take j) (fs.take j))) ⟨KX.refl, hR, ⟨none, none, rfl⟩, ks, hN, by omega, hE⟩ (fun j σ H' _ h => ⟨?_, ?_⟩) ?_ ?_⟩
  ·exact SqT.of (tu h.1 _ _ a2)
  ·exact SqT.of (tu h.1 _ _ h2)
  ·rintro j x y T' σ H1 hx hy hT ⟨kx, hR1, ⟨x', y', rfl⟩, ks', hN1, lk, hE1⟩
   rw [List.getElem?_map] at hx
   obtain ⟨n, hn, rfl⟩ := Option.map_eq_some_iff.mp hx
   have hj := (List.getElem?_eq_some_iff.mp hy).1
   obtain ⟨ff, hff⟩ : ∃ ff, fs[j]? = some ff := ⟨_, List.getElem?_eq_getElem (by omega)⟩
   have n1 := zp hT (.tup [.str n, y])
   have hy1 := (hfs j y ff hy hff).keep (tu kx)
   refine ⟨_, _, rfl, SqT.of zg, rfl, _, _, rfl, _, _, rfl, rfl, ?_⟩
   have nTr : r ≠ T' := zn hR1 hT
   have nTn : nd ≠ T' := zn hN1 hT
   refine ⟨_, rfl, _, rfl, r, cR, dx, _, _, rfl, n1 _ _ hR1, N.cl, N.a6, rfl, _, rfl, nd, _, rfl, DPut.k (k := .inr n) (n1 _ _ hN1) (by omega), ?_⟩
   have t2 : Tups H1 (upd (upd H1 T' (.tup [.str n, y])) nd (.dK (putK ks' (.inr n) y))) := fun c xs hc => by
    rw [zm (ye hc hN1 (by intro z; cases z))]
    exact n1 _ _ hc
   refine ⟨(kx.new hT).put (by simp), by rw [zm nrn.symm]; exact n1 _ _ hR1, ⟨_, _, rfl⟩, _, zg, by have := Wq ks' (.inr n) y; omega, ?_⟩
   rw [vi hn hff]
   exact (hE1.mono fun v f h => h.keep t2).put (hy1.keep t2)
  ·rintro σ H1 ⟨kx, hR1, ⟨x', y', rfl⟩, ks', hN1, lk, hE1⟩
   rw [List.length_map] at lk hE1
   rw [List.take_of_length_le (Nat.le_refl _), List.take_of_length_le (by omega)] at hE1
   have tk := tu kx
   refine ⟨_, rfl, p', _, _, _, rfl, rfl, SqT.of (tk _ _ a1), zq (j := 2) rfl, _, rfl, r, cR, dx, _, rfl, hR1, N.cl, N.a5, by show 7 < 1000; decide, ?_⟩
   have t2 : Tups H1 (upd H1 r (RO cR dx d st wl (.ref s2) nd .non)) := fun c xs hc => by
    rw [zm (ye hc hR1 (by intro z; cases z))]
    exact hc
   refine k1 a hf _ ks' s2 (kx.put (by simp)) zg ((a3.keep tk).keep t2) (by rw [zm nrn]; exact hN1) ?_ lk
   show ER _ ks' (putA e a.2.1 (pcs kvs 1 xs []))
   rw [efs]
   exact hE1.mono fun v f h => h.keep t2
end
end GN
namespace GN
open PySem L2 K11
mutual
def goB (kvs : Kvs) : En -> Bd -> List V ⊕ Str
 | e, .give x => .inl ((valE e x).getD [])
 | e, .iff x b c => match nf ((valE e x).getD []) with
  | some i => if i ≠ 0 then goB kvs e b else goB kvs e c
  | none => .inr "nonumber"
 | e, .cs x as => goA kvs e (tgf ((valE e x).getD [])) (pcs kvs 1 ((valE e x).getD []).tail []) as
def goA (kvs : Kvs) : En -> Str -> List (List V) -> Arms -> List V ⊕ Str
 | _, _, _, .nil => .inr "noshape"
 | e, t, fs, .cons t' ns b r => if t' = t then goB kvs (putA e ns fs) b else goA kvs e t fs r
end
theorem vR (kvs : Kvs) (e : En) (t : Str) (fs : List (List V)) : ∀ as : Arms, goA kvs e t fs as = match fnd as t with | none => .inr "noshape" | some a => goB kvs (putA e a.2.1 fs) a.2.2
 | .nil => rfl
 | .cons t' ns b r => by
  rw [goA]
  unfold fnd
  rw [Arms.hs, List.find?_cons]
  by_cases c : t' = t
  ·rw [if_pos c, decide_eq_true c]
  ·rw [if_neg c, decide_eq_false c]
   exact vR kvs e t fs r
mutual
def OkBd (kvs : Kvs) : List Str -> Bd -> Prop
 | ks, .give x => x ∈ ks
 | ks, .iff x b c => x ∈ ks /\ OkBd kvs ks b /\ OkBd kvs ks c
 | ks, .cs x as => x ∈ ks /\ OkAs kvs ks as
def OkAs (kvs : Kvs) : List Str -> Arms -> Prop
 | _, .nil => True
 | ks, .cons t ns b r => t ≠ "" /\ szOf kvs t = some ns.length /\ OkBd kvs (ks ++ ns) b /\ ns.Nodup /\ OkAs kvs ks r
end
theorem OkAs.at {kvs : Kvs} {ks : List Str} : ∀ {as : Arms}, OkAs kvs ks as -> ∀ a ∈ as.hs, a.1 ≠ "" /\ szOf kvs a.1 = some a.2.1.length /\ OkBd kvs (ks ++ a.2.1) a.2.2 /\ a.2.1.Nodup
 | .nil, _, a, h => by cases h
 | .cons t ns b r, g, a, h => by
  rcases List.mem_cons.mp h with rfl | h
  ·exact ⟨g.1, g.2.1, g.2.2.1, g.2.2.2.1⟩
  ·exact OkAs.at g.2.2.2.2 a h
theorem OkAs.okA {kvs : Kvs} {ks : List Str} {as : Arms} (h : OkAs kvs ks as) : OkA kvs as := fun a ha => ⟨(h.at a ha).1, (h.at a ha).2.1⟩
theorem Bnd.putA : ∀ {ns ks : List Str} {e : En} {fs : List (List V)}, Bnd ks e -> ns.length <= fs.length -> Bnd (ks ++ ns) (putA e ns fs)
 | [], ks, e, fs, h, _ => by rw [List.append_nil]; exact h
 | n :: ns, ks, e, [], _, l => by simp at l
 | n :: ns, ks, e, f :: fs, h, l => by
  have := Bnd.putA (ns := ns) (ks := ks ++ [n]) (e := putE e n f) (fs := fs) h.put (by simpa using l)
  rw [List.append_assoc] at this
  exact this
abbrev Ez (kvs : Kvs) (H : Hp) (ks : List (Key × V)) (e : En) : Prop := ER (fun v f => Pz kvs H [v] f) ks e
def JE (cR C T : Addr) : Sp := fun vs H Q E => ∃ (r dx d wl nd pb : Addr) (st : Int) (kvs : Kvs) (ks : List (Key × V)) (e : En) (ns : List Str) (b : Bd), vs = [.ref r] /\ H r = some (RO cR dx d st wl (.ref pb) nd .non) /\ H wl = some (.lst []) /\ Tb T H /\ H nd = some (.dK ks) /\ ks.length + b.sz <= 900 /\ Ez kvs H ks e /\ Bnd ns e /\ OkBd kvs ns b /\ IsBd H b pb /\
 (∀ H' tp o, KX [r, T] H H' -> Tb T H' -> H' r = some (RO cR dx d st wl (.ref pb) nd (.ref tp)) -> Ans H' tp (.inl o) -> goB kvs e b = .inl o -> Q .non H') /\
 (∀ H' ks' e' ns' b' pb', KX [r, nd] H H' -> H' r = some (RO cR dx d st wl (.ref pb') nd .non) -> H' nd = some (.dK ks') -> ks'.length + b'.sz <= 900 -> b'.sz < b.sz -> Ez kvs H' ks' e' -> Bnd ns' e' -> OkBd kvs ns' b' -> IsBd H' b' pb' -> goB kvs e' b' = goB kvs e b -> Q .non H') /\
 (∀ w, goB kvs e b = .inr w -> ErrW C E H w)
def vS : Sp := fun vs H Q _ => ∃ (pk l : Addr) (ks : List (List (Str × Nat))) (xs : List V), vs = [.ref pk, .ref l] /\ Kn H pk ks /\ KsOk ks /\ H l = some (.lst xs) /\ Grw ks xs /\ ∀ H' v, Same H H' -> Pz (puts ks.flatten []) H' [v] xs -> Q v H'
theorem Wx {C : Addr} {vs : List V} {H : Hp} {Q : VK} {E : XK} (h : vS vs H Q E) : Z8 C vs H Q E0 := by
 obtain ⟨pk, l, ks, xs, rfl, hK, hk, hl, ⟨g1, g2, g3⟩, q⟩ := h
 refine ⟨pk, .ref l, ks, rfl, hK, hk, .inr ⟨l, xs, rfl, hl, g1, fun x hx => ?_, fun n => absurd g3 n, fun _ H' v s hv => q H' v s hv⟩⟩
 have := g2 x hx
 match x, this with
 | .int i, _ => exact ⟨_, .int i⟩
 | .str z, _ => exact ⟨_, .str z⟩
def jJ : Sp := fun vs H Q _ => ∃ (pk d al one pp pb : Addr) (n : Str) (ks : List (List (Str × Nat))) (kvs : List (Key × V)) (ps : List Str) (as : List Addr) (xss : List (List V)), vs = [.ref pk, .ref d, .str n, .ref al] /\ Kn H pk ks /\ KsOk ks /\ H d = some (.dK kvs) /\ valV kvs (.inr n) = some (.ref one) /\ H one = some (.tup [.str n, .ref pp, .ref pb]) /\ H pp = some (.tup (ps.map V.str)) /\ Args H ks al as xss /\ ps.length = xss.length /\ ps.length <= 100 /\
 ∀ H' l us, Same H H' -> H' l = some (.lst us) -> us.length = xss.length -> (∀ (j : Nat) u xs, us[j]? = some u -> xss[j]? = some xs -> Pz (puts ks.flatten []) H' [u] xs) -> Q (.ref l) H'
section
variable {P : Program} {w : World} {K : PySem.W.Frag} {mg : Str -> Option Value} {base : Heap} {f R C cR T : Addr} {fd : FuncData}
theorem Qj (F : Fun K "go_on" "Run.go_on" sGo f fd) (N : Rn K cR) (GC : Me P w K mg base (CXf P w) 3 cR "choose" ["self", "body", "value"] (jH cR C)) (GA : Me P w K mg base (CXf P w) 4 cR "take_arm" ["self", "arms", "value"] (Wv cR C)) (GG : Me P w K mg base CX0 4 cR "give" ["self", "value"] (Wp cR T)) : FnOk P w K mg base (CXf P w) 6 f fd ["self"] (JE cR C T) := by
 refine F.byx scGo (fun vs H Q E h => ?_) (fun cdv A outer s H vs Q E hr h => ?_)
 ·obtain ⟨r, dx, d, wl, nd, pb, st, kvs, ks, e, ns, b, rfl, _⟩ := h
  rfl
 obtain ⟨r, dx, d, wl, nd, pb, st, kvs, ks, e, ns, b, rfl, hR, hW, hT, hN, hk, hE, hB, hO, hD, q1, q2, q3⟩ := h
 have r4 : Room 4 _ := hr.mono (by decide)
 have r3 : Room 3 _ := hr.mono (by decide)
 refine ⟨_,
  (zj (zu (i := 1) scGo.nd rfl (Or.inl rfl) (yU (jv 0)))
  (zk (zM (zw zY (zt zA (jv 1) zi (fun _ _ => rfl)) zL (zy _)) (zk yy)
   (zk (zM (zw zY (zt zA (jv 1) zi (fun _ _ => rfl)) zL (zy _))
    (zk (zN (ZW (jv 0) N.cl GC r3 xm (ja_c (jv 1) (ja_c (yD hr (yU (jv 0)) (zt zA (jv 1) zi (fun _ _ => rfl))) zh)))))
    (zk (zM (zw zY (zt zA (jv 1) zi (fun _ _ => rfl)) zL (zy _))
     (zk (zN (ZW (jv 0) N.cl GA r4 xm (ja_c (zt zA (jv 1) zi (fun _ _ => rfl)) (ja_c (yD hr (yU (jv 0)) (zt zA (jv 1) zi (fun _ _ => rfl))) zh)))))
     (zk (zN (ZW (jv 0) N.cl GG.upx r4 xm (ja_c (yD hr (yU (jv 0)) (zt zA (jv 1) zi (fun _ _ => rfl))) zh))))))))))), ?_⟩
 have sl := z6
 have tuR : ∀ {H' : Hp}, KX [r] H H' -> Tups H H' := fun {H'} k => k.tups fun a ha xs z => by
  rw [List.mem_singleton.mp ha, hR] at z; cases z
 have nrn : nd ≠ r := fun z => by
  rw [z, hR] at hN
  cases hN
 refine ⟨_, rfl, r, cR, dx, _, _, rfl, hR, N.cl, N.a5, rfl, ?_⟩
 match b, hO, hD, hk, q1, q2, q3 with
 | .give x, hO, hD, hk, q1, q2, q3 =>
  have hD : H pb = some (.tup [.str "give", .str x]) := hD
  obtain ⟨ff, ef⟩ := hB.get hO
  obtain ⟨v, hv1, hv2⟩ := hE.val ef
  refine ⟨_, rfl, pb, _, _, _, rfl, rfl, SqT.of hD, rfl, rfl, _, rfl, zX (by decide +kernel) ?_⟩
  refine ⟨_, rfl, pb, _, _, _, rfl, rfl, SqT.of hD, rfl, rfl, _, rfl, zX (by decide +kernel) ?_⟩
  refine ⟨_, rfl, pb, _, _, _, rfl, rfl, SqT.of hD, rfl, rfl, _, rfl, zX (by decide +kernel) ?_⟩
  refine ⟨_, rfl, r, dx, _, rfl, hR, rfl, _, rfl, r, cR, dx, _, _, rfl, hR, N.cl, N.a6, rfl, _, rfl, pb, _, _, _, rfl, rfl, SqT.of hD, zq (j := 1) rfl, nd, v, rfl, by rw [<- hv1]; exact DGet.k (k := .inr x) hN, r, dx, d, wl, nd, st, .ref pb, v, ff, rfl, hR, hW, hT, Wu hv2, fun H' tp l k' T' h1 h2 h3 h4 => ?_⟩
  refine q1 H' tp ff k' T' h1 ⟨l, h2, h3⟩ ?_
  show Sum.inl ((valE e x).getD []) = _
  rw [ef]
  rfl
 | .iff x b c, hO, hD, hk, q1, q2, q3 =>
  obtain ⟨p1, p2, hD, d1, d2⟩ := hD
  obtain ⟨ff, ef⟩ := hB.get hO.1
  obtain ⟨v, hv1, hv2⟩ := hE.val ef
  refine ⟨_, rfl, pb, _, _, _, rfl, rfl, SqT.of hD, rfl, rfl, _, rfl, zX (by decide +kernel) ?_⟩
  refine ⟨_, rfl, pb, _, _, _, rfl, rfl, SqT.of hD, rfl, rfl, _, rfl, yC (by decide +kernel) ?_⟩
  have ego : goB kvs e (.iff x b c) = match nf ff with | some i => if i ≠ 0 then goB kvs e b else goB kvs e c | none => .inr "nonumber" := by
   rw [goB, ef]; rfl
  refine ⟨_, rfl, r, dx, _, rfl, hR, rfl, _, rfl, _, rfl, r, cR, dx, _, _, rfl, hR, N.cl, N.a6, rfl, _, rfl, pb, _, _, _, rfl, rfl, SqT.of hD, zq (j := 1) rfl, nd, v, rfl, by rw [<- hv1]; exact DGet.k (k := .inr x) hN, r, dx, d, wl, nd, pb, p1, p2, st, .ref pb, v, "if", x, ff, rfl, hR, hD, Wu hv2, fun i hi H' k' h1 => ?_, fun hno => q3 _ (by rw [ego, hno])⟩
  have tk := tuR k'
  have hN' := k' _ _ (by simp [nrn]) hN
  rw [hi] at ego
  have hsz : (Bd.iff x b c).sz = b.sz + c.sz + 1 := rfl
  by_cases c0 : i ≠ 0
  ·rw [if_pos c0] at h1
   refine q2 H' ks e ns b p1 (k'.mono (by simp)) h1 hN' (by omega) (by omega) (hE.mono fun v f h => h.keep tk) hB hO.2.1 (d1.keep tk) ?_
   rw [ego]
   exact (if_pos c0).symm
  ·rw [if_neg c0] at h1
   refine q2 H' ks e ns c p2 (k'.mono (by simp)) h1 hN' (by omega) (by omega) (hE.mono fun v f h => h.keep tk) hB hO.2.2 (d2.keep tk) ?_
   rw [ego]
   exact (if_neg c0).symm
 | .cs x as, hO, hD, hk, q1, q2, q3 =>
  obtain ⟨qa, ts, hD, d1, d2⟩ := hD
  obtain ⟨ff, ef⟩ := hB.get hO.1
  obtain ⟨v, hv1, hv2⟩ := hE.val ef
  refine ⟨_, rfl, pb, _, _, _, rfl, rfl, SqT.of hD, rfl, rfl, _, rfl, zX (by decide +kernel) ?_⟩
  refine ⟨_, rfl, pb, _, _, _, rfl, rfl, SqT.of hD, rfl, rfl, _, rfl, zX (by decide +kernel) ?_⟩
  refine ⟨_, rfl, pb, _, _, _, rfl, rfl, SqT.of hD, rfl, rfl, _, rfl, yC (by decide +kernel) ?_⟩
  have ego : goB kvs e (.cs x as) = match fnd as (tgf ff) with | none => .inr "noshape" | some a => goB kvs (putA e a.2.1 (pcs kvs 1 ff.tail [])) a.2.2 := by
   rw [goB, ef]; exact vR kvs e _ _ as
  have hsz : (Bd.cs x as).sz = as.sz + 1 := rfl
  refine ⟨_, rfl, r, dx, _, rfl, hR, rfl, _, rfl, pb, _, _, _, rfl, rfl, SqT.of hD, zq (j := 2) rfl, _, rfl, r, cR, dx, _, _, rfl, hR, N.cl, N.a6, rfl, _, rfl, pb, _, _, _, rfl, rfl, SqT.of hD, zq (j := 1) rfl, nd, v, rfl, by rw [<- hv1]; exact DGet.k (k := .inr x) hN, r, dx, d, wl, nd, qa, st, .ref pb, v, ff, ts, as, kvs, ks, e, rfl, hR, hN, by omega, hE, d1, d2, hO.2.okA, hv2, fun a hf H' ks' s' k' h1 h2 h3 h4 h5 => ?_, fun hno => q3 _ (by rw [ego, hno])⟩
  have am : a ∈ as.hs := List.mem_of_find?_eq_some hf
  have hh := Arms.hs_sz am
  obtain ⟨o1, o2, o3, _⟩ := hO.2.at a am
  refine q2 H' ks' _ (ns ++ a.2.1) a.2.2 s' k' h1 h3 (by omega) (by omega) h4 (hB.putA ?_) o3 h2 (by rw [ego, hf])
  have at_ : a.1 = tgf ff := by simpa using List.find?_some hf
  cases hv2 with
  | @num i _ xs hi hn => exact absurd at_ (fun z => o1 z)
  | @shp p q' t us _ xs ys g1 g2 hs h9 g3 g4 =>
   cases g4
   obtain ⟨fs, efs, lf, _⟩ := vQ g3
   rw [List.append_nil]
   show _ <= (pcs kvs 1 xs []).length
   rw [efs, lf]
   have at_ : a.1 = t := at_
   rw [at_, hs] at o2
   have := Option.some.inj o2
   omega
theorem YN (F : Fun K "begun_with" "begun_with" Zi f fd) (GG : Ca P w K mg base CX0 2 "grown" ["kinds", "parts"] vS) (m_len : mg "len" = none) : FnOk P w K mg base CX0 3 f fd ["kinds", "defs", "name", "args"] jJ := by
 refine F.by V4 (fun vs H Q E h => ?_) (fun cdv A outer s H vs Q E hr h => ?_)
 ·obtain ⟨pk, d, al, one, pp, pb, n, ks, kvs, ps, as, xss, rfl, _⟩ := h
  rfl
 obtain ⟨pk, d, al, one, pp, pb, n, ks, kvs, ps, as, xss, rfl, hK, hk, hd, hv, h1, hp, hA, ll, l100, q⟩ := h
 refine ⟨_,
  (zj (zM (vh hr (jv 2) (jv 1)) (zk yy) zH)
  (zj (zM (zw wn (zI zC rfl m_len PySem.boot_len (ja_c (jv 3) zh)) (zI zC rfl m_len PySem.boot_len (ja_c (zt zA (yD hr (jv 1) (jv 2)) zi (fun _ _ => rfl)) zh)) (zy _)) (zk yy) zH)
  (zk (zF (xa ["parts"] rfl (yg (jv 3)) (fun _ _ _ _ _ => (zr (i := 4) V5 rfl (Or.inl rfl))) (fun _ _ _ _ _ => z9) (fun _ _ _ _ _ => (zv GG hr rfl zx (ja_c (jv 0) (ja_c (jv 4) zh))))))))), ?_⟩
 have sl := z6
 have gd : DGet H d (V.str n) (some (.ref one)) := by rw [<- hv]; exact DGet.k (k := .inr n) hd
 have la := hA.2.1
 refine ⟨_, rfl, _, rfl, d, _, rfl, gd, _, rfl, zX rfl (nxt ?_)⟩
 refine ⟨_, rfl, al, _, rfl, .inl (SqL.of hA.1), _, rfl, _, rfl, d, _, rfl, gd, one, _, _, _, rfl, rfl, SqT.of h1, zq (j := 1) rfl, pp, _, rfl, .inr (SqT.of hp), rfl, _, rfl, zX (by rw [List.length_map, List.length_map, la, ll]; simp) (nxt ?_)⟩
 refine ⟨_, rfl, _, rfl, ⟨_, SqL.of hA.1⟩, yK (xs := as.map V.ref) (fun j τ ys H' => Same H H' /\ (∃ v, τ = [some (.ref pk), some (.ref d), some (.str n), some (.ref al), v]) /\ ys.length = j /\ ∀ (i : Nat) u xs, ys[i]? = some u -> xss[i]? = some xs -> Pz (puts ks.flatten []) H' [u] xs) ⟨Same.refl _, ⟨none, rfl⟩, rfl, fun i u xs h => by simp at h⟩ (fun j τ ys H' _ h => SqL.of (h.1 _ _ hA.1)) ?_ ?_⟩
 ·rintro j v τ ys H2 hv ⟨s2, ⟨u, rfl⟩, ly, hys⟩
  rw [List.getElem?_map] at hv
  obtain ⟨a, ha, rfl⟩ := Option.map_eq_some_iff.mp hv
  have hj := (List.getElem?_eq_some_iff.mp ha).1
  obtain ⟨g1, g2⟩ := hA.2.2 j a _ ha (List.getElem?_eq_getElem (by omega))
  refine ⟨_, rfl, _, rfl, pk, a, ks, _, rfl, hK.keep (.of s2), hk, s2 _ _ g1, g2, fun H3 v s3 hv' => ⟨by omega, s2.trans s3, ⟨_, rfl⟩, by rw [List.length_append, ly]; rfl, fun i u xs h1 h2 => ?_⟩⟩
  by_cases c : i < ys.length
  ·rw [List.getElem?_append_left c] at h1
   exact (hys i u xs h1 h2).keep (.of s3)
  ·rw [List.getElem?_append_right (by omega)] at h1
   have : i - ys.length = 0 := by
    have := (List.getElem?_eq_some_iff.mp h1).1
    simp at this
    omega
   rw [this] at h1
   cases h1
   have e : i = j := by omega
   subst e
   rw [List.getElem?_eq_getElem (by omega)] at h2
   cases h2
   exact hv'
 ·rintro τ ys H2 ⟨s2, _, ly, hys⟩ l hl
  have n3 := zp hl (.lst ys)
  rw [List.length_map] at ly
  exact q _ l ys (s2.trans n3) zg (by omega) fun j u xs h1 h2 => (hys j u xs h1 h2).keep (.of n3)
end
end GN
namespace GN
open PySem L2 K11
theorem Wy : ∀ b : Bd, 0 < b.sz
 | .give _ => by show 0 < 1; decide
 | .iff _ b c => Nat.succ_pos _
 | .cs _ as => Nat.succ_pos _
def IsPB (H : Hp) (ks : List (List (Str × Nat))) (hd : Str) (ps : List Str) (b : Bd) (p : Addr) : Prop := ∃ pk pd one pp pb, H p = some (.tup [.ref pk, .ref pd]) /\ Kn H pk ks /\ H pd = some (.tup [.ref one]) /\ H one = some (.tup [.str hd, .ref pp, .ref pb]) /\ H pp = some (.tup (ps.map V.str)) /\ IsBd H b pb
theorem IsPB.keep {H H' : Hp} (t : Tups H H') {ks : List (List (Str × Nat))} {hd : Str} {ps : List Str} {b : Bd} {p : Addr} (h : IsPB H ks hd ps b p) : IsPB H' ks hd ps b p := by
 obtain ⟨pk, pd, one, pp, pb, a, b, c, d, e, f⟩ := h
 exact ⟨pk, pd, one, pp, pb, t _ _ a, b.keep t, t _ _ c, t _ _ d, t _ _ e, f.keep t⟩
structure PBOk (ks : List (List (Str × Nat))) (ps : List Str) (b : Bd) : Prop where
 k : KsOk ks
 n : ps.Nodup
 l : ps.length <= 100
 r : b.sz <= 700
 b : OkBd (puts ks.flatten []) ps b
def Wz (T : Addr) : Sp := fun vs H Q _ => ∃ (p al : Addr) (st : Int) (hd : Str) (ks : List (List (Str × Nat))) (ps : List Str) (b : Bd) (as : List Addr) (xss : List (List V)), vs = [.ref p, .str hd, .ref al, .int st] /\ IsPB H ks hd ps b p /\ PBOk ks ps b /\ Args H ks al as xss /\ ps.length = xss.length /\ Tb T H /\
 ∀ H' r, KT T H H' -> Tb T H' -> Ans H' r (goB (puts ks.flatten []) (ps.zip xss) b) -> Q (.ref r) H'
theorem Yb {H : Hp} {kvs : Kvs} : ∀ {ps : List Str} {us : List V} {xss : List (List V)}, ps.length = xss.length -> us.length = xss.length -> (∀ (j : Nat) u xs, us[j]? = some u -> xss[j]? = some xs -> Pz kvs H [u] xs) -> Ez kvs H (zkv ps us) (ps.zip xss)
 | [], [], [], _, _, _ => .nil
 | [], _ :: _, [], _, h, _ => by simp at h
 | _ :: _, _, [], h, _, _ => by simp at h
 | [], _, _ :: _, h, _, _ => by simp at h
 | _ :: _, [], _ :: _, _, h, _ => by simp at h
 | p :: ps, u :: us, xs :: xss, h1, h2, h3 => .cons (h3 0 u xs rfl rfl) (Yb (by simpa using h1) (by simpa using h2) fun j u xs a b => h3 (j + 1) u xs a b)
section
variable {P : Program} {w : World} {K : PySem.W.Frag} {mg : Str -> Option Value} {base : Heap} {f R C cR T : Addr} {fd : FuncData}
theorem V8 (F : Fun K "run" "run" sRun f fd) (N : Rn K cR) (X : Ft K mg C) (GY : Ca P w K mg base CX0 1 "by_name" ["defs"] spBy) (GB : Ca P w K mg base CX0 3 "begun_with" ["kinds", "defs", "name", "args"] jJ) (GM : Ma P w K mg base CX0 1 "Run" cR ["self", "defs", "steps"] (Z9 cR)) (GE : Me P w K mg base CX0 1 cR "begin_def" ["self", "name", "values"] (Ya cR)) (GO : Me P w K mg base (CXf P w) 6 cR "go_on" ["self"] (JE cR C T)) : FnOk P w K mg base CX0 7 f fd ["program", "name", "args", "steps"] (Wz T) := by
 refine F.by scRun (fun vs H Q E h => ?_) (fun cdv A outer s H vs Q E hr h => ?_)
 ·obtain ⟨p, al, st, hd, ks, ps, b, as, xss, rfl, _⟩ := h
  rfl
 obtain ⟨p, al, st, hd, ks, ps, b, as, xss, rfl, ⟨pk, pd, one, pp, pb, hp, hK, hpd, h1, hpp, hby⟩, hOk, hA, ll, hT, q⟩ := h
 have r1 : Room 1 _ := hr.mono (by decide)
 have r2 : Room 2 _ := hr.mono (by decide)
 have r3 : Room 3 _ := hr.mono (by decide)
 have r6 : Room 6 _ := hr.mono (by decide)
 obtain ⟨fi, M⟩ := X.cl
 refine ⟨_,
  (zj (zu (i := 4) scRun.nd rfl (Or.inl rfl) (zv GY r1 rfl zx (ja_c (zt zA (jv 0) zi (fun _ _ => rfl)) zh)))
  (zj (zu (i := 5) scRun.nd rfl (Or.inl rfl) (zv GB r3 rfl zx (ja_c (zt zA (jv 0) zi (fun _ _ => rfl)) (ja_c (jv 4) (ja_c (jv 1) (ja_c (jv 2) zh))))))
  (zj (zu (i := 6) scRun.nd rfl (Or.inl rfl) (QI GM r2 rfl zx (ja_c (jv 4) (ja_c (jv 3) zh))))
  (zj (zN (ZW (jv 6) N.cl GE r1 zx (ja_c (jv 1) (ja_c (jv 5) zh))))
  (zj (Wo (tb := fun D => _) (fun pins D ok => qL (VL K (jv 6))) (fun pins D ok => zk (zN (qK (jv 6) N.cl GO r6 (YL (QN (i := 7) (th := fun e oe => _) Qe scRun.nd rfl rfl X.m (fun e oe => zk (zF (zO (ja_c zL (ja_c (VJ (e := e) (oe := oe) List.mem_cons_self M X.fn X.hd (jv 7)) zh)))))) ok)))))
  (zk (zF (yU (jv 6))))))))), ?_⟩
 have sl := z6
 refine ⟨_, rfl, p, _, _, _, rfl, rfl, SqT.of hp, zq (j := 1) rfl, pd, one, hd, _, rfl, hpd, h1, fun H1 d s1 fd1 hd1 => ?_⟩
 refine ⟨_, rfl, p, _, _, _, rfl, rfl, SqT.of (s1 _ _ hp), rfl, _, rfl, _, rfl, _, rfl, pk, d, al, one, pp, pb, hd, ks, _, ps, as, xss, rfl, hK.keep (.of s1), hOk.k, hd1, zT rfl, s1 _ _ h1, s1 _ _ hpp, hA.same s1, ll, hOk.l, fun H2 vl us s2 hvl lus hus => ?_⟩
 have s12 := s1.trans s2
 refine ⟨_, rfl, _, rfl, fun r dx hr0 hdx0 ndx => ?_⟩
 have n3 := (zp hdx0 (.own r)).new (o := .ins cR dx []) (by rw [zm (Ne.symm ndx)]; exact hr0)
 have hr3 := zg (H := upd H2 dx (.own r)) (a := r) (o := .ins cR dx [])
 have fr3 : H r = none := s12.free hr0
 generalize upd (upd H2 dx (.own r)) r (.ins cR dx []) = H3 at *
 have s13 := s12.trans n3
 refine ⟨r, dx, d, st, rfl, hr3, fun H4 wl nd k4 fwl fnd hr4 hwl hnd => ⟨rfl, ?_⟩⟩
 have fz : ∀ {z : Addr}, H3 z = none -> H z = none := fun {z} e => s13.free e
 have fwl' := fz fwl
 have fnd0 := fz fnd
 have kt4 : KT T H H4 := (KT.of s13).kx k4 fun z hz => .inr (by rw [List.mem_singleton.mp hz]; exact fr3)
 have keep4 : ∀ {z : Addr} {o : HO}, H2 z = some o -> H4 z = some o := fun {z o} e => k4 _ _ (by
  intro c
  rw [List.mem_singleton.mp c, hr0] at e
  cases e) (n3 _ _ e)
 have hd4 := keep4 (s2 _ _ hd1)
 have h14 := keep4 (s12 _ _ h1)
 have hpp4 := keep4 (s12 _ _ hpp)
 have hvl4 := keep4 hvl
 have tu4 : Tups H2 H4 := fun z xs e => keep4 e
 obtain ⟨tb0, hTb0⟩ := hT.tbl
 have T4 : Tb T H4 := by
  obtain ⟨ps0, e1, e2⟩ := hT
  refine ⟨ps0, keep4 (s12 _ _ e1), ?_⟩
  rcases e2 with e2 | ⟨c, e2, e3⟩
  ·exact .inl e2
  ·exact .inr ⟨c, e2, keep4 (s12 _ _ e3)⟩
 refine ⟨_, rfl, r, dx, _, rfl, hr4, rfl, _, rfl, _, rfl, r, dx, d, wl, nd, vl, one, pp, pb, st, .non, hd, _, ps, us, rfl, hr4, hd4, zT rfl, h14, hpp4, hOk.n, hvl4, by omega, fun H5 nd' k5 fnd' hr5 hnd5 => ?_⟩
 have fnd1 : H nd' = none := by
  cases c : H nd' with
  | none => rfl
  | some o =>
   rw [keep4 (s12 _ _ c)] at fnd'
   cases fnd'
 have kt5 : KT T H H5 := kt4.kx k5 fun z hz => .inr (by rw [List.mem_singleton.mp hz]; exact fr3)
 have hwl5 : H5 wl = some (.lst []) := k5 _ _ (by
  intro c
  rw [List.mem_singleton.mp c, hr4] at hwl
  cases hwl) hwl
 have T5 : Tb T H5 := T4.kx k5 fun z hz => .inl (by rw [List.mem_singleton.mp hz]; exact ⟨_, _, _, hr4⟩)
 have tu5 : Tups H4 H5 := k5.tups fun a ha xs z => by
  rw [List.mem_singleton.mp ha, hr4] at z
  cases z
 have hE5 : Ez (puts ks.flatten []) H5 (zkv ps us) (ps.zip xss) := Yb ll lus fun j u xs h1 h2 => ((hus j u xs h1 h2).keep tu4).keep tu5
 have lz : (zkv ps us).length <= 100 := by
  unfold zkv
  rw [List.length_map, List.length_zip]
  have := hOk.l
  omega
 have hby5 : IsBd H5 b pb := ((hby.keep (.of s12)).keep tu4).keep tu5
 have rr := hOk.r
 refine ⟨fun m σ H' => σ = [some (.ref p), some (.str hd), some (.ref al), some (.int st), some (.ref d), some (.ref vl), some (.ref r), none] /\ KT T H H' /\ Tb T H' /\ H' wl = some (.lst []) /\ ((∃ (kvs : List (Key × V)) (e : En) (ks' : List Str) (b' : Bd) (pb' : Addr), m = b'.sz /\ 0 < b'.sz /\ H' r = some (RO cR dx d st wl (.ref pb') nd' .non) /\ H' nd' = some (.dK kvs) /\ kvs.length + b'.sz <= 900 /\ Ez (puts ks.flatten []) H' kvs e /\ Bnd ks' e /\ OkBd (puts ks.flatten []) ks' b' /\ IsBd H' b' pb' /\ goB (puts ks.flatten []) e b' = goB (puts ks.flatten []) (ps.zip xss) b) \/ (m = 0 /\ ∃ tp pb', H' r = some (RO cR dx d st wl (.ref pb') nd' (.ref tp)) /\ Ans H' tp (goB (puts ks.flatten []) (ps.zip xss) b))), ⟨_, rfl, kt5, T5, hwl5, .inl ⟨_, _, ps, b, pb, rfl, Wy b, hr5, hnd5, by omega, hE5, vP ll, hOk.b, hby5, rfl⟩⟩, ?_⟩
 rintro m σ H6 ⟨rfl, kt6, T6, hwl6, hcase⟩
 obtain ⟨tb6, hTb6⟩ := T6.tbl
 rcases hcase with ⟨kvs, e, ks', b', pb', rfl, bpos, hr6, hnd6, lk, hE6, hB6, hO6, hby6, hgo⟩ | ⟨rfl, tp, pb', hr6, hAns⟩
 ·have nwr : wl ≠ r := fun z => by
   rw [z, hr6] at hwl6
   cases hwl6
  have nwT : wl ≠ T := fun z => by
   rw [z, hTb6] at hwl6
   cases hwl6
  have nwn : wl ≠ nd' := fun z => by
   rw [z, hnd6] at hwl6
   cases hwl6
  refine ⟨_, rfl, r, cR, dx, _, _, rfl, hr6, N.cl, N.a7, rfl, _, rfl, yC (decide_eq_true rfl) ⟨_, fun _ _ h => h, ?_⟩⟩
  refine ⟨_, rfl, r, dx, _, rfl, hr6, rfl, r, dx, d, wl, nd', pb', st, _, kvs, e, ks', b', rfl, hr6, hwl6, T6, hnd6, lk, hE6, hB6, hO6, hby6, fun H7 tp o k7 T7 g1 g2 g3 => ?_, fun H7 kvs' e' ns' b2 pb2 k7 g1 g2 g3 g4 g5 g6 g7 g8 g9 => ?_, fun ww hw dd' H7 s7 hdd => ?_⟩
  ·refine ⟨0, bpos, rfl, kt6.kx k7 (fun z hz => ?_), T7, k7 _ _ (by simp [nwr, nwT]) hwl6, .inr ⟨rfl, tp, pb', g1, ?_⟩⟩
   ·rcases List.mem_cons.mp hz with e1 | e1
    ·rw [e1]; exact .inr fr3
    ·exact .inl (List.mem_singleton.mp e1)
   ·rw [<- hgo, g3]
    exact g2
  ·refine ⟨b2.sz, g4, rfl, kt6.kx k7 (fun z hz => ?_), T6.kx k7 (fun z hz => ?_), k7 _ _ (by simp [nwr, nwn]) hwl6, .inl ⟨kvs', e', ns', b2, pb2, rfl, Wy b2, g1, g2, g3, g5, g6, g7, g8, by rw [g9]; exact hgo⟩⟩
   ·rcases List.mem_cons.mp hz with e1 | e1
    ·rw [e1]; exact .inr fr3
    ·rw [List.mem_singleton.mp e1]; exact .inr fnd1
   ·rcases List.mem_cons.mp hz with e1 | e1
    ·rw [e1]; exact .inl ⟨_, _, _, hr6⟩
    ·rw [List.mem_singleton.mp e1]; exact .inr ⟨_, hnd6⟩
  ·refine .inl ⟨X.ex, fun e' oe ws σ' hσ hc hdx hdt _ _ => ?_⟩
   have hσ : σ'.length = 8 := hσ
   refine ⟨_, by rw [List.getElem?_set_self (by omega)], rfl, hc, ⟨ws, hdt⟩, dd', _, _, hdx, hdd, rfl, by show 2 <= sizeLine; decide, fun tp htp => ?_⟩
   have n8 := zp htp (.tup [.str "fault", .str ww])
   have s8 := s7.trans n8
   refine q _ tp (fun c u n h => s8 _ _ (kt6 c u n h)) (T6.same s8) ?_
   rw [<- hgo, hw]
   exact zg
 ·refine ⟨_, rfl, r, cR, dx, _, _, rfl, hr6, N.cl, N.a7, rfl, _, rfl, zX (decide_eq_false (by intro z; cases z)) ?_⟩
  exact ⟨_, rfl, r, cR, dx, _, _, rfl, hr6, N.cl, N.a7, rfl, q _ tp kt6 T6 hAns⟩
end
end GN
namespace GN
open PySem L2 K11
structure Tg where
 t : Str
 ss : List Nat
 kd : Nat
abbrev nts (l : List Nat) : List V := l.map fun s : Nat => V.int (s : Nat)
def IsTgs (H : Hp) (tg : Addr) (ts : List Addr) (tgs : List Tg) : Prop := H tg = some (.lst (ts.map V.ref)) /\ ts.length = tgs.length /\ ∀ (i : Nat) p g, ts[i]? = some p -> tgs[i]? = some g -> ∃ l, H p = some (.tup [.str g.t, .ref l, .int (g.kd : Nat)]) /\ H l = some (.lst (nts g.ss))
theorem QQ (l : List Nat) : nts l = (l.map fun s : Nat => (s : Int)).map V.int := by
 unfold nts
 rw [List.map_map]
 rfl
theorem IsTgs.same {H H' : Hp} {tg : Addr} {ts : List Addr} {tgs : List Tg} (h : IsTgs H tg ts tgs) (s : Same H H') : IsTgs H' tg ts tgs := ⟨s _ _ h.1, h.2.1, fun i p g h1 h2 => let ⟨l, a, b⟩ := h.2.2 i p g h1 h2; ⟨l, s _ _ a, s _ _ b⟩⟩
theorem Sta.neN {K : PySem.W.Frag} {H : Hp} {st p : Addr} {B : Nat} {l : List Nat} (S : Sta K H st B) (h : H p = some (.lst (nts l))) : p ≠ st := S.neI (ts := l.map fun s : Nat => (s : Int)) (by rw [h, QQ])
theorem IsTgs.kp {K : PySem.W.Frag} {H H' : Hp} {st tg : Addr} {B : Nat} {ts : List Addr} {tgs : List Tg} (h : IsTgs H tg ts tgs) (k : Kp st H H') (S : Sta K H st B) : IsTgs H' tg ts tgs := ⟨k.k _ _ (S.neR h.1) h.1, h.2.1, fun i p g h1 h2 => let ⟨l, a, b⟩ := h.2.2 i p g h1 h2; ⟨l, k.tups S _ _ a, k.k _ _ (S.neN b) b⟩⟩
def TgE (z : Str) (b : Bool) (i : Nat) (g : Tg) : Prop := g.t = nm z b i /\ g.ss.length <= 3 /\ (∀ s ∈ g.ss, s < 3) /\ g.kd = (if i < 3 then 1 else if i = 3 then 2 else 3) /\ (i = 0 -> g.ss = [])
structure TgOk (z : Str) (b : Bool) (tgs : List Tg) : Prop where
 l : 5 <= tgs.length
 m : tgs.length <= 24
 e : ∀ (i : Nat) g, tgs[i]? = some g -> TgE z b i g
def Yc (K : PySem.W.Frag) : Sp := fun vs H Q _ => ∃ (st : Addr) (B lo hi : Nat), vs = [.ref st, .int (lo : Nat), .int (hi : Nat)] /\ Sta K H st B /\ B + 10 < LIM /\ lo <= hi /\ hi <= 3 /\ ∀ (H' : Hp) (l : Addr) (ss : List Nat), Kp st H H' -> Sta K H' st (B + 4) -> H l = none -> H' l = some (.lst (nts ss)) -> lo <= ss.length -> ss.length <= hi -> (∀ s ∈ ss, s < 3) -> Q (.ref l) H'
def WA (K : PySem.W.Frag) : Sp := fun vs H Q _ => ∃ (st wp : Addr) (B : Nat) (z : Str) (b : Bool), vs = [.ref st, .ref wp] /\ Sta K H st B /\ B + 100 < LIM /\ H wp = some (.lst [.str z, .bl b]) /\ wp ≠ st /\ z.length <= 6 /\ ∀ (H' : Hp) (tg : Addr) (ts : List Addr) (tgs : List Tg), Kp st H H' -> Sta K H' st (B + 40) -> H tg = none -> IsTgs H' tg ts tgs -> TgOk z b tgs -> Q (.ref tg) H'
section
variable {P : Program} {w : World} {K : PySem.W.Frag} {mg : Str -> Option Value} {base : Heap} {f T : Addr} {fd : FuncData}
theorem V9 : FnScope ["_law_state", "_law_least", "_law_most"] ["_law_state", "_law_least", "_law_most"] (zo Zm) := ⟨rfl, rfl, rfl, by decide +kernel, rfl, by decide +kernel, by decide +kernel⟩
theorem Ja : (["_law_state", "_law_least", "_law_most", "_law_k"] : List Str).Nodup := by decide +kernel
theorem WB (F : Fun K "_law_sorts" "_law_sorts" Zm f fd) (GD : Ca P w K mg base CX0 1 "_law_draw" ["_law_state", "_law_many"] (yB K)) (m_range : mg "range" = none) : FnOk P w K mg base CX0 2 f fd ["_law_state", "_law_least", "_law_most"] (Yc K) := by
 refine F.by V9 (fun vs H Q E h => ?_) (fun cdv A outer s H vs Q E hr h => ?_)
 ·obtain ⟨st, B, lo, hi, rfl, _⟩ := h
  rfl
 obtain ⟨st, B, lo, hi, rfl, S0, hB, hlo, h3, q⟩ := h
 refine ⟨_, (zk (zF (xa ["_law_k"] rfl (zW rfl m_range (ja_c (zB yj (jv 1) (zv GD hr rfl zx (ja_c (jv 0) (ja_c (zB yR (zB yj (jv 2) zi) (jv 1)) zh)))) zh)) (fun _ _ _ _ _ => (zr (i := 3) Ja rfl (Or.inl rfl))) (fun _ _ _ _ _ => z9) (fun _ _ _ _ _ => (zv GD hr rfl zx (ja_c (jv 0) (ja_c zi zh))))))), ?_⟩
 have sl := z6
 have LM : LIM = 4611686018427387904 := rfl
 refine ⟨_, rfl, _, rfl, _, rfl, _, _, rfl, rfl, _, rfl, _, _, rfl, rfl, st, _, B, rfl, S0, by omega, by omega, fun H1 r k1 S1 r0 r1 => ?_⟩
 obtain ⟨n, rfl⟩ : ∃ n : Nat, r = (n : Int) := ⟨r.toNat, by omega⟩
 refine ⟨_, _, rfl, rfl, _, rfl, by show -(2 ^ 62) <= ((lo : Int) + (n : Int)); omega, by show ((lo : Int) + (n : Int)) < 2 ^ 62; omega, ym (fun j τ ys H' => Kp st H1 H' /\ Sta K H' st (B + 1 + j) /\ (∃ v, τ = [some (.ref st), some (.int (lo : Nat)), some (.int (hi : Nat)), v]) /\ ∃ ss : List Nat, ys = nts ss /\ ss.length = j /\ ∀ s ∈ ss, s < 3) ⟨Kp.refl, S1, ⟨none, rfl⟩, [], rfl, rfl, fun s h => by cases h⟩ ?_ ?_⟩
 ·rintro j τ ys H2 hj ⟨k2, S2, ⟨v, rfl⟩, ss, rfl, ls, hs⟩
  have hj' : j < lo + n := by
   have : ((lo : Int) + (n : Int)).toNat = lo + n := by omega
   rw [<- this]; exact hj
  refine ⟨_, rfl, st, 3, _, rfl, S2, by omega, by decide, fun H3 m k3 S3 m0 m3 => ?_⟩
  obtain ⟨m, rfl⟩ : ∃ m' : Nat, m = (m' : Int) := ⟨m.toNat, by omega⟩
  refine ⟨by rw [List.length_map]; omega, k2.trans k3, S3, ⟨_, rfl⟩, ss ++ [m], by unfold nts; rw [List.map_append]; rfl, by rw [List.length_append, ls]; rfl, fun s hs' => ?_⟩
  rcases List.mem_append.mp hs' with h | h
  ·exact hs s h
  ·rw [List.mem_singleton.mp h]; omega
 ·rintro τ ys H2 ⟨k2, S2, _, ss, rfl, ls, hs⟩ l hl
  have e : ((lo : Int) + (n : Int)).toNat = lo + n := by omega
  rw [e] at ls S2
  have n3 := zp hl (.lst (nts ss))
  exact q _ l ss ((k1.trans k2).trans (.of n3)) ((S2.same n3).mono (by omega)) ((k1.trans k2).free (S2.ne hl) hl) zg (by omega) (by omega) hs
theorem scTags : FnScope ["_law_state", "_law_world", "_law_some", "_law_tags_here", "_law_k"] ["_law_state", "_law_world"] (zo XX) := ⟨rfl, rfl, rfl, by decide +kernel, rfl, by decide +kernel, by decide +kernel⟩
theorem Jb (F : Fun K "_law_tags" "_law_tags" XX f fd) (GD : Ca P w K mg base CX0 1 "_law_draw" ["_law_state", "_law_many"] (yB K)) (GM : Ca P w K mg base CX0 1 "_law_name" ["_law_world", "_law_k"] spNm) (GS : Ca P w K mg base CX0 2 "_law_sorts" ["_law_state", "_law_least", "_law_most"] (Yc K)) (m_range : mg "range" = none) : FnOk P w K mg base CX0 3 f fd ["_law_state", "_law_world"] (WA K) := by
 refine F.by scTags (fun vs H Q E h => ?_) (fun cdv A outer s H vs Q E hr h => ?_)
 ·obtain ⟨st, wp, B, z, b, rfl, _⟩ := h
  rfl
 obtain ⟨st, wp, B, z, b, rfl, S0, hB, hw, nw, hz, q⟩ := h
 have r1 : Room 1 _ := hr.mono (by decide)
 refine ⟨_,
  (zj (zu (i := 2) scTags.nd rfl (by first | exact Or.inl rfl | exact Or.inr rfl) (zV (ja_c (zV zh) (ja_c (zv GS hr rfl zx (ja_c (jv 0) (ja_c zi (ja_c zi zh)))) (ja_c (zv GS hr rfl zx (ja_c (jv 0) (ja_c zi (ja_c zi zh)))) (ja_c (zv GS hr rfl zx (ja_c (jv 0) (ja_c zi (ja_c zi zh)))) zh))))))
  (zj (jh [4] [] (i := 3) scTags.nd rfl (Or.inl rfl) rfl (zW rfl m_range (ja_c zi zh)) (fun _ _ _ _ _ => (zr (i := 4) scTags.nd rfl (Or.inl rfl))) (fun _ _ _ _ _ => z9) (fun _ _ _ _ _ => (zO (ja_c (zv GM r1 rfl zx (ja_c (jv 1) (ja_c (jv 4) zh))) (ja_c (zt (jt K) (jv 2) (jv 4) (fun _ _ => rfl)) (ja_c (zB yj zi (zB xb (jv 4) zi)) zh))))))
  (zj (yp PassesOwn.never rfl (zW rfl m_range (ja_c (zB yj zi (zv GD r1 rfl zx (ja_c (jv 0) (ja_c zi zh)))) zh)) (zr (i := 4) scTags.nd rfl (Or.inl rfl))
   (zk (zN (yN PySem.F.plainAttrs_list PySem.F.slot_list_append PySem.F.type_list_append yb (jv 3) (ja_c (zO (ja_c (zv GM r1 rfl zx (ja_c (jv 1) (ja_c (zB yj zi (jv 4)) zh))) (ja_c (zB qN (zV (ja_c zi zh)) (zv GD r1 rfl zx (ja_c (jv 0) (ja_c zi zh)))) (ja_c zi zh)))) zh)))))
  (zk (zF (jv 3)))))), ?_⟩
 have sl := z6
 have LM : LIM = 4611686018427387904 := rfl
 refine ⟨by show 0 <= sizeLine; decide, fun l0 h0 => ?_⟩
 have o0 := zp h0 (.lst [])
 have e0 := zg (H := H) (a := l0) (o := .lst [])
 have S1 := S0.same o0
 have k1 : Kp st H (upd H l0 (.lst [])) := .of o0
 generalize upd H l0 (.lst []) = H1 at *
 have e0' : H1 l0 = some (.lst (nts [])) := e0
 refine ⟨_, rfl, st, _, 1, 3, rfl, S1, by omega, by decide, by decide, fun H2 l1 s1 k2 S2 f1 e1 a1 b1 c1 => ?_⟩
 refine ⟨_, rfl, st, _, 0, 2, rfl, S2, by omega, by decide, by decide, fun H3 l2 s2 k3 S3 f2 e2 a2 b2 c2 => ?_⟩
 refine ⟨_, rfl, st, _, 1, 3, rfl, S3, by omega, by decide, by decide, fun H4 l3 s3 k4 S4 f3 e3 a3 b3 c3 => ?_⟩
 refine ⟨by show 4 <= sizeLine; decide, fun ls hls => ?_⟩
 have o5 := zp hls (.lst [V.ref l0, V.ref l1, V.ref l2, V.ref l3])
 have e5 := zg (H := H4) (a := ls) (o := .lst [V.ref l0, V.ref l1, V.ref l2, V.ref l3])
 have S5 := S4.same o5
 have k5 : Kp st H (upd H4 ls (.lst [V.ref l0, V.ref l1, V.ref l2, V.ref l3])) := (((k1.trans k2).trans k3).trans k4).trans (.of o5)
 have x0 := o5 _ _ (((k2.trans k3).trans k4).k _ _ (S1.neN e0') e0')
 have x1 := o5 _ _ ((k3.trans k4).k _ _ (S2.neN e1) e1)
 have x2 := o5 _ _ (k4.k _ _ (S3.neN e2) e2)
 have x3 := o5 _ _ e3
 have hw5 := k5.k _ _ nw hw
 generalize upd H4 ls (.lst [V.ref l0, V.ref l1, V.ref l2, V.ref l3]) = H5 at *
 obtain ⟨sss, esss⟩ : ∃ sss : List (List Nat), sss = [[], s1, s2, s3] := ⟨_, rfl⟩
 obtain ⟨lls, ells⟩ : ∃ lls : List Addr, lls = [l0, l1, l2, l3] := ⟨_, rfl⟩
 have hll : ∀ (i : Nat) l ss, lls[i]? = some l -> sss[i]? = some ss -> H5 l = some (.lst (nts ss)) /\ ss.length <= 3 /\ (∀ s ∈ ss, s < 3) /\ (i = 0 -> ss = []) := fun i l ss g1 g2 => by
  rw [ells] at g1
  rw [esss] at g2
  match i, g1, g2 with
  | 0, g1, g2 => cases g1; cases g2; exact ⟨x0, by decide, (fun s h => by cases h), fun _ => rfl⟩
  | 1, g1, g2 => cases g1; cases g2; exact ⟨x1, b1, c1, fun h => absurd h (by decide)⟩
  | 2, g1, g2 => cases g1; cases g2; exact ⟨x2, by omega, c2, fun h => absurd h (by decide)⟩
  | 3, g1, g2 => cases g1; cases g2; exact ⟨x3, b3, c3, fun h => absurd h (by decide)⟩
  | i + 4, g1, _ => simp at g1
 have em : [V.ref l0, V.ref l1, V.ref l2, V.ref l3] = lls.map V.ref := by rw [ells]; rfl
 rw [em] at e5
 have l4 : lls.length = 4 := by rw [ells]; rfl
 have l4' : sss.length = 4 := by rw [esss]; rfl
 refine ⟨_, rfl, by show -(2 ^ 62) <= (4 : Int); decide, by show (4 : Int) < 2 ^ 62; decide, ym (fun j τ ys H' => Same H5 H' /\ (∃ v, τ = [some (.ref st), some (.ref wp), some (.ref ls), none, v]) /\ ∃ (ts : List Addr) (tgs : List Tg), ys = ts.map V.ref /\ ts.length = j /\ tgs.length = j /\ ∀ (i : Nat) p g, ts[i]? = some p -> tgs[i]? = some g -> TgE z b i g /\ ∃ l, H' p = some (.tup [.str g.t, .ref l, .int (g.kd : Nat)]) /\ H' l = some (.lst (nts g.ss))) ⟨Same.refl _, ⟨none, rfl⟩, [], [], rfl, rfl, rfl, fun i p g h => by simp at h⟩ ?_ ?_⟩
 ·rintro j τ ys H6 hj ⟨o6, ⟨v, rfl⟩, ts, tgs, rfl, lt, lg, hT⟩
  have hj : j < 4 := hj
  have ez : ((0 : Int) + ((j : Nat) : Int)) = ((j : Nat) : Int) := by omega
  rw [ez]
  obtain ⟨l, hl⟩ : ∃ l, lls[j]? = some l := ⟨_, List.getElem?_eq_getElem (by omega)⟩
  obtain ⟨ss, hss⟩ : ∃ ss, sss[j]? = some ss := ⟨_, List.getElem?_eq_getElem (by omega)⟩
  obtain ⟨y1, y2, y3, y4⟩ := hll j l ss hl hss
  refine ⟨_, rfl, _, rfl, wp, z, b, [], j, rfl, o6 _ _ hw5, hz, _, rfl, _, rfl, ls, _, _, _, rfl, rfl, SqL.of (o6 _ _ e5), zq (by rw [List.getElem?_map, hl]; rfl), _, rfl, _, _, rfl, rfl, ⟨by decide, by decide⟩, _, _, rfl, rfl, by show 3 <= sizeLine; decide, fun t ht => ⟨by rw [List.length_map]; omega, o6.new ht, ⟨_, rfl⟩, ts ++ [t], tgs ++ [⟨nm z b j, ss, 1 + j / 3⟩], by rw [List.map_append]; rfl, by rw [List.length_append, lt]; rfl, by rw [List.length_append, lg]; rfl, fun i p g g1 g2 => ?_⟩⟩
  by_cases c : i < j
  ·rw [List.getElem?_append_left (by omega)] at g1 g2
   obtain ⟨z1, l', z2, z3⟩ := hT i p g g1 g2
   exact ⟨z1, l', old ht z2, old ht z3⟩
  ·rw [List.getElem?_append_right (by omega)] at g1 g2
   have hi : i = j := by
    have := (List.getElem?_eq_some_iff.mp g1).1
    simp at this
    omega
   subst hi
   rw [lt, Nat.sub_self] at g1
   rw [lg, Nat.sub_self] at g2
   cases g1
   cases g2
   refine ⟨⟨rfl, y2, y3, ?_, y4⟩, l, by rw [show ((1 + i / 3 : Nat) : Int) = 1 + ((i : Nat) : Int) / 3 by omega]; exact zg, old ht (o6 _ _ y1)⟩
   show 1 + i / 3 = _
   by_cases c3 : i < 3
   ·rw [if_pos c3]; omega
   ·rw [if_neg c3, if_pos (by omega)]; omega
 rintro τ ys H6 ⟨o6, _, ts, tgs, rfl, lt, lg, hT⟩ tg htg
 have lt : ts.length = 4 := lt
 have lg : tgs.length = 4 := lg
 have o7 := o6.new (o := .lst (ts.map V.ref)) htg
 have e7 := zg (H := H6) (a := tg) (o := .lst (ts.map V.ref))
 have S7 := S5.same o7
 have ftg5 : H5 tg = none := o6.free htg
 have ntg : tg ≠ st := S5.ne ftg5
 have ftg : H tg = none := k5.free ntg ftg5
 have hT7 : ∀ (i : Nat) p g, ts[i]? = some p -> tgs[i]? = some g -> TgE z b i g /\ ∃ l, upd H6 tg (.lst (ts.map V.ref)) p = some (.tup [.str g.t, .ref l, .int (g.kd : Nat)]) /\ upd H6 tg (.lst (ts.map V.ref)) l = some (.lst (nts g.ss)) := fun i p g g1 g2 => by
  obtain ⟨z1, l', z2, z3⟩ := hT i p g g1 g2
  exact ⟨z1, l', old htg z2, old htg z3⟩
 generalize upd H6 tg (.lst (ts.map V.ref)) = H7 at *
 dsimp only [List.set]
 refine ⟨_, rfl, st, 20, _, rfl, S7, by omega, by decide, fun H8 mi k8 S8 m0 m20 => ?_⟩
 obtain ⟨m, rfl⟩ : ∃ m : Nat, mi = (m : Int) := ⟨mi.toNat, by omega⟩
 have k78 : Kp st H5 H8 := (Kp.of o7).trans k8
 refine ⟨_, _, rfl, rfl, _, rfl, by show -(2 ^ 62) <= (1 + (m : Int)); omega, by show (1 + (m : Int)) < 2 ^ 62; omega, wM (fun i σ H' => Kp st H5 H' /\ Sta K H' st (B + 13 + i) /\ (∃ x4, σ = [some (.ref st), some (.ref wp), some (.ref ls), some (.ref tg), x4]) /\ ∃ (ts : List Addr) (tgs : List Tg), H' tg = some (.lst (ts.map V.ref)) /\ ts.length = 4 + i /\ tgs.length = 4 + i /\ ∀ (j : Nat) p g, ts[j]? = some p -> tgs[j]? = some g -> TgE z b j g /\ ∃ l, l ≠ tg /\ H' p = some (.tup [.str g.t, .ref l, .int (g.kd : Nat)]) /\ H' l = some (.lst (nts g.ss))) ⟨k78, S8.mono (by omega), ⟨none, rfl⟩, ts, tgs, k8.k _ _ ntg e7, lt, lg, fun j p g g1 g2 => ?_⟩ ?_ ?_⟩
 ·obtain ⟨z1, l', z2, z3⟩ := hT7 j p g g1 g2
  refine ⟨z1, l', ?_, k8.tups S7 _ _ z2, k8.k _ _ (S7.neN z3) z3⟩
  obtain ⟨_, l'', z4, z5⟩ := hT j p g g1 g2
  intro e
  rw [e] at z3
  have := z3.symm.trans e7
  injection this with this
  injection this with this
  cases ts with
  | nil => simp at lt
  | cons t0 tr =>
   cases hg : g.ss with
   | nil => rw [hg] at this; cases this
   | cons s0 sr => rw [hg] at this; cases this
 ·rintro i σ H9 hi ⟨k9, S9, ⟨x4, rfl⟩, ts, tgs, e9, lt9, lg9, h9⟩
  have hi' : i < 1 + m := by
   have : (1 + ((m : Nat) : Int)).toNat = 1 + m := by omega
   rw [<- this]; exact hi
  have ez : ((0 : Int) + ((i : Nat) : Int)) = ((i : Nat) : Int) := by omega
  rw [ez]
  have hw9 := k9.k _ _ nw hw5
  refine ⟨_, rfl, .inl ⟨rfl, _, SqL.of e9⟩, _, rfl, _, rfl, _, _, rfl, rfl, wp, z, b, [], 4 + i, by rw [show ((4 + i : Nat) : Int) = 4 + ((i : Nat) : Int) by omega]; rfl, hw9, hz, by show 1 <= sizeLine; decide, fun la hla => ?_⟩
  have oa := zp hla (.lst [V.int 0])
  have ea := zg (H := H9) (a := la) (o := .lst [V.int 0])
  have Sa := S9.same oa
  have ka : Kp st H5 (upd H9 la (.lst [V.int 0])) := k9.trans (.of oa)
  have na : la ≠ st := S9.ne hla
  generalize upd H9 la (.lst [V.int 0]) = Ha at *
  refine ⟨_, rfl, st, 2, _, rfl, Sa, by omega, by decide, fun Hb r kb Sb r0 r2 => ?_⟩
  obtain ⟨rr, rfl⟩ : ∃ r' : Nat, r = (r' : Int) := ⟨r.toNat, by omega⟩
  refine ⟨la, _, _, rfl, rfl, kb.k _ _ na ea, by omega, by omega, by show 1 * _ <= _; omega, fun lr hlr => ?_⟩
  have er : (List.replicate ((rr : Nat) : Int).toNat [V.int 0]).flatten = nts (List.replicate rr 0) := by
   rw [show ((rr : Nat) : Int).toNat = rr by omega]
   unfold nts
   rw [List.map_replicate]
   clear r0 r2
   induction rr with
   | zero => rfl
   | succ n ih => rw [List.replicate_succ, List.flatten_cons, ih, List.replicate_succ]; rfl
  rw [er]
  refine ⟨by show 3 <= sizeLine; decide, fun t ht => ?_⟩
  have oc := (zp hlr (.lst (nts (List.replicate rr 0)))).new (o := .tup [.str (nm z b (4 + i)), .ref lr, .int 3]) ht
  have f1 := old (o := .tup [.str (nm z b (4 + i)), .ref lr, .int 3]) ht (zg (H := Hb) (a := lr) (o := .lst (nts (List.replicate rr 0))))
  have f2 := zg (H := upd Hb lr (.lst (nts (List.replicate rr 0)))) (a := t) (o := .tup [.str (nm z b (4 + i)), .ref lr, .int 3])
  have kc : Kp st H5 (upd (upd Hb lr (.lst (nts (List.replicate rr 0)))) t (.tup [.str (nm z b (4 + i)), .ref lr, .int 3])) := (ka.trans kb).trans (.of oc)
  have Sc := Sb.same oc
  have etb := kb.k _ _ ntg (oa _ _ e9)
  have nlr : lr ≠ tg := fun e => by rw [e, etb] at hlr; cases hlr
  have h9c : ∀ (j : Nat) p g, ts[j]? = some p -> tgs[j]? = some g -> TgE z b j g /\ ∃ l, l ≠ tg /\ upd (upd Hb lr (.lst (nts (List.replicate rr 0)))) t (.tup [.str (nm z b (4 + i)), .ref lr, .int 3]) p = some (.tup [.str g.t, .ref l, .int (g.kd : Nat)]) /\ upd (upd Hb lr (.lst (nts (List.replicate rr 0)))) t (.tup [.str (nm z b (4 + i)), .ref lr, .int 3]) l = some (.lst (nts g.ss)) := fun j p g g1 g2 => by
   obtain ⟨z1, l', z2, z3, z4⟩ := h9 j p g g1 g2
   exact ⟨z1, l', z2, oc _ _ (kb.tups Sa _ _ (oa _ _ z3)), oc _ _ (kb.k _ _ (Sa.neN (oa _ _ z4)) (oa _ _ z4))⟩
  have etc := oc _ _ etb
  generalize upd (upd Hb lr (.lst (nts (List.replicate rr 0)))) t (.tup [.str (nm z b (4 + i)), .ref lr, .int 3]) = Hc at *
  refine ⟨tg, _, _, rfl, rfl, etc, by rw [List.length_map]; omega, ?_⟩
  have ne : ∀ {c : Addr} {xs : List V}, Hc c = some (.tup xs) -> c ≠ tg := fun {c xs} h e => by
   rw [e, etc] at h
   cases h
  refine ⟨kc.put ftg5, ((S5.put ftg5 kc Sc).mono (by omega)), ⟨_, rfl⟩, ts ++ [t], tgs ++ [⟨nm z b (4 + i), List.replicate rr 0, 3⟩], by rw [zg, List.map_append]; rfl, by rw [List.length_append, lt9]; show 4 + i + 1 = _; omega, by rw [List.length_append, lg9]; show 4 + i + 1 = _; omega, fun j p g g1 g2 => ?_⟩
  by_cases c : j < 4 + i
  ·rw [List.getElem?_append_left (by omega)] at g1 g2
   obtain ⟨z1, l', z2, z3, z4⟩ := h9c j p g g1 g2
   exact ⟨z1, l', z2, by rw [zm (ne z3)]; exact z3, by rw [zm z2]; exact z4⟩
  ·rw [List.getElem?_append_right (by omega)] at g1 g2
   have hj : j = 4 + i := by
    have := (List.getElem?_eq_some_iff.mp g1).1
    simp at this
    omega
   subst hj
   rw [lt9, Nat.sub_self] at g1
   rw [lg9, Nat.sub_self] at g2
   cases g1
   cases g2
   refine ⟨⟨rfl, by show (List.replicate rr 0).length <= 3; rw [List.length_replicate]; omega, fun s hs => by rw [List.eq_of_mem_replicate hs]; decide, ?_, fun h => absurd h (by omega)⟩, lr, nlr, by rw [zm (ne f2)]; exact f2, by rw [zm nlr]; exact f1⟩
   rw [if_neg (by omega), if_neg (by omega)]
 ·rintro σ H9 ⟨k9, S9, ⟨x4, rfl⟩, ts, tgs, e9, lt9, lg9, h9⟩
  have : (1 + ((m : Nat) : Int)).toNat = 1 + m := by omega
  rw [this] at lt9 lg9 S9
  exact ⟨_, rfl, q _ tg ts tgs (k5.trans k9) (S9.mono (by omega)) ftg ⟨e9, by omega, fun j p g g1 g2 => let ⟨_, l, _, a, b⟩ := h9 j p g g1 g2; ⟨l, a, b⟩⟩ ⟨by omega, by omega, fun j g hg => (h9 j _ g (List.getElem?_eq_getElem (by have := (List.getElem?_eq_some_iff.mp hg).1; omega)) hg).1⟩⟩
end
end GN
namespace GN
open PySem L2 K11
def kdL (tgs : List Tg) (k : Nat) : List (Str × Nat) := (tgs.filter fun g => decide (g.kd = k)).map fun g => (g.t, g.ss.length)
def ksT (tgs : List Tg) : List (List (Str × Nat)) := [1, 2, 3].map (kdL tgs)
theorem wE (k : Nat) : cl (core k) = [97 + k / 2 % 26, 122, 97 + k / 52 % 26] := by
 unfold core
 rw [yk, yk]
 rfl
theorem Yd (k : Nat) : cl (ys k) = List.replicate (k % 2) 121 := by
 unfold ys
 rcases (show k % 2 = 0 \/ k % 2 = 1 by omega) with e | e
 ·rw [e]; decide +kernel
 ·rw [e]; decide +kernel
theorem vT {z : Str} {b : Bool} {j k : Nat} (hj : j < 1352) (hk : k < 1352) (h : nm z b j = nm z b k) : j = k := by
 have hl : ∀ i : Nat, (cl (core i)).length = 3 := fun i => by rw [wE]; rfl
 have cinj : cl (core j) = cl (core k) -> j % 2 = k % 2 -> j = k := fun e e0 => by
  rw [wE, wE] at e
  injection e with e1 e2
  injection e2 with _ e3
  injection e3 with e3 _
  omega
 have e := congrArg cl h
 unfold nm at e
 cases b with
 | true =>
  rw [if_pos rfl, if_pos rfl, yk, yk, yk, yk] at e
  have el := congrArg List.length e
  rw [List.length_append, List.length_append, List.length_append, List.length_append, hl, hl, Yd, Yd, List.length_replicate, List.length_replicate] at el
  rw [List.append_assoc, List.append_assoc] at e
  exact cinj (List.append_inj_left e (by rw [hl, hl])) (by omega)
 | false =>
  rw [if_neg (by decide), if_neg (by decide), yk, yk, yk, yk] at e
  have el := congrArg List.length e
  rw [List.length_append, List.length_append, List.length_append, List.length_append, hl, hl, Yd, Yd, List.length_replicate, List.length_replicate] at el
  exact cinj (List.append_inj_right' e (by rw [hl, hl])) (by omega)
theorem xG : ∀ {l : List (Str × Nat)} {kvs : Kvs} {t : Str}, t ∉ l.map (·.1) -> valV (puts l kvs) (.inr t) = valV kvs (.inr t)
 | [], _, _, _ => rfl
 | a :: l, kvs, t, h => by
  rw [List.map_cons, List.mem_cons, not_or] at h
  show valV (puts l (putK kvs (.inr a.1) (.int (a.2 : Int)))) _ = _
  rw [xG h.2, wy, if_neg (fun e => h.1 (Sum.inr.inj e))]
theorem vU : ∀ {l : List (Str × Nat)} {kvs : Kvs} {t : Str} {n : Nat}, (l.map (·.1)).Nodup -> (t, n) ∈ l -> valV (puts l kvs) (.inr t) = some (.int (n : Nat))
 | [], _, _, _, _, h => by cases h
 | a :: l, kvs, t, n, hn, h => by
  rw [List.map_cons, List.nodup_cons] at hn
  show valV (puts l (putK kvs (.inr a.1) (.int (a.2 : Int)))) _ = _
  rcases List.mem_cons.mp h with rfl | h
  ·rw [xG hn.1, wy, if_pos rfl]
  ·exact vU hn.2 h
theorem TgOk.inj {z : Str} {b : Bool} {tgs : List Tg} (h : TgOk z b tgs) {g g' : Tg} (h1 : g ∈ tgs) (h2 : g' ∈ tgs) (e : g.t = g'.t) : g = g' := by
 obtain ⟨i, hi⟩ := List.getElem?_of_mem h1
 obtain ⟨j, hj⟩ := List.getElem?_of_mem h2
 have li := (List.getElem?_eq_some_iff.mp hi).1
 have lj := (List.getElem?_eq_some_iff.mp hj).1
 have := h.m
 rw [(h.e i g hi).1, (h.e j g' hj).1] at e
 have := vT (by omega) (by omega) e
 subst this
 rw [hi] at hj
 exact Option.some.inj hj
theorem TgOk.nd {z : Str} {b : Bool} {tgs : List Tg} (h : TgOk z b tgs) : (tgs.map (·.t)).Nodup := by
 rw [List.Nodup, List.pairwise_iff_getElem]
 intro i j hi hj hij e
 rw [List.length_map] at hi hj
 rw [List.getElem_map, List.getElem_map] at e
 have := h.m
 rw [(h.e i _ (List.getElem?_eq_getElem hi)).1, (h.e j _ (List.getElem?_eq_getElem hj)).1] at e
 have := vT (by omega) (by omega) e
 omega
theorem Ye {tgs : List Tg} {a : Str × Nat} (h : a ∈ (ksT tgs).flatten) : ∃ g ∈ tgs, a = (g.t, g.ss.length) := by
 obtain ⟨l, hl, ha⟩ := List.mem_flatten.mp h
 obtain ⟨k, _, rfl⟩ := List.mem_map.mp hl
 obtain ⟨g, hg, rfl⟩ := List.mem_map.mp ha
 exact ⟨g, (List.mem_filter.mp hg).1, rfl⟩
theorem TgOk.knd {z : Str} {b : Bool} {tgs : List Tg} (h : TgOk z b tgs) : ((ksT tgs).flatten.map (·.1)).Nodup := by
 have one : ∀ k : Nat, ((tgs.filter fun g => decide (g.kd = k)).map (·.t)).Nodup := fun k => (List.Sublist.map _ (List.filter_sublist)).nodup h.nd
 have dis : ∀ (k k' : Nat), k ≠ k' -> ∀ t ∈ (tgs.filter fun g => decide (g.kd = k)).map (·.t), t ∉ (tgs.filter fun g => decide (g.kd = k')).map (·.t) := fun k k' hk t h1 h2 => by
  obtain ⟨g, hg, rfl⟩ := List.mem_map.mp h1
  obtain ⟨g', hg', e⟩ := List.mem_map.mp h2
  have m1 := List.mem_filter.mp hg
  have m2 := List.mem_filter.mp hg'
  have := h.inj m2.1 m1.1 e
  rw [this] at m2
  exact hk ((of_decide_eq_true m1.2).symm.trans (of_decide_eq_true m2.2))
 have e : (ksT tgs).flatten.map (·.1) = (tgs.filter fun g => decide (g.kd = 1)).map (·.t) ++ ((tgs.filter fun g => decide (g.kd = 2)).map (·.t) ++ (tgs.filter fun g => decide (g.kd = 3)).map (·.t)) := by
  show List.map (·.1) (kdL tgs 1 ++ (kdL tgs 2 ++ (kdL tgs 3 ++ []))) = _
  unfold kdL
  rw [List.append_nil, List.map_append, List.map_append, List.map_map, List.map_map, List.map_map]
  rfl
 rw [e]
 refine List.nodup_append.mpr ⟨one 1, List.nodup_append.mpr ⟨one 2, one 3, fun a ha b hb e => dis 2 3 (by decide) a ha (by rw [e]; exact hb)⟩, fun a ha b hb e => ?_⟩
 rcases List.mem_append.mp hb with hb | hb
 ·exact dis 1 2 (by decide) a ha (by rw [e]; exact hb)
 ·exact dis 1 3 (by decide) a ha (by rw [e]; exact hb)
theorem TgOk.kd {z : Str} {b : Bool} {tgs : List Tg} (h : TgOk z b tgs) {g : Tg} (hg : g ∈ tgs) : g.kd = 1 \/ g.kd = 2 \/ g.kd = 3 := by
 obtain ⟨i, hi⟩ := List.getElem?_of_mem hg
 rw [(h.e i g hi).2.2.2.1]
 split
 ·exact .inl rfl
 ·split
  ·exact .inr (.inl rfl)
  ·exact .inr (.inr rfl)
theorem Qk {tgs : List Tg} {g : Tg} (hg : g ∈ tgs) (hk : g.kd = 1 \/ g.kd = 2 \/ g.kd = 3) : (g.t, g.ss.length) ∈ (ksT tgs).flatten := by
 have f : ∀ k, g.kd = k -> (g.t, g.ss.length) ∈ kdL tgs k := fun k e => List.mem_map.mpr ⟨g, List.mem_filter.mpr ⟨hg, decide_eq_true e⟩, rfl⟩
 refine List.mem_flatten.mpr ?_
 rcases hk with e | e | e
 ·exact ⟨_, List.mem_map.mpr ⟨1, by decide, rfl⟩, f 1 e⟩
 ·exact ⟨_, List.mem_map.mpr ⟨2, by decide, rfl⟩, f 2 e⟩
 ·exact ⟨_, List.mem_map.mpr ⟨3, by decide, rfl⟩, f 3 e⟩
abbrev kvT (tgs : List Tg) : Kvs := puts (ksT tgs).flatten []
theorem TgOk.sz {z : Str} {b : Bool} {tgs : List Tg} (h : TgOk z b tgs) {g : Tg} (hg : g ∈ tgs) : szOf (kvT tgs) g.t = some g.ss.length := by
 unfold szOf
 rw [vU h.knd (Qk hg (h.kd hg))]
 rfl
theorem TgOk.ks {z : Str} {b : Bool} {tgs : List Tg} (h : TgOk z b tgs) : KsOk (ksT tgs) := by
 refine ⟨?_, fun a ha => ?_⟩
 ·have f : ∀ k : Nat, (kdL tgs k).length <= 24 := fun k => by
   unfold kdL
   rw [List.length_map]
   exact Nat.le_trans (List.length_filter_le _ _) h.m
  have f1 := f 1
  have f2 := f 2
  have f3 := f 3
  show (kdL tgs 1 ++ (kdL tgs 2 ++ (kdL tgs 3 ++ []))).length <= 100
  rw [List.length_append, List.length_append, List.length_append]
  show _ + (_ + (_ + 0)) <= 100
  omega
 ·obtain ⟨g, hg, rfl⟩ := Ye ha
  obtain ⟨i, hi⟩ := List.getElem?_of_mem hg
  have := (h.e i g hi).2.1
  show g.ss.length <= 9
  omega
theorem yr (kvs : Kvs) (x : V) (xs : List V) : hgt kvs (x :: xs) = match hgt kvs xs, dl kvs x with
  | some n, some s => if s <= n then some (n - s + 1) else none
  | _, _ => none := rfl
theorem Yf {kvs : Kvs} {b : Nat} {ys : List V} (hy : hgt kvs ys = some b) : ∀ {xs : List V} {a : Nat}, hgt kvs xs = some a -> hgt kvs (xs ++ ys) = some (a + b)
 | [], a, h => by
  cases h
  rw [List.nil_append, hy, Nat.zero_add]
 | x :: xs, a, h => by
  rw [yr] at h
  rw [List.cons_append, yr]
  cases h1 : hgt kvs xs with
  | none => rw [h1] at h; cases h
  | some n =>
   rw [h1] at h
   cases h2 : dl kvs x with
   | none => rw [h2] at h; cases h
   | some s =>
    rw [h2] at h
    dsimp only at h
    rw [Yf hy h1]
    dsimp only
    by_cases c : s <= n
    ·rw [if_pos c] at h
     cases h
     rw [if_pos (by omega)]
     congr 1
     omega
    ·rw [if_neg c] at h
     cases h
def DB : Nat -> Nat
 | 0 => 5
 | n + 1 => 5 + 3 * DB n
def LB : Nat -> Nat
 | 0 => 1
 | n + 1 => 1 + 3 * LB n
abbrev fT (ts : List Addr) (tgs : List Tg) (k : Nat) : List (Addr × Tg) := (ts.zip tgs).filter fun p => decide (p.2.kd = k)
def y7 (K : PySem.W.Frag) (n : Nat) : Sp := fun vs H Q _ => ∃ (st tg : Addr) (B sort deep : Nat) (z : Str) (b : Bool) (ts : List Addr) (tgs : List Tg), vs = [.ref st, .int (sort : Nat), .ref tg, .int (deep : Nat)] /\ deep < n /\ deep <= 2 /\ sort < 4 /\ Sta K H st B /\ B + 1000 * (deep + 1) < LIM /\ IsTgs H tg ts tgs /\ TgOk z b tgs /\
 ∀ (H' : Hp) (l : Addr) (xs : List V), Kp st H H' -> Sta K H' st (B + DB deep) -> H l = none -> H' l = some (.lst xs) -> Grw (ksT tgs) xs -> xs.length <= LB deep -> Q (.ref l) H'
theorem JF {d : Nat} (h : d <= 2) : LB d <= 13 := by
 rcases (show d = 0 \/ d = 1 \/ d = 2 by omega) with rfl | rfl | rfl <;> decide
theorem QR {d : Nat} (h : d <= 2) : DB d <= 65 /\ 5 <= DB d := by
 rcases (show d = 0 \/ d = 1 \/ d = 2 by omega) with rfl | rfl | rfl <;> decide
theorem JG {z : Str} {b : Bool} {ts : List Addr} {tgs : List Tg} {k : Nat} (h : TgOk z b tgs) (lt : ts.length = tgs.length) (h0 : k ≠ 0) (h4 : k < 4) : fT ts tgs k ≠ [] := by
 have l5 := h.l
 obtain ⟨i, hi, hk⟩ : ∃ i, i < 5 /\ (if i < 3 then 1 else if i = 3 then 2 else 3) = k := by
  rcases (show k = 1 \/ k = 2 \/ k = 3 by omega) with rfl | rfl | rfl
  ·exact ⟨0, by decide, rfl⟩
  ·exact ⟨3, by decide, rfl⟩
  ·exact ⟨4, by decide, rfl⟩
 have hg : tgs[i]? = some (tgs[i]'(by omega)) := List.getElem?_eq_getElem _
 have ht : ts[i]? = some (ts[i]'(by omega)) := List.getElem?_eq_getElem _
 refine List.ne_nil_of_mem (a := (ts[i]'(by omega), tgs[i]'(by omega))) (List.mem_filter.mpr ⟨List.mem_of_getElem? (i := i) ?_, decide_eq_true ?_⟩)
 ·rw [List.getElem?_zip_eq_some]
  exact ⟨ht, hg⟩
 ·rw [(h.e i _ hg).2.2.2.1]
  exact hk
theorem QS {ts : List Addr} {tgs : List Tg} {k : Nat} {p : Addr × Tg} (h : p ∈ fT ts tgs k) : ∃ i : Nat, ts[i]? = some p.1 /\ tgs[i]? = some p.2 := by
 obtain ⟨h1, _⟩ := List.mem_filter.mp h
 obtain ⟨i, hi⟩ := List.getElem?_of_mem h1
 rw [List.getElem?_zip_eq_some] at hi
 exact ⟨i, hi.1, hi.2⟩
end GN
namespace GN
open PySem L2 K11
theorem QT {ks : List (List (Str × Nat))} {n : Int} (h : Sm n) : Grw ks [.int n] := ⟨by show 1 <= 300; decide, fun x hx => by rw [List.mem_singleton.mp hx]; trivial, by
 have d0 : dl (puts ks.flatten []) (.int n) = some 0 := if_pos h
 rw [yr, d0]
 rfl⟩
section
variable {P : Program} {w : World} {K : PySem.W.Frag} {mg : Str -> Option Value} {base : Heap} {f T : Addr} {fd : FuncData}
theorem scLParts : FnScope ["_law_state", "_law_sort", "_law_tags_here", "_law_deep", "_law_some", "_law_tag", "_law_sorts_here", "_law_kind", "_law_parts_here", "_law_one"] ["_law_state", "_law_sort", "_law_tags_here", "_law_deep"] (zo vJ) := ⟨rfl, rfl, rfl, by decide +kernel, rfl, by decide +kernel, by decide +kernel⟩
theorem xR {n lv : Nat} (hlv : 2 <= lv) (F : Fun K "_law_parts" "_law_parts" vJ f fd) (GD : Ca P w K mg base CX0 1 "_law_draw" ["_law_state", "_law_many"] (yB K)) (GP : Ca P w K mg base CX0 lv "_law_parts" ["_law_state", "_law_sort", "_law_tags_here", "_law_deep"] (y7 K n)) (m_len : mg "len" = none) : FnOk P w K mg base CX0 (lv + 1) f fd ["_law_state", "_law_sort", "_law_tags_here", "_law_deep"] (y7 K (n + 1)) := by
 refine F.by scLParts (fun vs H Q E h => ?_) (fun cdv A outer s H vs Q E hr h => ?_)
 ·obtain ⟨st, tg, B, sort, deep, z, b, ts, tgs, rfl, _⟩ := h
  rfl
 obtain ⟨st, tg, B, sort, deep, z, b, ts, tgs, rfl, hn, hd2, hs4, S0, hB, hT, hO, q⟩ := h
 have r1 : Room 1 _ := hr.mono (by omega)
 refine ⟨_,
  (zj (zM (zw zY (zv GD r1 rfl zx (ja_c (jv 0) (ja_c zi zh))) zi (zy _))
   (zk (zu (i := 1) scLParts.nd rfl (by first | exact Or.inl rfl | exact Or.inr rfl) (zv GD r1 rfl zx (ja_c (jv 0) (ja_c zi zh))))) zH)
  (zj (jh [9] [] (i := 4) scLParts.nd rfl (Or.inl rfl) rfl (yg (jv 2)) (fun _ _ _ _ _ => (zr (i := 9) scLParts.nd rfl (Or.inl rfl))) (fun _ _ _ _ _ => (xy (zw zY (zt (ZX K) (jv 9) zi (fun _ _ => rfl)) (jv 1) (zy _)))) (fun _ _ _ _ _ => (jv 9)))
  (zj (zM (jW.pt (xX (zw zY (jv 1) zi (zy _)) (xq (jW.pt (j5 (zw Xq (jv 3) zi (zy _)) (vx (zw (qF hr) (zt zA (zt zG (jv 4) zi (fun _ _ => rfl)) zi (fun _ _ => rfl)) (zV zh) (zy _))))))))
   (zk (zF (zV (ja_c (zt zG (zV (ja_c zi (ja_c zi (ja_c zi (ja_c (j4 zi) (ja_c (zB yR (zv GD r1 rfl zx (ja_c (jv 0) (ja_c (zB yR (zB vz zi (zB vA zi zi)) zi) zh))) (zB yR (zB vA zi zi) zi)) zh)))))) (zv GD r1 rfl zx (ja_c (jv 0) (ja_c zi zh))) (fun _ _ => rfl)) zh)))) zH)
  (zj (j7 (zt zG (jv 4) (zv GD r1 rfl zx (ja_c (jv 0) (ja_c (zI zC rfl m_len PySem.boot_len (ja_c (jv 4) zh)) zh))) (fun _ _ => rfl)) (yW rfl (zD (zr (i := 5) scLParts.nd rfl (Or.inl rfl)) (zD (zr (i := 6) scLParts.nd rfl (Or.inl rfl)) (zD (zr (i := 7) scLParts.nd rfl (Or.inl rfl)) yo)))))
  (zj (zM (zw Xq (jv 3) zi (zy _))
   (zk (j7 (zt zG (jv 4) zi (fun _ _ => rfl)) (yW rfl (zD (zr (i := 5) scLParts.nd rfl (Or.inl rfl)) (zD (zr (i := 6) scLParts.nd rfl (Or.inl rfl)) (zD (zr (i := 7) scLParts.nd rfl (Or.inl rfl)) yo)))))) zH)
  (zj (zu (i := 8) scLParts.nd rfl (Or.inl rfl) (zV (ja_c (jv 5) zh)))
  (zj (yp PassesOwn.never rfl (yg (jv 6)) (zr (i := 9) scLParts.nd rfl (Or.inl rfl))
   (zk (zN (yN PySem.F.plainAttrs_list PySem.F.slot_list_extend PySem.F.type_list_extend Yx (jv 8) (ja_c (zv GP hr rfl zx (ja_c (jv 0) (ja_c (jv 9) (ja_c (jv 2) (ja_c (zB yR (jv 3) zi) zh))))) zh)))))
  (zk (zF (jv 8)))))))))), ?_⟩
 have sl := z6
 have LM : LIM = 4611686018427387904 := rfl
 have db := QR hd2
 have lb := JF hd2
 refine (show ∀ (u : TS) (D : Ends), (∀ (H' : Hp) (sort : Nat), sort < 4 -> Kp st H H' -> Sta K H' st (B + 2) -> u D [some (.ref st), some (.int (sort : Nat)), some (.ref tg), some (.int (deep : Nat)), none, none, none, none, none, none] H') -> (tSeq _ u : TS) D [some (.ref st), some (.int (sort : Nat)), some (.ref tg), some (.int (deep : Nat)), none, none, none, none, none, none] H from ?keyA) _ _ ?restA
 case keyA =>
  intro u D hU
  refine ⟨_, rfl, st, 12, _, rfl, S0, by omega, by decide, fun H1 r k1 S1 r0 r12 => ⟨rfl, _, rfl, ite2 (fun _ => ?_) (fun _ => nxt (hU _ sort hs4 k1 (S1.mono (by omega))))⟩⟩
  refine ⟨_, rfl, st, 4, _, rfl, S1, by omega, by decide, fun H2 r' k2 S2 a0 a4 => ?_⟩
  obtain ⟨m, rfl⟩ : ∃ m : Nat, r' = (m : Int) := ⟨r'.toNat, by omega⟩
  exact hU _ m (by omega) (k1.trans k2) (S2.mono (by omega))
 case restA =>
 clear hs4
 intro H1 sort hs4 k1 S1
 have hT1 := hT.kp k1 S0
 refine ⟨_, rfl, tg, rfl, ⟨_, SqL.of hT1.1⟩, yK (K := K) (xs := ts.map V.ref) (fun j τ ys H' => H' = H1 /\ (∃ v, τ = [some (.ref st), some (.int (sort : Nat)), some (.ref tg), some (.int (deep : Nat)), none, none, none, none, none, v]) /\ ys = (((ts.zip tgs).take j).filter fun p => decide (p.2.kd = sort)).map fun p => V.ref p.1) ⟨rfl, ⟨none, rfl⟩, rfl⟩ (fun j τ ys H' _ h => by rw [h.1]; exact SqL.of hT1.1) ?_ ?_⟩
 ·rintro j v τ ys H2 hv ⟨rfl, ⟨y, rfl⟩, rfl⟩
  rw [List.getElem?_map] at hv
  obtain ⟨p, hp, rfl⟩ := Option.map_eq_some_iff.mp hv
  have hj := (List.getElem?_eq_some_iff.mp hp).1
  have lt := hT1.2.1
  have hg : tgs[j]? = some (tgs[j]'(by omega)) := List.getElem?_eq_getElem _
  generalize tgs[j]'(by omega) = g at hg
  obtain ⟨l, g1, g2⟩ := hT1.2.2 j p g hp hg
  have hz : (ts.zip tgs)[j]? = some (p, g) := by rw [List.getElem?_zip_eq_some]; exact ⟨hp, hg⟩
  have m24 := hO.m
  refine ⟨_, rfl, p, _, _, _, rfl, rfl, SqT.of g1, zq (j := 2) rfl, _, rfl, rfl, _, rfl, ?_⟩
  by_cases c : g.kd = sort
  ·refine yC (decide_eq_true (by rw [c])) ⟨_, rfl, ?_, rfl, ⟨_, rfl⟩, ?_⟩
   ·rw [List.length_map]
    have := List.length_filter_le (fun p : Addr × Tg => decide (p.2.kd = sort)) ((ts.zip tgs).take j)
    rw [List.length_take] at this
    omega
   ·rw [List.take_add_one, hz, List.filter_append, List.map_append]
    show _ = _ ++ List.map _ (List.filter _ [(p, g)])
    rw [List.filter_cons, if_pos (decide_eq_true c)]
    rfl
  ·refine zX (decide_eq_false (fun e => c (by injection e with e; omega))) ⟨rfl, ⟨_, rfl⟩, ?_⟩
   rw [List.take_add_one, hz, List.filter_append, List.map_append]
   show _ = _ ++ List.map _ (List.filter _ [(p, g)])
   rw [List.filter_cons, if_neg (by simp [c])]
   simp
 rintro τ ys H2 ⟨rfl, _, rfl⟩ ps hps
 have lt := hT1.2.1
 rw [List.length_map, List.take_of_length_le (by rw [List.length_zip]; omega)]
 have o3 := zp hps (.lst ((fT ts tgs sort).map fun p => V.ref p.1))
 have e3 := zg (H := H2) (a := ps) (o := .lst ((fT ts tgs sort).map fun p => V.ref p.1))
 have S3 := S1.same o3
 have k3 : Kp st H (upd H2 ps (.lst ((fT ts tgs sort).map fun p => V.ref p.1))) := k1.trans (.of o3)
 have hT3 := hT1.same o3
 have nps : ps ≠ st := S1.ne hps
 generalize upd H2 ps (.lst ((fT ts tgs sort).map fun p => V.ref p.1)) = H3 at *
 dsimp only [List.set]
 obtain ⟨F, eF⟩ : ∃ F, F = fT ts tgs sort := ⟨_, rfl⟩
 rw [<- eF] at e3
 have atF : ∀ {p : Addr × Tg}, p ∈ F -> p.2 ∈ tgs /\ ∃ l, H3 p.1 = some (.tup [.str p.2.t, .ref l, .int (p.2.kd : Nat)]) /\ H3 l = some (.lst (nts p.2.ss)) := fun {p} hp => by
  obtain ⟨i, h1, h2⟩ := QS (by rw [<- eF]; exact hp)
  exact ⟨List.mem_of_getElem? h2, hT3.2.2 i _ _ h1 h2⟩
 obtain ⟨σ3, eσ⟩ : ∃ σ3 : St, σ3 = [some (.ref st), some (.int (sort : Nat)), some (.ref tg), some (.int (deep : Nat)), some (.ref ps), none, none, none, none, none] := ⟨_, rfl⟩
 refine (show ∀ (u : TS), (∀ H4 : Hp, Kp st H3 H4 -> Sta K H4 st (B + 2) -> sort ≠ 0 -> (deep = 0 -> ∀ p0 Fr, F = p0 :: Fr -> p0.2.ss = []) -> u { nx := fun _ H' => Q .non H', rt := Q } [some (.ref st), some (.int (sort : Nat)), some (.ref tg), some (.int (deep : Nat)), some (.ref ps), none, none, none, none, none] H4) -> (tSeq _ u : TS) { nx := fun _ H' => Q .non H', rt := Q } [some (.ref st), some (.int (sort : Nat)), some (.ref tg), some (.int (deep : Nat)), some (.ref ps), none, none, none, none, none] H3 from ?keyB) _ ?restB
 case keyB =>
  intro u hU
  suffices num : ∀ (H4 : Hp), Kp st H3 H4 -> Sta K H4 st (B + 2) -> (tRet _ : TS) { nx := u { nx := fun _ H' => Q .non H', rt := Q }, rt := Q } [some (.ref st), some (.int (sort : Nat)), some (.ref tg), some (.int (deep : Nat)), some (.ref ps), none, none, none, none, none] H4 by
   by_cases c0 : sort = 0
   ·exact ⟨_, rfl, rfl, _, rfl, yC (decide_eq_true (by rw [c0]; rfl)) (iteT (num H3 Kp.refl S3))⟩
   refine ⟨_, rfl, rfl, _, rfl, zX (decide_eq_false (fun e => c0 (by injection e with e; omega))) ?_⟩
   by_cases cd : deep = 0
   ·refine ⟨_, rfl, _, _, rfl, rfl, _, rfl, yC (decide_eq_true (by omega)) ?_⟩
    obtain ⟨p0, Fr, eFr⟩ : ∃ p0 Fr, F = p0 :: Fr := by
     cases hF : F with
     | nil => exact absurd (eF ▸ hF) (JG hO lt c0 hs4)
     | cons x y => exact ⟨x, y, rfl⟩
    obtain ⟨m0, l, g1, g2⟩ := atF (p := p0) (by rw [eFr]; exact List.mem_cons_self)
    refine ⟨_, rfl, ps, _, _, _, rfl, rfl, SqL.of e3, zq (j := 0) (by rw [eFr]; rfl), p0.1, _, _, _, rfl, rfl, SqT.of g1, zq (j := 1) rfl, by show 0 <= sizeLine; decide, fun pe he => ?_⟩
    have o4 := zp he (.lst [])
    refine ⟨l, pe, _, rfl, rfl, SqL.of (o4 _ _ g2), SqL.of zg, _, rfl, ?_⟩
    show if (if true = true then !(nts p0.2.ss).isEmpty else (nts p0.2.ss).isEmpty) = true then _ else _
    by_cases cs : p0.2.ss = []
    ·rw [show (nts p0.2.ss).isEmpty = true by rw [cs]; rfl]
     refine iteF (nxt (hU _ (.of o4) (S3.same o4) c0 fun _ p1 F1 e => ?_))
     rw [eFr] at e
     cases e
     exact cs
    ·rw [show (nts p0.2.ss).isEmpty = false by cases hh : p0.2.ss with | nil => exact absurd hh cs | cons _ _ => rfl]
     exact iteT (num _ (.of o4) (S3.same o4))
   ·refine ⟨_, rfl, _, _, rfl, rfl, _, rfl, zX (decide_eq_false (by omega)) (iteF (nxt (hU H3 Kp.refl S3 c0 fun h => absurd h cd)))⟩
  intro H4 k4 S4
  refine ⟨_, rfl, _, rfl, _, _, rfl, rfl, ⟨by decide, by decide, by decide⟩, _, _, rfl, rfl, .inl ⟨by decide, by decide⟩, _, _, rfl, rfl, st, _, _, rfl, S4, by omega, by decide, fun H5 r k5 S5 a0 a1 => ?_⟩
  refine ⟨_, _, rfl, rfl, ⟨by decide, by decide, by decide⟩, _, _, rfl, rfl, _, _, rfl, rfl, by show 5 <= sizeLine; decide, fun li hli => ?_⟩
  have o6 := zp hli (.lst [V.int 0, V.int 0, V.int 1, V.int (-1), V.int (r - (10 ^ (30 : Int).toNat - 1))])
  have e6 := zg (H := H5) (a := li) (o := .lst [V.int 0, V.int 0, V.int 1, V.int (-1), V.int (r - (10 ^ (30 : Int).toNat - 1))])
  have nli : li ≠ st := S5.ne hli
  refine ⟨_, rfl, st, 5, _, rfl, S5.same o6, by omega, by decide, fun H7 r' k7 S7 c0 c5 => ?_⟩
  obtain ⟨v, hv, sv⟩ : ∃ v : Int, atI [V.int 0, V.int 0, V.int 1, V.int (-1), V.int (r - (10 ^ (30 : Int).toNat - 1))] r' = some (.int v) /\ Sm v := by
   have cs : r' = 0 \/ r' = 1 \/ r' = 2 \/ r' = 3 \/ r' = 4 := by omega
   rcases cs with rfl | rfl | rfl | rfl | rfl
   ·exact ⟨_, zq (j := 0) rfl, by decide, by decide⟩
   ·exact ⟨_, zq (j := 1) rfl, by decide, by decide⟩
   ·exact ⟨_, zq (j := 2) rfl, by decide, by decide⟩
   ·exact ⟨_, zq (j := 3) rfl, by decide, by decide⟩
   ·exact ⟨_, zq (j := 4) rfl, by rw [t30] at a1 ⊢; omega, by rw [t30] at a1 ⊢; omega⟩
  refine ⟨li, _, _, _, rfl, rfl, SqL.of (k7.k _ _ nli e6), hv, by show 1 <= sizeLine; decide, fun lo hlo => ?_⟩
  have k8 : Kp st H H7 := (((k3.trans k4).trans k5).trans (.of o6)).trans k7
  refine q _ lo [.int v] (k8.trans (.of (zp hlo _))) ((S7.new hlo _).mono (by omega)) (k8.free (S7.ne hlo) hlo) zg (QT sv) ?_
  show 1 <= LB deep
  rcases (show deep = 0 \/ deep = 1 \/ deep = 2 by omega) with h | h | h <;> rw [h] <;> decide
 case restB =>
 intro H4 k4 S4 c0 hdz
 have hs := JG hO lt c0 hs4
 rw [<- eF] at hs
 have lF : 0 < F.length := by
  cases hF : F with
  | nil => exact absurd hF hs
  | cons _ _ => exact Nat.succ_pos _
 have k04 := k3.trans k4
 have e4 := k4.k _ _ nps e3
 have atF4 : ∀ {p : Addr × Tg}, p ∈ F -> p.2 ∈ tgs /\ ∃ l, H4 p.1 = some (.tup [.str p.2.t, .ref l, .int (p.2.kd : Nat)]) /\ H4 l = some (.lst (nts p.2.ss)) := fun {p} hp => by
  obtain ⟨m, l, h1, h2⟩ := atF hp
  exact ⟨m, l, k4.tups S3 _ _ h1, k4.k _ _ (S3.neN h2) h2⟩
 refine (show ∀ (u : TS) (D : Ends), (∀ (H6 : Hp) (g : Tg) (l : Addr) (x7 : Option V), Kp st H4 H6 -> Sta K H6 st (B + 3) -> g ∈ tgs -> (deep = 0 -> g.ss = []) -> H6 l = some (.lst (nts g.ss)) -> l ≠ st -> u D [some (.ref st), some (.int (sort : Nat)), some (.ref tg), some (.int (deep : Nat)), some (.ref ps), some (.str g.t), some (.ref l), x7, none, none] H6) -> (tSeq _ (tSeq _ u) : TS) D [some (.ref st), some (.int (sort : Nat)), some (.ref tg), some (.int (deep : Nat)), some (.ref ps), none, none, none, none, none] H4 from ?keyC) _ _ ?restC
 case keyC =>
  intro u D hU
  refine ⟨_, rfl, _, rfl, _, rfl, ps, _, rfl, .inl (SqL.of e4), st, _, _, rfl, S4, by omega, by rw [List.length_map]; omega, fun H5 r k5 S5 a0 a1 => ?_⟩
  rw [List.length_map] at a1
  obtain ⟨j, rfl⟩ : ∃ j : Nat, r = (j : Int) := ⟨r.toNat, by omega⟩
  have hj : j < F.length := by omega
  obtain ⟨pr, hpr⟩ : ∃ pr, F[j]? = some pr := ⟨_, List.getElem?_eq_getElem hj⟩
  obtain ⟨m, l, g1, g2⟩ := atF4 (List.mem_of_getElem? hpr)
  have nl := S4.neN g2
  refine ⟨ps, _, _, _, rfl, rfl, SqL.of (k5.k _ _ nps e4), zq (by rw [List.getElem?_map, hpr]; rfl), _, _, rfl, SqT.of (k5.tups S4 _ _ g1), rfl, _, _, rfl, _, _, rfl, _, _, rfl, rfl, ?_⟩
  by_cases cd : deep = 0
  ·refine ⟨_, rfl, _, _, rfl, rfl, _, rfl, yC (decide_eq_true (by omega)) ?_⟩
   obtain ⟨p0, Fr, eFr⟩ : ∃ p0 Fr, F = p0 :: Fr := by
    cases hF : F with
    | nil => exact absurd hF hs
    | cons x y => exact ⟨x, y, rfl⟩
   obtain ⟨m0, l0, h1, h2⟩ := atF4 (p := p0) (by rw [eFr]; exact List.mem_cons_self)
   have nl0 := S4.neN h2
   refine ⟨_, rfl, ps, _, _, _, rfl, rfl, SqL.of (k5.k _ _ nps e4), zq (j := 0) (by rw [eFr]; rfl), _, _, rfl, SqT.of (k5.tups S4 _ _ h1), rfl, _, _, rfl, _, _, rfl, _, _, rfl, rfl, ?_⟩
   exact hU H5 p0.2 l0 _ k5 (S5.mono (by omega)) m0 (fun _ => hdz cd p0 Fr eFr) (k5.k _ _ nl0 h2) nl0
  ·refine ⟨_, rfl, _, _, rfl, rfl, _, rfl, zX (decide_eq_false (by omega)) (nxt ?_)⟩
   exact hU H5 pr.2 l _ k5 (S5.mono (by omega)) m (fun h => absurd h cd) (k5.k _ _ nl g2) nl
 case restC =>
 intro H6 g l x7 k6 S6 hg hgz el nl
 have k06 := k04.trans k6
 refine ⟨_, rfl, by show 1 <= sizeLine; decide, fun l8 h8 => ?_⟩
 have o7 := zp h8 (.lst [V.str g.t])
 have e7 := zg (H := H6) (a := l8) (o := .lst [V.str g.t])
 have n8 : l8 ≠ st := S6.ne h8
 have f8 : H l8 = none := k06.free n8 h8
 have S7 := S6.same o7
 have k07 : Kp st H (upd H6 l8 (.lst [V.str g.t])) := k06.trans (.of o7)
 have k67 : Kp st H6 (upd H6 l8 (.lst [V.str g.t])) := .of o7
 have nl8 : l ≠ l8 := fun e => by rw [e, h8] at el; cases el
 generalize upd H6 l8 (.lst [V.str g.t]) = H7 at *
 have gl : g.ss.length <= 3 := by
  obtain ⟨i, hi⟩ := List.getElem?_of_mem hg
  exact (hO.e i g hi).2.1
 have g3 : ∀ s ∈ g.ss, s < 3 := by
  obtain ⟨i, hi⟩ := List.getElem?_of_mem hg
  exact (hO.e i g hi).2.2.1
 have dbd : ∀ j, j <= g.ss.length -> B + 3 + j * DB (deep - 1) <= B + DB deep := fun j hj => by
  rcases (show deep = 0 \/ deep = 1 \/ deep = 2 by omega) with h | h | h
  ·rw [hgz h] at hj
   have : j = 0 := Nat.le_zero.mp hj
   rw [this, h]
   show B + 3 + 0 * 5 <= B + 5
   omega
  ·rw [h]; show B + 3 + j * 5 <= B + 20; omega
  ·rw [h]; show B + 3 + j * 20 <= B + 65; omega
 have lbd : ∀ (j m : Nat), j <= g.ss.length -> m <= j * LB (deep - 1) -> 1 + m <= LB deep := fun j m hj hm => by
  rcases (show deep = 0 \/ deep = 1 \/ deep = 2 by omega) with h | h | h
  ·rw [hgz h] at hj
   have : j = 0 := Nat.le_zero.mp hj
   rw [this] at hm
   rw [h]
   show 1 + m <= 1
   omega
  ·rw [h] at hm ⊢
   have hm : m <= j * 1 := hm
   show 1 + m <= 4
   omega
  ·rw [h] at hm ⊢
   have hm : m <= j * 4 := hm
   show 1 + m <= 13
   omega
 refine ⟨_, rfl, _, rfl, ⟨_, SqL.of (o7 _ _ el)⟩, yV (xs := nts g.ss) (fun j σ H' => Kp st H6 H' /\ Sta K H' st (B + 3 + j * DB (deep - 1)) /\ (∃ y, σ = [some (.ref st), some (.int (sort : Nat)), some (.ref tg), some (.int (deep : Nat)), some (.ref ps), some (.str g.t), some (.ref l), x7, some (.ref l8), y]) /\ ∃ ys : List V, H' l8 = some (.lst (.str g.t :: ys)) /\ hgt (kvT tgs) ys = some j /\ (∀ x ∈ ys, At x) /\ ys.length <= j * LB (deep - 1)) ⟨k67, by rw [Nat.zero_mul]; exact S7, ⟨none, rfl⟩, [], e7, rfl, (fun x h => by cases h), Nat.zero_le _⟩ (fun j σ H' _ h => SqL.of (h.1.k _ _ nl el)) ?_ ?_⟩
 ·rintro j v σ H9 hv ⟨k9, S9, ⟨y, rfl⟩, ys, e9, hh, hat, lys⟩
  unfold nts at hv
  rw [List.getElem?_map] at hv
  obtain ⟨sj, hsj, rfl⟩ := Option.map_eq_some_iff.mp hv
  have hj := (List.getElem?_eq_some_iff.mp hsj).1
  have sm := g3 sj (List.mem_of_getElem? hsj)
  have dpos : deep ≠ 0 := fun h => by rw [hgz h] at hj; exact absurd hj (Nat.not_lt_zero _)
  have hb := dbd j (by omega)
  have k09 := k06.trans k9
  refine ⟨_, rfl, .inl ⟨rfl, _, SqL.of e9⟩, _, rfl, _, rfl, _, rfl, _, rfl, _, _, rfl, rfl, st, tg, _, sj, deep - 1, z, b, ts, tgs, by rw [show ((deep - 1 : Nat) : Int) = (deep : Int) - 1 by omega]; rfl, by omega, by omega, by omega, S9, by omega, hT.kp k09 S0, hO, fun H10 la xs k10 S10 fa ea ga lxa => ?_⟩
  have e10 := k10.k _ _ n8 e9
  have nla8 : la ≠ l8 := fun e => by rw [e, e9] at fa; cases fa
  have l2 := JF (d := deep - 1) (by omega)
  have lyy : ys.length <= 3 * 13 := Nat.le_trans lys (Nat.mul_le_mul (by omega) l2)
  refine ⟨l8, la, _, _, rfl, rfl, e10, ea, by rw [List.length_cons]; omega, ?_⟩
  have f86 : H6 l8 = none := h8
  refine ⟨(k9.trans k10).put f86, ((S6.put f86 (k9.trans k10) S10).mono (by rw [Nat.succ_mul]; omega)), ⟨_, rfl⟩, ys ++ xs, by rw [zg]; rfl, ?_, ?_, ?_⟩
  ·exact Yf ga.2.2 hh
  ·intro x hx
   rcases List.mem_append.mp hx with h | h
   ·exact hat x h
   ·exact ga.2.1 x h
  ·rw [List.length_append, Nat.succ_mul]
   omega
 ·rintro σ H9 ⟨k9, S9, ⟨y, rfl⟩, ys, e9, hh, hat, lys⟩
  have ln : (nts g.ss).length = g.ss.length := List.length_map ..
  rw [ln] at S9 hh lys
  have l1 := lbd _ _ (Nat.le_refl _) lys
  refine ⟨_, rfl, q _ l8 (.str g.t :: ys) (k06.trans k9) (S9.mono (dbd _ (Nat.le_refl _))) f8 e9 ⟨by rw [List.length_cons]; omega, fun x hx => ?_, ?_⟩ (by rw [List.length_cons]; omega)⟩
  ·rcases List.mem_cons.mp hx with rfl | h
   ·trivial
   ·exact hat x h
  ·rw [yr, hh, show dl (puts (ksT tgs).flatten []) (.str g.t) = some g.ss.length from hO.sz hg]
   show (if g.ss.length <= g.ss.length then some (g.ss.length - g.ss.length + 1) else none) = some 1
   rw [if_pos (Nat.le_refl _), Nat.sub_self]
end
end GN
namespace GN
open PySem L2 K11
def IsSc (H : Hp) (l : Addr) (ps : List Addr) (sc : List (Str × Nat)) : Prop := H l = some (.lst (ps.map V.ref)) /\ ps.length = sc.length /\ ∀ (i : Nat) p a, ps[i]? = some p -> sc[i]? = some a -> H p = some (.tup [.str a.1, .int (a.2 : Nat)])
theorem IsSc.same {H H' : Hp} {l : Addr} {ps : List Addr} {sc : List (Str × Nat)} (h : IsSc H l ps sc) (s : Same H H') : IsSc H' l ps sc := ⟨s _ _ h.1, h.2.1, fun i p a h1 h2 => s _ _ (h.2.2 i p a h1 h2)⟩
theorem IsSc.kp {K : PySem.W.Frag} {H H' : Hp} {st l : Addr} {B : Nat} {ps : List Addr} {sc : List (Str × Nat)} (h : IsSc H l ps sc) (k : Kp st H H') (S : Sta K H st B) : IsSc H' l ps sc := ⟨k.k _ _ (S.neR h.1) h.1, h.2.1, fun i p a h1 h2 => k.tups S _ _ (h.2.2 i p a h1 h2)⟩
theorem Ql {zs : List Str} {k : Int} (h0 : 0 <= k) (h1 : k < ((zs.length : Nat) : Int)) : ∃ z, z ∈ zs /\ atI (zs.map V.str) k = some (.str z) := by
 obtain ⟨r, rfl⟩ : ∃ r : Nat, k = (r : Int) := ⟨k.toNat, by omega⟩
 have hr : r < zs.length := by omega
 exact ⟨zs[r], List.getElem_mem _, zq (by rw [List.getElem?_map, List.getElem?_eq_getElem hr]; rfl)⟩
def xH (K : PySem.W.Frag) : Sp := fun vs H Q _ => ∃ (st l : Addr) (B s : Nat) (ps : List Addr) (sc : List (Str × Nat)), vs = [.ref st, .ref l, .int (s : Nat)] /\ Sta K H st B /\ B + 2 < LIM /\ IsSc H l ps sc /\ sc ≠ [] /\ sc.length <= 1000 /\ ∀ H' x, Kp st H H' -> Sta K H' st (B + 2) -> x ∈ sc.map (·.1) -> Q (.str x) H'
def xI (K : PySem.W.Frag) : Sp := fun vs H Q _ => ∃ (st l : Addr) (B : Nat) (ps : List Addr) (sc : List (Str × Nat)), vs = [.ref st, .ref l] /\ Sta K H st B /\ B < LIM /\ IsSc H l ps sc /\ sc ≠ [] /\ sc.length <= 1000 /\ ∀ H' p x, Kp st H H' -> Sta K H' st (B + 1) -> x ∈ sc.map (·.1) -> H' p = some (.tup [.str "give", .str x]) -> Q (.ref p) H'
section
variable {P : Program} {w : World} {K : PySem.W.Frag} {mg : Str -> Option Value} {base : Heap} {f T : Addr} {fd : FuncData}
theorem scPick35 : FnScope ["_law_state", "_law_scope", "_law_sort", "_law_some"] ["_law_state", "_law_scope", "_law_sort"] (zo XV) := ⟨rfl, rfl, rfl, by decide +kernel, rfl, by decide +kernel, by decide +kernel⟩
theorem xJ : (["_law_state", "_law_scope", "_law_sort", "_law_some", "_law_name_here", "_law_one"] : List Str).Nodup := by decide +kernel
theorem YO (F : Fun K "_law_pick" "_law_pick" XV f fd) (GD : Ca P w K mg base CX0 1 "_law_draw" ["_law_state", "_law_many"] (yB K)) (m_len : mg "len" = none) : FnOk P w K mg base CX0 2 f fd ["_law_state", "_law_scope", "_law_sort"] (xH K) := by
 refine F.by scPick35 (fun vs H Q E h => ?_) (fun cdv A outer s H vs Q E hr h => ?_)
 ·obtain ⟨st, l, B, so, ps, sc, rfl, _⟩ := h
  rfl
 obtain ⟨st, l, B, so, ps, sc, rfl, S0, hB, hS, hne, l1000, q⟩ := h
 refine ⟨_,
  (zj (yx ["_law_name_here", "_law_one"] (i := 3) scPick35.nd rfl (Or.inl rfl) rfl (yg (jv 1)) (fun _ _ _ _ _ => (wa K (n := 2) rfl (zD (zr (i := 4) xJ rfl (Or.inl rfl)) (zD (zr (i := 5) xJ rfl (Or.inl rfl)) yo)))) (fun _ _ _ _ _ => (xy (zw zY (jv 5) (jv 2) (zy _)))) (fun _ _ _ _ _ => (jv 4)))
  (zj (zM (jW.pt (xX (zw (Zc hr) (jv 3) (zV zh) (zy _)) (xq (zw zY (zv GD hr rfl zx (ja_c (jv 0) (ja_c zi zh))) zi (zy _)))))
   (zk (yx ["_law_name_here", "_law_one"] (i := 3) scPick35.nd rfl (Or.inl rfl) rfl (yg (jv 1)) (fun _ _ _ _ _ => (wa K (n := 2) rfl (zD (zr (i := 4) xJ rfl (Or.inl rfl)) (zD (zr (i := 5) xJ rfl (Or.inl rfl)) yo)))) (fun _ _ _ _ _ => z9) (fun _ _ _ _ _ => (jv 4)))) zH)
  (zk (zF (zt zG (jv 3) (zv GD hr rfl zx (ja_c (jv 0) (ja_c (zI zC rfl m_len PySem.boot_len (ja_c (jv 3) zh)) zh))) (fun _ _ => rfl)))))), ?_⟩
 have sl := z6
 have LM : LIM = 4611686018427387904 := rfl
 have nl := S0.neR hS.1
 refine (show ∀ (u : TS) (D : Ends), (∀ (H' : Hp) (p : Addr) (xs : List Str) (B' : Nat), Kp st H H' -> Sta K H' st B' -> B' <= B + 1 -> H' p = some (.lst (xs.map V.str)) -> p ≠ st -> xs ≠ [] -> (∀ x ∈ xs, x ∈ sc.map (·.1)) -> u D [some (.ref st), some (.ref l), some (.int (so : Nat)), some (.ref p)] H') -> (tSeq _ (tSeq _ u) : TS) D [some (.ref st), some (.ref l), some (.int (so : Nat)), none] H from ?key) _ _ ?rest
 case key =>
  intro u D hU
  refine ⟨_, rfl, l, rfl, ⟨_, SqL.of hS.1⟩, yK (K := K) (xs := ps.map V.ref) (fun j τ ys H' => H' = H /\ (∃ v v', τ = [some (.ref st), some (.ref l), some (.int (so : Nat)), none, v, v']) /\ ys.length <= j /\ ∃ xs : List Str, ys = xs.map V.str /\ ∀ x ∈ xs, x ∈ sc.map (·.1)) ⟨rfl, ⟨none, none, rfl⟩, Nat.zero_le _, [], rfl, fun x h => by cases h⟩ (fun j τ ys H' _ h => by rw [h.1]; exact SqL.of hS.1) ?_ ?_⟩
  ·rintro j v τ ys H1 hv ⟨rfl, ⟨y, y', rfl⟩, ly, xs, rfl, hx⟩
   rw [List.getElem?_map] at hv
   obtain ⟨p, hp, rfl⟩ := Option.map_eq_some_iff.mp hv
   have hj := (List.getElem?_eq_some_iff.mp hp).1
   have lps := hS.2.1
   have ha : sc[j]? = some (sc[j]'(by omega)) := List.getElem?_eq_getElem _
   generalize sc[j]'(by omega) = a at ha
   have g1 := hS.2.2 j p a hp ha
   refine ⟨_, _, rfl, SqT.of g1, rfl, _, _, rfl, _, _, rfl, rfl, _, rfl, _, rfl, rfl, _, rfl, ite2 (fun _ => ?_) (fun _ => ?_)⟩
   ·refine ⟨_, rfl, by omega, rfl, ⟨_, _, rfl⟩, by rw [List.length_append]; show _ + 1 <= _; omega, xs ++ [a.1], by rw [List.map_append]; rfl, fun x h => ?_⟩
    rcases List.mem_append.mp h with h | h
    ·exact hx x h
    ·rw [List.mem_singleton.mp h]
     exact List.mem_map.mpr ⟨a, List.mem_of_getElem? ha, rfl⟩
   ·exact ⟨rfl, ⟨_, _, rfl⟩, by omega, xs, rfl, hx⟩
  rintro τ ys H1 ⟨rfl, _, ly, xs, rfl, hx⟩ p1 hp1
  have o1 := zp hp1 (.lst (xs.map V.str))
  have e1 := zg (H := H1) (a := p1) (o := .lst (xs.map V.str))
  have S1 := S0.same o1
  have n1 : p1 ≠ st := S0.ne hp1
  have hS1 := hS.same o1
  have k1 : Kp st H1 (upd H1 p1 (.lst (xs.map V.str))) := .of o1
  generalize upd H1 p1 (.lst (xs.map V.str)) = H2 at *
  dsimp only [List.set]
  suffices all : ∀ (H3 : Hp) (B3 : Nat), Kp st H2 H3 -> Sta K H3 st B3 -> B3 <= B + 1 -> (tLC (Zu K (tVar 1)) (gTup K 2 (Zt (wL 4) (Zt (wL 5) gNil))) tYes (tVar 4) 2 : TE) [some (.ref st), some (.ref l), some (.int (so : Nat)), some (.ref p1)] H3 (fun v H4 => u D [some (.ref st), some (.ref l), some (.int (so : Nat)), some v] H4) by
   refine ⟨_, rfl, by show 0 <= sizeLine; decide, fun pe he => ?_⟩
   have o3 := zp he (.lst [])
   refine ⟨_, _, _, rfl, rfl, SqL.of (o3 _ _ e1), SqL.of zg, _, rfl, ?_⟩
   show if (if false = true then !(xs.map V.str).isEmpty else (xs.map V.str).isEmpty) = true then _ else _
   by_cases c : xs = []
   ·rw [show (xs.map V.str).isEmpty = true by rw [c]; rfl]
    exact iteT (iteT (all _ _ (.of o3) (S1.same o3) (by omega)))
   ·rw [show (xs.map V.str).isEmpty = false by cases xs with | nil => exact absurd rfl c | cons _ _ => rfl]
    refine iteF ⟨_, rfl, st, 16, _, rfl, S1.same o3, by omega, by decide, fun H3 r k3 S3 r0 r1 => ⟨rfl, _, rfl, ite2 (fun _ => all _ _ ((Kp.of o3).trans k3) S3 (by omega)) (fun _ => nxt ?_)⟩⟩
    have k13 : Kp st H1 H3 := (k1.trans (.of o3)).trans k3
    exact hU H3 p1 xs _ k13 S3 (by omega) (k3.k _ _ n1 (o3 _ _ e1)) n1 c hx
  intro H3 B3 k3 S3 hB3
  have hS3 := hS1.kp k3 S1
  refine ⟨_, rfl, l, rfl, ⟨_, SqL.of hS3.1⟩, yK (K := K) (xs := ps.map V.ref) (fun j τ ys H' => H' = H3 /\ (∃ v v', τ = [some (.ref st), some (.ref l), some (.int (so : Nat)), some (.ref p1), v, v']) /\ ys = ((sc.take j).map (·.1)).map V.str) ⟨rfl, ⟨none, none, rfl⟩, rfl⟩ (fun j τ ys H' _ h => by rw [h.1]; exact SqL.of hS3.1) ?_ ?_⟩
  ·rintro j v τ ys H4 hv ⟨rfl, ⟨y, y', rfl⟩, rfl⟩
   rw [List.getElem?_map] at hv
   obtain ⟨p, hp, rfl⟩ := Option.map_eq_some_iff.mp hv
   have hj := (List.getElem?_eq_some_iff.mp hp).1
   have lps := hS.2.1
   have ha : sc[j]? = some (sc[j]'(by omega)) := List.getElem?_eq_getElem _
   generalize sc[j]'(by omega) = a at ha
   refine ⟨_, _, rfl, SqT.of (hS3.2.2 j p a hp ha), rfl, _, _, rfl, _, _, rfl, rfl, _, rfl, by rw [List.length_map, List.length_map, List.length_take]; omega, rfl, ⟨_, _, rfl⟩, ?_⟩
   rw [List.take_add_one, ha, List.map_append, List.map_append]
   rfl
  ·rintro τ ys H4 ⟨rfl, _, rfl⟩ p4 hp4
   have o4 := zp hp4 (.lst (((sc.take (ps.map V.ref).length).map (·.1)).map V.str))
   have k13 : Kp st H1 H4 := k1.trans k3
   refine hU _ p4 _ _ (k13.trans (.of o4)) (S3.same o4) hB3 zg (S3.ne hp4) ?_ fun x hx => ?_
   ·rw [List.length_map, hS.2.1, List.take_of_length_le (Nat.le_refl _)]
    intro e
    exact hne (List.map_eq_nil_iff.mp e)
   ·rw [List.length_map, hS.2.1, List.take_of_length_le (Nat.le_refl _)] at hx
    exact hx
 case rest =>
  intro H' p xs B' k' S' hB' hp np hx hxi
  have lx : 0 < xs.length := by
   cases xs with
   | nil => exact absurd rfl hx
   | cons _ _ => exact Nat.succ_pos _
  refine ⟨_, rfl, _, rfl, _, rfl, p, _, rfl, .inl (SqL.of hp), st, _, B', rfl, S', by omega, by rw [List.length_map]; omega, fun H1 r k1 S1 r0 r1' => ?_⟩
  obtain ⟨z, hz, e⟩ := Ql (zs := xs) r0 (by rw [List.length_map] at r1'; exact r1')
  refine ⟨p, _, _, _, rfl, rfl, SqL.of (k1.k _ _ np hp), e, q _ z (k'.trans k1) (S1.mono (by omega)) (hxi z hz)⟩
theorem Jc : FnScope ["_law_state", "_law_scope"] ["_law_state", "_law_scope"] (zo Zn) := ⟨rfl, rfl, rfl, by decide +kernel, rfl, by decide +kernel, by decide +kernel⟩
theorem WC (F : Fun K "_law_give" "_law_give" Zn f fd) (GD : Ca P w K mg base CX0 1 "_law_draw" ["_law_state", "_law_many"] (yB K)) (m_len : mg "len" = none) : FnOk P w K mg base CX0 2 f fd ["_law_state", "_law_scope"] (xI K) := by
 refine F.by Jc (fun vs H Q E h => ?_) (fun cdv A outer s H vs Q E hr h => ?_)
 ·obtain ⟨st, l, B, ps, sc, rfl, _⟩ := h
  rfl
 obtain ⟨st, l, B, ps, sc, rfl, S0, hB, hS, hne, l1000, q⟩ := h
 refine ⟨_, (zk (zF (zO (ja_c zL (ja_c (zt zA (zt zG (jv 1) (zv GD hr rfl zx (ja_c (jv 0) (ja_c (zI zC rfl m_len PySem.boot_len (ja_c (jv 1) zh)) zh))) (fun _ _ => rfl)) zi (fun _ _ => rfl)) zh))))), ?_⟩
 have lps := hS.2.1
 have l0 : 0 < sc.length := by cases sc with | nil => exact absurd rfl hne | cons _ _ => exact Nat.succ_pos _
 refine ⟨_, rfl, _, rfl, _, rfl, l, _, rfl, .inl (SqL.of hS.1), st, _, B, rfl, S0, hB, by rw [List.length_map]; omega, fun H1 r k1 S1 r0 r1 => ?_⟩
 rw [List.length_map] at r1
 have hS1 := hS.kp k1 S0
 obtain ⟨j, rfl⟩ : ∃ j : Nat, r = (j : Int) := ⟨r.toNat, by omega⟩
 obtain ⟨p, hp⟩ : ∃ p, ps[j]? = some p := ⟨_, List.getElem?_eq_getElem (by omega)⟩
 obtain ⟨a, ha⟩ : ∃ a, sc[j]? = some a := ⟨_, List.getElem?_eq_getElem (by omega)⟩
 refine ⟨l, _, _, _, rfl, rfl, SqL.of hS1.1, zq (by rw [List.getElem?_map, hp]; rfl), p, _, _, _, rfl, rfl, SqT.of (hS1.2.2 j p a hp ha), zq (j := 0) rfl, by show 2 <= sizeLine; decide, fun t ht => ?_⟩
 have o2 := zp ht (.tup [.str "give", .str a.1])
 exact q _ t a.1 (k1.trans (.of o2)) (S1.same o2) (List.mem_map.mpr ⟨a, List.mem_of_getElem? ha, rfl⟩) zg
end
end GN
namespace GN
open PySem L2 K11
def Arms.app : Arms -> Arms -> Arms
 | .nil, b => b
 | .cons t ns d r, b => .cons t ns d (Arms.app r b)
def Arms.rev : Arms -> Arms
 | .nil => .nil
 | .cons t ns d r => Arms.app (Arms.rev r) (.cons t ns d .nil)
theorem Arms.sz_app : ∀ (a b : Arms), (Arms.app a b).sz = a.sz + b.sz
 | .nil, b => by unfold Arms.app; rw [Arms.sz]; omega
 | .cons t ns d r, b => by unfold Arms.app; rw [Arms.sz, Arms.sz, Arms.sz_app r b]; omega
theorem Arms.sz_rev : ∀ (a : Arms), (Arms.rev a).sz = a.sz
 | .nil => rfl
 | .cons t ns d r => by unfold Arms.rev; rw [Arms.sz_app, Arms.sz_rev r, Arms.sz, Arms.sz, Arms.sz]; omega
theorem IsArms.app {H : Hp} : ∀ {a b : Arms} {ts us : List Addr}, IsArms H a ts -> IsArms H b us -> IsArms H (Arms.app a b) (ts ++ us)
 | .nil, b, ts, us, h, g => by
  have h : ts = [] := h
  subst h
  exact g
 | .cons t ns d r, b, ts, us, ⟨p, q, s, ts', e, a1, a2, a3, a4⟩, g => by
  subst e
  exact ⟨p, q, s, ts' ++ us, rfl, a1, a2, a3, IsArms.app a4 g⟩
theorem IsArms.rev {H : Hp} : ∀ {a : Arms} {ts : List Addr}, IsArms H a ts -> IsArms H (Arms.rev a) ts.reverse
 | .nil, ts, h => by
  have h : ts = [] := h
  subst h
  exact h
 | .cons t ns d r, ts, ⟨p, q, s, ts', e, a1, a2, a3, a4⟩ => by
  subst e
  rw [List.reverse_cons]
  exact IsArms.app (IsArms.rev a4) ⟨p, q, s, [], rfl, a1, a2, a3, rfl⟩
theorem OkAs.app {kvs : Kvs} {ks : List Str} : ∀ {a b : Arms}, OkAs kvs ks a -> OkAs kvs ks b -> OkAs kvs ks (Arms.app a b)
 | .nil, b, _, g => g
 | .cons t ns d r, b, h, g => ⟨h.1, h.2.1, h.2.2.1, h.2.2.2.1, OkAs.app h.2.2.2.2 g⟩
theorem OkAs.rev {kvs : Kvs} {ks : List Str} : ∀ {a : Arms}, OkAs kvs ks a -> OkAs kvs ks (Arms.rev a)
 | .nil, h => h
 | .cons t ns d r, h => OkAs.app (OkAs.rev h.2.2.2.2) ⟨h.1, h.2.1, h.2.2.1, h.2.2.2.1, trivial⟩
def SZ : Nat -> Nat
 | 0 => 1
 | 1 => 1
 | n + 2 => 3 * (4 + SZ (n + 1)) + 2
def DR : Nat -> Nat
 | 0 => 3
 | n + 1 => 10 + 3 * DR n
def cnt (i so : Nat) : Nat := if so = 1 then min i 3 else (if i <= 3 then 0 else 1)
structure Wd (K : PySem.W.Frag) (H : Hp) (st sl wp tg : Addr) (B : Nat) (z : Str) (b : Bool) (ps : List Addr) (sc : List (Str × Nat)) (ts : List Addr) (tgs : List Tg) : Prop where
 s : Sta K H st B
 l : B + 10000 < LIM
 c : IsSc H sl ps sc
 ne : sc ≠ []
 n : sc.length <= 100
 w : H wp = some (.lst [.str z, .bl b])
 nw : wp ≠ st
 hz : z.length <= 6
 t : IsTgs H tg ts tgs
 o : TgOk z b tgs
def Res (K : PySem.W.Frag) (H : Hp) (st : Addr) (sc : List (Str × Nat)) (tgs : List Tg) (B' m : Nat) (Q : VK) : Prop := ∀ (H' : Hp) (p : Addr) (bd : Bd), Kp st H H' -> Sta K H' st B' -> IsBd H' bd p -> OkBd (kvT tgs) (sc.map (·.1)) bd -> bd.sz <= m -> Q (.ref p) H'
def xS (K : PySem.W.Frag) (n : Nat) : Sp := fun vs H Q _ => ∃ (st sl wp tg : Addr) (B k room : Nat) (z : Str) (b : Bool) (ps : List Addr) (sc : List (Str × Nat)) (ts : List Addr) (tgs : List Tg), vs = [.ref st, .ref sl, .int (k : Nat), .int (room : Nat), .ref wp, .ref tg] /\ room + 1 < 2 ^ n /\ n <= 3 /\ sc.length + 3 * n <= 100 /\ k + 3 * n <= 100 /\ Wd K H st sl wp tg B z b ps sc ts tgs /\ B + 10000 * (n + 1) < LIM /\ Res K H st sc tgs (B + DR n) (SZ n) Q
def WD (K : PySem.W.Frag) (n : Nat) : Sp := fun vs H Q _ => ∃ (st sl wp tg : Addr) (B k room : Nat) (z : Str) (b : Bool) (ps : List Addr) (sc : List (Str × Nat)) (ts : List Addr) (tgs : List Tg), vs = [.ref st, .ref sl, .int (k : Nat), .int (room : Nat), .ref wp, .ref tg] /\ 1 <= room /\ room + 1 < 2 ^ (n + 1) /\ n <= 2 /\ sc.length + 3 * (n + 1) <= 100 /\ k + 3 * (n + 1) <= 100 /\ Wd K H st sl wp tg B z b ps sc ts tgs /\ B + 10000 * (n + 1) + 5000 < LIM /\ Res K H st sc tgs (B + 8 + 3 * DR n) (3 * (4 + SZ n) + 1) Q
theorem JH {n : Nat} (h : n <= 3) : DR n <= 300 := by
 rcases (show n = 0 \/ n = 1 \/ n = 2 \/ n = 3 by omega) with rfl | rfl | rfl | rfl <;> decide
theorem JI {z : Str} {b : Bool} {k : Nat} : nm z b k ≠ "" := fun e => by
 have h1 := jx k
 have : (nm z b k).length = 0 := by rw [e]; decide +kernel
 unfold nm at this
 split at this
 ·rw [xh, xh] at this; omega
 ·rw [xh, xh] at this; omega
section
variable {P : Program} {w : World} {K : PySem.W.Frag} {mg : Str -> Option Value} {base : Heap} {f T : Addr} {fd : FuncData}
theorem scBody : FnScope ["_law_state", "_law_scope", "_law_k", "_law_room", "_law_world", "_law_tags_here", "_law_way", "_law_first"] ["_law_state", "_law_scope", "_law_k", "_law_room", "_law_world", "_law_tags_here"] (zo XZ) := ⟨rfl, rfl, rfl, by decide +kernel, rfl, by decide +kernel, by decide +kernel⟩
theorem vV {n lv : Nat} (hlv : 2 <= lv) (F : Fun K "_law_body" "_law_body" XZ f fd) (GD : Ca P w K mg base CX0 1 "_law_draw" ["_law_state", "_law_many"] (yB K)) (GG : Ca P w K mg base CX0 2 "_law_give" ["_law_state", "_law_scope"] (xI K)) (GK : Ca P w K mg base CX0 2 "_law_pick" ["_law_state", "_law_scope", "_law_sort"] (xH K)) (GB : Ca P w K mg base CX0 lv "_law_body" ["_law_state", "_law_scope", "_law_k", "_law_room", "_law_world", "_law_tags_here"] (xS K n)) (GC : Ca P w K mg base CX0 (lv + 1) "_law_case" ["_law_state", "_law_scope", "_law_k", "_law_room", "_law_world", "_law_tags_here"] (WD K n)) : FnOk P w K mg base CX0 (lv + 2) f fd ["_law_state", "_law_scope", "_law_k", "_law_room", "_law_world", "_law_tags_here"] (xS K (n + 1)) := by
 refine F.by scBody (fun vs H Q E h => ?_) (fun cdv A outer s H vs Q E hr h => ?_)
 ·obtain ⟨st, sl, wp, tg, B, k, room, z, b, ps, sc, ts, tgs, rfl, _⟩ := h
  rfl
 obtain ⟨st, sl, wp, tg, B, k, room, z, b, ps, sc, ts, tgs, rfl, hroom, hn3, hsc, hk, W, hB, q⟩ := h
 have r1 : Room 1 _ := hr.mono (by omega)
 have r2 : Room 2 _ := hr.mono (by omega)
 have rl : Room lv _ := hr.mono (by omega)
 refine ⟨_,
  (zj (zu (i := 6) scBody.nd rfl (Or.inl rfl) (zv GD r1 rfl zx (ja_c (jv 0) (ja_c zi zh))))
  (zj (zM (jW.pt (xX (zw Xq (jv 3) zi (zy _)) (xq (zw zY (jv 6) zi (zy _)))))
   (zk (zF (zv GG r2 rfl zx (ja_c (jv 0) (ja_c (jv 1) zh))))) zH)
  (zj (zM (zw ZM (jv 6) zi (zy _))
   (zk (zF (zv GC hr rfl zx (ja_c (jv 0) (ja_c (jv 1) (ja_c (jv 2) (ja_c (jv 3) (ja_c (jv 4) (ja_c (jv 5) zh))))))))) zH)
  (zj (zu (i := 7) scBody.nd rfl (Or.inl rfl) (zv GB rl rfl zx (ja_c (jv 0) (ja_c (jv 1) (ja_c (jv 2) (ja_c (zB xb (zB yR (jv 3) zi) zi) (ja_c (jv 4) (ja_c (jv 5) zh))))))))
  (zk (zF (zO (ja_c zL (ja_c (zv GK r2 rfl zx (ja_c (jv 0) (ja_c (jv 1) (ja_c zi zh)))) (ja_c (jv 7) (ja_c (zv GB rl rfl zx (ja_c (jv 0) (ja_c (jv 1) (ja_c (jv 2) (ja_c (zB xb (zB yR (jv 3) zi) zi) (ja_c (jv 4) (ja_c (jv 5) zh))))))) zh))))))))))), ?_⟩
 have sL := z6
 have LM : LIM = 4611686018427387904 := rfl
 have drn : DR (n + 1) = 10 + 3 * DR n := rfl
 have pw : (2 : Nat) ^ (n + 1) = 2 * 2 ^ n := by rw [Nat.pow_succ]; omega
 have szp : 1 <= SZ (n + 1) := by
  rcases (show n = 0 \/ n = 1 \/ n = 2 by omega) with rfl | rfl | rfl <;> decide
 refine ⟨_, rfl, st, 6, _, rfl, W.s, by omega, by decide, fun H1 r k1 S1 r0 r6 => ?_⟩
 have W1 : Wd K H1 st sl wp tg (B + 1) z b ps sc ts tgs := ⟨S1, by omega, W.c.kp k1 W.s, W.ne, W.n, k1.k _ _ W.nw W.w, W.nw, W.hz, W.t.kp k1 W.s, W.o⟩
 have giv : (tRet (wP (xI K) [] E0 (v9 (tVar 0) (v9 (tVar 1) tNil))) : TS) { nx := fun _ H' => Q .non H', rt := Q } [some (.ref st), some (.ref sl), some (.int (k : Nat)), some (.int (room : Nat)), some (.ref wp), some (.ref tg), some (.int r), none] H1 := by
  refine ⟨_, rfl, _, rfl, st, sl, _, ps, sc, rfl, S1, by omega, W1.c, W.ne, by have := W.n; omega, fun H2 p x k2 S2 hx hp => ?_⟩
  exact q H2 p (.give x) (k1.trans k2) (S2.mono (by omega)) hp hx szp
 by_cases c0 : room = 0
 ·exact ⟨_, rfl, _, _, rfl, rfl, _, rfl, yC (decide_eq_true (by omega)) (iteT giv)⟩
 refine ⟨_, rfl, _, _, rfl, rfl, _, rfl, zX (decide_eq_false (by omega)) ⟨_, rfl, rfl, _, rfl, ite2 (fun _ => giv) (fun _ => nxt ?_)⟩⟩
 have n1 : 1 <= n := by
  cases n with
  | zero => rw [pw] at hroom; have : (2 : Nat) ^ 0 = 1 := rfl; omega
  | succ m => omega
 have szn : SZ (n + 1) = 3 * (4 + SZ n) + 2 := by
  rcases (show n = 1 \/ n = 2 by omega) with rfl | rfl <;> rfl
 refine ⟨_, rfl, _, _, rfl, rfl, _, rfl, ite2 (fun _ => ?_) (fun _ => nxt ?_)⟩
 ·refine ⟨_, rfl, _, rfl, _, rfl, _, rfl, _, rfl, _, rfl, st, sl, wp, tg, _, k, room, z, b, ps, sc, ts, tgs, rfl, by omega, hroom, by omega, by omega, by omega, W1, by omega, fun H2 p bd k2 S2 hb ho hs => ?_⟩
  exact q H2 p bd (k1.trans k2) (S2.mono (by omega)) hb ho (by omega)
 ·have er : (((room - 1) / 2 : Nat) : Int) = ((room : Int) - 1) / 2 := by omega
  have dr := JH (n := n) (by omega)
  refine ⟨_, rfl, _, rfl, _, rfl, _, rfl, _, _, rfl, rfl, _, _, rfl, rfl, ⟨by decide, by decide⟩, _, rfl, _, rfl, st, sl, wp, tg, _, k, (room - 1) / 2, z, b, ps, sc, ts, tgs, by rw [er]; rfl, by omega, by omega, by omega, by omega, W1, by omega, fun H2 p1 b1 k2 S2 hb1 ho1 hs1 => ?_⟩
  have W2 : Wd K H2 st sl wp tg (B + 1 + DR n) z b ps sc ts tgs := ⟨S2, by omega, W1.c.kp k2 S1, W.ne, W.n, k2.k _ _ W.nw W1.w, W.nw, W.hz, W1.t.kp k2 S1, W.o⟩
  refine ⟨_, rfl, _, rfl, st, sl, _, 0, ps, sc, rfl, S2, by omega, W2.c, W.ne, by have := W.n; omega, fun H3 x k3 S3 hx => ?_⟩
  have W3 : Wd K H3 st sl wp tg (B + 1 + DR n + 2) z b ps sc ts tgs := ⟨S3, by omega, W2.c.kp k3 S2, W.ne, W.n, k3.k _ _ W.nw W2.w, W.nw, W.hz, W2.t.kp k3 S2, W.o⟩
  refine ⟨_, rfl, _, rfl, _, rfl, _, rfl, _, rfl, _, _, rfl, rfl, _, _, rfl, rfl, ⟨by decide, by decide⟩, _, rfl, _, rfl, st, sl, wp, tg, _, k, (room - 1) / 2, z, b, ps, sc, ts, tgs, by rw [er]; rfl, by omega, by omega, by omega, by omega, W3, by omega, fun H4 p2 b2 k4 S4 hb2 ho2 hs2 => ⟨by show 4 <= sizeLine; decide, fun p hp => ?_⟩⟩
  have o5 := zp hp (.tup [.str "if", .str x, .ref p1, .ref p2])
  refine q _ p (.iff x b1 b2) ((((k1.trans k2).trans k3).trans k4).trans (.of o5)) ((S4.same o5).mono (by omega)) ⟨p1, p2, zg, ((hb1.keep ((k3.trans k4).tups S2)).keep (.of o5)), hb2.keep (.of o5)⟩ ⟨hx, ho1, ho2⟩ ?_
  show b1.sz + b2.sz + 1 <= SZ (n + 1)
  omega
end
end GN
namespace GN
open PySem L2 K11
def kdI (i : Nat) : Nat := if i < 3 then 1 else if i = 3 then 2 else 3
theorem WE {i so : Nat} (h : so = 1 \/ so = 2) : cnt (i + 1) so = cnt i so + if kdI i = so then 1 else 0 := by
 unfold cnt kdI
 rcases h with rfl | rfl
 ·rw [if_pos rfl, if_pos rfl]
  by_cases c : i < 3
  ·rw [if_pos c, if_pos rfl]; omega
  ·by_cases c2 : i = 3
   ·rw [if_neg c, if_pos c2, if_neg (by decide)]; omega
   ·rw [if_neg c, if_neg c2, if_neg (by decide)]; omega
 ·rw [if_neg (show ¬ (2 : Nat) = 1 by decide), if_neg (show ¬ (2 : Nat) = 1 by decide)]
  by_cases c : i < 3
  ·rw [if_pos c, if_pos (show i + 1 <= 3 by omega), if_pos (show i <= 3 by omega), if_neg (by decide)]
  ·by_cases c2 : i = 3
   ·rw [if_neg c, if_pos c2, if_pos rfl, if_neg (show ¬ i + 1 <= 3 by omega), if_pos (show i <= 3 by omega)]
   ·rw [if_neg c, if_neg c2, if_neg (show ¬ i + 1 <= 3 by omega), if_neg (show ¬ i <= 3 by omega), if_neg (by decide)]
theorem WF (i so : Nat) : cnt i so <= 3 := by
 unfold cnt
 split
 ·omega
 ·split <;> omega
abbrev nms (z : Str) (b : Bool) (k n : Nat) : List Str := (List.range n).map fun i => nm z b (k + i)
theorem Zs {z : Str} {b : Bool} {k n : Nat} (h : k + n <= 1000) : (nms z b k n).Nodup := by
 rw [List.Nodup, List.pairwise_iff_getElem]
 intro i j hi hj hij e
 rw [List.length_map, List.length_range] at hi hj
 rw [List.getElem_map, List.getElem_map, List.getElem_range, List.getElem_range] at e
 have := vT (by omega) (by omega) e
 omega
theorem wb {z : Str} {b : Bool} {k n : Nat} : (nms z b k n).length = n := by rw [List.length_map, List.length_range]
theorem IsSc.app {H H' : Hp} {l pm : Addr} {ps zs : List Addr} {sc s2 : List (Str × Nat)} (h : IsSc H l ps sc) (t : Tups H H') (hpm : H' pm = some (.lst ((ps ++ zs).map V.ref))) (lz : zs.length = s2.length) (hz : ∀ (i : Nat) p a, zs[i]? = some p -> s2[i]? = some a -> H' p = some (.tup [.str a.1, .int (a.2 : Nat)])) : IsSc H' pm (ps ++ zs) (sc ++ s2) := by
 refine ⟨hpm, by rw [List.length_append, List.length_append, h.2.1, lz], fun i p a h1 h2 => ?_⟩
 have l1 := h.2.1
 by_cases c : i < ps.length
 ·rw [List.getElem?_append_left (by omega)] at h1 h2
  exact t _ _ (h.2.2 i p a h1 h2)
 ·rw [List.getElem?_append_right (by omega)] at h1 h2
  rw [<- l1] at h2
  exact hz _ p a h1 h2
section
variable {P : Program} {w : World} {K : PySem.W.Frag} {mg : Str -> Option Value} {base : Heap} {f T : Addr} {fd : FuncData}
theorem scLCase : FnScope ["_law_state", "_law_scope", "_law_k", "_law_room", "_law_world", "_law_tags_here", "_law_sort", "_law_x", "_law_arms", "_law_tag", "_law_sorts_here", "_law_kind", "_law_names", "_law_more"] ["_law_state", "_law_scope", "_law_k", "_law_room", "_law_world", "_law_tags_here"] (zo XY) := ⟨rfl, rfl, rfl, by decide +kernel, rfl, by decide +kernel, by decide +kernel⟩
theorem Jd : (["_law_state", "_law_scope", "_law_k", "_law_room", "_law_world", "_law_tags_here", "_law_sort", "_law_x", "_law_arms", "_law_tag", "_law_sorts_here", "_law_kind", "_law_names", "_law_more", "_law_j"] : List Str).Nodup := by decide +kernel
theorem vW {n lv : Nat} (hlv : 2 <= lv) (F : Fun K "_law_case" "_law_case" XY f fd) (GD : Ca P w K mg base CX0 1 "_law_draw" ["_law_state", "_law_many"] (yB K)) (GM : Ca P w K mg base CX0 1 "_law_name" ["_law_world", "_law_k"] spNm) (GK : Ca P w K mg base CX0 2 "_law_pick" ["_law_state", "_law_scope", "_law_sort"] (xH K)) (GB : Ca P w K mg base CX0 lv "_law_body" ["_law_state", "_law_scope", "_law_k", "_law_room", "_law_world", "_law_tags_here"] (xS K n)) (m_len : mg "len" = none) (m_range : mg "range" = none) (m_zip : mg "zip" = none) (m_list : mg "list" = none) (m_tuple : mg "tuple" = none) : FnOk P w K mg base CX0 (lv + 1) f fd ["_law_state", "_law_scope", "_law_k", "_law_room", "_law_world", "_law_tags_here"] (WD K n) := by
 refine F.by scLCase (fun vs H Q E h => ?_) (fun cdv A outer s H vs Q E hr h => ?_)
 ·obtain ⟨st, sl, wp, tg, B, k, room, z, b, ps, sc, ts, tgs, rfl, _⟩ := h
  rfl
 obtain ⟨st, sl, wp, tg, B, k, room, z, b, ps, sc, ts, tgs, rfl, hr1, hroom, hn3, hsc, hk, W, hB, q⟩ := h
 have r1 : Room 1 _ := hr.mono (by omega)
 have r2 : Room 2 _ := hr.mono (by omega)
 refine ⟨_,
  (zj (zu (i := 6) scLCase.nd rfl (Or.inl rfl) (zB yj zi (zB yS (zv GD r1 rfl zx (ja_c (jv 0) (ja_c zi zh))) zi)))
  (zj (zu (i := 7) scLCase.nd rfl (Or.inl rfl) (zv GK r2 rfl zx (ja_c (jv 0) (ja_c (jv 1) (ja_c (jv 6) zh)))))
  (zj (zu (i := 8) scLCase.nd rfl (Or.inl rfl) (zV zh))
  (zj (yp PassesOwn.never rfl (yg (jv 5)) (yW rfl (zD (zr (i := 9) scLCase.nd rfl (Or.inl rfl)) (zD (zr (i := 10) scLCase.nd rfl (Or.inl rfl)) (zD (zr (i := 11) scLCase.nd rfl (Or.inl rfl)) yo))))
   (zk (zM (zw zY (jv 11) (jv 6) (zy _))
    (zj (yx ["_law_j"] (i := 12) scLCase.nd rfl (Or.inl rfl) rfl (zW rfl m_range (ja_c (zI zC rfl m_len PySem.boot_len (ja_c (jv 10) zh)) zh)) (fun _ _ _ _ _ => (zr (i := 14) Jd rfl (Or.inl rfl))) (fun _ _ _ _ _ => z9) (fun _ _ _ _ _ => (zv GM r1 rfl zx (ja_c (jv 4) (ja_c (zB yj (jv 2) (jv 14)) zh)))))
    (zj (zu (i := 13) scLCase.nd rfl (Or.inl rfl) (zB Xr (jv 1) (VC rfl rfl m_list rfl m_zip (ja_c (jv 12) (ja_c (jv 10) zh)))))
    (zk (zN (yN PySem.F.plainAttrs_list PySem.F.slot_list_append PySem.F.type_list_append yb (jv 8) (ja_c (zO (ja_c (jv 9) (ja_c (yw zZ rfl m_tuple PyProof.Rows.boot_tuple (ja_c (jv 12) zh)) (ja_c (zv GB hr rfl zx (ja_c (jv 0) (ja_c (jv 13) (ja_c (zB yj (jv 2) (zI zC rfl m_len PySem.boot_len (ja_c (jv 10) zh))) (ja_c (zB xb (zB yR (jv 3) zi) zi) (ja_c (jv 4) (ja_c (jv 5) zh))))))) zh)))) zh)))))) zH)))
  (zj (zM (zw zY (zv GD r1 rfl zx (ja_c (jv 0) (ja_c zi zh))) zi (zy _))
   (zk (zN (vy PySem.F.plainAttrs_list PySem.F.slot_list_reverse PySem.F.type_list_reverse wC (jv 8)))) zH)
  (zk (zF (zO (ja_c zL (ja_c (jv 7) (ja_c (yw zZ rfl m_tuple PyProof.Rows.boot_tuple (ja_c (jv 8) zh)) zh))))))))))), ?_⟩
 have sL := z6
 have LM : LIM = 4611686018427387904 := rfl
 have dr := JH (n := n) (by omega)
 have S0 := W.s
 have pw : (2 : Nat) ^ (n + 1) = 2 * 2 ^ n := by rw [Nat.pow_succ]; omega
 refine ⟨_, rfl, st, 3, B, rfl, S0, by omega, by decide, fun H1 r k1 S1 r0 r3 => ⟨_, _, rfl, rfl, by show (0 : Int) < 2; decide, _, _, rfl, rfl, ?_⟩⟩
 obtain ⟨m, rfl⟩ : ∃ m : Nat, r = (m : Int) := ⟨r.toNat, by omega⟩
 obtain ⟨so, hso, eso⟩ : ∃ so : Nat, (so = 1 \/ so = 2) /\ 1 + ((m : Nat) : Int) % 2 = ((so : Nat) : Int) := ⟨1 + m % 2, by omega, by omega⟩
 show (tSeq _ _ : TS) _ [some (.ref st), some (.ref sl), some (.int (k : Nat)), some (.int (room : Nat)), some (.ref wp), some (.ref tg), some (.int (1 + ((m : Nat) : Int) % 2)), none, none, none, none, none, none, none] H1
 rw [eso]
 refine ⟨_, rfl, _, rfl, _, rfl, st, sl, _, so, ps, sc, rfl, S1, by omega, W.c.kp k1 S0, W.ne, by have := W.n; omega, fun H2 x k2 S2 hx => ?_⟩
 refine ⟨by show 0 <= sizeLine; decide, fun pa h3 => ?_⟩
 have k12 := k1.trans k2
 have k3 := k12.new (o := .lst []) h3
 have S3 := S2.new h3 (.lst [])
 have npa := S2.ne h3
 have fpa : H pa = none := k12.free npa h3
 have hpa := zg (H := H2) (a := pa) (o := .lst [])
 generalize upd H2 pa (.lst []) = H3 at *
 have lts := W.t.2.1
 have hm := W.o.m
 have hscn := W.n
 refine ⟨_, rfl, tg, rfl, ⟨_, SqL.of ((W.t.kp k3 S0).1)⟩, yV (xs := ts.map V.ref) (fun i σ H' => Kp st H H' /\ Sta K H' st (B + 3 + cnt i so * DR n) /\ (∃ (as : List Addr) (ar : Arms), H' pa = some (.lst (as.map V.ref)) /\ as.length <= i /\ IsArms H' ar as /\ ar.sz <= cnt i so * (4 + SZ n) /\ OkAs (kvT tgs) (sc.map (·.1)) ar) /\ ∃ v1 v2 v3 v4 v5, σ = [some (.ref st), some (.ref sl), some (.int (k : Nat)), some (.int (room : Nat)), some (.ref wp), some (.ref tg), some (.int (so : Nat)), some (.str x), some (.ref pa), v1, v2, v3, v4, v5])
  ⟨k3, S3.mono (by omega), ⟨[], .nil, hpa, Nat.le_refl _, rfl, by rw [Arms.sz]; omega, trivial⟩, none, none, none, none, none, rfl⟩ (fun i σ H' _ h => SqL.of ((W.t.kp h.1 S0).1)) ?_ ?_⟩
 ·rintro i v σ H4 hv ⟨kp, S4, ⟨as, ar, hpa4, la, hA, hz, hO⟩, v1, v2, v3, v4, v5, rfl⟩
  rw [List.getElem?_map] at hv
  obtain ⟨t, ht, rfl⟩ := Option.map_eq_some_iff.mp hv
  have hi : i < ts.length := (List.getElem?_eq_some_iff.mp ht).1
  obtain ⟨g, hg⟩ : ∃ g, tgs[i]? = some g := ⟨_, List.getElem?_eq_getElem (by omega)⟩
  obtain ⟨l, e2, e3⟩ := (W.t.kp kp S0).2.2 i t g ht hg
  obtain ⟨gt, g3, gs, gk, _⟩ := W.o.e i g hg
  have gk : g.kd = kdI i := gk
  have cs := WE (i := i) hso
  have cl := WF (i + 1) so
  refine ⟨_, _, rfl, SqT.of e2, rfl, _, _, rfl, _, _, rfl, _, _, rfl, rfl, ?_⟩
  refine ⟨_, rfl, _, rfl, rfl, _, rfl, ite2 (fun c => ?_) (fun c => ?_)⟩
  ·have ce : g.kd = so := by
    have := of_decide_eq_true c
    injection this with this
    omega
   rw [gk] at ce
   rw [if_pos ce] at cs
   have hw4 := kp.k _ _ W.nw W.w
   refine ⟨_, rfl, _, _, rfl, .inl (SqL.of e3), _, rfl, by rw [List.length_map]; omega, by rw [List.length_map]; omega, ym (n := (nts g.ss).length) (fun j τ ys H' => H4 = H' /\ (∃ v, τ = [some (.ref st), some (.ref sl), some (.int (k : Nat)), some (.int (room : Nat)), some (.ref wp), some (.ref tg), some (.int (so : Nat)), some (.str x), some (.ref pa), some (.str g.t), some (.ref l), some (.int (g.kd : Nat)), v4, v5, v]) /\ ys = (nms z b k j).map V.str) ⟨rfl, ⟨none, rfl⟩, rfl⟩ ?_ ?_⟩
   ·rintro j τ ys H5 hj ⟨rfl, ⟨v, rfl⟩, rfl⟩
    rw [List.length_map] at hj
    have ek : ((k : Nat) : Int) + (0 + (j : Nat)) = ((k + j : Nat) : Int) := by omega
    refine ⟨_, rfl, _, rfl, _, rfl, _, _, rfl, rfl, wp, z, b, [], k + j, (by show [V.ref wp, V.int (((k : Nat) : Int) + (0 + (j : Nat)))] = _; rw [ek]), hw4, W.hz, by rw [List.length_map, wb]; omega, rfl, ⟨_, rfl⟩, ?_⟩
    unfold nms
    rw [List.range_succ, List.map_append, List.map_append]
    rfl
   rintro τ ys H5 ⟨rfl, _, rfl⟩ pn hpn
   rw [List.length_map]
   have nl := wb (z := z) (b := b) (k := k) (n := g.ss.length)
   have nd := Zs (z := z) (b := b) (k := k) (n := g.ss.length) (by omega)
   generalize nms z b k g.ss.length = NS at *
   have kp5 := kp.new (o := .lst (NS.map V.str)) hpn
   have S5 := S4.new hpn (.lst (NS.map V.str))
   have hpa5 := old (o := .lst (NS.map V.str)) hpn hpa4
   have hA5 := hA.keep (.of (zp hpn (.lst (NS.map V.str))))
   have e35 := old (o := .lst (NS.map V.str)) hpn e3
   have hpn5 := zg (H := H4) (a := pn) (o := .lst (NS.map V.str))
   generalize upd H4 pn (.lst (NS.map V.str)) = H5 at *
   have Sc5 := W.c.kp kp5 S0
   refine ⟨_, rfl, _, rfl, _, rfl, pn, l, _, _, rfl, .inl (SqL.of hpn5), .inl (SqL.of e35), fun H6 pz zs s6 f6 hpz hzl _ _ hpair => ?_⟩
   have lz : zs.length = (NS.zip g.ss).length := by rw [hzl, List.length_map, List.length_map, List.length_zip]
   have lz2 : zs.length = g.ss.length := by rw [lz, List.length_zip]; omega
   refine ⟨sl, pz, _, _, rfl, rfl, s6 _ _ Sc5.1, hpz, by rw [List.length_map, List.length_map, Sc5.2.1]; omega, fun pm h7 => ?_⟩
   rw [<- List.map_append]
   have s57 : Same H5 (upd H6 pm (.lst ((ps ++ zs).map V.ref))) := s6.new h7
   have sc7 : IsSc (upd H6 pm (.lst ((ps ++ zs).map V.ref))) pm (ps ++ zs) (sc ++ NS.zip g.ss) := by
    refine Sc5.app (.of s57) zg lz fun i p a h1 h2 => ?_
    rw [List.getElem?_zip_eq_some] at h2
    obtain ⟨t', g1, g2⟩ := hpair i (.str a.1) (.int (a.2 : Nat)) (by rw [List.getElem?_map, h2.1]; rfl) (by rw [List.getElem?_map, h2.2]; rfl)
    rw [h1] at g1
    cases g1
    exact old h7 g2
   have kp7 := kp5.trans (.of s57)
   have S7 := S5.same s57
   have hpa7 := s57 _ _ hpa5
   have hA7 := hA5.keep (.of s57)
   have e37 := s57 _ _ e35
   have hpn7 := s57 _ _ hpn5
   generalize upd H6 pm (.lst ((ps ++ zs).map V.ref)) = H7 at *
   refine ⟨_, rfl, .inl ⟨rfl, _, SqL.of hpa7⟩, _, rfl, _, rfl, pn, _, rfl, .inl ⟨SqL.of hpn7, fun pu h8 => ?_⟩⟩
   have s8 := zp h8 (.tup (NS.map V.str))
   have hpu := zg (H := H7) (a := pu) (o := .tup (NS.map V.str))
   have kp8 := kp7.trans (.of s8)
   have S8 := S7.same s8
   have hpa8 := s8 _ _ hpa7
   have hA8 := hA7.keep (.of s8)
   have sc8 := sc7.same s8
   have e38 := s8 _ _ e37
   generalize upd H7 pu (.tup (NS.map V.str)) = H8 at *
   have er : (((room - 1) / 2 : Nat) : Int) = ((room : Int) - 1) / 2 := by omega
   have ek : ((k + g.ss.length : Nat) : Int) = ((k : Nat) : Int) + (((nts g.ss).length : Nat) : Int) := by rw [List.length_map]; omega
   have hc2 : cnt i so <= 2 := by omega
   have hcb : cnt i so * DR n <= 2 * DR n := Nat.mul_le_mul_right _ hc2
   have nsc : (sc ++ NS.zip g.ss).length = sc.length + g.ss.length := by rw [List.length_append, List.length_zip]; omega
   have W8 : Wd K H8 st pm wp tg (B + 3 + cnt i so * DR n) z b (ps ++ zs) (sc ++ NS.zip g.ss) ts tgs := ⟨S8, by omega, sc8, fun e => W.ne (List.append_eq_nil_iff.mp e).1, by omega, kp8.k _ _ W.nw W.w, W.nw, W.hz, W.t.kp kp8 S0, W.o⟩
   refine ⟨_, rfl, _, rfl, _, rfl, _, rfl, l, _, rfl, .inl (SqL.of e38), _, _, rfl, rfl, _, rfl, _, _, rfl, rfl, _, _, rfl, rfl, ⟨by decide, by decide⟩, _, rfl, _, rfl, st, pm, wp, tg, _, k + g.ss.length, (room - 1) / 2, z, b, _, _, ts, tgs, by rw [er, ek]; rfl, by omega, by omega, by omega, by omega, W8, by omega, fun H9 pb bd k9 S9 hb hbo hbz => ?_⟩
   refine ⟨by show 3 <= sizeLine; decide, fun tt h10 => ?_⟩
   have hpa9 := k9.k _ _ npa hpa8
   have tp : Tups H8 (upd (upd H9 tt (.tup [.str g.t, .ref pu, .ref pb])) pa (.lst (as.map V.ref ++ [.ref tt]))) := fun p xs hp => by
    have g := k9.tups S8 _ _ hp
    rw [zm (ye g hpa9 (by intro e; cases e))]
    exact old h10 g
   have tp2 : Tups H9 (upd (upd H9 tt (.tup [.str g.t, .ref pu, .ref pb])) pa (.lst (as.map V.ref ++ [.ref tt]))) := fun p xs g => by
    rw [zm (ye g hpa9 (by intro e; cases e))]
    exact old h10 g
   have kp10 := (kp8.trans k9).new (o := .tup [.str g.t, .ref pu, .ref pb]) h10
   refine ⟨pa, _, _, rfl, rfl, old h10 hpa9, by rw [List.length_map]; omega, kp10.put fpa, Sta.put S0 fpa kp10 ((S9.mono ?_).new h10 _), ⟨as ++ [tt], Arms.app ar (.cons g.t NS bd .nil), by rw [zg, List.map_append]; rfl, by rw [List.length_append]; show _ + 1 <= _; omega, ?_, ?_, hO.app ⟨by rw [gt]; exact JI, by rw [W.o.sz (List.mem_of_getElem? hg), nl], ?_, nd, trivial⟩⟩, _, _, _, _, _, rfl⟩
   ·rw [cs, Nat.add_mul]; omega
   ·refine IsArms.app (hA8.keep tp) ⟨tt, pu, pb, [], rfl, ?_, tp _ _ hpu, hb.keep tp2, rfl⟩
    rw [zm (zn hpa9 h10).symm]
    exact zg
   ·rw [Arms.sz_app, Arms.sz, Arms.sz, cs, Nat.add_mul]
    omega
   ·rw [List.map_append, List.map_fst_zip (by omega)] at hbo
    exact hbo
  ·have ce : ¬ kdI i = so := fun e => c (decide_eq_true (by rw [gk, e]))
   rw [if_neg ce, Nat.add_zero] at cs
   exact ⟨kp, by rw [cs]; exact S4, ⟨as, ar, hpa4, by omega, hA, by rw [cs]; exact hz, hO⟩, _, _, _, _, _, rfl⟩
 rintro σ H6 ⟨kp, S6, ⟨as, ar, hpa6, la, hA, hz, hO⟩, v1, v2, v3, v4, v5, rfl⟩
 have cl := WF (ts.map V.ref).length so
 have hc3 := Nat.mul_le_mul_right (DR n) cl
 have hz3 := Nat.mul_le_mul_right (4 + SZ n) cl
 rw [List.length_map] at la
 refine (show ∀ (u : TS) (D : Ends), (∀ (H' : Hp) (as : List Addr) (ar : Arms), Kp st H H' -> Sta K H' st (B + 8 + 3 * DR n) -> H' pa = some (.lst (as.map V.ref)) -> IsArms H' ar as -> ar.sz <= 3 * (4 + SZ n) -> OkAs (kvT tgs) (sc.map (·.1)) ar -> u D [some (.ref st), some (.ref sl), some (.int (k : Nat)), some (.int (room : Nat)), some (.ref wp), some (.ref tg), some (.int (so : Nat)), some (.str x), some (.ref pa), v1, v2, v3, v4, v5] H') -> (tSeq _ (tSeq _ u) : TS) D _ H6 from ?key) _ _ ?rest
 case key =>
  intro u D tail
  refine ⟨_, rfl, st, 2, _, rfl, S6, by omega, by decide, fun H7 r7 k7 S7 _ _ => ?_⟩
  have hpa7 := k7.k _ _ npa hpa6
  have hA7 := hA.keep (k7.tups S6)
  have kp7 := kp.trans k7
  refine ⟨rfl, _, rfl, ?_⟩
  refine ite2 (fun _ => ?_) (fun _ => ?_)
  ·refine ⟨_, rfl, .inl ⟨rfl, _, SqL.of hpa7⟩, pa, _, rfl, rfl, hpa7, ?_⟩
   have tp : Tups H7 (upd H7 pa (.lst (as.map V.ref).reverse)) := fun p xs g => by rw [zm (ye g hpa7 (by intro e; cases e))]; exact g
   exact tail _ as.reverse ar.rev (kp7.put fpa) (Sta.put S0 fpa kp7 (S7.mono (by omega))) (by rw [zg, List.map_reverse]) ((hA7.rev).keep tp) (by rw [Arms.sz_rev]; omega) hO.rev
  ·exact tail _ as ar kp7 (S7.mono (by omega)) hpa7 hA7 (by omega) hO
 case rest =>
  intro H8 as ar k8 S8 hpa8 hA8 hz8 hO8
  refine ⟨_, rfl, _, rfl, pa, _, rfl, .inl ⟨SqL.of hpa8, fun p9 h9 => ⟨by show 3 <= sizeLine; decide, fun t h10 => ?_⟩⟩⟩
  refine q _ t (.cs x ar) ((k8.new h9).new h10) ((S8.new h9 _).new h10 _) ⟨p9, as, zg, old h10 zg, (hA8.keep (.of (zp h9 _))).keep (.of (zp h10 _))⟩ ⟨hx, hO8⟩ ?_
  rw [Bd.sz]
  omega
end
end GN
namespace GN
open PySem L2 K11
def WG (K : PySem.W.Frag) : Sp := fun vs H Q _ => ∃ (st sl wp tg : Addr) (B : Nat) (z : Str) (b : Bool) (ps : List Addr) (sc : List (Str × Nat)) (ts : List Addr) (tgs : List Tg), vs = [.ref st, .ref sl, .ref wp, .ref tg] /\ Wd K H st sl wp tg B z b ps sc ts tgs /\ Res K H st sc tgs (B + 30) 121 Q
section
variable {P : Program} {w : World} {K : PySem.W.Frag} {mg : Str -> Option Value} {base : Heap} {f T : Addr} {fd : FuncData}
theorem scFoot : FnScope ["_law_state", "_law_scope", "_law_world", "_law_tags_here", "_law_arms", "_law_tag", "_law_sorts_here", "_law_kind", "_law_names"] ["_law_state", "_law_scope", "_law_world", "_law_tags_here"] (zo X0) := ⟨rfl, rfl, rfl, by decide +kernel, rfl, by decide +kernel, by decide +kernel⟩
theorem Qm : (["_law_state", "_law_scope", "_law_world", "_law_tags_here", "_law_arms", "_law_tag", "_law_sorts_here", "_law_kind", "_law_names", "_law_j"] : List Str).Nodup := by decide +kernel
theorem Je : (["_law_state", "_law_scope", "_law_world", "_law_tags_here", "_law_arms", "_law_tag", "_law_sorts_here", "_law_kind", "_law_names", "_law_name_here"] : List Str).Nodup := by decide +kernel
theorem Jf (F : Fun K "_law_foot" "_law_foot" X0 f fd) (GD : Ca P w K mg base CX0 1 "_law_draw" ["_law_state", "_law_many"] (yB K)) (GM : Ca P w K mg base CX0 1 "_law_name" ["_law_world", "_law_k"] spNm) (GG : Ca P w K mg base CX0 2 "_law_give" ["_law_state", "_law_scope"] (xI K)) (GK : Ca P w K mg base CX0 2 "_law_pick" ["_law_state", "_law_scope", "_law_sort"] (xH K)) (m_len : mg "len" = none) (m_range : mg "range" = none) (m_tuple : mg "tuple" = none) : FnOk P w K mg base CX0 3 f fd ["_law_state", "_law_scope", "_law_world", "_law_tags_here"] (WG K) := by
 refine F.by scFoot (fun vs H Q E h => ?_) (fun cdv A outer s H vs Q E hr h => ?_)
 ·obtain ⟨st, sl, wp, tg, B, z, b, ps, sc, ts, tgs, rfl, _⟩ := h
  rfl
 obtain ⟨st, sl, wp, tg, B, z, b, ps, sc, ts, tgs, rfl, W, q⟩ := h
 have r1 : Room 1 _ := hr.mono (by omega)
 refine ⟨_,
  (zj (zu (i := 4) scFoot.nd rfl (Or.inl rfl) (zV zh))
  (zj (yp PassesOwn.never rfl (yg (jv 3)) (yW rfl (zD (zr (i := 5) scFoot.nd rfl (Or.inl rfl)) (zD (zr (i := 6) scFoot.nd rfl (Or.inl rfl)) (zD (zr (i := 7) scFoot.nd rfl (Or.inl rfl)) yo))))
   (zk (zM (zw zY (jv 7) zi (zy _))
    (zj (zu (i := 8) scFoot.nd rfl (Or.inl rfl) (yw zZ rfl m_tuple PyProof.Rows.boot_tuple (ja_c (xa ["_law_j"] rfl (zW rfl m_range (ja_c (zI zC rfl m_len PySem.boot_len (ja_c (jv 6) zh)) zh)) (fun _ _ _ _ _ => (zr (i := 9) Qm rfl (Or.inl rfl))) (fun _ _ _ _ _ => z9) (fun _ _ _ _ _ => (zv GM r1 rfl zx (ja_c (jv 2) (ja_c (zB yj zi (jv 9)) zh))))) zh)))
    (zk (zN (yN PySem.F.plainAttrs_list PySem.F.slot_list_append PySem.F.type_list_append yb (jv 4) (ja_c (zO (ja_c (jv 5) (ja_c (jv 8) (ja_c (zv GG hr rfl zx (ja_c (jv 0) (ja_c (zB Xr (jv 1) (xa ["_law_name_here"] rfl (xr (jv 8)) (fun _ _ _ _ _ => (zr (i := 9) Je rfl (Or.inl rfl))) (fun _ _ _ _ _ => z9) (fun _ _ _ _ _ => (zO (ja_c (jv 9) (ja_c zi zh)))))) zh))) zh)))) zh))))) zH)))
  (zj (zM (zw zY (zv GD r1 rfl zx (ja_c (jv 0) (ja_c zi zh))) zi (zy _))
   (zk (zN (vy PySem.F.plainAttrs_list PySem.F.slot_list_reverse PySem.F.type_list_reverse wC (jv 4)))) zH)
  (zk (zF (zO (ja_c zL (ja_c (zv GK hr rfl zx (ja_c (jv 0) (ja_c (jv 1) (ja_c zi zh)))) (ja_c (yw zZ rfl m_tuple PyProof.Rows.boot_tuple (ja_c (jv 4) zh)) zh))))))))), ?_⟩
 have sL := z6
 have LM : LIM = 4611686018427387904 := rfl
 have S0 := W.s
 have hBl := W.l
 refine ⟨by show 0 <= sizeLine; decide, fun pa h3 => ?_⟩
 have k3 : Kp st H (upd H pa (.lst [])) := Kp.refl.new h3
 have S3 := S0.new h3 (.lst [])
 have npa := S0.ne h3
 have fpa := h3
 have hpa := zg (H := H) (a := pa) (o := .lst [])
 generalize upd H pa (.lst []) = H3 at *
 have lts := W.t.2.1
 have hm := W.o.m
 have hscn := W.n
 refine ⟨_, rfl, tg, rfl, ⟨_, SqL.of ((W.t.kp k3 S0).1)⟩, yV (xs := ts.map V.ref) (fun i σ H' => Kp st H H' /\ Sta K H' st (B + i) /\ (∃ (as : List Addr) (ar : Arms), H' pa = some (.lst (as.map V.ref)) /\ as.length <= i /\ IsArms H' ar as /\ ar.sz <= i * 5 /\ OkAs (kvT tgs) (sc.map (·.1)) ar) /\ ∃ v1 v2 v3 v4, σ = [some (.ref st), some (.ref sl), some (.ref wp), some (.ref tg), some (.ref pa), v1, v2, v3, v4])
  ⟨k3, S3.mono (by omega), ⟨[], .nil, hpa, Nat.le_refl _, rfl, by rw [Arms.sz]; omega, trivial⟩, none, none, none, none, rfl⟩ (fun i σ H' _ h => SqL.of ((W.t.kp h.1 S0).1)) ?_ ?_⟩
 ·rintro i v σ H4 hv ⟨kp, S4, ⟨as, ar, hpa4, la, hA, hz, hO⟩, v1, v2, v3, v4, rfl⟩
  rw [List.getElem?_map] at hv
  obtain ⟨t, ht, rfl⟩ := Option.map_eq_some_iff.mp hv
  have hi : i < ts.length := (List.getElem?_eq_some_iff.mp ht).1
  obtain ⟨g, hg⟩ : ∃ g, tgs[i]? = some g := ⟨_, List.getElem?_eq_getElem (by omega)⟩
  obtain ⟨l, e2, e3⟩ := (W.t.kp kp S0).2.2 i t g ht hg
  obtain ⟨gt, g3, gs, gk, _⟩ := W.o.e i g hg
  refine ⟨_, _, rfl, SqT.of e2, rfl, _, _, rfl, _, _, rfl, _, _, rfl, rfl, ?_⟩
  refine ⟨_, rfl, rfl, _, rfl, ite2 (fun c => ?_) (fun c => ?_)⟩
  ·have hw4 := kp.k _ _ W.nw W.w
   refine ⟨_, rfl, _, _, rfl, .inl (SqL.of e3), _, rfl, by rw [List.length_map]; omega, by rw [List.length_map]; omega, ym (n := (nts g.ss).length) (fun j τ ys H' => H4 = H' /\ (∃ v, τ = [some (.ref st), some (.ref sl), some (.ref wp), some (.ref tg), some (.ref pa), some (.str g.t), some (.ref l), some (.int (g.kd : Nat)), v4, v]) /\ ys = (nms z b 4 j).map V.str) ⟨rfl, ⟨none, rfl⟩, rfl⟩ ?_ ?_⟩
   ·rintro j τ ys H5 hj ⟨rfl, ⟨v, rfl⟩, rfl⟩
    rw [List.length_map] at hj
    have ek : (4 : Int) + (0 + (j : Nat)) = ((4 + j : Nat) : Int) := by omega
    refine ⟨_, rfl, _, rfl, _, _, rfl, rfl, wp, z, b, [], 4 + j, (by show [V.ref wp, V.int ((4 : Int) + (0 + (j : Nat)))] = _; rw [ek]), hw4, W.hz, by rw [List.length_map, wb]; omega, rfl, ⟨_, rfl⟩, ?_⟩
    unfold nms
    rw [List.range_succ, List.map_append, List.map_append]
    rfl
   rintro τ ys H5 ⟨rfl, _, rfl⟩ pn hpn
   rw [List.length_map]
   have nl := wb (z := z) (b := b) (k := 4) (n := g.ss.length)
   have nd := Zs (z := z) (b := b) (k := 4) (n := g.ss.length) (by omega)
   generalize nms z b 4 g.ss.length = NS at *
   have s5 := zp hpn (.lst (NS.map V.str))
   have hpn5 := zg (H := H4) (a := pn) (o := .lst (NS.map V.str))
   generalize upd H4 pn (.lst (NS.map V.str)) = H5 at *
   refine ⟨pn, _, rfl, .inl ⟨SqL.of hpn5, fun pu h6 => ?_⟩⟩
   have s6 : Same H4 (upd H5 pu (.tup (NS.map V.str))) := s5.new h6
   have hpu := zg (H := H5) (a := pu) (o := .tup (NS.map V.str))
   have kp6 := kp.trans (.of s6)
   have S6 := S4.same s6
   have hpa6 := s6 _ _ hpa4
   have hA6 := hA.keep (.of s6)
   generalize upd H5 pu (.tup (NS.map V.str)) = H6 at *
   have Sc6 := W.c.kp kp6 S0
   refine ⟨_, rfl, .inl ⟨rfl, _, SqL.of hpa6⟩, _, rfl, _, rfl, _, rfl, _, rfl, _, rfl, pu, rfl, ⟨_, SqT.of hpu⟩, Zb (K := K) (xs := NS.map V.str) (fun j τ ys H' => Same H6 H' /\ (∃ v, τ = [some (.ref st), some (.ref sl), some (.ref wp), some (.ref tg), some (.ref pa), some (.str g.t), some (.ref l), some (.int (g.kd : Nat)), some (.ref pu), v]) /\ ∃ zs : List Addr, ys = zs.map V.ref /\ zs.length = j /\ ∀ (i : Nat) p x, zs[i]? = some p -> NS[i]? = some x -> H' p = some (.tup [.str x, .int (0 : Nat)])) ⟨Same.refl _, ⟨none, rfl⟩, [], rfl, rfl, fun i p x h => by simp at h⟩ (fun j τ ys H' _ h => SqT.of (h.1 _ _ hpu)) ?_ ?_⟩
   ·rintro j v τ ys H7 hv ⟨s7, ⟨v', rfl⟩, zs, rfl, lz, hz7⟩
    rw [List.getElem?_map] at hv
    obtain ⟨x, hx, rfl⟩ := Option.map_eq_some_iff.mp hv
    have hj := (List.getElem?_eq_some_iff.mp hx).1
    refine ⟨_, rfl, by show 2 <= sizeLine; decide, fun t' h8 => ⟨by rw [List.length_map]; omega, s7.new h8, ⟨_, rfl⟩, zs ++ [t'], by rw [List.map_append]; rfl, by rw [List.length_append, lz]; rfl, fun i' p x' h1 h2 => ?_⟩⟩
    by_cases ci : i' < j
    ·rw [List.getElem?_append_left (by omega)] at h1
     exact old h8 (hz7 i' p x' h1 h2)
    ·rw [List.getElem?_append_right (by omega)] at h1
     have : i' = j := by
      have := (List.getElem?_eq_some_iff.mp h1).1
      simp at this
      omega
     subst this
     rw [lz, Nat.sub_self] at h1
     cases h1
     rw [hx] at h2
     cases h2
     exact zg
   rintro τ ys H7 ⟨s7, _, zs, rfl, lz, hz7⟩ pc h8
   rw [List.length_map] at lz
   have s8 : Same H6 (upd H7 pc (.lst (zs.map V.ref))) := s7.new h8
   refine ⟨sl, pc, _, _, rfl, rfl, s8 _ _ Sc6.1, zg, by rw [List.length_map, List.length_map, Sc6.2.1]; omega, fun pm h9 => ?_⟩
   rw [<- List.map_append]
   have s9 : Same H6 (upd (upd H7 pc (.lst (zs.map V.ref))) pm (.lst ((ps ++ zs).map V.ref))) := s8.new h9
   have sc9 : IsSc (upd (upd H7 pc (.lst (zs.map V.ref))) pm (.lst ((ps ++ zs).map V.ref))) pm (ps ++ zs) (sc ++ NS.map fun x => (x, 0)) := by
    refine Sc6.app (.of s9) zg (by rw [List.length_map]; omega) fun i p a h1 h2 => ?_
    rw [List.getElem?_map] at h2
    obtain ⟨x', hx', rfl⟩ := Option.map_eq_some_iff.mp h2
    exact old h9 (old h8 (hz7 i p x' h1 hx'))
   have kp9 := kp6.trans (.of s9)
   have S9 := S6.same s9
   have hpa9 := s9 _ _ hpa6
   have hA9 := hA6.keep (.of s9)
   have hpu9 := s9 _ _ hpu
   generalize upd (upd H7 pc (.lst (zs.map V.ref))) pm (.lst ((ps ++ zs).map V.ref)) = H9 at *
   refine ⟨st, pm, _, _, _, rfl, S9, by omega, sc9, fun e => W.ne (List.append_eq_nil_iff.mp e).1, by rw [List.length_append, List.length_map]; omega, fun H10 pb x k10 S10 hx hb => ?_⟩
   refine ⟨by show 3 <= sizeLine; decide, fun tt h11 => ?_⟩
   have hpa10 := k10.k _ _ npa hpa9
   have tp : Tups H9 (upd (upd H10 tt (.tup [.str g.t, .ref pu, .ref pb])) pa (.lst (as.map V.ref ++ [.ref tt]))) := fun p xs hp => by
    have g := k10.tups S9 _ _ hp
    rw [zm (ye g hpa10 (by intro e; cases e))]
    exact old h11 g
   have tp2 : Tups H10 (upd (upd H10 tt (.tup [.str g.t, .ref pu, .ref pb])) pa (.lst (as.map V.ref ++ [.ref tt]))) := fun p xs g => by
    rw [zm (ye g hpa10 (by intro e; cases e))]
    exact old h11 g
   have kp11 := (kp9.trans k10).new (o := .tup [.str g.t, .ref pu, .ref pb]) h11
   refine ⟨pa, _, _, rfl, rfl, old h11 hpa10, by rw [List.length_map]; omega, kp11.put fpa, Sta.put S0 fpa kp11 ((S10.mono (by omega)).new h11 _), ⟨as ++ [tt], Arms.app ar (.cons g.t NS (.give x) .nil), by rw [zg, List.map_append]; rfl, by rw [List.length_append]; show _ + 1 <= _; omega, ?_, ?_, hO.app ⟨by rw [gt]; exact JI, by rw [W.o.sz (List.mem_of_getElem? hg), nl], ?_, nd, trivial⟩⟩, _, _, _, _, rfl⟩
   ·refine IsArms.app (hA9.keep tp) ⟨tt, pu, pb, [], rfl, ?_, tp _ _ hpu9, tp2 _ _ hb, rfl⟩
    rw [zm (zn hpa10 h11).symm]
    exact zg
   ·rw [Arms.sz_app, Arms.sz, Arms.sz, Bd.sz]
    omega
   ·show x ∈ _
    rw [List.map_append, List.map_map, show ((fun a : Str × Nat => a.1) ∘ fun x : Str => (x, 0)) = id from rfl, List.map_id] at hx
    exact hx
  ·exact ⟨kp, S4.mono (by omega), ⟨as, ar, hpa4, by omega, hA, by omega, hO⟩, _, _, _, _, rfl⟩
 rintro σ H6 ⟨kp, S6, ⟨as, ar, hpa6, la, hA, hz, hO⟩, v1, v2, v3, v4, rfl⟩
 rw [List.length_map] at la hz S6
 refine (show ∀ (u : TS) (D : Ends), (∀ (H' : Hp) (as : List Addr) (ar : Arms), Kp st H H' -> Sta K H' st (B + 25) -> H' pa = some (.lst (as.map V.ref)) -> IsArms H' ar as -> ar.sz <= 120 -> OkAs (kvT tgs) (sc.map (·.1)) ar -> u D [some (.ref st), some (.ref sl), some (.ref wp), some (.ref tg), some (.ref pa), v1, v2, v3, v4] H') -> (tSeq _ (tSeq _ u) : TS) D _ H6 from ?key) _ _ ?rest
 case key =>
  intro u D tail
  refine ⟨_, rfl, st, 2, _, rfl, S6, by omega, by decide, fun H7 r7 k7 S7 _ _ => ?_⟩
  have hpa7 := k7.k _ _ npa hpa6
  have hA7 := hA.keep (k7.tups S6)
  have kp7 := kp.trans k7
  refine ⟨rfl, _, rfl, ?_⟩
  refine ite2 (fun _ => ?_) (fun _ => ?_)
  ·refine ⟨_, rfl, .inl ⟨rfl, _, SqL.of hpa7⟩, pa, _, rfl, rfl, hpa7, ?_⟩
   have tp : Tups H7 (upd H7 pa (.lst (as.map V.ref).reverse)) := fun p xs g => by rw [zm (ye g hpa7 (by intro e; cases e))]; exact g
   exact tail _ as.reverse ar.rev (kp7.put fpa) (Sta.put S0 fpa kp7 (S7.mono (by omega))) (by rw [zg, List.map_reverse]) ((hA7.rev).keep tp) (by rw [Arms.sz_rev]; omega) hO.rev
  ·exact tail _ as ar kp7 (S7.mono (by omega)) hpa7 hA7 (by omega) hO
 case rest =>
  intro H8 as ar k8 S8 hpa8 hA8 hz8 hO8
  refine ⟨_, rfl, _, rfl, st, sl, _, 3, ps, sc, rfl, S8, by omega, W.c.kp k8 S0, W.ne, by omega, fun H9 x k9 S9 hx => ?_⟩
  have hpa9 := k9.k _ _ npa hpa8
  have hA9 := hA8.keep (k9.tups S8)
  refine ⟨_, rfl, pa, _, rfl, .inl ⟨SqL.of hpa9, fun p9 h9 => ⟨by show 3 <= sizeLine; decide, fun t h10 => ?_⟩⟩⟩
  refine q _ t (.cs x ar) (((k8.trans k9).new h9).new h10) ((((S9.mono (by omega)).new h9 _).new h10 _)) ⟨p9, as, zg, old h10 zg, (hA9.keep (.of (zp h9 _))).keep (.of (zp h10 _))⟩ ⟨hx, hO8⟩ ?_
  rw [Bd.sz]
  omega
end
end GN
namespace GN
open PySem L2 K11
def IsAr (H : Hp) (la : Addr) (ls : List Addr) (xss : List (List V)) : Prop := H la = some (.lst (ls.map V.ref)) /\ ls.length = xss.length /\ ∀ (i : Nat) l xs, ls[i]? = some l -> xss[i]? = some xs -> H l = some (.lst xs) /\ ∃ x r, xs = x :: r /\ At x
theorem Sta.neA {K : PySem.W.Frag} {H : Hp} {st p : Addr} {B : Nat} {x : V} {r : List V} (S : Sta K H st B) (h : H p = some (.lst (x :: r))) (a : At x) : p ≠ st := fun e => by
 obtain ⟨b, ns, k, h1, _⟩ := S
 rw [e, h1] at h
 cases h
 exact a
theorem IsAr.kp {K : PySem.W.Frag} {H H' : Hp} {st la : Addr} {B : Nat} {ls : List Addr} {xss : List (List V)} (h : IsAr H la ls xss) (k : Kp st H H') (S : Sta K H st B) : IsAr H' la ls xss := ⟨k.k _ _ (S.neR h.1) h.1, h.2.1, fun i l xs h1 h2 => by
 obtain ⟨a, x, r, rfl, at'⟩ := h.2.2 i l xs h1 h2
 exact ⟨k.k _ _ (S.neA a at') a, x, r, rfl, at'⟩⟩
def jK (K : PySem.W.Frag) : Sp := fun vs H Q _ => ∃ (st sl wp tg la : Addr) (B : Nat) (z : Str) (b : Bool) (ps : List Addr) (sc : List (Str × Nat)) (ts : List Addr) (tgs : List Tg) (ls : List Addr) (xss : List (List V)), vs = [.ref st, .ref sl, .ref wp, .ref tg, .ref la] /\ Wd K H st sl wp tg B z b ps sc ts tgs /\ IsAr H la ls xss /\ xss.length = 4 /\ 4 <= sc.length /\ Res K H st sc tgs (B + 100) 200 Q
section
variable {P : Program} {w : World} {K : PySem.W.Frag} {mg : Str -> Option Value} {base : Heap} {f T : Addr} {fd : FuncData}
theorem scLadder : FnScope ["_law_state", "_law_scope", "_law_world", "_law_tags_here", "_law_args", "_law_body_here", "_law_k", "_law_x"] ["_law_state", "_law_scope", "_law_world", "_law_tags_here", "_law_args"] (zo vK) := ⟨rfl, rfl, rfl, by decide +kernel, rfl, by decide +kernel, by decide +kernel⟩
theorem YQ (F : Fun K "_law_ladder" "_law_ladder" vK f fd) (GD : Ca P w K mg base CX0 1 "_law_draw" ["_law_state", "_law_many"] (yB K)) (GG : Ca P w K mg base CX0 2 "_law_give" ["_law_state", "_law_scope"] (xI K)) (GF : Ca P w K mg base CX0 3 "_law_foot" ["_law_state", "_law_scope", "_law_world", "_law_tags_here"] (WG K)) (m_range : mg "range" = none) (m_isinstance : mg "isinstance" = none) (m_str : mg "str" = none) : FnOk P w K mg base CX0 4 f fd ["_law_state", "_law_scope", "_law_world", "_law_tags_here", "_law_args"] (jK K) := by
 refine F.by scLadder (fun vs H Q E h => ?_) (fun cdv A outer s H vs Q E hr h => ?_)
 ·obtain ⟨st, sl, wp, tg, la, B, z, b, ps, sc, ts, tgs, ls, xss, rfl, _⟩ := h
  rfl
 obtain ⟨st, sl, wp, tg, la, B, z, b, ps, sc, ts, tgs, ls, xss, rfl, W, hAr, l4, s4, q⟩ := h
 have r1 : Room 1 _ := hr.mono (by omega)
 have r2 : Room 2 _ := hr.mono (by omega)
 refine ⟨_,
  (zj (zu (i := 5) scLadder.nd rfl (Or.inl rfl) (zv GF hr rfl zx (ja_c (jv 0) (ja_c (jv 1) (ja_c (jv 2) (ja_c (jv 3) zh))))))
  (zj (yp PassesOwn.never rfl (zW rfl m_range (ja_c (zv GD r1 rfl zx (ja_c (jv 0) (ja_c zi zh))) zh)) (zr (i := 6) scLadder.nd rfl (Or.inl rfl))
   (zj (zu (i := 7) scLadder.nd rfl (Or.inl rfl) (zv GD r1 rfl zx (ja_c (jv 0) (ja_c zi zh))))
   (zj (zM (yn (zI zR rfl m_isinstance PyProof.Rows.boot_isinstance (ja_c (zt zG (zt zG (jv 4) (jv 7) (fun _ _ => rfl)) zi (fun _ _ => rfl)) (ja_c (yf (v := .ty "str") rfl m_str PyProof.Rows.boot_str rfl) zh))))
    (zk (zu (i := 7) scLadder.nd rfl (Or.inl rfl) zi)) zH)
   (zk (zM (zw zY (zt zG (zt zG (jv 4) (jv 7) (fun _ _ => rfl)) zi (fun _ _ => rfl)) zi (zy _))
    (zk (zu (i := 5) scLadder.nd rfl (Or.inl rfl) (zO (ja_c zL (ja_c (zt zA (zt zG (jv 1) (jv 7) (fun _ _ => rfl)) zi (fun _ _ => rfl)) (ja_c (zv GG r2 rfl zx (ja_c (jv 0) (ja_c (jv 1) zh))) (ja_c (jv 5) zh)))))))
    (zk (zu (i := 5) scLadder.nd rfl (Or.inl rfl) (zO (ja_c zL (ja_c (zt zA (zt zG (jv 1) (jv 7) (fun _ _ => rfl)) zi (fun _ _ => rfl)) (ja_c (jv 5) (ja_c (zv GG r2 rfl zx (ja_c (jv 0) (ja_c (jv 1) zh))) zh))))))))))))
  (zk (zF (jv 5))))), ?_⟩
 have sL := z6
 have LM : LIM = 4611686018427387904 := rfl
 have S0 := W.s
 have hBl := W.l
 have hscn := W.n
 refine ⟨_, rfl, _, rfl, _, rfl, _, rfl, st, sl, wp, tg, B, z, b, ps, sc, ts, tgs, rfl, W, fun H1 p bd k1 S1 hb hbo hbz => ?_⟩
 refine ⟨_, rfl, st, 24, _, rfl, S1, by omega, by decide, fun H2 mi k2 S2 m0 m24 => ?_⟩
 obtain ⟨m, rfl⟩ : ∃ m : Nat, mi = (m : Int) := ⟨mi.toNat, by omega⟩
 refine ⟨_, rfl, by show -(2 ^ 62) <= (m : Int); omega, by show (m : Int) < 2 ^ 62; omega, wM (fun i σ H' => Kp st H H' /\ Sta K H' st (B + 31 + 2 * i) /\ ∃ (p : Addr) (bd : Bd) (v6 v7 : Option V), σ = [some (.ref st), some (.ref sl), some (.ref wp), some (.ref tg), some (.ref la), some (.ref p), v6, v7] /\ IsBd H' bd p /\ OkBd (kvT tgs) (sc.map (·.1)) bd /\ bd.sz <= 121 + 2 * i) ⟨k1.trans k2, S2, p, bd, none, none, rfl, hb.keep (k2.tups S1), hbo, hbz⟩ ?_ ?_⟩
 ·rintro i σ H3 hi ⟨kp, S3, p, bd, v6, v7, rfl, hb, hbo, hbz⟩
  have hi' : i < m := by
   have : ((m : Nat) : Int).toNat = m := by omega
   rw [<- this]; exact hi
  have gaK : ∀ H4 : Hp, Kp st H H4 -> ∀ x : Nat, x < 4 -> ∃ l y r, ls[x]? = some l /\ H4 l = some (.lst (y :: r)) /\ At y := fun H4 kp4 x hx => by
   have h1 : ls[x]? = some (ls[x]'(by rw [hAr.2.1]; omega)) := List.getElem?_eq_getElem _
   have h2 : xss[x]? = some (xss[x]'(by omega)) := List.getElem?_eq_getElem _
   obtain ⟨a, y, r, e, at'⟩ := (hAr.kp kp4 S0).2.2 x _ _ h1 h2
   rw [e] at a
   exact ⟨_, y, r, h1, a, at'⟩
  refine (show ∀ (u : TS) (D : Ends), (∀ (H4 : Hp) (x : Nat), Kp st H3 H4 -> Sta K H4 st (B + 31 + 2 * i + 1) -> x < 4 -> u D [some (.ref st), some (.ref sl), some (.ref wp), some (.ref tg), some (.ref la), some (.ref p), some (.int (0 + ((i : Nat) : Int))), some (.int (x : Nat))] H4) -> (tSeq _ (tSeq _ u) : TS) D [some (.ref st), some (.ref sl), some (.ref wp), some (.ref tg), some (.ref la), some (.ref p), some (.int (0 + ((i : Nat) : Int))), v7] H3 from ?key) _ _ ?rest
  case key =>
   intro u D hU
   refine ⟨_, rfl, st, 4, _, rfl, S3, by omega, by decide, fun H4 r k4 S4 r0 r4 => ?_⟩
   obtain ⟨x, rfl⟩ : ∃ x : Nat, r = (x : Int) := ⟨r.toNat, by omega⟩
   have kp4 := kp.trans k4
   have hAr4 := hAr.kp kp4 S0
   obtain ⟨l, y, rr, hl, hH, at'⟩ := gaK H4 kp4 x (by omega)
   refine ⟨_, rfl, _, rfl, la, _, _, _, rfl, rfl, SqL.of hAr4.1, zq (by rw [List.getElem?_map, hl]; rfl), l, _, _, _, rfl, rfl, SqL.of hH, zq (j := 0) rfl, ?_⟩
   match y, at' with
   | .int y, _ => exact ⟨_, _, _, _, rfl, .int _, rfl, _, rfl, iteF (nxt (hU H4 x k4 S4 (by omega)))⟩
   | .str y, _ => exact ⟨_, _, _, _, rfl, .str _, rfl, _, rfl, iteT (hU H4 0 k4 S4 (by decide))⟩
  case rest =>
   intro H4 x k4 S4 hx
   have kp4 := kp.trans k4
   have hAr4 := hAr.kp kp4 S0
   have Sc4 := W.c.kp kp4 S0
   have hb4 := hb.keep (k4.tups S3)
   obtain ⟨l, y, rr, hl, hH, at'⟩ := gaK H4 kp4 x hx
   have lps := Sc4.2.1
   have g1 : ps[x]? = some (ps[x]'(by omega)) := List.getElem?_eq_getElem _
   have g2 : sc[x]? = some (sc[x]'(by omega)) := List.getElem?_eq_getElem _
   generalize ps[x]'(by omega) = pp at g1
   generalize sc[x]'(by omega) = aa at g2
   have g3 := Sc4.2.2 x pp aa g1 g2
   have ma : aa.1 ∈ sc.map (·.1) := List.mem_map.mpr ⟨aa, List.mem_of_getElem? g2, rfl⟩
   refine ⟨_, rfl, _, rfl, la, _, _, _, rfl, rfl, SqL.of hAr4.1, zq (by rw [List.getElem?_map, hl]; rfl), l, _, _, _, rfl, rfl, SqL.of hH, zq (j := 0) rfl, (by cases y <;> first | exact at'.elim | rfl), _, rfl, ite2 (fun _ => ?_) (fun _ => ?_)⟩
   ·refine ⟨_, rfl, _, rfl, sl, _, _, _, rfl, rfl, SqL.of Sc4.1, zq (by rw [List.getElem?_map, g1]; rfl), pp, _, _, _, rfl, rfl, SqT.of g3, zq (j := 0) rfl, _, rfl, _, rfl, st, sl, _, ps, sc, rfl, S4, by omega, Sc4, W.ne, by omega, fun H5 pg xg k5 S5 hxg hpg => ⟨_, rfl, by show 4 <= sizeLine; decide, fun pn h6 => ?_⟩⟩
    have o6 := zp h6 (.tup [.str "if", .str aa.1, .ref pg, .ref p])
    refine ⟨(kp4.trans k5).trans (.of o6), (S5.same o6).mono (by omega), pn, .iff aa.1 (.give xg) bd, _, _, rfl, ⟨pg, p, zg, o6 _ _ hpg, (hb4.keep (k5.tups S4)).keep (.of o6)⟩, ⟨ma, hxg, hbo⟩, ?_⟩
    rw [Bd.sz, Bd.sz]
    omega
   ·refine ⟨_, rfl, _, rfl, sl, _, _, _, rfl, rfl, SqL.of Sc4.1, zq (by rw [List.getElem?_map, g1]; rfl), pp, _, _, _, rfl, rfl, SqT.of g3, zq (j := 0) rfl, _, rfl, _, rfl, _, rfl, st, sl, _, ps, sc, rfl, S4, by omega, Sc4, W.ne, by omega, fun H5 pg xg k5 S5 hxg hpg => ⟨by show 4 <= sizeLine; decide, fun pn h6 => ?_⟩⟩
    have o6 := zp h6 (.tup [.str "if", .str aa.1, .ref p, .ref pg])
    refine ⟨(kp4.trans k5).trans (.of o6), (S5.same o6).mono (by omega), pn, .iff aa.1 bd (.give xg), _, _, rfl, ⟨p, pg, zg, (hb4.keep (k5.tups S4)).keep (.of o6), o6 _ _ hpg⟩, ⟨ma, hbo, hxg⟩, ?_⟩
    rw [Bd.sz, Bd.sz]
    omega
 ·rintro σ H3 ⟨kp, S3, p, bd, v6, v7, rfl, hb, hbo, hbz⟩
  exact ⟨_, rfl, q H3 p bd kp (S3.mono (by omega)) hb hbo (by omega)⟩
end
end GN
namespace L2
open PySem PySem.Spec
section
variable {X : Cx}
def rUpd : V -> List V -> Hp -> VK -> Prop := fun x vs H Q => ∃ d o kvs more, x = .ref d /\ vs = [.ref o] /\ H d = some (.dK kvs) /\ H o = some (.dK more) /\ d ≠ o /\ kvs.length + more.length <= sizeLine /\ Q .non (upd H d (.dK (yG kvs more)))
theorem Qn : MtR X "dict.update" rUpd := by
 intro pins s σ H x vs v us Q I rx rv h
 obtain ⟨d, o, kvs, more, rfl, rfl, hd, ho, hne, hz, q⟩ := h
 cases rx
 obtain ⟨u, rfl, ru⟩ := rv.one
 cases ru
 obtain ⟨z1, hs1, ws1, rel1, dd1⟩ := XI I.hok hd
 obtain ⟨z2, hs2, ws2, rel2, dd2⟩ := XI I.hok ho
 refine call_meetsIn PySem.F.slot_dict_update dd1.typeIs PySem.F.entry_dict_update (PySem.F.args_dict_update_2 _ _) (meets_dict_update (zP X.prog X.w) d o hne hs2) ⟨_, _, dd1, dd2, (by rw [<- rel1.length, <- rel2.length]; exact hz), fun h' dm _ sb => ?_⟩
 have he : ∃ q, h'.get? d = some q := let ⟨q, _, _, hq, _⟩ := dm; ⟨q, hq⟩
 exact ⟨.non, _, vE I (by rw [hd]; exact True.intro) sb he (XJ (Nat.le_trans (yM more kvs) hz) hs1 (KV.merge rel2 rel1) dm), rfl, q⟩
theorem Qo : jMt X "dict.update" rUpd := ⟨Qn⟩
end
end L2
namespace GN
open PySem L2 K11
def RmOk (rk : List (Key × V)) (kvs : Kvs) : Prop := ∀ k, (valV rk k).getD (.int 0) = .int (((dl kvs (kV k)).getD 0 : Nat) : Int)
theorem Qp {x : V} (h : At x) : ∃ k : Key, x = kV k := by
 match x, h with
 | .int i, _ => exact ⟨.inl i, rfl⟩
 | .str t, _ => exact ⟨.inr t, rfl⟩
def IsPs (H0 H : Hp) (ls : List Addr) (fs : List (List V)) : Prop := ls.length = fs.length /\ ∀ (i : Nat) l f, ls[i]? = some l -> fs[i]? = some f -> H0 l = none /\ H l = some (.lst f)
theorem IsPs.same {H0 H H' : Hp} {ls : List Addr} {fs : List (List V)} (h : IsPs H0 H ls fs) (s : Same H H') : IsPs H0 H' ls fs := ⟨h.1, fun i l f h1 h2 => ⟨(h.2 i l f h1 h2).1, s _ _ (h.2 i l f h1 h2).2⟩⟩
theorem IsPs.mem {H0 H : Hp} {ls : List Addr} {fs : List (List V)} (h : IsPs H0 H ls fs) {l : Addr} (m : l ∈ ls) : ∃ f, H l = some (.lst f) := by
 obtain ⟨i, hi⟩ := List.getElem?_of_mem m
 have := (List.getElem?_eq_some_iff.mp hi).1
 have l1 := h.1
 exact ⟨_, (h.2 i l _ hi (List.getElem?_eq_getElem (by omega))).2⟩
theorem IsPs.put {H0 H : Hp} {ls : List Addr} {fs : List (List V)} {c : Addr} {o : HO} (h : IsPs H0 H ls fs) (n : c ∉ ls) : IsPs H0 (upd H c o) ls fs := ⟨h.1, fun i l f h1 h2 => ⟨(h.2 i l f h1 h2).1, by
 rw [zm (fun e => n (by rw [<- e]; exact List.mem_of_getElem? h1))]
 exact (h.2 i l f h1 h2).2⟩⟩
theorem IsPs.snoc {H0 H : Hp} {ls : List Addr} {fs : List (List V)} {c : Addr} {f : List V} (h : IsPs H0 H ls fs) (h0 : H0 c = none) (hc : H c = some (.lst f)) : IsPs H0 H (ls ++ [c]) (fs ++ [f]) := by
 have l1 := h.1
 refine ⟨by rw [List.length_append, List.length_append, l1]; rfl, fun i l g h1 h2 => ?_⟩
 by_cases c' : i < ls.length
 ·rw [List.getElem?_append_left (by omega)] at h1 h2
  exact h.2 i l g h1 h2
 ·rw [List.getElem?_append_right (by omega)] at h1 h2
  have : i = ls.length := by
   have := (List.getElem?_eq_some_iff.mp h1).1
   simp at this
   omega
  subst this
  rw [Nat.sub_self] at h1
  rw [l1, Nat.sub_self] at h2
  cases h1
  cases h2
  exact ⟨h0, hc⟩
theorem Jg : ∀ (xs : List V), cutV xs (some 1) none = xs.tail
 | [] => rfl
 | x :: l => by
  unfold cutV
  have c1 : HT.sIx (x :: l).length 0 (some 1) = 1 := by
   show (if (1 : Int) < 0 then ((1 : Int) + ((x :: l).length : Nat)).toNat else min (1 : Int).toNat (x :: l).length) = 1
   rw [if_neg (by decide), List.length_cons]
   show min 1 (l.length + 1) = 1
   omega
  have c2 : HT.sIx (x :: l).length (x :: l).length none = (x :: l).length := rfl
  rw [c1, c2, List.length_cons]
  show l.take (l.length + 1 - 1) = l
  rw [Nat.add_sub_cancel, List.take_of_length_le (Nat.le_refl _)]
def vX (kvs : Kvs) : Sp := fun vs H Q _ => ∃ (pl d : Addr) (xs : List V) (rk : List (Key × V)), vs = [.ref pl, .ref d] /\ H pl = some (.lst xs) /\ (∀ x ∈ xs, At x) /\ xs.length <= 300 /\ H d = some (.dK rk) /\ RmOk rk kvs /\ ∀ H' p ls, Same H H' -> H p = none -> H' p = some (.lst (ls.map V.ref)) -> IsPs H H' ls (pcs kvs 1 xs.tail []) -> Q (.ref p) H'
section
variable {P : Program} {w : World} {K : PySem.W.Frag} {mg : Str -> Option Value} {base : Heap} {f T : Addr} {fd : FuncData}
theorem scSplit : FnScope ["_law_parts_here", "_law_rooms", "_law_some", "_law_lack", "_law_part"] ["_law_parts_here", "_law_rooms"] (zo vL) := ⟨rfl, rfl, rfl, by decide +kernel, rfl, by decide +kernel, by decide +kernel⟩
theorem WH {kvs : Kvs} (F : Fun K "_law_split" "_law_split" vL f fd) : FnOk P w K mg base CX0 1 f fd ["_law_parts_here", "_law_rooms"] (vX kvs) := by
 refine F.by scSplit (fun vs H Q E h => ?_) (fun cdv A outer s H vs Q E hr h => ?_)
 ·obtain ⟨pl, d, xs, rk, rfl, _⟩ := h
  rfl
 obtain ⟨pl, d, xs, rk, rfl, hpl, hat, l300, hd, hrk, q⟩ := h
 refine ⟨_,
  (zj (zu (i := 2) scSplit.nd rfl (Or.inl rfl) (zV zh))
  (zj (zu (i := 3) scSplit.nd rfl (Or.inl rfl) zi)
  (zj (yp PassesOwn.never rfl (yg (jg ZN (jv 0) (ZJ zi) ZI)) (zr (i := 4) scSplit.nd rfl (Or.inl rfl))
   (zj (zM (zw zY (jv 3) zi (zy _))
    (zj (zN (yN PySem.F.plainAttrs_list PySem.F.slot_list_append PySem.F.type_list_append yb (jv 2) (ja_c (zV zh) zh)))
    (zk (zu (i := 3) scSplit.nd rfl (Or.inl rfl) zi))) zH)
   (zj (zN (yN PySem.F.plainAttrs_list PySem.F.slot_list_append PySem.F.type_list_append yb (zt zG (jv 2) (j4 zi) (fun _ _ => rfl)) (ja_c (jv 4) zh)))
   (zk (zu (i := 3) scSplit.nd rfl (Or.inl rfl) (zB yR (zB yj (jv 3) (We hr (jv 1) (jv 4) zi)) zi))))))
  (zk (zF (jv 2)))))), ?_⟩
 have sL := z6
 refine ⟨by show 0 <= sizeLine; decide, fun ps h0 => ?_⟩
 have s0 := zp h0 (.lst [])
 have e0 := zg (H := H) (a := ps) (o := .lst [])
 generalize upd H ps (.lst []) = H1 at *
 refine ⟨_, rfl, _, rfl, pl, _, rfl, SqL.of (s0 _ _ hpl), fun pc h1 => ?_⟩
 rw [Jg xs]
 have s1 : Same H (upd H1 pc (.lst xs.tail)) := s0.new h1
 have e1 := old (o := .lst xs.tail) h1 e0
 have npc : pc ≠ ps := (zn e0 h1).symm
 have fpc : H pc = none := s0.free h1
 have epc := zg (H := H1) (a := pc) (o := .lst xs.tail)
 generalize upd H1 pc (.lst xs.tail) = H2 at *
 have lt : xs.tail.length <= 300 := by rw [List.length_tail]; omega
 have hat' : ∀ x ∈ xs.tail, At x := fun x h => hat x (List.mem_of_mem_tail h)
 generalize xs.tail = ys at *
 refine ⟨pc, rfl, ⟨_, SqL.of epc⟩, yV (xs := ys) (fun i σ H' => Same H H' /\ H' pc = some (.lst ys) /\ ∃ (L : Nat) (ds : List (List V)) (acc : List V) (ls : List Addr) (v4 : Option V), σ = [some (.ref pl), some (.ref d), some (.ref ps), some (.int (L : Nat)), v4] /\ IsPs H H' ls ds /\ pcs kvs 1 ys [] = ds ++ pcs kvs (if L = 0 then 1 else L) (ys.drop i) acc /\ ls.length <= i /\ acc.length <= i /\ pc ∉ ls /\ ps ∉ ls /\ ((L = 0 /\ acc = [] /\ H' ps = some (.lst (ls.map V.ref))) \/ (L ≠ 0 /\ acc ≠ [] /\ ∃ c, H c = none /\ c ∉ ls /\ c ≠ ps /\ c ≠ pc /\ H' c = some (.lst acc) /\ H' ps = some (.lst ((ls ++ [c]).map V.ref))))) ⟨s1, epc, 0, [], [], [], none, rfl, ⟨rfl, fun i l f h => by simp at h⟩, rfl, Nat.le_refl _, Nat.le_refl _, by simp, by simp, .inl ⟨rfl, rfl, e1⟩⟩ (fun i σ H' _ h => SqL.of h.2.1) ?_ ?_⟩
 ·rintro i x σ H3 hx ⟨s3, epc3, L, ds, acc, ls, v4, rfl, hP, hpcs, lls, lac, npl, nsl, hcase⟩
  have hi := (List.getElem?_eq_some_iff.mp hx).1
  have hdr : ys.drop i = x :: ys.drop (i + 1) := by
   obtain ⟨hl, e⟩ := List.getElem?_eq_some_iff.mp hx
   rw [<- e]
   exact List.drop_eq_getElem_cons hl
  refine (show ∀ (u : TS) (D : Ends), (∀ (H4 : Hp) (c : Addr) (L' : Nat), L' = (if L = 0 then 1 else L) -> Same H H4 -> H4 pc = some (.lst ys) -> IsPs H H4 ls ds -> H c = none -> c ∉ ls -> c ≠ ps -> c ≠ pc -> H4 c = some (.lst acc) -> H4 ps = some (.lst ((ls ++ [c]).map V.ref)) -> u D [some (.ref pl), some (.ref d), some (.ref ps), some (.int (L' : Nat)), some x] H4) -> (tSeq _ u : TS) D [some (.ref pl), some (.ref d), some (.ref ps), some (.int (L : Nat)), some x] H3 from ?key) _ _ ?rest
  case key =>
   intro u D hU
   rcases hcase with ⟨rfl, rfl, hps⟩ | ⟨hL, hacc, c, c1, c2, c3, c4, c5, hps⟩
   ·refine ⟨_, rfl, rfl, _, rfl, yC (by decide) ?_⟩
    refine ⟨_, rfl, .inl ⟨rfl, _, SqL.of hps⟩, by show 0 <= sizeLine; decide, fun c hc => ?_⟩
    have nc : c ≠ ps := (zn hps hc).symm
    have nc2 : c ≠ pc := (zn epc3 hc).symm
    have nc3 : c ∉ ls := fun m => by
     obtain ⟨g, hg⟩ := hP.mem m
     rw [hc] at hg
     cases hg
    refine ⟨ps, _, _, rfl, rfl, old hc hps, by rw [List.length_map]; omega, ?_⟩
    refine hU _ c 1 rfl ((s3.new hc).put h0) (by rw [zm npc]; exact old hc epc3) ((hP.same (zp hc _)).put nsl) (s3.free hc) nc3 nc nc2 (by rw [zm nc]; exact zg) ?_
    rw [zg, List.map_append]
    rfl
   ·refine ⟨_, rfl, rfl, _, rfl, zX (decide_eq_false (by intro e; injection e with e; omega)) (nxt ?_)⟩
    exact hU H3 c L (by rw [if_neg hL]) s3 epc3 hP c1 c2 c3 c4 c5 hps
  case rest =>
   intro H4 c L' eL s4 epc4 hP4 c1 c2 c3 c4 c5 hps
   have L1 : 1 <= L' := by rw [eL]; split <;> omega
   rw [<- eL, hdr, xF] at hpcs
   obtain ⟨k, rfl⟩ := Qp (hat' x (List.mem_of_getElem? hx))
   have em : (ls ++ [c]).map V.ref = ls.map V.ref ++ [V.ref c] := by rw [List.map_append]; rfl
   rw [em] at hps
   refine ⟨_, rfl, _, rfl, ps, _, _, _, rfl, rfl, SqL.of hps, Xd _ _, .inl ⟨rfl, _, SqL.of c5⟩, _, rfl, c, _, _, rfl, rfl, c5, by omega, ?_⟩
   have s5 : Same H (upd H4 c (.lst (acc ++ [kV k]))) := s4.put c1
   have epc5 : upd H4 c (.lst (acc ++ [kV k])) pc = some (.lst ys) := by rw [zm c4.symm]; exact epc4
   have hps5 : upd H4 c (.lst (acc ++ [kV k])) ps = some (.lst ((ls ++ [c]).map V.ref)) := by rw [zm c3.symm, em]; exact hps
   have hP5 : IsPs H (upd H4 c (.lst (acc ++ [kV k]))) ls ds := hP4.put c2
   have c5' := zg (H := H4) (a := c) (o := .lst (acc ++ [kV k]))
   generalize upd H4 c (.lst (acc ++ [kV k])) = H5 at *
   refine ⟨_, rfl, _, rfl, d, rfl, .inl ⟨_, .inl (s5 _ _ hd)⟩, _, rfl, _, DGet.k (s5 _ _ hd), ?_⟩
   rw [hrk k]
   generalize (dl kvs (kV k)).getD 0 = dn at *
   refine ⟨_, _, rfl, rfl, _, _, rfl, rfl, ?_⟩
   refine ⟨s5, epc5, L' - 1 + dn, ?_⟩
   have eI : ((L' : Nat) : Int) + ((dn : Nat) : Int) - 1 = ((L' - 1 + dn : Nat) : Int) := by omega
   by_cases c0 : L' - 1 + dn = 0
   ·rw [if_pos c0] at hpcs
    refine ⟨ds ++ [acc ++ [kV k]], [], ls ++ [c], _, by rw [<- eI]; rfl, hP5.snoc c1 c5', by rw [hpcs, if_pos c0, List.append_assoc]; rfl, by rw [List.length_append]; show _ + 1 <= _; omega, Nat.zero_le _, ?_, ?_, .inl ⟨c0, rfl, hps5⟩⟩
    ·intro m
     rcases List.mem_append.mp m with m | m
     ·exact npl m
     ·exact c4 (List.mem_singleton.mp m).symm
    ·intro m
     rcases List.mem_append.mp m with m | m
     ·exact nsl m
     ·exact c3 (List.mem_singleton.mp m).symm
   ·rw [if_neg c0] at hpcs
    exact ⟨ds, acc ++ [kV k], ls, _, by rw [<- eI]; rfl, hP5, by rw [hpcs, if_neg c0], by omega, by rw [List.length_append]; show _ + 1 <= _; omega, npl, nsl, .inr ⟨c0, by simp, c, c1, c2, c3, c4, c5', hps5⟩⟩
 ·rintro σ H3 ⟨s3, epc3, L, ds, acc, ls, v4, rfl, hP, hpcs, lls, lac, npl, nsl, hcase⟩
  rw [List.drop_of_length_le (Nat.le_refl _), V6] at hpcs
  rcases hcase with ⟨rfl, rfl, hps⟩ | ⟨hL, hacc, c, c1, c2, c3, c4, c5, hps⟩
  ·rw [if_pos rfl, List.append_nil] at hpcs
   exact ⟨_, rfl, q H3 ps ls s3 h0 hps (by rw [hpcs]; exact hP)⟩
  ·rw [if_neg hacc] at hpcs
   exact ⟨_, rfl, q H3 ps (ls ++ [c]) s3 h0 hps (by rw [hpcs]; exact hP.snoc c1 c5)⟩
end
end GN
namespace GN
open PySem L2 K11
theorem Yg {kvs : Kvs} : ∀ {xs : List V} {n L : Nat} {acc : List V}, hgt kvs xs = some n -> 1 <= L -> L <= n -> ∃ p q, xs = p ++ q /\ pcs kvs L xs acc = (acc ++ p) :: pcs kvs 1 q [] /\ hgt kvs p = some L /\ hgt kvs q = some (n - L)
 | [], n, L, acc, h, h1, h2 => by
  cases h
  omega
 | x :: r, n, L, acc, h, h1, h2 => by
  rw [yr] at h
  cases e1 : hgt kvs r with
  | none => rw [e1] at h; cases h
  | some m =>
   rw [e1] at h
   cases e2 : dl kvs x with
   | none => rw [e2] at h; cases h
   | some s =>
    rw [e2] at h
    dsimp only at h
    by_cases c : s <= m
    ·rw [if_pos c] at h
     cases h
     rw [xF, e2]
     show ∃ p q, x :: r = p ++ q /\ (if L - 1 + s = 0 then _ else _) = _ /\ _
     by_cases c0 : L - 1 + s = 0
     ·rw [if_pos c0]
      refine ⟨[x], r, rfl, rfl, ?_, ?_⟩
      ·rw [yr, e2, show hgt kvs [] = some 0 from rfl]
       dsimp only
       rw [if_pos (by omega)]
       congr 1
       omega
      ·rw [e1]
       congr 1
       omega
     ·rw [if_neg c0]
      obtain ⟨p, q, a1, a2, a3, a4⟩ := Yg (acc := acc ++ [x]) e1 (show 1 <= L - 1 + s by omega) (by omega)
      refine ⟨x :: p, q, by rw [a1]; rfl, by show pcs kvs (L - 1 + s) r (acc ++ [x]) = _; rw [a2, List.append_assoc]; rfl, ?_, ?_⟩
      ·rw [yr, e2, a3]
       dsimp only
       rw [if_pos (by omega)]
       congr 1
       omega
      ·rw [a4]
       congr 1
       omega
    ·rw [if_neg c] at h
     cases h
theorem Jh {kvs : Kvs} {x : V} {r : List V} {n : Nat} (h : hgt kvs (x :: r) = some n) : 1 <= n := by
 rw [yr] at h
 split at h
 ·split at h
  ·cases h; omega
  ·cases h
 ·cases h
def Gd (kvs : Kvs) (f : List V) : Prop := f.length <= 300 /\ (∀ x ∈ f, At x) /\ hgt kvs f = some 1
theorem WI {kvs : Kvs} : ∀ {n : Nat} {xs : List V}, xs.length <= 300 -> (∀ x ∈ xs, At x) -> hgt kvs xs = some n -> (pcs kvs 1 xs []).length = n /\ ∀ f ∈ pcs kvs 1 xs [], Gd kvs f
 | 0, xs, h1, h2, h3 => by
  cases xs with
  | nil => exact ⟨rfl, fun f h => by cases h⟩
  | cons x r => exact absurd (Jh h3) (by decide)
 | n + 1, xs, h1, h2, h3 => by
  obtain ⟨p, q, rfl, a2, a3, a4⟩ := Yg (acc := []) h3 (Nat.le_refl 1) (by omega)
  rw [List.length_append] at h1
  obtain ⟨b1, b2⟩ := WI (n := n) (xs := q) (by omega) (fun x m => h2 x (List.mem_append_right _ m)) a4
  rw [a2]
  refine ⟨by rw [List.length_cons, b1], fun f hf => ?_⟩
  rcases List.mem_cons.mp hf with rfl | hf
  ·exact ⟨by show f.length <= 300; omega, fun x m => h2 x (List.mem_append_left _ m), a3⟩
  ·exact b2 f hf
theorem Qq {kvs : Kvs} {t : Str} {r : List V} {n : Nat} (h : Gd kvs (.str t :: r)) (s : szOf kvs t = some n) : (pcs kvs 1 r []).length = n /\ ∀ f ∈ pcs kvs 1 r [], Gd kvs f := by
 obtain ⟨h1, h2, h3⟩ := h
 rw [List.length_cons] at h1
 refine WI (by omega) (fun x m => h2 x (List.mem_cons_of_mem _ m)) ?_
 rw [yr, show dl kvs (.str t) = some n from s] at h3
 cases e1 : hgt kvs r with
 | none => rw [e1] at h3; cases h3
 | some m =>
  rw [e1] at h3
  dsimp only at h3
  by_cases c : n <= m
  ·rw [if_pos c] at h3
   have := Option.some.inj h3
   congr 1
   omega
  ·rw [if_neg c] at h3
   cases h3
def AtO : List V ⊕ Str -> Prop
 | .inl f => ∀ x ∈ f, At x
 | .inr _ => True
def Fx (kvs : Kvs) (H : Hp) (v : V) (f : List V) : Prop := ∃ l, v = .ref l /\ H l = some (.lst f) /\ Gd kvs f
theorem Fx.kx {kvs : Kvs} {d : Addr} {H H' : Hp} {v : V} {f : List V} {ks : List (Key × V)} (k : KX [d] H H') (hd : H d = some (.dK ks)) (h : Fx kvs H v f) : Fx kvs H' v f := by
 obtain ⟨l, e, hl, g⟩ := h
 refine ⟨l, e, k _ _ (fun z => ?_) hl, g⟩
 rw [List.mem_singleton.mp z, hd] at hl
 cases hl
theorem ER.putA {R : V -> List V -> Prop} : ∀ {ns : List Str} {ys : List V} {fs : List (List V)} {ks : List (Key × V)} {e : En}, ER R ks e -> ys.length = fs.length -> (∀ (i : Nat) y f, ys[i]? = some y -> fs[i]? = some f -> R y f) -> ER R (yG ks (zkv ns ys)) (putA e ns fs)
 | [], ys, fs, ks, e, h, _, _ => h
 | n :: ns, [], fs, ks, e, h, l, _ => by
  cases fs with
  | nil => exact h
  | cons _ _ => simp at l
 | n :: ns, y :: ys, [], ks, e, h, l, _ => by simp at l
 | n :: ns, y :: ys, f :: fs, ks, e, h, l, g => ER.putA (ns := ns) (ys := ys) (fs := fs) (h.put (n := n) (g 0 y f rfl rfl)) (by simpa using l) fun i y' f' h1 h2 => g (i + 1) y' f' (by simpa using h1) (by simpa using h2)
theorem Arms.hs_len : ∀ as : Arms, as.hs.length <= as.sz
 | .nil => Nat.le_refl _
 | .cons t ns b r => by
  have := Arms.hs_len r
  show r.hs.length + 1 <= ns.length + b.sz + r.sz + 1
  omega
def Yh (kvs : Kvs) : Sp := fun vs H Q _ => ∃ (pb d rd : Addr) (bd : Bd) (hk rk : List (Key × V)) (e : En) (ks : List Str), vs = [.ref pb, .ref d, .ref rd] /\ IsBd H bd pb /\ OkBd kvs ks bd /\ H d = some (.dK hk) /\ ER (Fx kvs H) hk e /\ Bnd ks e /\ H rd = some (.dK rk) /\ RmOk rk kvs /\ d ≠ rd /\ hk.length + bd.sz <= 900 /\ ∀ H' r, KX [d] H H' -> Ans H' r (goB kvs e bd) -> AtO (goB kvs e bd) -> Q (.ref r) H'
section
variable {P : Program} {w : World} {K : PySem.W.Frag} {mg : Str -> Option Value} {base : Heap} {f T : Addr} {fd : FuncData}
theorem scDue35 : FnScope ["_law_body_here", "_law_here", "_law_rooms", "_law_parts_here", "_law_some"] ["_law_body_here", "_law_here", "_law_rooms"] (zo sDue) := ⟨rfl, rfl, rfl, by decide +kernel, rfl, by decide +kernel, by decide +kernel⟩
theorem Ji : (["_law_body_here", "_law_here", "_law_rooms", "_law_parts_here", "_law_some", "_law_arm"] : List Str).Nodup := by decide +kernel
theorem WJ {kvs : Kvs} (F : Fun K "_law_due" "_law_due" sDue f fd) (GS : Ca P w K mg base CX0 1 "_law_split" ["_law_parts_here", "_law_rooms"] (vX kvs)) (m_isinstance : mg "isinstance" = none) (m_str : mg "str" = none) (m_int : mg "int" = none) (m_dict : mg "dict" = none) (m_zip : mg "zip" = none) : FnOk P w K mg base CX0 2 f fd ["_law_body_here", "_law_here", "_law_rooms"] (Yh kvs) := by
 refine F.by scDue35 (fun vs H Q E h => ?_) (fun cdv A outer s H vs Q E hr h => ?_)
 ·obtain ⟨pb, d, rd, bd, hk, rk, e, ks, rfl, _⟩ := h
  rfl
 obtain ⟨pb, d, rd, bd, hk, rk, e, ks, rfl, hb, hO, hd, hE, hB, hrd, hrk, ndr, hsz, q⟩ := h
 refine ⟨_,
  (zj (wm PassesOwn.never (zw wn (zt zA (jv 0) zi (fun _ _ => rfl)) zL (zy _))
   (zj (zu (i := 3) scDue35.nd rfl (Or.inr rfl) (yD hr (jv 1) (zt zA (jv 0) zi (fun _ _ => rfl))))
   (zk (zM (zw zY (zt zA (jv 0) zi (fun _ _ => rfl)) zL (zy _))
    (zj (zM (yn (zI zR rfl m_isinstance PyProof.Rows.boot_isinstance (ja_c (zt zG (jv 3) zi (fun _ _ => rfl)) (ja_c (yf (v := .ty "str") rfl m_str PyProof.Rows.boot_str rfl) zh))))
     (zk (zF (zO (ja_c zL (ja_c zL zh))))) zH)
    (zk (zu (i := 0) scDue35.nd rfl (Or.inl rfl) (zt zA (jv 0) (zB yj zi (yw VV rfl m_int PyProof.Rows.boot_int (ja_c (xx zY (zt zG (jv 3) zi (fun _ _ => rfl)) zi (zy _)) zh))) (fun _ _ => rfl)))))
    (zj (yx ["_law_arm"] (i := 4) scDue35.nd rfl (Or.inl rfl) rfl (xr (zt zA (jv 0) zi (fun _ _ => rfl))) (fun _ _ _ _ _ => (zr (i := 5) Ji rfl (Or.inl rfl))) (fun _ _ _ _ _ => (xy (zw zY (zt (ZX K) (jv 5) zi (fun _ _ => rfl)) (zt (jt K) (jv 3) zi (fun _ _ => rfl)) (zy _)))) (fun _ _ _ _ _ => (jv 5)))
    (zj (zM (zw (Zc hr) (jv 4) (zV zh) (zy _))
     (zk (zF (zO (ja_c zL (ja_c zL zh))))) zH)
    (zj (zN (yN PySem.F.plainAttrs_dict PySem.F.slot_dict_update PySem.F.type_dict_update Qo (jv 1) (ja_c (xE rfl rfl m_dict rfl m_zip (ja_c (zt zA (zt zG (jv 4) zi (fun _ _ => rfl)) zi (fun _ _ => rfl)) (ja_c (zv GS hr rfl zx (ja_c (jv 3) (ja_c (jv 2) zh))) zh))) zh)))
    (zk (zu (i := 0) scDue35.nd rfl (Or.inl rfl) (zt zA (zt zG (jv 4) zi (fun _ _ => rfl)) zi (fun _ _ => rfl)))))))))))
  (zk (zF (zO (ja_c zL (ja_c (jg ZN (yD hr (jv 1) (zt zA (jv 0) zi (fun _ _ => rfl))) ZI (ZJ zi)) zh)))))), ?_⟩
 have sL := z6
 obtain ⟨G, eG⟩ : ∃ G, goB kvs e bd = G := ⟨_, rfl⟩
 rw [eG] at q
 refine ⟨fun m σ H' => KX [d] H H' /\ ∃ (pb : Addr) (bd : Bd) (hk : List (Key × V)) (e' : En) (ks : List Str) (v3 v4 : Option V), σ = [some (.ref pb), some (.ref d), some (.ref rd), v3, v4] /\ m = bd.sz /\ IsBd H' bd pb /\ OkBd kvs ks bd /\ H' d = some (.dK hk) /\ ER (Fx kvs H') hk e' /\ Bnd ks e' /\ hk.length + bd.sz <= 900 /\ goB kvs e' bd = G, ⟨_, KX.refl, pb, bd, hk, e, ks, none, none, rfl, rfl, hb, hO, hd, hE, hB, hsz, eG⟩, ?_⟩
 rintro m σ H1 ⟨k1, pb, bd, hk, e, ks, v3, v4, rfl, rfl, hb, hO, hd1, hE, hB, hsz, eG⟩
 have hrd1 : H1 rd = some (.dK rk) := k1 _ _ (fun z => ndr (List.mem_singleton.mp z).symm) hrd
 match bd, hb, hO, hsz, eG with
 | .give x, hb, hO, hsz, eG =>
  have hb : H1 pb = some (.tup [.str "give", .str x]) := hb
  obtain ⟨g, eg⟩ := hB.get hO
  obtain ⟨v, a1, l, rfl, hl, hg⟩ := hE.val eg
  refine ⟨_, rfl, pb, _, _, _, rfl, rfl, SqT.of hb, rfl, rfl, _, rfl, zX (by decide +kernel) ?_⟩
  refine ⟨_, rfl, _, rfl, pb, _, _, _, rfl, rfl, SqT.of hb, zq (j := 1) rfl, d, _, rfl, by rw [<- a1]; exact DGet.k (k := .inr x) hd1, _, rfl, l, _, rfl, SqL.of hl, fun pc hc => ?_⟩
  rw [qZ (by decide)]
  refine ⟨by show 2 <= sizeLine; decide, fun pt ht => q _ pt ((k1.trans (.of (zp hc _))).trans (.of (zp ht _))) ?_ ?_⟩
  ·rw [<- eG, goB, eg]
   exact ⟨pc, zg, old ht zg⟩
  ·rw [<- eG, goB, eg]
   exact hg.2.1
 | .iff x b c, hb, hO, hsz, eG =>
  obtain ⟨q1, q2, hb, hq1, hq2⟩ : ∃ q r, H1 pb = some (.tup [.str "if", .str x, .ref q, .ref r]) /\ IsBd H1 b q /\ IsBd H1 c r := hb
  obtain ⟨g, eg⟩ := hB.get hO.1
  obtain ⟨v, a1, l, rfl, hl, hg⟩ := hE.val eg
  rw [goB, eg] at eG
  refine ⟨_, rfl, pb, _, _, _, rfl, rfl, SqT.of hb, rfl, rfl, _, rfl, yC (by decide +kernel) ⟨_, fun _ _ h => h, ?_⟩⟩
  refine ⟨_, rfl, _, rfl, pb, _, _, _, rfl, rfl, SqT.of hb, zq (j := 1) rfl, d, _, rfl, by rw [<- a1]; exact DGet.k (k := .inr x) hd1, ?_⟩
  refine ⟨_, rfl, pb, _, _, _, rfl, rfl, SqT.of hb, rfl, rfl, _, rfl, yC (by decide +kernel) ?_⟩
  match g, hg, hl, eG with
  | [], hg, hl, eG => exact absurd hg.2.2 (by intro z; cases z)
  | .str y :: r, hg, hl, eG =>
   refine ⟨_, rfl, l, _, _, _, rfl, rfl, SqL.of hl, zq (j := 0) rfl, _, _, _, _, rfl, .str _, rfl, _, rfl, iteT ⟨by show 2 <= sizeLine; decide, fun pt ht => q _ pt (k1.trans (.of (zp ht _))) ?_ (by rw [<- eG]; exact True.intro)⟩⟩
   rw [<- eG]
   exact zg
  | .int i :: r, hg, hl, eG =>
   refine ⟨_, rfl, l, _, _, _, rfl, rfl, SqL.of hl, zq (j := 0) rfl, _, _, _, _, rfl, .int _, rfl, _, rfl, iteF (nxt ?_)⟩
   have eG : (if i ≠ 0 then goB kvs e b else goB kvs e c) = G := eG
   have hsz : hk.length + (b.sz + c.sz + 1) <= 900 := hsz
   have bsz : (Bd.iff x b c).sz = b.sz + c.sz + 1 := by rw [Bd.sz]
   by_cases c0 : i = 0
   ·rw [if_neg (by omega)] at eG
    refine ⟨_, rfl, _, rfl, l, _, _, _, rfl, rfl, SqL.of hl, zq (j := 0) rfl, rfl, .inr ⟨_, rfl, _, _, rfl, rfl, pb, _, _, _, rfl, rfl, SqT.of hb, (by rw [decide_eq_true (by rw [c0])]; exact zq (j := 3) rfl), c.sz, by omega, k1, q2, c, hk, e, ks, _, _, rfl, rfl, hq2, hO.2.2, hd1, hE, hB, by omega, eG⟩⟩
   ·rw [if_pos c0] at eG
    refine ⟨_, rfl, _, rfl, l, _, _, _, rfl, rfl, SqL.of hl, zq (j := 0) rfl, rfl, .inr ⟨_, rfl, _, _, rfl, rfl, pb, _, _, _, rfl, rfl, SqT.of hb, (by rw [decide_eq_false (by intro z; injection z with z; exact c0 z)]; exact zq (j := 2) rfl), b.sz, by omega, k1, q1, b, hk, e, ks, _, _, rfl, rfl, hq1, hO.2.1, hd1, hE, hB, by omega, eG⟩⟩
  | .non :: _, hg, _, _ => exact (hg.2.1 _ (List.mem_cons_self ..)).elim
  | .bl _ :: _, hg, _, _ => exact (hg.2.1 _ (List.mem_cons_self ..)).elim
  | .ref _ :: _, hg, _, _ => exact (hg.2.1 _ (List.mem_cons_self ..)).elim
  | .ty _ :: _, hg, _, _ => exact (hg.2.1 _ (List.mem_cons_self ..)).elim
  | .flt _ :: _, hg, _, _ => exact (hg.2.1 _ (List.mem_cons_self ..)).elim
  | .byt _ :: _, hg, _, _ => exact (hg.2.1 _ (List.mem_cons_self ..)).elim
 | .cs x as, hb, hO, hsz, eG =>
  obtain ⟨pq, ts, hb, hpq, hA⟩ : ∃ (q : Addr) (ts : List Addr), H1 pb = some (.tup [.str "case", .str x, .ref q]) /\ H1 q = some (.tup (ts.map V.ref)) /\ IsArms H1 as ts := hb
  obtain ⟨g, eg⟩ := hB.get hO.1
  obtain ⟨v, a1, l, rfl, hl, hg⟩ := hE.val eg
  have bsz : (Bd.cs x as).sz = as.sz + 1 := by rw [Bd.sz]
  rw [bsz] at hsz
  rw [goB, eg, vR, Option.getD_some] at eG
  have lhs := Arms.hs_len as
  obtain ⟨y, r, rfl⟩ : ∃ y r, g = y :: r := by
   cases g with
   | nil => exact absurd hg.2.2 (by intro z; cases z)
   | cons y r => exact ⟨y, r, rfl⟩
  have hy : At y := hg.2.1 _ (List.mem_cons_self ..)
  obtain ⟨lt, hget⟩ := hA.get
  refine ⟨_, rfl, pb, _, _, _, rfl, rfl, SqT.of hb, rfl, rfl, _, rfl, yC (by decide +kernel) ⟨_, fun _ _ h => h, ?_⟩⟩
  refine ⟨_, rfl, _, rfl, pb, _, _, _, rfl, rfl, SqT.of hb, zq (j := 1) rfl, d, _, rfl, by rw [<- a1]; exact DGet.k (k := .inr x) hd1, ?_⟩
  refine ⟨_, rfl, pb, _, _, _, rfl, rfl, SqT.of hb, rfl, rfl, _, rfl, zX (by decide +kernel) ?_⟩
  refine ⟨_, rfl, pb, _, _, _, rfl, rfl, SqT.of hb, zq (j := 2) rfl, pq, rfl, ⟨_, SqT.of hpq⟩, Zb (K := K) (xs := ts.map V.ref) (fun j τ ys H' => H' = H1 /\ (∃ v, τ = [some (.ref pb), some (.ref d), some (.ref rd), some (.ref l), v4, v]) /\ ys.length <= j /\ ∃ ps : List Addr, ys = ps.map V.ref /\ (ps = [] -> ∀ k a, k < j -> as.hs[k]? = some a -> ¬ V.str a.1 = y) /\ ∀ p0 pr, ps = p0 :: pr -> ∃ (k : Nat) (a : Str × List Str × Bd), ts[k]? = some p0 /\ as.hs[k]? = some a /\ V.str a.1 = y /\ ∀ k' a', k' < k -> as.hs[k']? = some a' -> ¬ V.str a'.1 = y) ⟨rfl, ⟨none, rfl⟩, Nat.le_refl _, [], rfl, fun _ k a h => absurd h (by omega), fun p0 pr h => by cases h⟩ (fun j τ ys H' _ h => by rw [h.1]; exact SqT.of hpq) ?_ ?_⟩
  ·rintro j v τ ys H2 hv ⟨rfl, ⟨v', rfl⟩, ly, ps, rfl, p1, p2⟩
   rw [List.getElem?_map] at hv
   obtain ⟨p, hp, rfl⟩ := Option.map_eq_some_iff.mp hv
   have hj := (List.getElem?_eq_some_iff.mp hp).1
   have ha : as.hs[j]? = some (as.hs[j]'(by omega)) := List.getElem?_eq_getElem _
   generalize as.hs[j]'(by omega) = a at ha
   obtain ⟨qa, sa, g1, g2, g3⟩ := hget j p a hp ha
   refine ⟨_, rfl, p, _, _, _, rfl, rfl, SqT.of g1, zq (j := 0) rfl, _, rfl, l, _, _, _, rfl, rfl, SqL.of hl, zq (j := 0) rfl, (by cases y <;> first | exact hy.elim | rfl), _, rfl, ite2 (fun cc => ?_) (fun cc => ?_)⟩
   ·have cc := of_decide_eq_true cc
    refine ⟨_, rfl, by omega, rfl, ⟨_, rfl⟩, by rw [List.length_append]; show _ + 1 <= _; omega, ps ++ [p], by rw [List.map_append]; rfl, fun z => by simp at z, fun p0 pr z => ?_⟩
    cases ps with
    | nil =>
     cases z
     exact ⟨j, a, hp, ha, cc, fun k' a' h1 h2 => p1 rfl k' a' h1 h2⟩
    | cons p0' pr' =>
     cases z
     exact p2 p0 pr' rfl
   ·refine ⟨rfl, ⟨_, rfl⟩, by omega, ps, rfl, fun z k a' h1 h2 => ?_, p2⟩
    by_cases ck : k < j
    ·exact p1 z k a' ck h2
    ·have : k = j := by omega
     subst this
     rw [ha] at h2
     cases h2
     exact fun z => cc (decide_eq_true z)
  rintro τ ys H2 ⟨rfl, _, ly, ps, rfl, p1, p2⟩ pS hS
  have s3 := zp hS (.lst (ps.map V.ref))
  have hS3 := zg (H := H2) (a := pS) (o := .lst (ps.map V.ref))
  generalize upd H2 pS (.lst (ps.map V.ref)) = H3 at *
  refine ⟨_, rfl, by show 0 <= sizeLine; decide, fun pe he => ?_⟩
  have s4 : Same H2 (upd H3 pe (.lst [])) := s3.new he
  refine ⟨_, _, _, rfl, rfl, SqL.of (old he hS3), SqL.of zg, _, rfl, ?_⟩
  show if (if false = true then !(ps.map V.ref).isEmpty else (ps.map V.ref).isEmpty) = true then _ else _
  have hS4 := old (o := .lst []) he hS3
  generalize upd H3 pe (.lst []) = H4 at *
  cases ps with
  | nil =>
   have hf : fnd as (tgf (y :: r)) = none := by
    unfold fnd
    rw [List.find?_eq_none]
    intro a ma
    obtain ⟨k, hk'⟩ := List.getElem?_of_mem ma
    have hkl := (List.getElem?_eq_some_iff.mp hk').1
    have := p1 rfl k a (by rw [List.length_map]; omega) hk'
    have ne := ((hO.2).at a ma).1
    intro z
    have z := of_decide_eq_true z
    cases y with
    | str t => exact this (by rw [z]; rfl)
    | int i => exact ne z
    | _ => exact hy.elim
   rw [hf] at eG
   refine iteT ⟨by show 2 <= sizeLine; decide, fun pt ht => q _ pt ((k1.trans (.of s4)).trans (.of (zp ht _))) ?_ (by rw [<- eG]; exact True.intro)⟩
   rw [<- eG]
   exact zg
  | cons p0 pr =>
   refine iteF (nxt ?_)
   obtain ⟨k, a, g1, g2, g3, g4⟩ := p2 p0 pr rfl
   obtain ⟨qa, sa, b1, b2, b3⟩ := hget k p0 a g1 g2
   have ma := List.mem_of_getElem? g2
   obtain ⟨o1, o2, o3, o4⟩ := (hO.2).at a ma
   have ey : y = .str a.1 := g3.symm
   subst ey
   have hf : fnd as (tgf (V.str a.1 :: r)) = some a := xQ (i := k) (fun j b hj hb => decide_eq_false fun z => g4 j b hj hb (by rw [z]; rfl)) g2 (decide_eq_true rfl)
   rw [hf] at eG
   have eG : goB kvs (putA e a.2.1 (pcs kvs 1 r [])) a.2.2 = G := eG
   obtain ⟨n1, n2⟩ := Qq hg o2
   have hd4 := s4 _ _ hd1
   have lsz := Arms.hs_sz ma
   refine ⟨_, rfl, .inr (.inr (.inl ⟨rfl, .inl ⟨_, hd4⟩⟩)), _, rfl, pS, _, _, _, rfl, rfl, SqL.of hS4, zq (j := 0) rfl, p0, _, _, _, rfl, rfl, SqT.of (s4 _ _ b1), zq (j := 1) rfl, _, rfl, _, rfl, l, rd, _, rk, rfl, s4 _ _ hl, hg.2.1, hg.1, s4 _ _ hrd1, hrk, fun H5 pS2 ls s5 fS hpS hPs => ?_⟩
   have hPs : IsPs H4 H5 ls (pcs kvs 1 r []) := hPs
   have s25 := s4.trans s5
   refine ⟨qa, pS2, a.2.1, ls.map V.ref, rfl, .inr (SqT.of (s25 _ _ b2)), .inl (SqL.of hpS), by rw [List.length_map, hPs.1, n1], o4, fun dz hz => ?_⟩
   have s6 := s25.new (o := .dK (zkv a.2.1 (ls.map V.ref))) hz
   have hz6 := zg (H := H5) (a := dz) (o := .dK (zkv a.2.1 (ls.map V.ref)))
   have ndz : d ≠ dz := fun z => by
    rw [<- z, s25 _ _ hd1] at hz
    cases hz
   have hE6 : ER (Fx kvs (upd H5 dz (.dK (zkv a.2.1 (ls.map V.ref))))) hk e := hE.mono fun v f h => let ⟨l, a, b, c⟩ := h; ⟨l, a, s6 _ _ b, c⟩
   have hE7 : ER (Fx kvs (upd H5 dz (.dK (zkv a.2.1 (ls.map V.ref))))) (yG hk (zkv a.2.1 (ls.map V.ref))) (putA e a.2.1 (pcs kvs 1 r [])) := hE6.putA (by rw [List.length_map]; exact hPs.1) fun i y f h1 h2 => by
    rw [List.getElem?_map] at h1
    obtain ⟨l', hl', rfl⟩ := Option.map_eq_some_iff.mp h1
    exact ⟨l', rfl, old hz (hPs.2 i l' f hl' h2).2, n2 f (List.mem_of_getElem? h2)⟩
   have hS6 := old (o := .dK (zkv a.2.1 (ls.map V.ref))) hz (s5 _ _ hS4)
   have hd6 := s6 _ _ hd1
   generalize upd H5 dz (.dK (zkv a.2.1 (ls.map V.ref))) = H6 at *
   have lz : (zkv a.2.1 (ls.map V.ref)).length = a.2.1.length := by
    unfold zkv
    rw [List.length_map, List.length_zip, List.length_map, hPs.1, n1]
    omega
   have lm := yM (zkv a.2.1 (ls.map V.ref)) hk
   refine ⟨d, dz, hk, _, rfl, rfl, hd6, hz6, ndz, by omega, ?_⟩
   have k7 : KX [d] H6 (upd H6 d (.dK (yG hk (zkv a.2.1 (ls.map V.ref))))) := KX.refl.put (by simp)
   have tu : Tups H6 (upd H6 d (.dK (yG hk (zkv a.2.1 (ls.map V.ref))))) := k7.tups fun b hb xs z => by
    rw [List.mem_singleton.mp hb, hd6] at z
    cases z
   have hE8 := hE7.mono fun v f h => h.kx k7 hd6
   have hd7 := zg (H := H6) (a := d) (o := .dK (yG hk (zkv a.2.1 (ls.map V.ref))))
   have hS7 : upd H6 d (.dK (yG hk (zkv a.2.1 (ls.map V.ref)))) pS = some (.lst ((p0 :: pr).map V.ref)) := by rw [zm (ye hS6 hd6 (by intro z; cases z))]; exact hS6
   have b17 := tu _ _ (s6 _ _ b1)
   have b37 := (b3.keep (.of s6)).keep tu
   generalize upd H6 d (.dK (yG hk (zkv a.2.1 (ls.map V.ref)))) = H7 at *
   refine ⟨_, rfl, pS, _, _, _, rfl, rfl, SqL.of hS7, zq (j := 0) rfl, p0, _, _, _, rfl, rfl, SqT.of b17, zq (j := 2) rfl, a.2.2.sz, by omega, (k1.trans (.of s6)).trans k7, sa, a.2.2, _, _, _, _, _, rfl, rfl, b37, o3, hd7, hE8, hB.putA (by rw [n1]; exact Nat.le_refl _), by omega, eG⟩
end
end GN
namespace GN
open PySem L2 K11
theorem At.fl {v : V} (h : At v) : wV v = true := by
 match v, h with
 | .int _, _ => rfl
 | .str _, _ => rfl
theorem vj {H : Hp} {n : Nat} {xs : List V} {a b : Addr} (h : (H a = some (.lst xs) /\ H b = some (.lst xs)) \/ (H a = some (.tup xs) /\ H b = some (.tup xs))) (f : ∀ x ∈ xs, wV x = true) : Sme (n + 2) H (.ref a) (.ref b) :=
 .inr ⟨a, b, xs, xs, rfl, rfl, h, rfl, fun i u v h1 h2 => .inl ⟨f u (List.mem_of_getElem? h1), by rw [h1] at h2; exact Option.some.inj h2⟩⟩
theorem Ans.kt {T : Addr} {H H' : Hp} {r : Addr} {o : List V ⊕ Str} (h : Ans H r o) (k : KT T H H') (t : Tb T H) : Ans H' r o := by
 obtain ⟨tb, ht⟩ := t.tbl
 match o, h with
 | .inl f, h =>
  obtain ⟨l, a, b⟩ := h
  exact ⟨l, k _ _ (ye a ht (by intro z; cases z)) a, k _ _ (ye b ht (by intro z; cases z)) b⟩
 | .inr w, h => exact k _ _ (ye h ht (by intro z; cases z)) h
theorem Ans.same {H H' : Hp} {r : Addr} {o : List V ⊕ Str} (h : Ans H r o) (s : Same H H') : Ans H' r o := by
 match o, h with
 | .inl f, h => obtain ⟨l, a, b⟩ := h; exact ⟨l, s _ _ a, s _ _ b⟩
 | .inr w, h => exact s _ _ h
def WK : Sp := fun vs H Q _ => ∃ (g u : Addr) (o : List V ⊕ Str), vs = [.ref g, .ref u] /\ Ans H g o /\ Ans H u o /\ AtO o /\ ∀ H', Same H H' -> Q (.bl true) H'
section
variable {P : Program} {w : World} {K : PySem.W.Frag} {mg : Str -> Option Value} {base : Heap} {f : Addr} {fd : FuncData}
theorem scSame : FnScope ["_law_got", "_law_due_here", "_law_parts_here"] ["_law_got", "_law_due_here"] (zo XW) := ⟨rfl, rfl, rfl, by decide +kernel, rfl, by decide +kernel, by decide +kernel⟩
theorem Qr : (["_law_got", "_law_due_here", "_law_parts_here", "_law_one"] : List Str).Nodup := by decide +kernel
theorem Jj (F : Fun K "_law_same" "_law_same" XW f fd) (m_isinstance : mg "isinstance" = none) (m_list : mg "list" = none) (m_bool : mg "bool" = none) (m_tuple : mg "tuple" = none) (m_len : mg "len" = none) : FnOk P w K mg base CX0 1 f fd ["_law_got", "_law_due_here"] WK := by
 refine F.by scSame (fun vs H Q E h => ?_) (fun cdv A outer s H vs Q E hr h => ?_)
 ·obtain ⟨g, u, o, rfl, _⟩ := h
  rfl
 obtain ⟨g, u, o, rfl, hg, hu, hat, q⟩ := h
 refine ⟨_,
  (zj (zM (jW.pt (xX (wg (yn (zI zR rfl m_isinstance PyProof.Rows.boot_isinstance (ja_c (jv 0) (ja_c (yf (v := .ty "tuple") rfl m_tuple PyProof.Rows.boot_tuple rfl) zh))))) (xX (zw wn (zI zC rfl m_len PySem.boot_len (ja_c (jv 0) zh)) zi (zy _)) (xq (zw wn (zt zA (jv 0) zi (fun _ _ => rfl)) (zt zA (jv 1) zi (fun _ _ => rfl)) (zy _)))))) (zk (zF Xm)) zH)
  (zj (zM (zw zY (zt zA (jv 1) zi (fun _ _ => rfl)) zL (zy _)) (zk yy) zH)
  (zj (zM (zw zY (zt zA (jv 1) zi (fun _ _ => rfl)) zL (zy _)) (zk (zF (xx zY (zt zA (jv 0) zi (fun _ _ => rfl)) (zt zA (jv 1) zi (fun _ _ => rfl)) (zy _)))) zH)
  (zj (zu (i := 2) scSame.nd rfl (Or.inl rfl) (zt zA (jv 0) zi (fun _ _ => rfl)))
  (zj (zM (jW.pt (xX (wg (yn (zI zR rfl m_isinstance PyProof.Rows.boot_isinstance (ja_c (jv 2) (ja_c (yf (v := .ty "list") rfl m_list PyProof.Rows.boot_list rfl) zh))))) (xq (zw wn (zI zC rfl m_len PySem.boot_len (ja_c (jv 2) zh)) (zI zC rfl m_len PySem.boot_len (ja_c (zt zA (jv 1) zi (fun _ _ => rfl)) zh)) (zy _))))) (zk (zF Xm)) zH)
  (zk (zF (wk (xx (Zc hr) (xa ["_law_one"] rfl (yg (jv 2)) (fun _ _ _ _ _ => (zr (i := 3) Qr rfl (Or.inl rfl))) (fun _ _ _ _ _ => (xy (yn (zI (Zd K) rfl m_isinstance PyProof.Rows.boot_isinstance (ja_c (jv 3) (ja_c (yf (v := .ty "bool") rfl m_bool PyProof.Rows.boot_bool rfl) zh)))))) (fun _ _ _ _ _ => (jv 3))) (zV zh) (zy _)) (wj (xx (q9 (n := 3) (by decide) hr) (jv 2) (zt zA (jv 1) zi (fun _ _ => rfl)) (zy _))))))))))), ?_⟩
 have sl := z6
 match o, hg, hu, hat with
 | .inr ww, hg, hu, _ =>
  have hg : H g = some (.tup [.str "fault", .str ww]) := hg
  have hu : H u = some (.tup [.str "fault", .str ww]) := hu
  refine ⟨_, rfl, _, _, _, _, rfl, .tup hg, rfl, _, rfl, iteF ⟨_, rfl, g, _, rfl, .inr (SqT.of hg), rfl, _, rfl, zX rfl ⟨_, rfl, g, _, _, _, rfl, rfl, SqT.of hg, rfl, _, rfl, u, _, _, _, rfl, rfl, SqT.of hu, rfl, rfl, _, rfl, zX (by simp) (nxt ?_)⟩⟩⟩
  refine ⟨_, rfl, u, _, _, _, rfl, rfl, SqT.of hu, rfl, rfl, _, rfl, zX (by decide +kernel) (nxt ?_)⟩
  refine ⟨_, rfl, u, _, _, _, rfl, rfl, SqT.of hu, rfl, rfl, _, rfl, yC (by decide +kernel) ?_⟩
  refine ⟨_, rfl, g, _, _, _, rfl, rfl, SqT.of hg, zq (j := 1) rfl, _, rfl, u, _, _, _, rfl, rfl, SqT.of hu, zq (j := 1) rfl, rfl, ?_⟩
  rw [decide_eq_true rfl]
  exact q _ (Same.refl _)
 | .inl ff, hg, hu, hat =>
  obtain ⟨lg, hg, hlg⟩ := hg
  obtain ⟨lu, hu, hlu⟩ := hu
  have hat : ∀ x ∈ ff.take 100, At x := fun x hx => hat x (List.mem_of_mem_take hx)
  generalize ff.take 100 = xs at *
  refine ⟨_, rfl, _, _, _, _, rfl, .tup hg, rfl, _, rfl, iteF ⟨_, rfl, g, _, rfl, .inr (SqT.of hg), rfl, _, rfl, zX rfl ⟨_, rfl, g, _, _, _, rfl, rfl, SqT.of hg, rfl, _, rfl, u, _, _, _, rfl, rfl, SqT.of hu, rfl, rfl, _, rfl, zX (by simp) (nxt ?_)⟩⟩⟩
  refine ⟨_, rfl, u, _, _, _, rfl, rfl, SqT.of hu, rfl, rfl, _, rfl, zX (by decide +kernel) (nxt ?_)⟩
  refine ⟨_, rfl, u, _, _, _, rfl, rfl, SqT.of hu, rfl, rfl, _, rfl, zX (by decide +kernel) (nxt ?_)⟩
  refine ⟨_, rfl, g, _, _, _, rfl, rfl, SqT.of hg, zq (j := 1) rfl, ?_⟩
  refine ⟨_, rfl, _, _, _, _, rfl, .lst hlg, rfl, _, rfl, iteF ⟨_, rfl, lg, _, rfl, .inl (SqL.of hlg), _, rfl, u, _, _, _, rfl, rfl, SqT.of hu, zq (j := 1) rfl, lu, _, rfl, .inl (SqL.of hlu), rfl, _, rfl, zX (by simp) (nxt ?_)⟩⟩
  refine ⟨_, rfl, lg, rfl, ⟨_, SqL.of hlg⟩, yK (K := K) (xs := xs) (fun i τ ys H' => H = H' /\ (∃ x, τ = [some (.ref g), some (.ref u), some (.ref lg), x]) /\ ys = []) ⟨rfl, ⟨none, rfl⟩, rfl⟩ (fun i τ ys H' _ h => by rw [<- h.1]; exact SqL.of hlg) ?_ ?_⟩
  ·rintro i x τ ys H' hx ⟨rfl, ⟨y, rfl⟩, rfl⟩
   match x, hat x (List.mem_of_getElem? hx) with
   | .int j, _ => exact ⟨_, rfl, _, _, _, _, rfl, .int _, rfl, _, rfl, iteF ⟨rfl, ⟨_, rfl⟩, rfl⟩⟩
   | .str j, _ => exact ⟨_, rfl, _, _, _, _, rfl, .str _, rfl, _, rfl, iteF ⟨rfl, ⟨_, rfl⟩, rfl⟩⟩
  ·rintro τ ys H' ⟨rfl, _, rfl⟩ p1 hp1
   refine ⟨by show 0 <= sizeLine; decide, fun p2 hp2 => ?_⟩
   have n1 := (zp hp1 (.lst [])).new (o := .lst []) hp2
   refine ⟨p1, p2, _, rfl, rfl, SqL.of (old hp2 zg), SqL.of zg, true, rfl, iteT ?_⟩
   refine ⟨_, rfl, _, rfl, u, _, _, _, rfl, rfl, SqT.of (n1 _ _ hu), zq (j := 1) rfl, lg, lu, rfl, rfl, vj (.inl ⟨n1 _ _ hlg, n1 _ _ hlu⟩) fun x hx => (hat x hx).fl, q _ n1⟩
end
end GN
namespace L2
open PySem PySem.Spec PyProof.Rows
theorem lkC {c0 : Str} {d : Addr} {cl : List (Str × Addr)} {x : Str} {c : Addr} (h : ((c0, d) :: cl).lookup x = some c) : (x = c0 /\ c = d) \/ (x ≠ c0 /\ cl.lookup x = some c) := by
 rw [List.lookup_cons] at h
 by_cases q : x = c0
 ·subst q
  rw [beq_self_eq_true] at h
  cases h
  exact .inl ⟨rfl, rfl⟩
 ·rw [beq_eq_false_iff_ne.mpr q] at h
  exact .inr ⟨q, h⟩
theorem lkC1 {c0 : Str} {d : Addr} {cl : List (Str × Addr)} : ((c0, d) :: cl).lookup c0 = some d := by rw [List.lookup_cons, beq_self_eq_true]
theorem lkC2 {c0 : Str} {d : Addr} {cl : List (Str × Addr)} {x : Str} (q : x ≠ c0) : ((c0, d) :: cl).lookup x = cl.lookup x := by rw [List.lookup_cons, beq_eq_false_iff_ne.mpr q]
structure LcOkC (X : Cx) (scope : Scope) (cl : List (Str × Addr)) (c0 : Str) : Prop where
 clos : closureFor scope X.env = pure cl
 kind : scope.kind = .function
 cf : ∀ n cl, cellsFrom n scope.names cl = (c0, n) :: cl
 pc : ∀ h, pushCells h scope.names = h.push { cls := .type "cell", data := .cell none }
 kc : scope.names.lookup c0 = some .cell
 only : scope.names.all (fun y => y.2 != .cell || y.1 == c0) = true
 loc : scope.names.all (fun y => y.2 != .local || scope.names.lookup y.1 == some .local) = true
 own : X.N.all (fun y => scope.names.lookup y != some .local && scope.names.lookup y != some .cell) = true
 sub : AllIn X.env cl
 has : scope.names.all (fun p => p.2 != .free || ((cl.lookup p.1).isSome && (X.env.kindOf p.1 == some .cell || X.env.kindOf p.1 == some .free))) = true
section
variable {X : Cx} {scope : Scope} {cl : List (Str × Addr)} {c0 : Str}
theorem LcOkC.locs (L : LcOkC X scope cl c0) : ∀ y ∈ scope.names, y.2 = .local -> scope.names.lookup y.1 = some .local := fun y hy e => by
 have h := List.all_eq_true.mp L.loc y hy
 rw [e] at h
 simpa using h
theorem LcOkC.apart (L : LcOkC X scope cl c0) : ∀ (i : Nat) (y : Str), X.N[i]? = some y -> scope.names.lookup y ≠ some .local /\ scope.names.lookup y ≠ some .cell := fun i y hy => by
 have h := List.all_eq_true.mp L.own y (List.mem_of_getElem? hy)
 rw [Bool.and_eq_true] at h
 exact ⟨bne_iff_ne.mp h.1, bne_iff_ne.mp h.2⟩
theorem LcOkC.free (L : LcOkC X scope cl c0) {y : Str} (h : scope.names.lookup y = some .free) : (∃ c, cl.lookup y = some c) /\ (X.env.kindOf y = some .cell \/ X.env.kindOf y = some .free) := by
 have h1 := List.all_eq_true.mp L.has _ (PySem.mem_of_lookup h)
 simp only [bne_self_eq_false, Bool.false_or, Bool.and_eq_true, Bool.or_eq_true, beq_iff_eq] at h1
 exact ⟨Option.isSome_iff_exists.mp h1.1, h1.2⟩
theorem LcOkC.cellOnly (L : LcOkC X scope cl c0) {y : Str} (h : scope.names.lookup y = some .cell) : y = c0 := by
 have h1 := List.all_eq_true.mp L.only _ (PySem.mem_of_lookup h)
 simpa using h1
theorem LcOkC.kinds (L : LcOkC X scope cl c0) {y : Str} (h : (relabel scope X.env).names.lookup y = some .cell \/ (relabel scope X.env).names.lookup y = some .free) : y = c0 \/ scope.names.lookup y = some .free := by
 have e : (relabel scope X.env).names.lookup y = (scope.names.lookup y).map fun k => if (k == NameKind.free && X.env.scope.kind == .function && X.env.kindOf y == some .cell) then NameKind.cell else k := zU scope.names X.env y
 rw [e] at h
 cases q : scope.names.lookup y with
 | none => rw [q] at h; rcases h with h | h <;> cases h
 | some k =>
  by_cases hk : k = .cell
  ·subst hk
   exact .inl (L.cellOnly q)
  rw [q] at h
  by_cases hf : k = .free
  ·rw [hf]
   exact .inr rfl
  ·have z : (k == NameKind.free) = false := beq_eq_false_iff_ne.mpr hf
   rw [Option.map_some, z, Bool.false_and, Bool.false_and, if_neg Bool.false_ne_true] at h
   rcases h with h | h
   ·exact absurd (Option.some.inj h) hk
   ·exact absurd (Option.some.inj h) hf
def yt (X : Cx) (scope : Scope) (cl : List (Str × Addr)) (c0 : Str) (M : List Str) (C : Addr) (s₀ : Shared) (H₀ : Hp) (ex : List Addr) (E : Value -> Shared -> Prop) : Cx where
 prog := X.prog
 w := X.w
 K := X.K
 mg := X.mg
 base := X.base
 A := X.A
 N := X.N ++ M
 s₀ := s₀
 H₀ := H₀
 env := compEnvC scope ((c0, C + 1) :: cl) C X.env
 outer := X.stack
 stack := X.stack
 ex := ex
 fn := fun y => y == c0
 calm := X.calm
 pn := []
 xe := E
theorem wI {M : Model} {A : Around} {E : Value -> Shared -> Prop} {s : Shared} (L : LcOkC X scope cl c0) {globals : Addr} {qual : Str} {env : Env} {Q : Env -> Shared -> Prop}
  (hQ : Q (newEnv scope s.heap.objs.size globals ((c0, s.heap.objs.size + 1) :: cl) qual none .none (some env) builtinsNs) { s with heap := (s.heap.push { cls := .type "dict", data := .dict #[] }).push { cls := .type "cell", data := .cell none } }) :
  wpAny M A (newFunctionEnv scope globals cl [] qual none .none (some env)) Q E s := by
 simp only [newFunctionEnv, Option.isSome_some, if_true]
 refine wpAny_bind (wpAny_alloc ?_)
 refine wpAny_bind (wpAny_layCells _ (fun name kind cells => by cases hkc : kind == NameKind.cell <;> simp [hkc]) _ _ _ _ ?_)
 rw [L.cf, L.pc, show ({ s with heap := s.heap.push { cls := .type "dict", data := .dict #[] } } : Shared).heap.objs.size = s.heap.objs.size + 1 from Heap.size_push ..]
 refine wpAny_bind ?_
 rw [List.forIn_nil]
 exact wpAny_pure (wpAny_pure hQ)
variable {pins : List (Addr × Obj)} {σ : St} {H : Hp} {s : Shared} {ex : List Addr} {M : List Str} {C : Addr}
theorem YR {E : Value -> Shared -> Prop} {h1 : Heap} {tk : Nat} {m : Str -> Option Value} (I : Inv X pins σ H s) (L : LcOkC X scope cl c0) (hf : ∀ b ∈ ex, FpOk X pins H b) (hlt : ∀ b ∈ ex, b < s.heap.objs.size)
  (hk : ∀ b o, s.heap.get? b = some o -> h1.get? b = some o) (hC : s.heap.objs.size <= C) (hns : h1.Ns C m) (hcell : h1.IsCell (C + 1) none) :
  Inv (yt X scope cl c0 M C s H ex E) [] (σ ++ List.replicate M.length none) H { s with heap := h1, toks := tk } := by
 have big : ∀ y c, cl.lookup y = some c -> c < s.heap.objs.size := fun y c e => by
  obtain ⟨v, o, ho, _⟩ := I.cell y c (L.sub.get e)
  exact Heap.lt_size ho
 refine ⟨⟨I.ok.mod, L.kind, I.ok.glob, I.ok.blt, hC, fun x y c a b => ?inj, fun y hy => ?has, (fun x c z e => ?cab), I.ok.hd, I.ok.frames, .inl rfl, fun b hb => ⟨?_, fun x c e => ?_⟩,
   I.bs, Nat.le_trans I.ok.bsz I.sz, fun b o e hb => ?_, fun b hb z => ?_, I.stack, I.stkFree⟩,
  rfl, I.bare, Un.kept hk, ⟨m, hns, fun i y v e1 e2 e3 => ?_⟩, fun y c e => ?_, I.hok.fresh hC, fun y c e => ?fc, fun p hp => absurd (show p ∈ ([] : List (Addr × Obj)) from hp) (by simp), I.hok.kept hk, ?_⟩
 case inj =>
  rcases lkC a with ⟨ax, ac⟩ | ⟨_, a2⟩
  ·rcases lkC b with ⟨bx, _⟩ | ⟨_, b2⟩
   ·exact ax.trans bx.symm
   ·exact absurd (Nat.lt_of_lt_of_le (big y c b2) (Nat.le_trans (Nat.le_succ_of_le hC) (Nat.le_of_eq ac.symm))) (Nat.lt_irrefl _)
  ·rcases lkC b with ⟨_, bc⟩ | ⟨_, b2⟩
   ·exact absurd (Nat.lt_of_lt_of_le (big x c a2) (Nat.le_trans (Nat.le_succ_of_le hC) (Nat.le_of_eq bc.symm))) (Nat.lt_irrefl _)
   ·exact I.ok.inj x y c (L.sub.get a2) (L.sub.get b2)
 case has =>
  by_cases q : y = c0
  ·subst q
   exact ⟨_, lkC1⟩
  ·rcases L.kinds hy with e | e
   ·exact absurd e q
   ·obtain ⟨c, hc⟩ := (L.free e).1
    exact ⟨c, (lkC2 q).trans hc⟩
 case cab =>
  rcases lkC e with ⟨_, rfl⟩ | ⟨n, _⟩
  ·show s.heap.objs.size <= C + 1
   omega
  ·exact absurd (beq_iff_eq.mp z) n
 case fc =>
  rcases lkC e with ⟨_, rfl⟩ | ⟨_, e⟩
  ·exact I.hok.fresh (by omega)
  ·exact I.freeC y c (L.sub.get e)
 ·exact Nat.ne_of_lt (Nat.lt_of_lt_of_le (hlt b hb) hC)
 ·rcases lkC e with ⟨_, rfl⟩ | ⟨_, e⟩
  ·exact Nat.ne_of_gt (Nat.lt_of_lt_of_le (hlt b hb) (Nat.le_succ_of_le hC))
  ·exact (hf b hb).2.2.2.2.1 x c (L.sub.get e)
 ·rcases (hf b hb).2.2.2.1 with z | z
  ·exact I.ok.noex b o e z
  ·exact absurd (Nat.lt_of_lt_of_le (Heap.lt_size e) (Nat.le_trans I.ok.bsz z)) (Nat.lt_irrefl _)
 ·rcases List.mem_cons.mp (I.stkSub b z) with q | q
  ·exact (hf b hb).2.1 q
  ·exact (hf b hb).2.2.1 q
 ·have e1' : (X.N ++ M)[i]? = some y := e1
  by_cases hi : i < σ.length
  ·rw [List.getElem?_append_left hi] at e2
   rw [List.getElem?_append_left (by rw [<- I.len]; exact hi)] at e1'
   obtain ⟨m0, hn0, hl⟩ := I.loc
   obtain ⟨ap1, ap2⟩ := L.apart i y e1'
   have hy : scope.names.lookup y = some .free := by
    have q := zU scope.names X.env y
    cases z : scope.names.lookup y with
    | none =>
     rw [z] at q
     have q' : (relabel scope X.env).names.lookup y = none := q
     rcases e3 with e3 | e3 | e3
     ·have e3' : (relabel scope X.env).names.lookup y = some .local := e3
      rw [e3'] at q'; cases q'
     ·have e3' : (relabel scope X.env).names.lookup y = some .cell := e3
      rw [e3'] at q'; cases q'
     ·have e3' : (relabel scope X.env).names.lookup y = some .free := e3
      rw [e3'] at q'; cases q'
    | some k =>
     have hk1 : k ≠ .local := fun w => ap1 (w ▸ z)
     have hk2 : k ≠ .cell := fun w => ap2 (w ▸ z)
     by_cases hf : k = .free
     ·rw [hf]
     ·have z' : (k == NameKind.free) = false := beq_eq_false_iff_ne.mpr hf
      rw [z, Option.map_some, z', Bool.false_and, Bool.false_and, if_neg Bool.false_ne_true] at q
      have q' : (relabel scope X.env).names.lookup y = some k := q
      rcases e3 with e3 | e3 | e3
      ·have e3' : (relabel scope X.env).names.lookup y = some .local := e3
       rw [e3'] at q'; exact absurd (Option.some.inj q').symm hk1
      ·have e3' : (relabel scope X.env).names.lookup y = some .cell := e3
       rw [e3'] at q'; exact absurd (Option.some.inj q').symm hk2
      ·have e3' : (relabel scope X.env).names.lookup y = some .free := e3
       rw [e3'] at q'; exact absurd (Option.some.inj q').symm hf
   have yc : y ≠ c0 := fun e => ap2 (e ▸ L.kc)
   obtain ⟨⟨c, hc⟩, hk2⟩ := L.free hy
   obtain ⟨u, r, l⟩ := hl i y v e1' e2 (.inr hk2)
   refine ⟨u, r, .inr ⟨?_, c, (lkC2 yc).trans hc, ?_⟩⟩
   ·have q := zU scope.names X.env y
    rw [hy, Option.map_some] at q
    have q' : (relabel scope X.env).names.lookup y = some (if (NameKind.free == NameKind.free && X.env.scope.kind == .function && X.env.kindOf y == some .cell) = true then NameKind.cell else NameKind.free) := q
    by_cases hc : (NameKind.free == NameKind.free && X.env.scope.kind == .function && X.env.kindOf y == some .cell) = true
    ·rw [if_pos hc] at q'; exact .inl q'
    ·rw [if_neg hc] at q'; exact .inr q'
   ·rcases l with ⟨l1, _⟩ | ⟨_, c', e', z⟩
    ·rcases hk2 with w | w <;> (rw [l1] at w; cases w)
    ·have ec : c' = c := by
      have w := L.sub.get hc
      rw [e'] at w
      exact Option.some.inj w
     subst ec
     obtain ⟨o, ho, hd⟩ := z
     exact ⟨o, hk _ _ ho, hd⟩
  ·rw [List.getElem?_append_right (Nat.not_lt.mp hi), List.getElem?_replicate] at e2
   split at e2 <;> cases e2
 ·rcases lkC e with ⟨_, rfl⟩ | ⟨_, e⟩
  ·exact ⟨none, hcell⟩
  ·obtain ⟨v, o, ho, hd⟩ := I.cell y c (L.sub.get e)
   exact ⟨v, o, hk _ _ ho, hd⟩
 ·show (σ ++ List.replicate M.length none).length = (X.N ++ M).length
  rw [List.length_append, List.length_append, List.length_replicate, I.len]
theorem WL {tg elt iter : Expr} {ifs : List Expr} {pos : Pos} {g : TG} {tt : TT} {te : TE} {J : It} {fp : List Addr} {it : Addr} {tn : Nat -> Heap -> Prop} {Q : VK} {E : Value -> Shared -> Prop} {R : Value -> Addr -> Result -> Shared -> Prop} {Al : Addr -> (Value -> Shared -> Prop) -> Prop}
  {W : Nat -> Nat -> St -> List V -> Hp -> Prop} {m0 : Nat} (L : LcOkC X scope cl c0) (hc : X.calm = true) (I : Inv X pins σ H s) (T : Turn X.prog X.w X.K tg J fp it tn) (st : tn 0 s.heap) (hf : ∀ b ∈ fp, FpOk X pins H b)
  (hg : ∀ C s H ex E, PG (yt X scope cl c0 M C s H ex E) tg g) (ht : ∀ C s H ex E, PTs (yt X scope cl c0 M C s H ex E) ifs tt) (he : ∀ C E, Al C E -> PE (yt X scope cl c0 M C s H fp E) elt te)
  (hal : ∀ C, s.heap.objs.size < C -> Al C (notedBy (model X.prog X.w) X.A (compEnvC scope ((c0, C + 1) :: cl) C X.env) (fun e s' => R (.ref s.heap.objs.size) C (.error e) s')))
  (w0 : W 0 m0 (σ ++ List.replicate M.length none) [] H) (turn : lcBy J g tt te Q W)
  (hR : ∀ D C s' H' ys m, Inv X pins σ (upd H' D (.lst ys)) s' -> FpOk X pins (upd H' D (.lst ys)) C -> s'.heap.Ns C m -> Q (.ref D) (upd H' D (.lst ys)) -> R (.ref D) C (.ok .next) s') :
  wpAny (model X.prog X.w) X.A (newList []) (fun acc s₃ => wpAny (model X.prog X.w) X.A (newFunctionEnv scope X.env.globals cl [] X.env.qual none .none (some X.env)) (fun cenv s₄ =>
   codeAny (model X.prog X.w) X.A (.compStart (.ListComp elt [⟨tg, iter, ifs, 0⟩] scope pos) 0 (.ref it) acc { cenv with scope := relabel scope X.env }) (R acc cenv.locals) s₄) E s₃) E s := by
 refine wpAny_newObj_type (wI L ?_)
 dsimp only
 generalize hG : s.heap.push { cls := .type "list", dict := none, data := .seq ([] : List Value).toArray } = G
 have hC : G.objs.size = s.heap.objs.size + 1 := by rw [<- hG, Heap.size_push]
 have hDC : s.heap.objs.size ≠ G.objs.size := by rw [hC]; exact Nat.ne_of_lt (Nat.lt_succ_self _)
 have hCle : s.heap.objs.size <= G.objs.size := by rw [hC]; exact Nat.le_succ _
 have oldG : ∀ b o, s.heap.get? b = some o -> G.get? b = some o := fun b o e => hG ▸ Heap.get?_push_of_some _ e
 have old : ∀ b o, s.heap.get? b = some o -> ((G.push { cls := .type "dict", data := .dict #[] }).push { cls := .type "cell", data := .cell none }).get? b = some o := fun b o e => Heap.get?_push_of_some _ (Heap.get?_push_of_some _ (oldG b o e))
 have hacc : ((G.push { cls := .type "dict", data := .dict #[] }).push { cls := .type "cell", data := .cell none }).get? s.heap.objs.size = some { cls := .type "list", data := .seq ([] : List Value).toArray } := Heap.get?_push_of_some _ (Heap.get?_push_of_some _ (hG ▸ Heap.get?_push_size _ rfl))
 have hns₁ : ((G.push { cls := .type "dict", data := .dict #[] }).push { cls := .type "cell", data := .cell none }).Ns G.objs.size (fun _ => none) := (Heap.Ns.new G (.type "dict")).keeps fun b o e => Heap.get?_push_of_some _ e
 have hcell : ((G.push { cls := .type "dict", data := .dict #[] }).push { cls := .type "cell", data := .cell none }).IsCell (G.objs.size + 1) none := by
  have : G.objs.size + 1 = (G.push { cls := .type "dict", data := .dict #[] }).objs.size := (Heap.size_push ..).symm
  rw [this]
  exact ⟨_, Heap.get?_push_size _ rfl, rfl⟩
 generalize (G.push { cls := .type "dict", data := .dict #[] }).push { cls := .type "cell", data := .cell none } = h₁ at *
 have fpo : ∀ b ∈ fp, b < s.heap.objs.size := fun b hb => let ⟨o, e, _⟩ := T.obj 0 _ st b hb; Heap.lt_size e
 have st1 : tn 0 h₁ := T.keep 0 _ _ st fun b _ o e => old b o e
 have nofs : s.heap.objs.size ∉ frs X.stack := fun z => by
  rcases List.mem_cons.mp (I.stkSub _ z) with q | q
  ·exact absurd (q ▸ I.lt) (Nat.lt_irrefl _)
  ·exact I.nofs (Nat.le_refl _) q
 have nocl : ∀ y c, ((c0, G.objs.size + 1) :: cl).lookup y = some c -> c ≠ s.heap.objs.size := fun y c e z => by
  rcases lkC e with ⟨_, rfl⟩ | ⟨_, e⟩
  ·rw [hC] at z; exact absurd z (by omega)
  ·obtain ⟨v, o, ho, _⟩ := I.cell y c (L.sub.get e)
   exact absurd (z ▸ Heap.lt_size ho) (Nat.lt_irrefl _)
 have loop : ∀ s₃ : Shared, s₃ = { s with heap := h₁ } ->
   codeAny (model X.prog X.w) X.A (.compLoop (.ListComp elt [⟨tg, iter, ifs, 0⟩] scope pos) 0 (.ref it) (.ref s.heap.objs.size) (compEnvC scope ((c0, G.objs.size + 1) :: cl) G.objs.size X.env)) (R (.ref s.heap.objs.size) G.objs.size) s₃ := by
  rintro s₃ rfl
  have hAl := hal G.objs.size (by rw [hC]; exact Nat.lt_succ_self _)
  generalize hE : notedBy (model X.prog X.w) X.A (compEnvC scope ((c0, G.objs.size + 1) :: cl) G.objs.size X.env) (fun e s' => R (.ref s.heap.objs.size) G.objs.size (.error e) s') = E' at hAl ⊢
  have IY : Inv (yt X scope cl c0 M G.objs.size s H fp E') [] (σ ++ List.replicate M.length none) H { s with heap := h₁ } := YR (tk := s.toks) I L hf fpo old hCle hns₁ hcell
  refine codeAny_loop rfl (fun n s' => ∃ (i : Nat) (τ : St) (H' : Hp) (ys : List V) (its : List Value) (k : Nat), Inv (yt X scope cl c0 M G.objs.size s H fp E') [] τ H' s' /\ tn i s'.heap /\ (∀ b ∈ fp, H' b = none) /\
   s'.heap.get? s.heap.objs.size = some { cls := .type "list", data := .seq its.toArray k } /\ H' s.heap.objs.size = none /\ Vals ys its /\ ys.length <= sizeLine /\ W i n τ ys H') (fun n s' hI => ?_) m0
   ⟨0, _, H, [], [], _, IY, st1, fun b hb => (hf b hb).1, hacc, I.hok.fresh (Nat.le_refl _), .nil, Nat.zero_le _, w0⟩
  obtain ⟨i, τ, H1, ys, its, k, I1, st1, fr1, eD, fD, rv, hz, w1⟩ := hI
  show wpAny _ X.A ((compTurn (.ListComp elt [⟨tg, iter, ifs, 0⟩] scope pos) 0 (.ref it) (.ref s.heap.objs.size) (compEnvC scope ((c0, G.objs.size + 1) :: cl) G.objs.size X.env)).onRaise (fun x => do noteFrame x (compEnvC scope ((c0, G.objs.size + 1) :: cl) G.objs.size X.env); theTreesLotGoes x)) _ _ s'
  refine wpAny_noted ?_
  rw [hE, compTurn_list]
  have I1' : Inv (yt X scope cl c0 M G.objs.size s H fp E') [(s.heap.objs.size, { cls := .type "list", data := .seq its.toArray k })] τ H1 s' := I1.pins_of fun p hp => by
   have e : p = (s.heap.objs.size, { cls := .type "list", data := .seq its.toArray k }) := by simpa using hp
   subst e
   exact ⟨eD, fD, hDC, nofs, (fun v z => nomatch z)⟩
  have stat : ∀ {H' : Hp}, (∀ b ∈ fp, H' b = none) -> ∀ b ∈ fp, FpOk (yt X scope cl c0 M G.objs.size s H fp E') [(s.heap.objs.size, { cls := .type "list", data := .seq its.toArray k })] H' b := fun hn b hb => by
   refine ⟨hn b hb, ?_, ?_, .inl hb, fun x c e => (by
    rcases lkC e with ⟨_, rfl⟩ | ⟨_, e⟩
    ·exact Nat.ne_of_gt (Nat.lt_of_lt_of_le (fpo b hb) (Nat.le_succ_of_le hCle))
    ·exact (hf b hb).2.2.2.2.1 x c (L.sub.get e)), fun p hp z => ?_⟩
   ·exact Nat.ne_of_lt (Nat.lt_of_lt_of_le (fpo b hb) hCle)
   ·intro z
    rcases List.mem_cons.mp (I.stkSub b z) with q | q
    ·exact (hf b hb).2.1 q
    ·exact (hf b hb).2.2.1 q
   ·have e : p = (s.heap.objs.size, { cls := .type "list", data := .seq its.toArray k }) := by
     have hp' : p ∈ [(s.heap.objs.size, ({ cls := .type "list", data := .seq its.toArray k } : Obj))] := hp
     simpa using hp'
    subst e
    exact absurd (z ▸ fpo b hb) (Nat.lt_irrefl _)
  refine wpAny_bind (wpAny_standAt (wpAny_bind ?_))
  rcases turn i n τ ys H1 w1 with ⟨stop, q⟩ | ⟨go, N, hN, step⟩
  ·refine thn (T.done (yt X scope cl c0 M G.objs.size s H fp E') rfl rfl rfl hc i _ s' τ H1 E' I1' (stat fr1) st1 stop) fun r s4 ⟨hr, I4⟩ => ?_
   subst hr
   refine wpAny_pure ?_
   obtain ⟨eD4, _, _⟩ := I4.pin (s.heap.objs.size, { cls := .type "list", data := .seq its.toArray k }) (List.mem_append_right _ List.mem_cons_self)
   have base4 : Un (frs X.stack) fp H H1 s.heap s4.heap := I4.base
   have un : Un (frs X.stack) fp H (upd H1 s.heap.objs.size (.lst ys)) s.heap s4.heap := ⟨base4.keep, base4.slot, fun b o e n hx => by rw [zm (Nat.ne_of_lt (Heap.lt_size e))]; exact base4.free b o e n hx, base4.there,
    fun b xs e => by rw [zm (zn (base4.tups b xs e) fD)]; exact base4.tups b xs e, fun b o u e => by rw [zm (zn (base4.frzs b o u e) fD)]; exact base4.frzs b o u e,
    fun b ps e => by
     obtain ⟨more, w⟩ := base4.tbls b ps e
     exact ⟨more, by rw [zm (zn w fD)]; exact w⟩⟩
   have hok : HOk X.prog X.w (upd H1 s.heap.objs.size (.lst ys)) s4.heap := fun b u e => by
    by_cases hb : b = s.heap.objs.size
    ·subst hb
     rw [zg] at e
     cases e
     exact ⟨hz, its, k, rv, eD4⟩
    ·rw [zm hb] at e
     exact (I4.hok b u e).stay (fun c v _ q => q) (fun c q => by rw [zm (zn q fD)]; exact q) fun c xs q => by rw [zm (zn q fD)]; exact q
   have IX : Inv X pins σ (upd H1 s.heap.objs.size (.lst ys)) s4 := I.call' I4.os un hok I4.bare fun b hb => ⟨(hf b hb).2.2.2.1, (hf b hb).2.1, (hf b hb).2.2.2.2.1, (hf b hb).2.2.2.2.2⟩
   have fC : H1 G.objs.size = none := I4.free
   obtain ⟨m4, n4, _⟩ := I4.loc
   exact hR _ _ s4 H1 ys m4 IX (I.fpOk hCle (by rw [zm (Ne.symm hDC)]; exact fC)) n4 (q _ fD)
  ·refine thn (T.item (yt X scope cl c0 M G.objs.size s H fp E') rfl rfl rfl hc i _ s' τ H1 E' I1' (stat fr1) st1 go) fun r s4 ⟨u, hr, h4⟩ => ?_
   subst hr
   refine wpAny_bind (thn h4 fun _ s5 ⟨x, H5, I5, r5, y5, st5, fr5⟩ => ?_)
   have I5' := I5.pinned (stat fr5) (T.obj _ _ st5)
   have kept : ∀ {τ6 : St} {H6 : Hp} {s6 : Shared}, Inv (yt X scope cl c0 M G.objs.size s H fp E') ([(s.heap.objs.size, { cls := .type "list", data := .seq its.toArray k })] ++ xK fp s5.heap) τ6 H6 s6 ->
     Inv (yt X scope cl c0 M G.objs.size s H fp E') [] τ6 H6 s6 /\ tn (i + 1) s6.heap /\ (∀ b ∈ fp, H6 b = none) /\ s6.heap.get? s.heap.objs.size = some { cls := .type "list", data := .seq its.toArray k } /\ H6 s.heap.objs.size = none := fun {τ6 H6 s6} I6 => by
    have pin : ∀ b ∈ fp, ∀ o, s5.heap.get? b = some o -> s6.heap.get? b = some o /\ H6 b = none := fun b hb o e =>
     let w := I6.pin (b, o) (List.mem_append_right _ (List.mem_append_right _ (yP hb e)))
     ⟨w.1, w.2.1⟩
    have pD := I6.pin (s.heap.objs.size, { cls := .type "list", data := .seq its.toArray k }) (List.mem_append_right _ (List.mem_append_left _ List.mem_cons_self))
    refine ⟨I6.pins_of (fun p hp => nomatch hp), T.keep _ _ _ st5 fun b hb o e => (pin b hb o e).1, fun b hb => ?_, pD.1, pD.2.1⟩
    obtain ⟨o, e, _⟩ := T.obj _ _ st5 b hb
    exact (pin b hb o e).2
   refine wpAny_bind (thn (hg _ _ _ _ _ _ s5 τ H5 x u _ I5' r5 (step x H5 y5)) fun _ s6 ⟨σ6, H6, I6, q6⟩ => ?_)
   refine wpAny_bind (thn (ht _ _ _ _ _ _ s6 σ6 H6 _ I6 q6) fun ok s7 ⟨H7, I7, q7⟩ => ?_)
   cases ok with
   | false =>
    have q7' : N σ6 ys H7 := by simpa using q7
    obtain ⟨m', hm, w7⟩ := hN _ _ _ q7'
    obtain ⟨K1, K2, K3, K4, K5⟩ := kept I7
    exact wpAny_pure ⟨rfl, m', hm, i + 1, σ6, H7, ys, its, k, K1, K2, K3, K4, K5, rv, hz, w7⟩
   | true =>
    have q7' : te σ6 H7 fun y H4 => ys.length < sizeLine /\ N σ6 (ys ++ [y]) H4 := by simpa using q7
    refine wpAny_bind (wpAny_bind (thn (he _ _ hAl _ s7 σ6 H7 _ I7 q7') fun y s8 ⟨v8, H8, I8, r8, hz8, n8⟩ => ?_))
    obtain ⟨m', hm, w8⟩ := hN _ _ _ n8
    obtain ⟨K1, K2, K3, K4, K5⟩ := kept I8
    have hl := rv.length
    refine wpAny_bind (wpAny_list_append_plain (hsz := by rw [List.size_toArray]; omega) ⟨k, K4⟩ fun h9 hl9 hs9 => wpAny_pure (wpAny_pure ⟨rfl, m', hm, ?_⟩))
    obtain ⟨k9, e9⟩ := hl9
    have I9 : Inv (yt X scope cl c0 M G.objs.size s H fp E') [] σ6 H8 { s8 with heap := h9 } := K1.turned (t' := s8.toks) (it := s.heap.objs.size) (fun b o hb e => (hs9.2 b hb).trans e) K5 hDC (.inr (Nat.le_refl _))
     (fun y c e => nocl y c e) fun p hp => nomatch hp
    refine ⟨i + 1, σ6, H8, ys ++ [v8], its ++ [y], k9, I9, T.keep _ _ _ K2 fun b hb o e => (hs9.2 b (Nat.ne_of_lt (fpo b hb))).trans e, K3, ?_, K5, rv.append (.cons r8 .nil), ?_, w8⟩
    ·rw [e9]
     simp
    ·rw [List.length_append, List.length_singleton]
     omega
 exact codeAny_compStart_list (loop _ rfl) (T.self X.A 0 _ _ _ st1 (loop _ rfl))
variable {tg elt iter : Expr} {ifs : List Expr} {pos : Pos} {wi : TI} {g : TG} {tt : TT} {te : TE}
theorem Qs (L : LcOkC X scope cl c0) (hc : X.calm = true) (hi : PI X tg iter wi) (hg : ∀ C s H ex E, PG (yt X scope cl c0 M C s H ex E) tg g) (ht : ∀ C s H ex E, PTs (yt X scope cl c0 M C s H ex E) ifs tt) (he : ∀ C s H ex E, PE (yt X scope cl c0 M C s H ex E) elt te)
  (hs : ∀ x, foldedSetIterable iter X.env x = pure x := by intro _; rfl) : PE X (.ListComp elt [⟨tg, iter, ifs, 0⟩] scope pos) (tLC wi g tt te M.length) := by
 intro pins s σ H Q I h
 rw [eval_ListComp]
 refine wpAny_comprehension_free (use := none) rfl hs L.clos L.kind L.locs (thn (hi pins s σ H _ I h) fun v s1 h1 => thn h1 fun itv s2 h2 => ?_)
 obtain ⟨it, fp, tn, J, H2, rfl, I2, T, st2, f2, W, ⟨m0, w0⟩, turn⟩ := h2
 refine WL (R := fun acc C => compPost (model X.prog X.w) X.A X.xe none (EP X pins σ Q) acc C) (Al := fun _ _ => True) L hc I2 T st2 f2 hg ht (fun C E _ => he C _ _ _ E) (fun _ _ => trivial) w0 turn ?_
 intro D C s' H' ys m IX fC ns q
 exact ⟨m, ns, fun h' sb => ⟨.ref D, _, IX.turned (t' := s'.toks) (fun b o hb e => (sb.2 b hb).trans e) fC.1 fC.2.1 fC.2.2.2.1 fC.2.2.2.2.1 fC.2.2.2.2.2, rfl, q⟩⟩
theorem WM (c0 : Str) (M : List Str) (hc : X.calm = true) (hi : jI X tg iter wi) (hg : ∀ C s H ex E, jG (yt X scope (clOf scope X.env) c0 M C s H ex E) tg g) (ht : ∀ C s H ex E, jTs (yt X scope (clOf scope X.env) c0 M C s H ex E) ifs tt)
  (he : ∀ C s H ex E, jE (yt X scope (clOf scope X.env) c0 M C s H ex E) elt te) (hs : ∀ x, foldedSetIterable iter X.env x = pure x := by intro _; rfl)
  (h1 : closureFor scope X.env = pure (clOf scope X.env) := by with_unfolding_all rfl) (h2 : scope.kind = .function := by rfl) (h3 : ∀ n cl, cellsFrom n scope.names cl = (c0, n) :: cl := by intro _ _; rfl) (h3' : ∀ h, pushCells h scope.names = h.push { cls := .type "cell", data := .cell none } := by intro _; rfl)
  (kc : scope.names.lookup c0 = some .cell := by rfl) (h4' : scope.names.all (fun y => y.2 != .cell || y.1 == c0) = true := by rfl) (h4 : scope.names.all (fun y => y.2 != .local || scope.names.lookup y.1 == some .local) = true := by rfl)
  (h5 : X.N.all (fun y => scope.names.lookup y != some .local && scope.names.lookup y != some .cell) = true := by rfl) (h6 : scope.names.all (fun p => p.2 != .free || (((clOf scope X.env).lookup p.1).isSome && (X.env.kindOf p.1 == some .cell || X.env.kindOf p.1 == some .free))) = true := by rfl) :
  jE X (.ListComp elt [⟨tg, iter, ifs, 0⟩] scope pos) (tLC wi g tt te M.length) :=
 ⟨Qs ⟨h1, h2, h3, h3', kc, h4', h4, h5, vw X.env scope.names [] trivial, h6⟩ hc hi.out (fun C s H ex E => (hg C s H ex E).out) (fun C s H ex E => (ht C s H ex E).out) (fun C s H ex E => (he C s H ex E).out) hs⟩
end
end L2
namespace L2
open PySem
theorem WN {X : Cx} {tg : Expr} (K : PySem.W.Frag) {l : Expr} {tl : TE} (hl : jE X l tl) (h : X.K = K := by rfl) : jI X tg l (Zu K tl) := h ▸ yg hl
end L2
namespace GN
open PySem L2 K11
theorem FnOk.exs {P : Program} {w : World} {K : PySem.W.Frag} {mg : Str -> Option Value} {base : Heap} {CX : CXT} {k : Nat} {f : Addr} {fd : FuncData} {ps : List Str} {sp : Kvs -> Sp} (h : ∀ j, FnOk P w K mg base CX k f fd ps (sp j)) : FnOk P w K mg base CX k f fd ps (fun vs H Q E => ∃ j, sp j vs H Q E) :=
 ⟨fun vs H Q E ⟨j, q⟩ => (h j).len vs H Q E q, fun A outer s H args us vs Q E hr he hb hv ⟨j, hs⟩ => (h j).run A outer s H args us vs Q E hr he hb hv hs⟩
theorem Ca.imp {P : Program} {w : World} {K : PySem.W.Frag} {mg : Str -> Option Value} {base : Heap} {CX : CXT} {k : Nat} {x : Str} {ps : List Str} {sp sp' : Sp} (h : Ca P w K mg base CX k x ps sp) (g : ∀ vs H Q E, sp' vs H Q E -> sp vs H Q E) : Ca P w K mg base CX k x ps sp' := let ⟨f, fd, a, r⟩ := h.ex; ⟨f, fd, a.imp g, r⟩
def jL : Sp := fun vs H Q E => ∃ j, vX j vs H Q E
def WO : Sp := fun vs H Q E => ∃ j, Yh j vs H Q E
section
variable {P : Program} {w : World} {K : PySem.W.Frag} {mg : Str -> Option Value} {base : Heap} {f T : Addr} {fd : FuncData}
theorem scLaw35 : FnScope ["_law_script", "_law_state", "_law_world", "_law_tags_here", "_law_kinds", "_law_rooms", "_law_tag", "_law_sorts_here", "_law_kind", "_law_args", "_law_scope", "_law_body_here", "_law_params", "_law_head", "_law_program", "_law_handed", "_law_due_here", "_law_other"] ["_law_script"] (zo sLaw) := ⟨rfl, rfl, rfl, by decide +kernel, rfl, by decide +kernel, by decide +kernel⟩
theorem yH : (["_law_script", "_law_state", "_law_world", "_law_tags_here", "_law_kinds", "_law_rooms", "_law_tag", "_law_sorts_here", "_law_kind", "_law_args", "_law_scope", "_law_body_here", "_law_params", "_law_head", "_law_program", "_law_handed", "_law_due_here", "_law_other", "_law_k"] : List Str).Nodup := by decide +kernel
theorem jM : (["_law_script", "_law_state", "_law_world", "_law_tags_here", "_law_kinds", "_law_rooms", "_law_tag", "_law_sorts_here", "_law_kind", "_law_args", "_law_scope", "_law_body_here", "_law_params", "_law_head", "_law_program", "_law_handed", "_law_due_here", "_law_other", "_law_name_here", "_law_sort"] : List Str).Nodup := by decide +kernel
theorem WP : (["_law_script", "_law_state", "_law_world", "_law_tags_here", "_law_kinds", "_law_rooms", "_law_tag", "_law_sorts_here", "_law_kind", "_law_args", "_law_scope", "_law_body_here", "_law_params", "_law_head", "_law_program", "_law_handed", "_law_due_here", "_law_other", "_law_parts_here"] : List Str).Nodup := by decide +kernel
theorem YS (F : Fun K "_law_split" "_law_split" vL f fd) : FnOk P w K mg base CX0 1 f fd ["_law_parts_here", "_law_rooms"] jL := FnOk.exs fun j => WH F
theorem Jk (F : Fun K "_law_due" "_law_due" sDue f fd) (GS : Ca P w K mg base CX0 1 "_law_split" ["_law_parts_here", "_law_rooms"] jL) (m_isinstance : mg "isinstance" = none) (m_str : mg "str" = none) (m_int : mg "int" = none) (m_dict : mg "dict" = none) (m_zip : mg "zip" = none) : FnOk P w K mg base CX0 2 f fd ["_law_body_here", "_law_here", "_law_rooms"] WO := FnOk.exs fun j => WJ F (Ca.imp GS fun vs H Q E q => ⟨j, q⟩) m_isinstance m_str m_int m_dict m_zip
theorem vk {a : Str × Nat} : ∀ {l : List (Str × Nat)} {kvs : Kvs}, puts (l ++ [a]) kvs = putK (puts l kvs) (.inr a.1) (.int (a.2 : Int))
 | [], _ => rfl
 | b :: l, kvs => vk (l := l)
theorem Yi : ∀ {l : List (Str × Nat)} {kvs : Kvs}, (puts l kvs).length <= l.length + kvs.length
 | [], kvs => by show kvs.length <= 0 + kvs.length; omega
 | b :: l, kvs => by
  have h1 := Yi (l := l) (kvs := putK kvs (.inr b.1) (.int (b.2 : Int)))
  have h2 := yL kvs (Sum.inr b.1 : Key) (.int (b.2 : Int))
  show (puts l (putK kvs (.inr b.1) (.int (b.2 : Int)))).length <= l.length + 1 + kvs.length
  omega
theorem jN {i : Int} : ∀ {l : List (Str × Nat)} {kvs : Kvs}, valV (puts l kvs) (.inl i) = valV kvs (.inl i)
 | [], _ => rfl
 | b :: l, kvs => by
  show valV (puts l (putK kvs (.inr b.1) (.int (b.2 : Int)))) _ = _
  rw [jN, wy, if_neg (by intro z; cases z)]
abbrev rmL (tgs : List Tg) : List (Str × Nat) := tgs.map fun g => (g.t, g.ss.length)
theorem JJ {z : Str} {b : Bool} {tgs : List Tg} (h : TgOk z b tgs) : RmOk (puts (rmL tgs) []) (kvT tgs) := fun k => by
 match k with
 | .inl i =>
  rw [jN]
  show V.int 0 = V.int (((if _ then some 0 else none : Option Nat).getD 0 : Nat) : Int)
  split <;> rfl
 | .inr t =>
  have nd : ((rmL tgs).map (·.1)).Nodup := by
   rw [List.map_map]
   exact h.nd
  by_cases m : ∃ g ∈ tgs, g.t = t
  ·obtain ⟨g, mg, rfl⟩ := m
   rw [vU nd (List.mem_map.mpr ⟨g, mg, rfl⟩)]
   show V.int _ = V.int (((szOf (kvT tgs) g.t).getD 0 : Nat) : Int)
   rw [h.sz mg]
   rfl
  ·have n1 : t ∉ (rmL tgs).map (·.1) := fun z => by
    obtain ⟨a, ma, rfl⟩ := List.mem_map.mp z
    obtain ⟨g, mg, rfl⟩ := List.mem_map.mp ma
    exact m ⟨g, mg, rfl⟩
   have n2 : t ∉ (ksT tgs).flatten.map (·.1) := fun z => by
    obtain ⟨a, ma, rfl⟩ := List.mem_map.mp z
    obtain ⟨g, mg, rfl⟩ := Ye ma
    exact m ⟨g, mg, rfl⟩
   rw [xG n1]
   show V.int 0 = V.int (((szOf (kvT tgs) t).getD 0 : Nat) : Int)
   unfold szOf
   rw [xG n2]
   rfl
def KnL (H : Hp) (us : List Addr) (l : List (Str × Nat)) : Prop := us.length = l.length /\ ∀ (i : Nat) x y, us[i]? = some x -> l[i]? = some y -> H x = some (.tup [.str y.1, .int (y.2 : Nat)])
theorem KnL.snoc {H H' : Hp} {us : List Addr} {l : List (Str × Nat)} {u : Addr} {a : Str × Nat} (h : KnL H us l) (s : Same H H') (e : H' u = some (.tup [.str a.1, .int (a.2 : Nat)])) : KnL H' (us ++ [u]) (l ++ [a]) := by
 have l1 := h.1
 refine ⟨by rw [List.length_append, List.length_append, l1]; rfl, fun i x y h1 h2 => ?_⟩
 by_cases c : i < us.length
 ·rw [List.getElem?_append_left (by omega)] at h1 h2
  exact s _ _ (h.2 i x y h1 h2)
 ·rw [List.getElem?_append_right (by omega)] at h1 h2
  have : i = us.length := by
   have := (List.getElem?_eq_some_iff.mp h1).1
   simp at this
   omega
  subst this
  rw [Nat.sub_self] at h1
  rw [l1, Nat.sub_self] at h2
  cases h1
  cases h2
  exact e
theorem WQ {tgs : List Tg} {i k : Nat} {g : Tg} (h : tgs[i]? = some g) : kdL (tgs.take (i + 1)) k = kdL (tgs.take i) k ++ (if g.kd = k then [(g.t, g.ss.length)] else []) := by
 unfold kdL
 rw [List.take_add_one, h, List.filter_append, List.map_append]
 congr 1
 show ([g].filter _).map _ = _
 by_cases c : g.kd = k
 ·rw [if_pos c]
  simp [List.filter_cons, c]
 ·rw [if_neg c]
  simp [List.filter_cons, c]
def Ars (H : Hp) (ks : List (List (Str × Nat))) (ls : List Addr) (xss : List (List V)) : Prop := ls.length = xss.length /\ ∀ (i : Nat) l xs, ls[i]? = some l -> xss[i]? = some xs -> H l = some (.lst xs) /\ Grw ks xs
theorem jP {ks : List (List (Str × Nat))} {xs : List V} (h : Grw ks xs) : ∃ x r, xs = x :: r /\ At x := by
 cases xs with
 | nil => exact absurd h.2.2 (by intro z; cases z)
 | cons x r => exact ⟨x, r, rfl, h.2.1 x (List.mem_cons_self ..)⟩
theorem Ars.kp {K : PySem.W.Frag} {H H' : Hp} {st : Addr} {B : Nat} {ks : List (List (Str × Nat))} {ls : List Addr} {xss : List (List V)} (h : Ars H ks ls xss) (k : Kp st H H') (S : Sta K H st B) : Ars H' ks ls xss := ⟨h.1, fun i l xs h1 h2 => by
 obtain ⟨a, g⟩ := h.2 i l xs h1 h2
 obtain ⟨x, r, rfl, at'⟩ := jP g
 exact ⟨k.k _ _ (S.neA a at') a, g⟩⟩
theorem Ars.same {H H' : Hp} {ks : List (List (Str × Nat))} {ls : List Addr} {xss : List (List V)} (h : Ars H ks ls xss) (s : Same H H') : Ars H' ks ls xss := ⟨h.1, fun i l xs h1 h2 => ⟨s _ _ (h.2 i l xs h1 h2).1, (h.2 i l xs h1 h2).2⟩⟩
theorem Ars.snoc {H : Hp} {ks : List (List (Str × Nat))} {ls : List Addr} {xss : List (List V)} {l : Addr} {xs : List V} (h : Ars H ks ls xss) (e : H l = some (.lst xs)) (g : Grw ks xs) : Ars H ks (ls ++ [l]) (xss ++ [xs]) := by
 have l1 := h.1
 refine ⟨by rw [List.length_append, List.length_append, l1]; rfl, fun i x y h1 h2 => ?_⟩
 by_cases c : i < ls.length
 ·rw [List.getElem?_append_left (by omega)] at h1 h2
  exact h.2 i x y h1 h2
 ·rw [List.getElem?_append_right (by omega)] at h1 h2
  have : i = ls.length := by
   have := (List.getElem?_eq_some_iff.mp h1).1
   simp at this
   omega
  subst this
  rw [Nat.sub_self] at h1
  rw [l1, Nat.sub_self] at h2
  cases h1
  cases h2
  exact ⟨e, g⟩
theorem Ars.ar {H : Hp} {ks : List (List (Str × Nat))} {la : Addr} {ls : List Addr} {xss : List (List V)} (h : Ars H ks ls xss) (e : H la = some (.lst (ls.map V.ref))) : IsAr H la ls xss := ⟨e, h.1, fun i l xs h1 h2 => ⟨(h.2 i l xs h1 h2).1, jP (h.2 i l xs h1 h2).2⟩⟩
theorem Sta.neL {K : PySem.W.Frag} {H : Hp} {st p : Addr} {B : Nat} {xs : List V} (S : Sta K H st B) (h : H p = some (.lst xs)) (hat : ∀ x ∈ xs, At x) : p ≠ st := fun e => by
 obtain ⟨b, ns, k, h1, _⟩ := S
 rw [e, h1] at h
 cases h
 exact hat _ (List.mem_cons_self ..)
theorem Ans.kp {K : PySem.W.Frag} {H H' : Hp} {st r : Addr} {B : Nat} {o : List V ⊕ Str} (h : Ans H r o) (hat : AtO o) (k : Kp st H H') (S : Sta K H st B) : Ans H' r o := by
 match o, h, hat with
 | .inl f, h, hat =>
  obtain ⟨l, a, b⟩ := h
  exact ⟨l, k.tups S _ _ a, k.k _ _ (S.neL b fun x hx => hat x (List.mem_of_mem_take hx)) b⟩
 | .inr w, h, _ => exact k.tups S _ _ h
theorem Sta.kt {K : PySem.W.Frag} {T : Addr} {H H' : Hp} {st : Addr} {B : Nat} (S : Sta K H st B) (k : KT T H H') (t : Tb T H) : Sta K H' st B := by
 obtain ⟨a, ns, n, h1, h2, h3, h4⟩ := S
 refine ⟨a, ns, n, k.lst t h1, h2, ?_, h4⟩
 obtain ⟨tb, ht⟩ := t.tbl
 rcases h3 with (h | ⟨o, h⟩) | h
 ·exact .inl (.inl (k.lst t h))
 ·exact .inl (.inr ⟨o, k _ _ (ye h ht (by intro z; cases z)) h⟩)
 ·exact .inr h
theorem KT.tu {T : Addr} {H H' : Hp} (k : KT T H H') (t : Tb T H) : Tups H H' := fun p xs h => by
 obtain ⟨tb, ht⟩ := t.tbl
 exact k _ _ (ye h ht (by intro z; cases z)) h
theorem IsTgs.kt {T : Addr} {H H' : Hp} {tg : Addr} {ts : List Addr} {tgs : List Tg} (h : IsTgs H tg ts tgs) (k : KT T H H') (t : Tb T H) : IsTgs H' tg ts tgs := ⟨k.lst t h.1, h.2.1, fun i p g h1 h2 => let ⟨l, a, b⟩ := h.2.2 i p g h1 h2; ⟨l, k.tu t _ _ a, k.lst t b⟩⟩
theorem Ars.kt {T : Addr} {H H' : Hp} {ks : List (List (Str × Nat))} {ls : List Addr} {xss : List (List V)} (h : Ars H ks ls xss) (k : KT T H H') (t : Tb T H) : Ars H' ks ls xss := ⟨h.1, fun i l xs h1 h2 => ⟨k.lst t (h.2 i l xs h1 h2).1, (h.2 i l xs h1 h2).2⟩⟩
theorem vY {H : Hp} {tgs : List Tg} : ∀ {ps : List Str} {as : List Addr} {xss : List (List V)}, ps.length = xss.length -> as.length = xss.length -> (∀ (j : Nat) a xs, as[j]? = some a -> xss[j]? = some xs -> H a = some (.lst xs) /\ Grw (ksT tgs) xs) -> ER (Fx (kvT tgs) H) (zkv ps (as.map V.ref)) (ps.zip xss)
 | [], [], [], _, _, _ => .nil
 | [], _ :: _, [], _, h, _ => by simp at h
 | _ :: _, _, [], h, _, _ => by simp at h
 | [], _, _ :: _, h, _, _ => by simp at h
 | _ :: _, [], _ :: _, _, h, _ => by simp at h
 | p :: ps, u :: us, xs :: xss, h1, h2, h3 => .cons ⟨u, rfl, (h3 0 u xs rfl rfl).1, (h3 0 u xs rfl rfl).2⟩ (vY (by simpa using h1) (by simpa using h2) fun j u xs a b => h3 (j + 1) u xs a b)
theorem Yj {K : PySem.W.Frag} {vs : List V} {H : Hp} {Q : VK} {E : XK} (h : y7 K 0 vs H Q E) : False := by
 obtain ⟨_, _, _, _, _, _, _, _, _, _, h, _⟩ := h
 exact absurd h (Nat.not_lt_zero _)
theorem WR {K : PySem.W.Frag} {vs : List V} {H : Hp} {Q : VK} {E : XK} (h : xS K 0 vs H Q E) : False := by
 obtain ⟨_, _, _, _, _, _, room, _, _, _, _, _, _, _, h, _⟩ := h
 have : room + 1 < 1 := h
 omega
def spTopT (K : PySem.W.Frag) (T : Addr) : Sp := fun vs H Q _ => ∃ (a : Addr) (ns : List Int), vs = [.ref a] /\ SqL K H a (ns.map V.int) /\ ns.length <= 63 /\ H T = some (.tbl #[]) /\ ∀ H', Q (.bl true) H'
theorem WS (F : Fun K "law" "law" sLaw f fd) (GD : Ca P w K mg base CX0 1 "_law_draw" ["_law_state", "_law_many"] (yB K)) (GM : Ca P w K mg base CX0 1 "_law_name" ["_law_world", "_law_k"] spNm) (GS : Ca P w K mg base CX0 2 "_law_stem" ["_law_state"] (Wa K)) (GT : Ca P w K mg base CX0 3 "_law_tags" ["_law_state", "_law_world"] (WA K)) (GP : Ca P w K mg base CX0 5 "_law_parts" ["_law_state", "_law_sort", "_law_tags_here", "_law_deep"] (y7 K 3)) (GL : Ca P w K mg base CX0 4 "_law_ladder" ["_law_state", "_law_scope", "_law_world", "_law_tags_here", "_law_args"] (jK K)) (GB : Ca P w K mg base CX0 8 "_law_body" ["_law_state", "_law_scope", "_law_k", "_law_room", "_law_world", "_law_tags_here"] (xS K 3)) (GE : Ca P w K mg base CX0 2 "_law_due" ["_law_body_here", "_law_here", "_law_rooms"] WO) (GR : Ca P w K mg base CX0 7 "run" ["program", "name", "args", "steps"] (Wz T)) (GA : Ca P w K mg base CX0 1 "_law_same" ["_law_got", "_law_due_here"] WK) (m_len : mg "len" = none) (m_list : mg "list" = none) (m_range : mg "range" = none) (m_tuple : mg "tuple" = none) (m_dict : mg "dict" = none) (m_zip : mg "zip" = none) : FnOk P w K mg base CX0 9 f fd ["_law_script"] (spTopT K T) := by
 refine F.by scLaw35 (fun vs H Q E h => ?_) (fun cdv A outer s H vs Q E hr h => ?_)
 ·obtain ⟨a, ns, rfl, _⟩ := h
  rfl
 obtain ⟨a, ns, rfl, hS, h63, hT, q⟩ := h
 have r1 : Room 1 _ := hr.mono (by decide)
 have r2 : Room 2 _ := hr.mono (by decide)
 have r3 : Room 3 _ := hr.mono (by decide)
 have r4 : Room 4 _ := hr.mono (by decide)
 have r5 : Room 5 _ := hr.mono (by decide)
 have r7 : Room 7 _ := hr.mono (by decide)
 refine ⟨_,
  (zj (zu (i := 1) scLaw35.nd rfl (by first | exact Or.inl rfl | exact Or.inr rfl) (zV (ja_c (jv 0) (ja_c zi zh))))
  (zj (zu (i := 2) scLaw35.nd rfl (by first | exact Or.inl rfl | exact Or.inr rfl) (zv GS r2 rfl zx (ja_c (jv 1) zh)))
  (zj (zu (i := 3) scLaw35.nd rfl (by first | exact Or.inl rfl | exact Or.inr rfl) (zv GT r3 rfl zx (ja_c (jv 1) (ja_c (jv 2) zh))))
  (zj (zu (i := 4) scLaw35.nd rfl (by first | exact Or.inl rfl | exact Or.inr rfl) (yw zZ rfl m_tuple PyProof.Rows.boot_tuple (ja_c (WM "_law_k" ["_law_k"] rfl (xr (zO (ja_c zi (ja_c zi (ja_c zi zh))))) (fun _ _ _ _ _ => (zr (i := 18) yH rfl (by first | exact Or.inl rfl | exact Or.inr rfl))) (fun _ _ _ _ _ => z9) (fun _ _ _ _ _ => (yw (vF K) rfl m_tuple PyProof.Rows.boot_tuple (ja_c (Xp [6, 7, 8] [] rfl (WN K (jv 3)) (fun _ _ _ _ _ => (wa K (n := 3) rfl (zD (zr (i := 6) yH rfl (by first | exact Or.inl rfl | exact Or.inr rfl)) (zD (zr (i := 7) yH rfl (by first | exact Or.inl rfl | exact Or.inr rfl)) (zD (zr (i := 8) yH rfl (by first | exact Or.inl rfl | exact Or.inr rfl)) yo))))) (fun _ _ _ _ _ => (xy (zw zY (jv 8) (jv 18) (zy _)))) (fun _ _ _ _ _ => (zO (ja_c (jv 6) (ja_c (zI (ju K) rfl m_len PySem.boot_len (ja_c (jv 7) zh)) zh))))) zh)))) zh)))
  (zj (zu (i := 5) scLaw35.nd rfl (by first | exact Or.inl rfl | exact Or.inr rfl) xB)
  (zj (yp PassesOwn.never rfl (yg (jv 3)) (yW rfl (zD (zr (i := 6) scLaw35.nd rfl (Or.inl rfl)) (zD (zr (i := 7) scLaw35.nd rfl (Or.inl rfl)) (zD (zr (i := 8) scLaw35.nd rfl (Or.inl rfl)) yo))))
   (zk (x9 hr (jv 5) (jv 6) (zI zC rfl m_len PySem.boot_len (ja_c (jv 7) zh)))))
  (zj (yx ["_law_k"] (i := 9) scLaw35.nd rfl (Or.inl rfl) rfl (zW rfl m_range (ja_c zi zh)) (fun _ _ _ _ _ => (zr (i := 18) yH rfl (Or.inl rfl))) (fun _ _ _ _ _ => z9) (fun _ _ _ _ _ => (zv GP r5 rfl zx (ja_c (jv 1) (ja_c (jv 18) (ja_c (jv 3) (ja_c zi zh)))))))
  (zj (yx ["_law_k"] (i := 10) scLaw35.nd rfl (Or.inl rfl) rfl (zW rfl m_range (ja_c zi zh)) (fun _ _ _ _ _ => (zr (i := 18) yH rfl (Or.inl rfl))) (fun _ _ _ _ _ => z9) (fun _ _ _ _ _ => (zO (ja_c (zv GM r1 rfl zx (ja_c (jv 2) (ja_c (jv 18) zh))) (ja_c (jv 18) zh)))))
  (zj (zM (zw zY (zv GD r1 rfl zx (ja_c (jv 1) (ja_c zi zh))) zi (zy _))
   (zk (zu (i := 11) scLaw35.nd rfl (Or.inl rfl) (zv GL r4 rfl zx (ja_c (jv 1) (ja_c (jv 10) (ja_c (jv 2) (ja_c (jv 3) (ja_c (jv 9) zh))))))))
   (zk (zu (i := 11) scLaw35.nd rfl (Or.inl rfl) (zv GB hr rfl zx (ja_c (jv 1) (ja_c (jv 10) (ja_c zi (ja_c zi (ja_c (jv 2) (ja_c (jv 3) zh))))))))))
  (zj (yx ["_law_name_here", "_law_sort"] (i := 12) scLaw35.nd rfl (Or.inl rfl) rfl (yg (jv 10)) (fun _ _ _ _ _ => (wa K (n := 2) rfl (zD (zr (i := 18) jM rfl (Or.inl rfl)) (zD (zr (i := 19) jM rfl (Or.inl rfl)) yo)))) (fun _ _ _ _ _ => z9) (fun _ _ _ _ _ => (jv 18)))
  (zj (zu (i := 13) scLaw35.nd rfl (Or.inl rfl) (zv GM r1 rfl zx (ja_c (jv 2) (ja_c (zv GD r1 rfl zx (ja_c (jv 1) (ja_c zi zh))) zh))))
  (zj (zu (i := 14) scLaw35.nd rfl (Or.inl rfl) (zO (ja_c (jv 4) (ja_c (zO (ja_c (zO (ja_c (jv 13) (ja_c (yw zZ rfl m_tuple PyProof.Rows.boot_tuple (ja_c (jv 12) zh)) (ja_c (jv 11) zh)))) zh)) zh))))
  (zj (yx ["_law_parts_here"] (i := 15) scLaw35.nd rfl (Or.inl rfl) rfl (yg (jv 9)) (fun _ _ _ _ _ => (zr (i := 18) WP rfl (Or.inl rfl))) (fun _ _ _ _ _ => z9) (fun _ _ _ _ _ => (yw (jw K) rfl m_list PyProof.Rows.boot_list (ja_c (jv 18) zh))))
  (zj (zu (i := 16) scLaw35.nd rfl (Or.inl rfl) (zv GE r2 rfl zx (ja_c (jv 11) (ja_c (xE rfl rfl m_dict rfl m_zip (ja_c (jv 12) (ja_c (jv 9) zh))) (ja_c (jv 5) zh)))))
  (zj (zM (jW.pt (xX (wg (yn (zv GA r1 rfl zx (ja_c (zv GR r7 rfl zx (ja_c (jv 14) (ja_c (jv 13) (ja_c (jv 15) (ja_c (zv GD r1 rfl zx (ja_c (jv 1) (ja_c zi zh))) zh))))) (ja_c (jv 16) zh))))) (xq (zw (Qb (n := 4) (by decide) hr) (jv 15) (jv 9) (zy _)))))
   (zk (zF Xm)) zH)
  (zj (yx ["_law_k"] (i := 9) scLaw35.nd rfl (Or.inl rfl) rfl (zW rfl m_range (ja_c zi zh)) (fun _ _ _ _ _ => (zr (i := 18) yH rfl (Or.inl rfl))) (fun _ _ _ _ _ => z9) (fun _ _ _ _ _ => (zv GP r5 rfl zx (ja_c (jv 1) (ja_c (jv 18) (ja_c (jv 3) (ja_c zi zh)))))))
  (zj (zu (i := 17) scLaw35.nd rfl (Or.inl rfl) (zv GE r2 rfl zx (ja_c (jv 11) (ja_c (xE rfl rfl m_dict rfl m_zip (ja_c (jv 12) (ja_c (jv 9) zh))) (ja_c (jv 5) zh)))))
  (zk (zF (wk (zv GA r1 rfl zx (ja_c (zv GR r7 rfl zx (ja_c (jv 14) (ja_c (jv 13) (ja_c (jv 9) (ja_c zi zh))))) (ja_c (jv 17) zh))) (wj (zv GA r1 rfl zx (ja_c (zv GR r7 rfl zx (ja_c (jv 14) (ja_c (jv 13) (ja_c (jv 15) (ja_c zi zh))))) (ja_c (jv 16) zh)))))))))))))))))))))))), ?_⟩
 have sl := z6
 have LM : LIM = 4611686018427387904 := rfl
 refine ⟨_, rfl, by show 2 <= sizeLine; decide, fun st h1 => ?_⟩
 have S1 : Sta K (upd H st (.lst [.ref a, .int ((0 : Nat) : Int)])) st 0 := by
  refine ⟨a, ns, 0, zg, fun e => ?_, (zp h1 _).seq hS, Nat.le_refl _⟩
  rcases hS with (h | ⟨o, h⟩) | h
  ·exact absurd e (zn h h1)
  ·exact absurd e (zn h h1)
  ·exact fun _ => .inr h
 have hT1 := old (o := .lst [.ref a, .int ((0 : Nat) : Int)]) h1 hT
 show (tSeq _ _ : TS) _ _ (upd H st (.lst [.ref a, .int ((0 : Nat) : Int)]))
 generalize upd H st (.lst [.ref a, .int ((0 : Nat) : Int)]) = H1 at *
 have nTs : T ≠ st := fun e => by
  obtain ⟨b, ns', k', e1, _⟩ := S1
  rw [e, e1] at hT1
  cases hT1
 refine ⟨_, rfl, st, 0, rfl, S1, by omega, fun H2 wp z b k2 S2 hw hz => ?_⟩
 have nws := S2.neW hw
 refine ⟨_, rfl, _, rfl, st, wp, _, z, b, rfl, S2, by omega, hw, nws, hz, fun H3 tg ts tgs k3 S3 ftg hTg hOk => ?_⟩
 have lts := hTg.2.1
 have m24 := hOk.m
 have hw3 := k3.k _ _ nws hw
 have hT3 := k3.k _ _ nTs (k2.k _ _ nTs hT1)
 refine ⟨by show 3 <= sizeLine; decide, fun tq htq => ?_⟩
 have s4 := zp htq (.tup [V.int 1, V.int 2, V.int 3])
 have e4 := zg (H := H3) (a := tq) (o := .tup [V.int 1, V.int 2, V.int 3])
 have S4 := S3.same s4
 have hTg4 := hTg.same s4
 have hw4 := s4 _ _ hw3
 have hT4 := s4 _ _ hT3
 generalize upd H3 tq (.tup [V.int 1, V.int 2, V.int 3]) = H4 at *
 refine ⟨tq, rfl, ⟨_, SqT.of e4⟩, Zb (K := K) (xs := [V.int 1, V.int 2, V.int 3]) (fun j τ ys H' => Same H4 H' /\ (∃ v, τ = [some (.ref a), some (.ref st), some (.ref wp), some (.ref tg), none, none, none, none, none, none, none, none, none, none, none, none, none, none, v]) /\ ∃ qs : List Addr, ys = qs.map V.ref /\ qs.length = j /\ ∀ (i : Nat) q, qs[i]? = some q -> KnR H' q (kdL tgs (i + 1))) ⟨Same.refl _, ⟨none, rfl⟩, [], rfl, rfl, fun i q h => by simp at h⟩ (fun j τ ys H' _ h => SqT.of (h.1 _ _ e4)) ?_ ?_⟩
 ·rintro j v τ ys H5 hv ⟨s5, ⟨v', rfl⟩, qs, rfl, lq, hqs⟩
  have hj : j < 3 := (List.getElem?_eq_some_iff.mp hv).1
  obtain rfl : v = .int ((j + 1 : Nat) : Int) := by
   rcases (show j = 0 \/ j = 1 \/ j = 2 by omega) with rfl | rfl | rfl <;> (cases hv; rfl)
  have hTg5 := hTg4.same s5
  refine ⟨_, rfl, tg, rfl, ⟨_, SqL.of hTg5.1⟩, yK (K := K) (xs := ts.map V.ref) (fun i τ ys H' => Same H5 H' /\ (∃ a1 a2 a3, τ = [some (.ref a), some (.ref st), some (.ref wp), some (.ref tg), none, none, a1, a2, a3, none, none, none, none, none, none, none, none, none, some (.int ((j + 1 : Nat) : Int))]) /\ ∃ us : List Addr, ys = us.map V.ref /\ us.length <= i /\ KnL H' us (kdL (tgs.take i) (j + 1))) ⟨Same.refl _, ⟨none, none, none, rfl⟩, [], rfl, Nat.le_refl _, rfl, fun i x y h => by simp at h⟩ (fun i τ ys H' _ h => SqL.of (h.1 _ _ hTg5.1)) ?_ ?_⟩
  ·rintro i v τ ys H6 hv ⟨s6, ⟨a1, a2, a3, rfl⟩, us, rfl, lu, hus⟩
   rw [List.getElem?_map] at hv
   obtain ⟨p, hp, rfl⟩ := Option.map_eq_some_iff.mp hv
   have hi := (List.getElem?_eq_some_iff.mp hp).1
   obtain ⟨g, hg⟩ : ∃ g, tgs[i]? = some g := ⟨_, List.getElem?_eq_getElem (by omega)⟩
   obtain ⟨l, e2, e3⟩ := (hTg5.same s6).2.2 i p g hp hg
   have ks := WQ (k := j + 1) hg
   refine ⟨_, _, rfl, SqT.of e2, rfl, _, _, rfl, _, _, rfl, _, _, rfl, rfl, _, rfl, _, rfl, rfl, _, rfl, ite2 (fun c => ?_) (fun c => ?_)⟩
   ·have c := of_decide_eq_true c
    have c' : g.kd = j + 1 := by injection c with c; omega
    rw [if_pos c'] at ks
    refine ⟨_, rfl, _, rfl, l, _, rfl, .inl (SqL.of e3), by show 2 <= sizeLine; decide, fun t ht => ⟨by rw [List.length_map]; omega, s6.new ht, ⟨_, _, _, rfl⟩, us ++ [t], by rw [List.map_append]; rfl, by rw [List.length_append]; show _ + 1 <= _; omega, ?_⟩⟩
    rw [ks]
    exact hus.snoc (zp ht _) (by rw [zg, List.length_map])
   ·have c' : ¬ g.kd = j + 1 := fun e => c (decide_eq_true (by rw [e]))
    rw [if_neg c', List.append_nil] at ks
    exact ⟨s6, ⟨_, _, _, rfl⟩, us, rfl, by omega, by rw [ks]; exact hus⟩
  rintro τ ys H6 ⟨s6, _, us, rfl, lu, hus⟩ pl hpl
  rw [List.length_map, List.take_of_length_le (by omega)] at hus
  refine ⟨pl, _, rfl, .inl ⟨SqL.of zg, fun pt hpt => ⟨by rw [List.length_map]; omega, (s5.trans (s6.new hpl)).new hpt, ⟨_, rfl⟩, qs ++ [pt], by rw [List.map_append]; rfl, by rw [List.length_append, lq]; rfl, fun i q hq => ?_⟩⟩⟩
  by_cases c : i < qs.length
  ·rw [List.getElem?_append_left c] at hq
   exact (hqs i q hq).keep (.of ((s6.new hpl).new hpt))
  ·rw [List.getElem?_append_right (by omega)] at hq
   have : i = qs.length := by
    have := (List.getElem?_eq_some_iff.mp hq).1
    simp at this
    omega
   subst this
   rw [Nat.sub_self] at hq
   cases hq
   rw [lq]
   exact ⟨us, zg, hus.1, fun i x y h1 h2 => old hpt (old hpl (hus.2 i x y h1 h2))⟩
 rintro τ ys H5 ⟨s5, _, qs, rfl, lq, hqs⟩ pL hpL
 refine ⟨pL, _, rfl, .inl ⟨SqL.of zg, fun pk hpk => ?_⟩⟩
 have s6 : Same H4 (upd (upd H5 pL (.lst (qs.map V.ref))) pk (.tup (qs.map V.ref))) := (s5.new hpL).new hpk
 have hK6 : Kn (upd (upd H5 pL (.lst (qs.map V.ref))) pk (.tup (qs.map V.ref))) pk (ksT tgs) := by
  refine ⟨qs, zg, lq, fun i q l h1 h2 => ?_⟩
  have h3 := (hqs i q h1).keep (.of ((zp hpL (.lst (qs.map V.ref))).new (o := .tup (qs.map V.ref)) hpk))
  unfold ksT at h2
  match i, h2, h3 with
  | 0, h2, h3 => cases h2; exact h3
  | 1, h2, h3 => cases h2; exact h3
  | 2, h2, h3 => cases h2; exact h3
  | i + 3, h2, _ => simp at h2
 generalize upd (upd H5 pL (.lst (qs.map V.ref))) pk (.tup (qs.map V.ref)) = H6 at *
 have hTg6 := hTg4.same s6
 have S6 := S4.same s6
 have hw6 := s6 _ _ hw4
 have hT6 := s6 _ _ hT4
 refine (fun dr hdr => ?_ : ∀ dr : Addr, H6 dr = none -> _)
 have s7 := zp hdr (.dK [])
 have edr := zg (H := H6) (a := dr) (o := .dK [])
 generalize upd H6 dr (.dK []) = H7 at *
 refine ⟨_, rfl, tg, rfl, ⟨_, SqL.of ((hTg6.same s7).1)⟩, yV (xs := ts.map V.ref) (fun i σ H' => Same H6 H' /\ H' dr = some (.dK (puts (rmL (tgs.take i)) [])) /\ ∃ a1 a2 a3, σ = [some (.ref a), some (.ref st), some (.ref wp), some (.ref tg), some (.ref pk), some (.ref dr), a1, a2, a3, none, none, none, none, none, none, none, none, none]) ⟨s7, edr, none, none, none, rfl⟩ (fun i σ H' _ h => SqL.of ((hTg6.same h.1).1)) ?_ ?_⟩
 ·rintro i v σ H8 hv ⟨s8, edr8, a1, a2, a3, rfl⟩
  rw [List.getElem?_map] at hv
  obtain ⟨p, hp, rfl⟩ := Option.map_eq_some_iff.mp hv
  have hi := (List.getElem?_eq_some_iff.mp hp).1
  obtain ⟨g, hg⟩ : ∃ g, tgs[i]? = some g := ⟨_, List.getElem?_eq_getElem (by omega)⟩
  obtain ⟨l, e2, e3⟩ := (hTg6.same s8).2.2 i p g hp hg
  have pl := Yi (l := rmL (tgs.take i)) (kvs := [])
  rw [List.length_map, List.length_take, List.length_nil] at pl
  refine ⟨_, _, rfl, SqT.of e2, rfl, _, _, rfl, _, _, rfl, _, _, rfl, rfl, ?_⟩
  refine ⟨_, rfl, l, _, rfl, .inl (SqL.of e3), _, rfl, _, rfl, dr, _, rfl, DPut.k (k := .inr g.t) edr8 (by omega), s8.put hdr, ?_, _, _, _, rfl⟩
  rw [zg]
  unfold rmL
  rw [List.take_add_one, hg, List.map_append]
  show _ = some (HO.dK (puts (_ ++ [(g.t, g.ss.length)]) []))
  rw [vk, List.length_map]
 rintro σ H8 ⟨s8, edr8, a1, a2, a3, rfl⟩
 rw [List.length_map, lts, List.take_of_length_le (Nat.le_refl _)] at edr8
 have hTg8 := hTg6.same s8
 have S8 : Sta K H8 st 48 := S6.same s8
 have hw8 := s8 _ _ hw6
 have hT8 := s8 _ _ hT6
 have hK8 := hK6.keep (.of s8)
 have ndr : dr ≠ st := S6.ne hdr
 clear hqs hK6 hTg6 hTg4 hTg e4 s4 s5 s6 S6 S4
 refine ⟨_, rfl, by show -(2 ^ 62) <= (4 : Int); decide, by show (4 : Int) < 2 ^ 62; decide, ym (fun j τ ys H' => Kp st H8 H' /\ Sta K H' st (48 + 65 * j) /\ (∃ v, τ = [some (.ref a), some (.ref st), some (.ref wp), some (.ref tg), some (.ref pk), some (.ref dr), a1, a2, a3, none, none, none, none, none, none, none, none, none, v]) /\ ∃ (ls : List Addr) (xss : List (List V)), ys = ls.map V.ref /\ ls.length = j /\ Ars H' (ksT tgs) ls xss) ⟨Kp.refl, S8, ⟨none, rfl⟩, [], [], rfl, rfl, rfl, fun i l xs h => by simp at h⟩ ?_ ?_⟩
 ·rintro j τ ys H9 hj ⟨k9, S9, ⟨v, rfl⟩, ls, xss, rfl, lls, hA9⟩
  have hj : j < 4 := hj
  have ez : ((0 : Int) + ((j : Nat) : Int)) = ((j : Nat) : Int) := by omega
  rw [ez]
  refine ⟨_, rfl, _, rfl, _, rfl, st, tg, _, j, 2, z, b, ts, tgs, rfl, by decide, by decide, by omega, S9, by omega, hTg8.kp k9 S8, hOk, fun H10 l xs k10 S10 fl hl hg _ => ⟨by rw [List.length_map]; omega, k9.trans k10, S10.mono (by show 48 + 65 * j + 65 <= _; omega), ⟨_, rfl⟩, ls ++ [l], xss ++ [xs], by rw [List.map_append]; rfl, by rw [List.length_append, lls]; rfl, (hA9.kp k10 S9).snoc hl hg⟩⟩
 rintro τ ys H9 ⟨k9, S9, _, ls, xss, rfl, lls, hA9⟩ la hla
 have lls : ls.length = 4 := lls
 have S9 : Sta K H9 st 308 := S9
 have s10 := zp hla (.lst (ls.map V.ref))
 have ela := zg (H := H9) (a := la) (o := .lst (ls.map V.ref))
 have S10 := S9.same s10
 have hA10 := hA9.same s10
 have k10 : Kp st H8 (upd H9 la (.lst (ls.map V.ref))) := k9.trans (.of s10)
 have nla : la ≠ st := S9.ne hla
 generalize upd H9 la (.lst (ls.map V.ref)) = H10 at *
 have hw10 := k10.k _ _ nws hw8
 refine ⟨_, rfl, by show -(2 ^ 62) <= (4 : Int); decide, by show (4 : Int) < 2 ^ 62; decide, ym (fun j τ ys H' => Same H10 H' /\ (∃ v, τ = [some (.ref a), some (.ref st), some (.ref wp), some (.ref tg), some (.ref pk), some (.ref dr), a1, a2, a3, some (.ref la), none, none, none, none, none, none, none, none, v]) /\ ∃ ps : List Addr, ys = ps.map V.ref /\ ps.length = j /\ ∀ (i : Nat) p, ps[i]? = some p -> H' p = some (.tup [.str (nm z b i), .int (i : Nat)])) ⟨Same.refl _, ⟨none, rfl⟩, [], rfl, rfl, fun i t h => by simp at h⟩ ?_ ?_⟩
 ·rintro j τ ys H11 hj ⟨s11, ⟨v, rfl⟩, ps, rfl, lt, hts⟩
  have hj : j < 4 := hj
  have ez : ((0 : Int) + ((j : Nat) : Int)) = ((j : Nat) : Int) := by omega
  rw [ez]
  refine ⟨_, rfl, _, rfl, wp, z, b, [], j, rfl, s11 _ _ hw10, hz, _, rfl, by show 2 <= sizeLine; decide, fun t ht => ⟨by rw [List.length_map]; omega, s11.new ht, ⟨_, rfl⟩, ps ++ [t], by rw [List.map_append]; rfl, by rw [List.length_append, lt]; rfl, fun i t' h' => ?_⟩⟩
  by_cases c : i < ps.length
  ·rw [List.getElem?_append_left c] at h'
   exact old ht (hts i t' h')
  ·rw [List.getElem?_append_right (by omega)] at h'
   have : i - ps.length = 0 := by
    have := (List.getElem?_eq_some_iff.mp h').1
    simp at this
    omega
   rw [this] at h'
   cases h'
   rw [show i = j by omega]
   exact zg
 rintro τ ys H11 ⟨s11, _, ps, rfl, lps, hps⟩ sl' hsl
 have lps : ps.length = 4 := lps
 have s12 : Same H10 (upd H11 sl' (.lst (ps.map V.ref))) := s11.new hsl
 obtain ⟨sc, esc⟩ : ∃ sc : List (Str × Nat), sc = (List.range 4).map fun i => (nm z b i, i) := ⟨_, rfl⟩
 have lsc : sc.length = 4 := by rw [esc]; rfl
 have Sc12 : IsSc (upd H11 sl' (.lst (ps.map V.ref))) sl' ps sc := by
  refine ⟨zg, by rw [lps, lsc], fun i p a h1 h2 => ?_⟩
  rw [esc, List.getElem?_map] at h2
  obtain ⟨i', hi', rfl⟩ := Option.map_eq_some_iff.mp h2
  have : i' = i := by
   have h4 : i < 4 := by
    have := (List.getElem?_eq_some_iff.mp h1).1
    omega
   rw [List.getElem?_range h4] at hi'
   exact (Option.some.inj hi').symm
  subst this
  exact old hsl (hps _ p h1)
 have S12 := S10.same s12
 have k12 : Kp st H8 (upd H11 sl' (.lst (ps.map V.ref))) := k10.trans (.of s12)
 have hA12 := hA10.same s12
 have ela12 := s12 _ _ ela
 generalize upd H11 sl' (.lst (ps.map V.ref)) = H12 at *
 have hT12 := k12.k _ _ nTs hT8
 have hw12 := k12.k _ _ nws hw8
 have hTg12 := hTg8.kp k12 S8
 have hK12 := hK8.keep (k12.tups S8)
 have edr12 := k12.k _ _ ndr edr8
 have lxs : xss.length = 4 := by rw [<- hA12.1]; exact lls
 have scne : sc ≠ [] := fun e => by rw [e] at lsc; cases lsc
 clear hps hA9 hA10 ela S9 S10 k9 k10 s11 s10 hw10 hw8 hT8 hw6 hT6 hT4 hw4 hT3 hw3 edr8 hK8
 have W12 : ∀ {H' : Hp} {B : Nat}, Kp st H12 H' -> Sta K H' st B -> B + 10000 < LIM -> Wd K H' st sl' wp tg B z b ps sc ts tgs := fun {H' B} k S h => ⟨S, h, Sc12.kp k S12, scne, by omega, k.k _ _ nws hw12, nws, hz, hTg12.kp k S12, hOk⟩
 dsimp only [List.set]
 refine (show ∀ (u : TS) (D : Ends), (∀ (H' : Hp) (pb : Addr) (bd : Bd), Kp st H12 H' -> Sta K H' st 1000 -> IsBd H' bd pb -> OkBd (kvT tgs) (sc.map (·.1)) bd -> bd.sz <= 200 -> u D [some (.ref a), some (.ref st), some (.ref wp), some (.ref tg), some (.ref pk), some (.ref dr), a1, a2, a3, some (.ref la), some (.ref sl'), some (.ref pb), none, none, none, none, none, none] H') -> (tSeq _ u : TS) D [some (.ref a), some (.ref st), some (.ref wp), some (.ref tg), some (.ref pk), some (.ref dr), a1, a2, a3, some (.ref la), some (.ref sl'), none, none, none, none, none, none, none] H12 from ?key) _ _ ?rest
 case key =>
  intro u D hU
  refine ⟨_, rfl, st, 4, _, rfl, S12, by omega, by decide, fun H13 r k13 S13 _ _ => ⟨rfl, _, rfl, ite2 (fun _ => ?_) (fun _ => ?_)⟩⟩
  ·refine ⟨_, rfl, _, rfl, _, rfl, _, rfl, _, rfl, st, sl', wp, tg, la, _, z, b, ps, sc, ts, tgs, ls, xss, rfl, W12 k13 S13 (by omega), (hA12.kp k13 S12).ar (k13.k _ _ nla ela12), lxs, by omega, fun H14 p bd k14 S14 hb ho hs => ?_⟩
   exact hU H14 p bd (k13.trans k14) (S14.mono (by omega)) hb ho (by omega)
  ·refine ⟨_, rfl, _, rfl, _, rfl, _, rfl, st, sl', wp, tg, _, 4, 6, z, b, ps, sc, ts, tgs, rfl, by decide, by decide, by omega, by decide, W12 k13 S13 (by omega), by omega, fun H14 p bd k14 S14 hb ho hs => ?_⟩
   exact hU H14 p bd (k13.trans k14) (S14.mono (by show 308 + 1 + DR 3 <= 1000; decide)) hb ho (Nat.le_trans hs (by decide))
 case rest =>
  intro H13 pb bd k13 S13 hb hbo hbz
  have Sc13 := Sc12.kp k13 S12
  refine ⟨_, rfl, sl', rfl, ⟨_, SqL.of Sc13.1⟩, yK (K := K) (xs := ps.map V.ref) (fun j τ ys H' => H' = H13 /\ (∃ v v', τ = [some (.ref a), some (.ref st), some (.ref wp), some (.ref tg), some (.ref pk), some (.ref dr), a1, a2, a3, some (.ref la), some (.ref sl'), some (.ref pb), none, none, none, none, none, none, v, v']) /\ ys = ((sc.take j).map (·.1)).map V.str) ⟨rfl, ⟨none, none, rfl⟩, rfl⟩ (fun j τ ys H' _ h => by rw [h.1]; exact SqL.of Sc13.1) ?_ ?_⟩
  ·rintro j v τ ys H14 hv ⟨rfl, ⟨y, y', rfl⟩, rfl⟩
   rw [List.getElem?_map] at hv
   obtain ⟨p, hp, rfl⟩ := Option.map_eq_some_iff.mp hv
   have hj := (List.getElem?_eq_some_iff.mp hp).1
   have ha : sc[j]? = some (sc[j]'(by omega)) := List.getElem?_eq_getElem _
   generalize sc[j]'(by omega) = aa at ha
   refine ⟨_, _, rfl, SqT.of (Sc13.2.2 j p aa hp ha), rfl, _, _, rfl, _, _, rfl, rfl, _, rfl, by rw [List.length_map, List.length_map, List.length_take]; omega, rfl, ⟨_, _, rfl⟩, ?_⟩
   rw [List.take_add_one, ha, List.map_append, List.map_append]
   rfl
  rintro τ ys H14 ⟨rfl, _, rfl⟩ pp hpp
  rw [List.length_map, lps, List.take_of_length_le (by omega)]
  obtain ⟨nm4, enm⟩ : ∃ nm4, nm4 = sc.map (·.1) := ⟨_, rfl⟩
  rw [<- enm] at hbo ⊢
  have lnm : nm4.length = 4 := by rw [enm, List.length_map, lsc]
  have ndn : nm4.Nodup := by
   rw [enm, esc, List.map_map]
   have := Zs (z := z) (b := b) (k := 0) (n := 4) (by decide)
   unfold nms at this
   simp only [Nat.zero_add] at this
   exact this
  have s15 := zp hpp (.lst (nm4.map V.str))
  have epp := zg (H := H14) (a := pp) (o := .lst (nm4.map V.str))
  have npp : pp ≠ st := S13.ne hpp
  have k15 : Kp st H12 (upd H14 pp (.lst (nm4.map V.str))) := k13.trans (.of s15)
  have S15 := S13.same s15
  have hb15 := hb.keep (.of s15)
  generalize upd H14 pp (.lst (nm4.map V.str)) = H15 at *
  dsimp only [List.set]
  refine ⟨_, rfl, _, rfl, st, 26, _, rfl, S15, by omega, by decide, fun H16 r k16 S16 r0 r26 => ?_⟩
  obtain ⟨hn, rfl⟩ : ∃ n : Nat, r = (n : Int) := ⟨r.toNat, by omega⟩
  have k1216 := k15.trans k16
  refine ⟨wp, z, b, [], hn, rfl, k1216.k _ _ nws hw12, hz, ?_⟩
  have hb16 := hb15.keep (k16.tups S15)
  have epp16 := k16.k _ _ npp epp
  refine ⟨_, rfl, _, rfl, _, rfl, pp, _, rfl, .inl ⟨SqL.of epp16, fun pt hpt => ⟨_, rfl, by show 3 <= sizeLine; decide, fun p3 h3 => ⟨by show 1 <= sizeLine; decide, fun p2 h2 => ⟨by show 2 <= sizeLine; decide, fun pg hg => ?_⟩⟩⟩⟩⟩
  have s17 := (((zp hpt (.tup (nm4.map V.str))).new (o := .tup [.str (nm z b hn), .ref pt, .ref pb]) h3).new (o := .tup [.ref p3]) h2).new (o := .tup [.ref pk, .ref p2]) hg
  have hP17 : IsPB (upd (upd (upd (upd H16 pt (.tup (nm4.map V.str))) p3 (.tup [.str (nm z b hn), .ref pt, .ref pb])) p2 (.tup [.ref p3])) pg (.tup [.ref pk, .ref p2])) (ksT tgs) (nm z b hn) nm4 bd pg := ⟨pk, p2, p3, pt, pb, zg, (hK12.keep (k1216.tups S12)).keep (.of s17), old hg zg, old hg (old h2 zg), old hg (old h2 (old h3 zg)), hb16.keep (.of s17)⟩
  have S17 := S16.same s17
  have k17 := k1216.trans (.of s17)
  have epp17 := s17 _ _ epp16
  have hb17 := hb16.keep (.of s17)
  generalize upd (upd (upd (upd H16 pt (.tup (nm4.map V.str))) p3 (.tup [.str (nm z b hn), .ref pt, .ref pb])) p2 (.tup [.ref p3])) pg (.tup [.ref pk, .ref p2]) = H17 at *
  have hA17 := hA12.kp k17 S12
  have ela17 := k17.k _ _ nla ela12
  refine ⟨_, rfl, la, rfl, ⟨_, SqL.of ela17⟩, yK (K := K) (xs := ls.map V.ref) (fun i τ ys H' => Same H17 H' /\ (∃ y, τ = [some (.ref a), some (.ref st), some (.ref wp), some (.ref tg), some (.ref pk), some (.ref dr), a1, a2, a3, some (.ref la), some (.ref sl'), some (.ref pb), some (.ref pp), some (.str (nm z b hn)), some (.ref pg), none, none, none, y]) /\ ∃ bs : List Addr, ys = bs.map V.ref /\ bs.length = i /\ Ars H' (ksT tgs) bs (xss.take i)) ⟨Same.refl _, ⟨none, rfl⟩, [], rfl, rfl, rfl, fun j b xs h => by simp at h⟩ (fun i τ ys H' _ h => SqL.of (h.1 _ _ ela17)) ?_ ?_⟩
  ·rintro i v τ ys H18 hv ⟨s18, ⟨y, rfl⟩, bs, rfl, lb, hbs⟩
   rw [List.getElem?_map] at hv
   obtain ⟨l, hl, rfl⟩ := Option.map_eq_some_iff.mp hv
   have hi := (List.getElem?_eq_some_iff.mp hl).1
   have hx : xss[i]? = some (xss[i]'(by omega)) := List.getElem?_eq_getElem _
   generalize xss[i]'(by omega) = xs at hx
   obtain ⟨g1, g2⟩ := hA17.2 i l xs hl hx
   refine ⟨_, rfl, l, _, rfl, .inl (SqL.of (s18 _ _ g1)), fun l' hl' => ⟨by rw [List.length_map]; omega, s18.new hl', ⟨_, rfl⟩, bs ++ [l'], by rw [List.map_append]; rfl, by rw [List.length_append, lb]; rfl, ?_⟩⟩
   rw [List.take_add_one, hx]
   exact (hbs.same (zp hl' _)).snoc zg g2
  rintro τ ys H18 ⟨s18, _, bs, rfl, lb, hbs⟩ ha hha
  rw [List.length_map] at lb hbs
  rw [lls, List.take_of_length_le (by omega)] at hbs
  have s19 := s18.new (o := .lst (bs.map V.ref)) hha
  have eha := zg (H := H18) (a := ha) (o := .lst (bs.map V.ref))
  have hbs19 := hbs.same (zp hha (.lst (bs.map V.ref)))
  have nha : ha ≠ st := (S17.same s18).ne hha
  generalize upd H18 ha (.lst (bs.map V.ref)) = H19 at *
  have S19 := S17.same s19
  have k19 := k17.trans (.of s19)
  have hA19 := hA17.same s19
  have ela19 := s19 _ _ ela17
  have epp19 := s19 _ _ epp17
  have hb19 := hb17.keep (.of s19)
  have hP19 := hP17.keep (.of s19)
  have edr19 := k19.k _ _ ndr edr12
  have hT19 := k19.k _ _ nTs hT12
  have hTg19 := hTg12.kp k19 S12
  have zl : ∀ as : List Addr, as.length = 4 -> (zkv nm4 (as.map V.ref)).length = 4 := fun as h => by
   unfold zkv
   rw [List.length_map, List.length_zip, List.length_map]
   omega
  dsimp only [List.set]
  refine ⟨_, rfl, _, rfl, _, rfl, pp, la, nm4, _, rfl, .inl (SqL.of epp19), .inl (SqL.of ela19), by rw [List.length_map]; omega, ndn, fun d1 hd1 => ⟨_, rfl, ?_⟩⟩
  have q1 := zp hd1 (.dK (zkv nm4 (ls.map V.ref)))
  refine ⟨kvT tgs, pb, d1, dr, bd, _, _, nm4.zip xss, nm4, rfl, hb19.keep (.of q1), hbo, zg, vY (by omega) hA19.1 (hA19.same q1).2, vP (by omega), q1 _ _ edr19, JJ hOk, fun e => (by rw [e, edr19] at hd1; cases hd1), by rw [zl _ lls]; omega, fun H20 u1 k20 an1 at1 => ?_⟩
  have s20 : Same H19 H20 := fun b o h => k20 b o (fun z => by rw [List.mem_singleton.mp z, hd1] at h; cases h) (q1 _ _ h)
  have PB : PBOk (ksT tgs) nm4 bd := ⟨hOk.ks, ndn, by omega, by omega, hbo⟩
  have S20 := S19.same s20
  show (tSeq _ _ : TS) _ _ H20
  refine ⟨_, rfl, _, rfl, _, rfl, _, rfl, st, 3, _, rfl, S20, by omega, by decide, fun H21 r3 k21 S21 _ _ => ?_⟩
  have k1921 : Kp st H19 H21 := (Kp.of s20).trans k21
  have T21 : Tb T H21 := ⟨#[], k1921.k _ _ nTs hT19, .inl rfl⟩
  have eha21 := k1921.k _ _ nha eha
  have ela21 := k1921.k _ _ nla ela19
  have hB21 := hbs19.kp k1921 S19
  have hA21 := hA19.kp k1921 S19
  refine ⟨pg, ha, r3, _, ksT tgs, nm4, bd, bs, xss, rfl, hP19.keep (k1921.tups S19), PB, ⟨eha21, hB21.1, hB21.2⟩, by omega, T21, fun H22 g1 k22 T22 an22 => ?_⟩
  have an1' := (an1.kp at1 k21 S20).kt k22 T21
  refine ⟨_, rfl, g1, u1, _, rfl, an22, an1', at1, fun H23 s23 => ⟨true, rfl, iteF ?_⟩⟩
  have k2123 : KT T H21 H23 := k22.trans (.of s23)
  refine ⟨_, rfl, _, rfl, ha, la, rfl, rfl, .inr ⟨_, _, _, _, rfl, rfl, .inl ⟨k2123.lst T21 eha21, k2123.lst T21 ela21⟩, by rw [List.length_map, List.length_map]; omega, fun i v1 v2 h1 h2 => ?_⟩, false, rfl, iteF (nxt ?_)⟩
  ·rw [List.getElem?_map] at h1 h2
   obtain ⟨b', hb', rfl⟩ := Option.map_eq_some_iff.mp h1
   obtain ⟨l', hl', rfl⟩ := Option.map_eq_some_iff.mp h2
   have hi := (List.getElem?_eq_some_iff.mp hl').1
   have hx : xss[i]? = some (xss[i]'(by omega)) := List.getElem?_eq_getElem _
   exact vj (n := 1) (.inl ⟨k2123.lst T21 (hB21.2 i b' _ hb' hx).1, k2123.lst T21 (hA21.2 i l' _ hl' hx).1⟩) fun z hz => ((hA21.2 i l' _ hl' hx).2.2.1 z hz).fl
  have S23 : Sta K H23 st 1010 := (S21.kt k2123 T21).mono (by omega)
  have T23 := T22.same s23
  have hTg23 := (hTg19.kp k1921 S19).kt k2123 T21
  have tu23 : Tups H19 H23 := fun p xs h => k2123.tu T21 _ _ (k1921.tups S19 _ _ h)
  have hP23 := hP19.keep tu23
  have hb23 := hb19.keep tu23
  have epp23 := k2123.lst T21 (k1921.k _ _ npp epp19)
  have eha23 := k2123.lst T21 eha21
  have hB23 := hB21.kt k2123 T21
  have edr23 : H23 dr = some (.dK (puts (rmL tgs) [])) := k2123 _ _ (fun e => by
   have := k1921.k _ _ ndr edr19
   obtain ⟨tb, ht⟩ := T21.tbl
   rw [e, ht] at this
   cases this) (k1921.k _ _ ndr edr19)
  have an23 := an1'.same s23
  refine ⟨_, rfl, by show -(2 ^ 62) <= (4 : Int); decide, by show (4 : Int) < 2 ^ 62; decide, ym (fun j τ ys H' => Kp st H23 H' /\ Sta K H' st (1010 + 65 * j) /\ (∃ v, τ = [some (.ref a), some (.ref st), some (.ref wp), some (.ref tg), some (.ref pk), some (.ref dr), a1, a2, a3, some (.ref la), some (.ref sl'), some (.ref pb), some (.ref pp), some (.str (nm z b hn)), some (.ref pg), some (.ref ha), some (.ref u1), none, v]) /\ ∃ (ls : List Addr) (xss : List (List V)), ys = ls.map V.ref /\ ls.length = j /\ Ars H' (ksT tgs) ls xss) ⟨Kp.refl, S23, ⟨none, rfl⟩, [], [], rfl, rfl, rfl, fun i l xs h => by simp at h⟩ ?_ ?_⟩
  ·rintro j τ ys H24 hj ⟨k24, S24, ⟨v, rfl⟩, ls2, xss2, rfl, lls2, hA24⟩
   have hj : j < 4 := hj
   have ez : ((0 : Int) + ((j : Nat) : Int)) = ((j : Nat) : Int) := by omega
   rw [ez]
   refine ⟨_, rfl, _, rfl, _, rfl, st, tg, _, j, 1, z, b, ts, tgs, rfl, by decide, by decide, by omega, S24, by omega, hTg23.kp k24 S23, hOk, fun H25 l xs k25 S25 fl hl hg _ => ⟨by rw [List.length_map]; omega, k24.trans k25, S25.mono (by show 1010 + 65 * j + 20 <= _; omega), ⟨_, rfl⟩, ls2 ++ [l], xss2 ++ [xs], by rw [List.map_append]; rfl, by rw [List.length_append, lls2]; rfl, (hA24.kp k25 S24).snoc hl hg⟩⟩
  rintro τ ys H24 ⟨k24, S24, _, ls2, xss2, rfl, lls2, hA24⟩ lb' hlb
  have lls2 : ls2.length = 4 := lls2
  have S24 : Sta K H24 st 1270 := S24
  have s25 := zp hlb (.lst (ls2.map V.ref))
  have elb := zg (H := H24) (a := lb') (o := .lst (ls2.map V.ref))
  have hA25 := hA24.same s25
  have k25 : Kp st H23 (upd H24 lb' (.lst (ls2.map V.ref))) := k24.trans (.of s25)
  generalize upd H24 lb' (.lst (ls2.map V.ref)) = H25 at *
  have lxs2 := hA25.1
  have hb25 := hb23.keep (k25.tups S23)
  have hP25 := hP23.keep (k25.tups S23)
  have epp25 := k25.k _ _ npp epp23
  have eha25 := k25.k _ _ nha eha23
  have edr25 := k25.k _ _ ndr edr23
  have hB25 := hB23.kp k25 S23
  have an25 := an23.kp at1 k25 S23
  have T25 : Tb T H25 := by
   obtain ⟨ps0, e1, e2⟩ := T23
   refine ⟨ps0, k25.k _ _ nTs e1, ?_⟩
   rcases e2 with e2 | ⟨c, e2, e3⟩
   ·exact .inl e2
   ·exact .inr ⟨c, e2, k25.k _ _ (fun e => by
     obtain ⟨b0, ns0, n0, h0, _⟩ := S23
     rw [e, h0] at e3
     cases e3) e3⟩
  dsimp only [List.set]
  refine ⟨_, rfl, _, rfl, _, rfl, pp, lb', nm4, _, rfl, .inl (SqL.of epp25), .inl (SqL.of elb), by rw [List.length_map]; omega, ndn, fun d2 hd2 => ⟨_, rfl, ?_⟩⟩
  have q2 := zp hd2 (.dK (zkv nm4 (ls2.map V.ref)))
  refine ⟨kvT tgs, pb, d2, dr, bd, _, _, nm4.zip xss2, nm4, rfl, hb25.keep (.of q2), hbo, zg, vY (by omega) hA25.1 (hA25.same q2).2, vP (by omega), q2 _ _ edr25, JJ hOk, fun e => (by rw [e, edr25] at hd2; cases hd2), by rw [zl _ lls2]; omega, fun H26 u2 k26 an2 at2 => ?_⟩
  have s26 : Same H25 H26 := fun b o h => k26 b o (fun z => by rw [List.mem_singleton.mp z, hd2] at h; cases h) (q2 _ _ h)
  have T26 := T25.same s26
  have hA26 := hA25.same s26
  have hB26 := hB25.same s26
  refine ⟨_, rfl, _, rfl, _, rfl, pg, lb', 0, _, ksT tgs, nm4, bd, ls2, xss2, rfl, hP25.keep (.of s26), PB, ⟨s26 _ _ elb, hA26.1, hA26.2⟩, by omega, T26, fun H27 g2 k27 T27 an27 => ?_⟩
  refine ⟨_, rfl, g2, u2, _, rfl, an27, an2.kt k27 T26, at2, fun H28 s28 => ⟨true, rfl, iteT ?_⟩⟩
  have k2628 : KT T H26 H28 := k27.trans (.of s28)
  have hB28 := hB26.kt k2628 T26
  refine ⟨_, rfl, _, rfl, _, rfl, pg, ha, 0, _, ksT tgs, nm4, bd, bs, xss, rfl, (hP25.keep (.of s26)).keep (k2628.tu T26), PB, ⟨k2628.lst T26 (s26 _ _ eha25), hB28.1, hB28.2⟩, by omega, T27.same s28, fun H29 g3 k29 T29 an29 => ?_⟩
  exact ⟨_, rfl, g3, u1, _, rfl, an29, ((an25.same s26).kt k2628 T26).kt k29 (T27.same s28), at1, fun H30 s30 => q _⟩
end
end GN
namespace GN
open PySem L2 K11
structure TopK (K : PySem.W.Frag) (cR C R V : Addr) : Prop where
 c_Run : OwnIn K "Run" cR
 a_Run_defs : PySem.W.findIn K (.ref cR) "defs" = some none
 a_Run_steps : PySem.W.findIn K (.ref cR) "steps" = some none
 a_Run_done : PySem.W.findIn K (.ref cR) "done" = some none
 a_Run_waiting : PySem.W.findIn K (.ref cR) "waiting" = some none
 a_Run_body : PySem.W.findIn K (.ref cR) "body" = some none
 a_Run_names : PySem.W.findIn K (.ref cR) "names" = some none
 a_Run_end : PySem.W.findIn K (.ref cR) "end" = some none
 d_parts_of : DdIn K "parts_of" yA 136 130
 dt : DtIn K 130 100
 hcT : PySem.W.codeHdIn K 136 132 = true
 n_NoValue : PySem.W.nsIn K mainGlobals "NoValue" = some (some (.ref V))
 v_in : xIn0 K V = true
 v_kp : PySem.W.keepIn K (.ref V) = true
 n_Fault : PySem.W.nsIn K mainGlobals "Fault" = some (some (.ref C))
 n_ReuseError : PySem.W.nsIn K mainGlobals "ReuseError" = some (some (.ref R))
 m_init : MeIn K C "__init__" "Fault.__init__" vH
 x_word : PySem.W.takerIn K C "word" = some none
 x_find : PySem.W.findIn K (.ref C) "word" = some none
 x_hd : PySem.W.hasDictIn K C = true
 x_over : vB K C = true
 x_sa : PySem.W.findIn K (.ref C) "__setattr__" = some (some (.builtin "object.__setattr__"))
 x_any : (PySem.W.clsIn K C).any (·.hasDict) = true
 x_ga : PySem.W.findIn K (.ref C) "__getattribute__" = some (some (.builtin "BaseException.__getattribute__"))
 x_ha : PySem.W.findIn K (.ref C) "__getattr__" = some none
 x_sb : PySem.W.subIn K (.ref C) (.type "BaseException") = some true
 x_kp : PySem.W.keepIn K (.ref C) = true
 x_cl : ∃ f, PySem.W.findIn K (.ref C) "__init__" = some (some (.ref f)) /\ xIn K C f = true /\ PySem.W.typeIn K (.ref f) = some (.type "function")
 r_sp : PySem.W.specialIn K (.ref R) "__getattribute__" = some (some (.builtin "type.__getattribute__"))
 r_rd : PySem.W.readsIn K R (.type "type") = true
 r_fi : PySem.W.findCls K (.ref R) (.type "type") "__init__" = some (.val (.builtin "ValueError.__init__"))
 k_x : PySem.W.exmOne K (.ref C) (.ref C) = some true
 d_is_whole : DfIn K "is_whole" yZ
 d_first_parts : DfIn K "first_parts" Zh
 d_sizes : DfIn K "sizes" Ze
 d_in_bounds : DfIn K "in_bounds" sIn
 d_shape : DfIn K "shape" Zg
 d_grown : DfIn K "grown" Zf
 d_by_name : DfIn K "by_name" sBy
 d_begun_with : DfIn K "begun_with" Zi
 d_arm_of : DfIn K "arm_of" Zj
 m_Run___init__ : MeIn K cR "__init__" "Run.__init__" Zk
 m_Run_begin_def : MeIn K cR "begin_def" "Run.begin_def" Zl
 m_Run_give : MeIn K cR "give" "Run.give" XS
 m_Run_choose : MeIn K cR "choose" "Run.choose" vI
 m_Run_take_arm : MeIn K cR "take_arm" "Run.take_arm" wB
 m_Run_go_on : MeIn K cR "go_on" "Run.go_on" sGo
 d_run : DfIn K "run" sRun
 d__law_draw : DfIn K "_law_draw" XT
 d__law_name : DfIn K "_law_name" sNm
 d__law_stem : DfIn K "_law_stem" XU
 d__law_sorts : DfIn K "_law_sorts" Zm
 d__law_tags : DfIn K "_law_tags" XX
 d__law_parts : DfIn K "_law_parts" vJ
 d__law_pick : DfIn K "_law_pick" XV
 d__law_give : DfIn K "_law_give" Zn
 d__law_body : DfIn K "_law_body" XZ
 d__law_case : DfIn K "_law_case" XY
 d__law_foot : DfIn K "_law_foot" X0
 d__law_ladder : DfIn K "_law_ladder" vK
 d__law_split : DfIn K "_law_split" vL
 d__law_due : DfIn K "_law_due" sDue
 d__law_same : DfIn K "_law_same" XW
 d_law : DfIn K "law" sLaw
 z_len : PySem.W.nsIn K mainGlobals "len" = some none
 z_range : PySem.W.nsIn K mainGlobals "range" = some none
 z_isinstance : PySem.W.nsIn K mainGlobals "isinstance" = some none
 z_int : PySem.W.nsIn K mainGlobals "int" = some none
 z_bool : PySem.W.nsIn K mainGlobals "bool" = some none
 z_reversed : PySem.W.nsIn K mainGlobals "reversed" = some none
 z_list : PySem.W.nsIn K mainGlobals "list" = some none
 z_str : PySem.W.nsIn K mainGlobals "str" = some none
 z_tuple : PySem.W.nsIn K mainGlobals "tuple" = some none
 z_dict : PySem.W.nsIn K mainGlobals "dict" = some none
 z_zip : PySem.W.nsIn K mainGlobals "zip" = some none
theorem top_ok {l : PySem.W.OpenLaw} {w : World} {K : PySem.W.Frag} {h : Heap} {mg : Str -> Option Value} {fa cR C R V : Addr} (T : TopK K cR C R V) (X : K.In h) (G : h.Ns mainGlobals mg) (hfa : mg "law" = some (.ref fa)) :
  ∃ fd : FuncData, (∀ (s : Shared) (u : Value), BindsTo s fd ⟨[u], []⟩ [("_law_script", u)]) /\ ∀ base : Heap, K.In base -> base.Ns mainGlobals mg -> BMn mg base -> FnOk l.prog w K mg base CX0 9 fa fd ["_law_script"] (spTopT K 132) := by
 refine VQ T.d_law X G hfa (fun _ _ _ _ _ _ s v => .of_eq rfl) fun base fd hBM FL => ?_
 have z_len : mg "len" = none := PySem.W.mg_none_of X G T.z_len
 have z_range : mg "range" = none := PySem.W.mg_none_of X G T.z_range
 have z_isinstance : mg "isinstance" = none := PySem.W.mg_none_of X G T.z_isinstance
 have z_int : mg "int" = none := PySem.W.mg_none_of X G T.z_int
 have z_bool : mg "bool" = none := PySem.W.mg_none_of X G T.z_bool
 have z_reversed : mg "reversed" = none := PySem.W.mg_none_of X G T.z_reversed
 have z_list : mg "list" = none := PySem.W.mg_none_of X G T.z_list
 have z_str : mg "str" = none := PySem.W.mg_none_of X G T.z_str
 have z_tuple : mg "tuple" = none := PySem.W.mg_none_of X G T.z_tuple
 have z_dict : mg "dict" = none := PySem.W.mg_none_of X G T.z_dict
 have z_zip : mg "zip" = none := PySem.W.mg_none_of X G T.z_zip
 have n_Run : mg "Run" = some (.ref cR) := PySem.W.mg_of X G T.c_Run.n
 have n_Fault := PySem.W.mg_of X G T.n_Fault
 have n_NoValue := PySem.W.mg_of X G T.n_NoValue
 have n_ReuseError := PySem.W.mg_of X G T.n_ReuseError
 have xV : XCl0 K V := ⟨T.v_in, T.v_kp⟩
 obtain ⟨fx, ax, xin, xty⟩ := T.x_cl
 have M : XCl K C fx := ⟨xin, xty, T.x_kp, T.x_over, T.x_sa, T.x_any, T.x_ga, T.x_ha, T.x_sb⟩
 have B : XBase K R := ⟨T.r_sp, T.r_rd, T.r_fi⟩
 have GX : Xa l.prog w K mg base 1 "Fault" C ["self", "word"] (K31.spFault C) := by
  obtain ⟨f, a, n, g⟩ := T.m_init
  obtain ⟨fd, F, kp⟩ := g.fn
  have e : f = fx := by
   rw [ax] at a
   injection a with a
   injection a with a
   injection a with a
   exact a.symm
  subst e
  exact ⟨f, fd, M, K31.ok_fault F T.x_word M B n_ReuseError, F.binds (ps := ["self", "word"]) fun _ _ _ _ _ _ us hl => match us, hl with | [_, _], _ => rfl, n_Fault⟩
 have N : Rn K cR := ⟨T.c_Run.cls, T.a_Run_defs, T.a_Run_steps, T.a_Run_done, T.a_Run_waiting, T.a_Run_body, T.a_Run_names, T.a_Run_end⟩
 have FT : Ft K mg C := ⟨n_Fault, ⟨fx, M⟩, T.x_find, T.x_hd, T.k_x⟩
 have G1 := DfIn.ca (P := l.prog) (w := w) (base := base) X G T.d_is_whole (ps := ["thing"]) (fun _ _ _ _ _ _ us hl => match us, hl with | [_], _ => rfl) fun f fd F => ok_whole F z_isinstance z_int z_bool
 have G1B := DfIn.ca (P := l.prog) (w := w) (base := base) X G T.d_is_whole (ps := ["thing"]) (fun _ _ _ _ _ _ us hl => match us, hl with | [_], _ => rfl) fun f fd F => YI F z_isinstance z_int z_bool
 have G1C := DfIn.ca (P := l.prog) (w := w) (base := base) X G T.d_is_whole (ps := ["thing"]) (fun _ _ _ _ _ _ us hl => match us, hl with | [_], _ => rfl) fun f fd F => K31.ok_whole F z_isinstance z_int z_bool
 have G2 := DfIn.ca (P := l.prog) (w := w) (base := base) X G T.d_first_parts (ps := ["value", "most", "shape_of"]) (fun _ _ _ _ _ _ us hl => match us, hl with | [_, _, _], _ => rfl) fun f fd F => X7 F G1 z_len z_reversed
 have G3 := DdIn.ca (P := l.prog) (w := w) (base := base) (dvs := [.int 100]) X G T.d_parts_of (ps := ["value", "most"]) (fun kV doc pm an ct => YG T.dt kV doc pm an ct) (fun kV doc pm an ct => YH T.dt kV doc pm an ct) fun f fd F => X8 F hBM T.hcT G2
 have G4 := DfIn.ca (P := l.prog) (w := w) (base := base) X G T.d_sizes (ps := ["kinds"]) (fun _ _ _ _ _ _ us hl => match us, hl with | [_], _ => rfl) fun f fd F => Wh F
 have G5 := DfIn.ca (P := l.prog) (w := w) (base := base) X G T.d_in_bounds (ps := ["number"]) (fun _ _ _ _ _ _ us hl => match us, hl with | [_], _ => rfl) fun f fd F => QM F
 have G6 := DfIn.ca (P := l.prog) (w := w) (base := base) X G T.d_shape (ps := ["tag", "known_sizes", "values"]) (fun _ _ _ _ _ _ us hl => match us, hl with | [_, _, _], _ => rfl) fun f fd F => Wi F n_NoValue xV z_len z_range z_tuple
 have G7 := DfIn.ca (P := l.prog) (w := w) (base := base) X G T.d_grown (ps := ["kinds", "parts"]) (fun _ _ _ _ _ _ us hl => match us, hl with | [_, _], _ => rfl) fun f fd F => Wj F n_NoValue xV z_len z_isinstance z_list z_str z_reversed G4 G6 G1B G5
 have G8 := G7.dn (sp' := vS) (fun vs H Q E h => Wx h)
 have R3 := DfIn.ca (P := l.prog) (w := w) (base := base) X G T.d_by_name (ps := ["defs"]) (fun _ _ _ _ _ _ us hl => match us, hl with | [_], _ => rfl) fun f fd F => QP F
 have R4 := DfIn.ca (P := l.prog) (w := w) (base := base) X G T.d_begun_with (ps := ["kinds", "defs", "name", "args"]) (fun _ _ _ _ _ _ us hl => match us, hl with | [_, _, _, _], _ => rfl) fun f fd F => YN F G8 z_len
 have R6 := DfIn.ca (P := l.prog) (w := w) (base := base) X G T.d_arm_of (ps := ["arms", "tag"]) (fun _ _ _ _ _ _ us hl => match us, hl with | [_, _], _ => rfl) fun f fd F => Qi F GX
 have M0 := T.m_Run___init__.ma (P := l.prog) (w := w) (mg := mg) (base := base) (x := "Run") (ps := ["self", "defs", "steps"]) (fun _ _ _ _ _ _ us hl => match us, hl with | [_, _, _], _ => rfl) T.c_Run.mks T.c_Run.kp n_Run fun f fd F => Wr F N
 have M1 := T.m_Run_begin_def.me (P := l.prog) (w := w) (mg := mg) (base := base) (ps := ["self", "name", "values"]) (fun _ _ _ _ _ _ us hl => match us, hl with | [_, _, _], _ => rfl) fun f fd F => Ws F N z_dict z_zip
 have M5 := T.m_Run_give.me (P := l.prog) (w := w) (mg := mg) (base := base) (ps := ["self", "value"]) (fun _ _ _ _ _ _ us hl => match us, hl with | [_, _], _ => rfl) fun f fd F => V2 F N G3 z_len
 have M7 := T.m_Run_choose.me (P := l.prog) (w := w) (mg := mg) (base := base) (ps := ["self", "body", "value"]) (fun _ _ _ _ _ _ us hl => match us, hl with | [_, _, _], _ => rfl) fun f fd F => YM F N GX G1C
 have M8 := T.m_Run_take_arm.me (P := l.prog) (w := w) (mg := mg) (base := base) (ps := ["self", "arms", "value"]) (fun _ _ _ _ _ _ us hl => match us, hl with | [_, _, _], _ => rfl) fun f fd F => V7 F N R6 G1C z_zip
 have M6 := T.m_Run_go_on.me (P := l.prog) (w := w) (mg := mg) (base := base) (ps := ["self"]) (fun _ _ _ _ _ _ us hl => match us, hl with | [_], _ => rfl) fun f fd F => Qj F N M7 M8 M5
 have R5 := DfIn.ca (P := l.prog) (w := w) (base := base) X G T.d_run (ps := ["program", "name", "args", "steps"]) (fun _ _ _ _ _ _ us hl => match us, hl with | [_, _, _, _], _ => rfl) fun f fd F => V8 F N FT R3 R4 M0 M1 M6
 have LD := DfIn.ca (P := l.prog) (w := w) (base := base) X G T.d__law_draw (ps := ["_law_state", "_law_many"]) (fun _ _ _ _ _ _ us hl => match us, hl with | [_, _], _ => rfl) fun f fd F => VP F z_len
 have LN := DfIn.ca (P := l.prog) (w := w) (base := base) X G T.d__law_name (ps := ["_law_world", "_law_k"]) (fun _ _ _ _ _ _ us hl => match us, hl with | [_, _], _ => rfl) fun f fd F => QK F
 have LS := DfIn.ca (P := l.prog) (w := w) (base := base) X G T.d__law_stem (ps := ["_law_state"]) (fun _ _ _ _ _ _ us hl => match us, hl with | [_], _ => rfl) fun f fd F => VW F LD z_range
 have LO := DfIn.ca (P := l.prog) (w := w) (base := base) X G T.d__law_sorts (ps := ["_law_state", "_law_least", "_law_most"]) (fun _ _ _ _ _ _ us hl => match us, hl with | [_, _, _], _ => rfl) fun f fd F => WB F LD z_range
 have LT := DfIn.ca (P := l.prog) (w := w) (base := base) X G T.d__law_tags (ps := ["_law_state", "_law_world"]) (fun _ _ _ _ _ _ us hl => match us, hl with | [_, _], _ => rfl) fun f fd F => Jb F LD LN LO z_range
 have P0 : Ca l.prog w K mg base CX0 2 "_law_parts" ["_law_state", "_law_sort", "_law_tags_here", "_law_deep"] (y7 K 0) := DfIn.ca (P := l.prog) (w := w) (base := base) X G T.d__law_parts (ps := ["_law_state", "_law_sort", "_law_tags_here", "_law_deep"]) (fun _ _ _ _ _ _ us hl => match us, hl with | [_, _, _, _], _ => rfl) fun f fd F => ⟨fun vs H Q E h => (Yj h).elim, fun A outer s H args us vs Q E hr he hb hv hs => (Yj hs).elim⟩
 have P1 := DfIn.ca (P := l.prog) (w := w) (base := base) X G T.d__law_parts (ps := ["_law_state", "_law_sort", "_law_tags_here", "_law_deep"]) (fun _ _ _ _ _ _ us hl => match us, hl with | [_, _, _, _], _ => rfl) fun f fd F => xR (by decide) F LD P0 z_len
 have P2 := DfIn.ca (P := l.prog) (w := w) (base := base) X G T.d__law_parts (ps := ["_law_state", "_law_sort", "_law_tags_here", "_law_deep"]) (fun _ _ _ _ _ _ us hl => match us, hl with | [_, _, _, _], _ => rfl) fun f fd F => xR (by decide) F LD P1 z_len
 have P3 := DfIn.ca (P := l.prog) (w := w) (base := base) X G T.d__law_parts (ps := ["_law_state", "_law_sort", "_law_tags_here", "_law_deep"]) (fun _ _ _ _ _ _ us hl => match us, hl with | [_, _, _, _], _ => rfl) fun f fd F => xR (by decide) F LD P2 z_len
 have LP := DfIn.ca (P := l.prog) (w := w) (base := base) X G T.d__law_pick (ps := ["_law_state", "_law_scope", "_law_sort"]) (fun _ _ _ _ _ _ us hl => match us, hl with | [_, _, _], _ => rfl) fun f fd F => YO F LD z_len
 have LG := DfIn.ca (P := l.prog) (w := w) (base := base) X G T.d__law_give (ps := ["_law_state", "_law_scope"]) (fun _ _ _ _ _ _ us hl => match us, hl with | [_, _], _ => rfl) fun f fd F => WC F LD z_len
 have B0 : Ca l.prog w K mg base CX0 2 "_law_body" ["_law_state", "_law_scope", "_law_k", "_law_room", "_law_world", "_law_tags_here"] (xS K 0) := DfIn.ca (P := l.prog) (w := w) (base := base) X G T.d__law_body (ps := ["_law_state", "_law_scope", "_law_k", "_law_room", "_law_world", "_law_tags_here"]) (fun _ _ _ _ _ _ us hl => match us, hl with | [_, _, _, _, _, _], _ => rfl) fun f fd F => ⟨fun vs H Q E h => (WR h).elim, fun A outer s H args us vs Q E hr he hb hv hs => (WR hs).elim⟩
 have C0 := DfIn.ca (P := l.prog) (w := w) (base := base) X G T.d__law_case (ps := ["_law_state", "_law_scope", "_law_k", "_law_room", "_law_world", "_law_tags_here"]) (fun _ _ _ _ _ _ us hl => match us, hl with | [_, _, _, _, _, _], _ => rfl) fun f fd F => vW (by decide) F LD LN LP B0 z_len z_range z_zip z_list z_tuple
 have B1 := DfIn.ca (P := l.prog) (w := w) (base := base) X G T.d__law_body (ps := ["_law_state", "_law_scope", "_law_k", "_law_room", "_law_world", "_law_tags_here"]) (fun _ _ _ _ _ _ us hl => match us, hl with | [_, _, _, _, _, _], _ => rfl) fun f fd F => vV (by decide) F LD LG LP B0 C0
 have C1 := DfIn.ca (P := l.prog) (w := w) (base := base) X G T.d__law_case (ps := ["_law_state", "_law_scope", "_law_k", "_law_room", "_law_world", "_law_tags_here"]) (fun _ _ _ _ _ _ us hl => match us, hl with | [_, _, _, _, _, _], _ => rfl) fun f fd F => vW (by decide) F LD LN LP B1 z_len z_range z_zip z_list z_tuple
 have B2 := DfIn.ca (P := l.prog) (w := w) (base := base) X G T.d__law_body (ps := ["_law_state", "_law_scope", "_law_k", "_law_room", "_law_world", "_law_tags_here"]) (fun _ _ _ _ _ _ us hl => match us, hl with | [_, _, _, _, _, _], _ => rfl) fun f fd F => vV (by decide) F LD LG LP B1 C1
 have C2 := DfIn.ca (P := l.prog) (w := w) (base := base) X G T.d__law_case (ps := ["_law_state", "_law_scope", "_law_k", "_law_room", "_law_world", "_law_tags_here"]) (fun _ _ _ _ _ _ us hl => match us, hl with | [_, _, _, _, _, _], _ => rfl) fun f fd F => vW (by decide) F LD LN LP B2 z_len z_range z_zip z_list z_tuple
 have B3 := DfIn.ca (P := l.prog) (w := w) (base := base) X G T.d__law_body (ps := ["_law_state", "_law_scope", "_law_k", "_law_room", "_law_world", "_law_tags_here"]) (fun _ _ _ _ _ _ us hl => match us, hl with | [_, _, _, _, _, _], _ => rfl) fun f fd F => vV (by decide) F LD LG LP B2 C2
 have LF := DfIn.ca (P := l.prog) (w := w) (base := base) X G T.d__law_foot (ps := ["_law_state", "_law_scope", "_law_world", "_law_tags_here"]) (fun _ _ _ _ _ _ us hl => match us, hl with | [_, _, _, _], _ => rfl) fun f fd F => Jf F LD LN LG LP z_len z_range z_tuple
 have LL := DfIn.ca (P := l.prog) (w := w) (base := base) X G T.d__law_ladder (ps := ["_law_state", "_law_scope", "_law_world", "_law_tags_here", "_law_args"]) (fun _ _ _ _ _ _ us hl => match us, hl with | [_, _, _, _, _], _ => rfl) fun f fd F => YQ F LD LG LF z_range z_isinstance z_str
 have LI := DfIn.ca (P := l.prog) (w := w) (base := base) X G T.d__law_split (ps := ["_law_parts_here", "_law_rooms"]) (fun _ _ _ _ _ _ us hl => match us, hl with | [_, _], _ => rfl) fun f fd F => YS F
 have LU := DfIn.ca (P := l.prog) (w := w) (base := base) X G T.d__law_due (ps := ["_law_body_here", "_law_here", "_law_rooms"]) (fun _ _ _ _ _ _ us hl => match us, hl with | [_, _, _], _ => rfl) fun f fd F => Jk F LI z_isinstance z_str z_int z_dict z_zip
 have LM := DfIn.ca (P := l.prog) (w := w) (base := base) X G T.d__law_same (ps := ["_law_got", "_law_due_here"]) (fun _ _ _ _ _ _ us hl => match us, hl with | [_, _], _ => rfl) fun f fd F => Jj F z_isinstance z_list z_bool z_tuple z_len
 exact WS FL LD LN LS LT P3 LL B3 LU R5 LM z_len z_list z_range z_tuple z_dict z_zip
end GN
def PySem.W.Fast.tw3093814988277014163 : Unit := ()
def PySem.W.Fast.tw3817972638091249940 : Unit := ()
def PySem.W.Fast.tw203815128097524633 : Unit := ()
def PySem.W.Fast.tw10761331960191708832 : Unit := ()
def PySem.W.Fast.tw8579428447082840202 : Unit := ()
def PySem.W.Fast.tw4657551443864621211 : Unit := ()
def PySem.W.Fast.tw862544377856957409 : Unit := ()
def PySem.W.Fast.tw12056244129403825674 : Unit := ()
def PySem.W.Fast.tw10351682031428016877 : Unit := ()
def PySem.W.Fast.tw6988809607462897949 : Unit := ()
def PySem.W.Fast.tw5390528775338620721 : Unit := ()
def PySem.W.Fast.tw1853544454676016418 : Unit := ()
def PySem.W.Fast.tw6554466914015555856 : Unit := ()
def PySem.W.Fast.tw13876703780844719411 : Unit := ()
def PySem.W.Fast.tw16960480192122154809 : Unit := ()
def PySem.W.Fast.tw4532430037455608244 : Unit := ()
def PySem.W.Fast.tw16436851363576125684 : Unit := ()
def PySem.W.Fast.tw3925729548323310807 : Unit := ()
def PySem.W.Fast.tw6899487120424724550 : Unit := ()
def PySem.W.Fast.tw3016344743085985952 : Unit := ()
def PySem.W.Fast.tw5509643661578658787 : Unit := ()
def PySem.W.Fast.tw9894133552163744561 : Unit := ()
def PySem.W.Fast.tw3947903924576050665 : Unit := ()
def PySem.W.Fast.tw511279889059096918 : Unit := ()
def PySem.W.Fast.tw10385201373275083078 : Unit := ()
def PySem.W.Fast.tw18240580692218000624 : Unit := ()
def PySem.W.Fast.tw373869443799495165 : Unit := ()
def PySem.W.Fast.tw8978629006952056135 : Unit := ()
def PySem.W.Fast.tw12484712106812914174 : Unit := ()
def PySem.W.Fast.tw10572997335824599150 : Unit := ()
def PySem.W.Fast.tw14749993379890964715 : Unit := ()
def PySem.W.Fast.tw2934278414916802935 : Unit := ()
def PySem.W.Fast.tw9291282271303104934 : Unit := ()
def PySem.W.Fast.tw12781272143615588001 : Unit := ()
def PySem.W.Fast.tw2827785497687550894 : Unit := ()
def PySem.W.Fast.tw3782456741937111442 : Unit := ()
def PySem.W.Fast.tw14180144438767527622 : Unit := ()
def PySem.W.Fast.tw51444161663900668 : Unit := ()
def PySem.W.Fast.tw760796986983193158 : Unit := ()
def PySem.W.Fast.tw362852004082482902 : Unit := ()
def PySem.W.Fast.tw17671670050370138222 : Unit := ()
def PySem.W.Fast.tw148019552432005302 : Unit := ()
def PySem.W.Fast.tw9597936512496388652 : Unit := ()
def PySem.W.Fast.tw15315168614393095348 : Unit := ()
def PySem.W.Fast.tw9374457218835006562 : Unit := ()
def PySem.W.Fast.tw15456409063175957019 : Unit := ()
def PySem.W.Fast.tw17186857271417350232 : Unit := ()
def PySem.W.Fast.tw12931905965056671786 : Unit := ()
def PySem.W.Fast.tw17062113128682646998 : Unit := ()
def PySem.W.Fast.tw11584863871035437649 : Unit := ()
def PySem.W.Fast.tw9421865441774664865 : Unit := ()
def PySem.W.Fast.tw2686297146120888939 : Unit := ()
def PySem.W.Fast.tw3568572133777998223 : Unit := ()
def PySem.W.Fast.tw14415613864255793812 : Unit := ()
def PySem.W.Fast.tw10819604134319369717 : Unit := ()
def PySem.W.Fast.tw8170174421958055964 : Unit := ()
def PySem.W.Fast.tw8315219878976065347 : Unit := ()
def PySem.W.Fast.tw828734839018609916 : Unit := ()
def PySem.W.Fast.tw7476561605661827203 : Unit := ()
def PySem.W.Fast.tw7694750978154137699 : Unit := ()
def PySem.W.Fast.tw12587476413287995360 : Unit := ()
def PySem.W.Fast.tw16808637385813898001 : Unit := ()
def PySem.W.Fast.tw9580623133617102198 : Unit := ()
def PySem.W.Fast.tw7975328180434169863 : Unit := ()
def PySem.W.Fast.tw9469552565281687684 : Unit := ()
def PySem.W.Fast.tw11614138422970864095 : Unit := ()
def PySem.W.Fast.tw3610773802665089118 : Unit := ()
def PySem.W.Fast.tw16870778743612267056 : Unit := ()
def PySem.W.Fast.tw13707477938881956885 : Unit := ()
def PySem.W.Fast.tw13574242822520435859 : Unit := ()
def PySem.W.Fast.tw1357654995499455628 : Unit := ()
def PySem.W.Fast.tw6235305312297247883 : Unit := ()
def PySem.W.Fast.tw8282694002298101714 : Unit := ()
def PySem.W.Fast.tw8780428923193931992 : Unit := ()
def PySem.W.Fast.tw7127167118699472024 : Unit := ()
def PySem.W.Fast.tw2589078932768656080 : Unit := ()
def PySem.W.Fast.tw6925388469320366 : Unit := ()
def PySem.W.Fast.tw2081641427561101608 : Unit := ()
def PySem.W.Fast.tw12596274050529318921 : Unit := ()
def PySem.W.Fast.tw8562842344447896427 : Unit := ()
def PySem.W.Fast.tw10687261071404630655 : Unit := ()
def PySem.W.Fast.tw13710118916819331593 : Unit := ()
def PySem.W.Fast.tw8502603600533010139 : Unit := ()
def PySem.W.Fast.tw2180361823482593409 : Unit := ()
def PySem.W.Fast.tw1518795675314119669 : Unit := ()
def PySem.W.Fast.tw13503708989512106025 : Unit := ()
def PySem.W.Fast.tw5258478931751838853 : Unit := ()
def PySem.W.Fast.tw3958877957294850901 : Unit := ()
def PySem.W.Fast.tw627400633681858761 : Unit := ()
def PySem.W.Fast.tw6696612595818621687 : Unit := ()
def PySem.W.Fast.tw6637438068360717901 : Unit := ()
def PySem.W.Fast.tw101932179860626688 : Unit := ()
def PySem.W.Fast.tw2150121698038590511 : Unit := ()
def PySem.W.Fast.tw14100903168199371791 : Unit := ()
open PySem PySem.W PyProof.Rows
set_option maxRecDepth 100000 in
set_option maxHeartbeats 0 in
theorem PySem.Challenge.cw_reusewise_k35_ifs_and_cases_holds : PySem.Challenge.rw_reusewise_k35_ifs_and_cases.Holds := by
 w_on; o_law; k_head; (case hw => w_witness2)
 k_fill
 refine L2.walkT (l := PySem.Challenge.rw_reusewise_k35_ifs_and_cases) (k := 9) (T := 132) (c := 136) rfl ⟨rfl, by decide, by decide⟩ rfl rfl (fun p => rfl) (fun p => rfl) ?F
 case F =>
  intro w mg fa h KX G hm
  refine' GN.top_ok (GN.TopK.mk ?c_Run ?a_Run_defs ?a_Run_steps ?a_Run_done ?a_Run_waiting ?a_Run_body ?a_Run_names ?a_Run_end ?d_parts_of ?dt ?hcT ?n_NoValue ?v_in ?v_kp ?n_Fault ?n_ReuseError ?m_init ?x_word ?x_find ?x_hd ?x_over ?x_sa ?x_any ?x_ga ?x_ha ?x_sb ?x_kp ?x_cl ?r_sp ?r_rd ?r_fi ?k_x ?d_is_whole ?d_first_parts ?d_sizes ?d_in_bounds ?d_shape ?d_grown ?d_by_name ?d_begun_with ?d_arm_of ?m_Run___init__ ?m_Run_begin_def ?m_Run_give ?m_Run_choose ?m_Run_take_arm ?m_Run_go_on ?d_run ?d__law_draw ?d__law_name ?d__law_stem ?d__law_sorts ?d__law_tags ?d__law_parts ?d__law_pick ?d__law_give ?d__law_body ?d__law_case ?d__law_foot ?d__law_ladder ?d__law_split ?d__law_due ?d__law_same ?d_law ?z_len ?z_range ?z_isinstance ?z_int ?z_bool ?z_reversed ?z_list ?z_str ?z_tuple ?z_dict ?z_zip) KX G hm
  (case c_Run => (refine' L2.OwnIn.mk ?n ?pg ?hd ?po ?sa ?mks ?kp; (case n => k_is); (case pg => k_is); (case hd => k_is); (case po => k_is); (case sa => k_is); (case mks => k_is); (case kp => k_is)))
  (case a_Run_defs => k_is)
  (case a_Run_steps => k_is)
  (case a_Run_done => k_is)
  (case a_Run_waiting => k_is)
  (case a_Run_body => k_is)
  (case a_Run_names => k_is)
  (case a_Run_end => k_is)
  (case d_parts_of => (refine' L2.DdIn.mk ?a ?l ?c ?k; (case a => k_is); (case l => k_is); (case c => k_is); (case k => k_is)))
  (case dt => (refine' L2.DtIn.mk ?a; (case a => k_is)))
  (case hcT => (exact rfl))
  (case n_NoValue => k_is)
  (case v_in => (first | kernel_rfl | rfl | decide +kernel))
  (case v_kp => k_is)
  (case n_Fault => k_is)
  (case n_ReuseError => k_is)
  (case m_init => (refine' L2.MeIn.mk ?a ?l ?c ?k ?n; (case a => k_is); (case l => k_is); (case c => k_is); (case k => k_is); (case n => k_is)))
  (case x_word => k_is)
  (case x_find => k_is)
  (case x_hd => k_is)
  (case x_over => (first | kernel_rfl | rfl | decide +kernel))
  (case x_sa => k_is)
  (case x_any => (first | kernel_rfl | rfl | decide +kernel))
  (case x_ga => k_is)
  (case x_ha => k_is)
  (case x_sb => k_is)
  (case x_kp => k_is)
  (case x_cl => (refine' L2.XcIn.mk ?a ?b ?c; (case a => k_is); (case b => (first | kernel_rfl | rfl | decide +kernel)); (case c => k_is)))
  (case r_sp => k_is)
  (case r_rd => k_is)
  (case r_fi => k_is)
  (case k_x => (first | kernel_rfl | rfl | decide +kernel))
  (case d_is_whole => (refine' L2.DfIn.mk ?a ?l ?c ?k; (case a => k_is); (case l => k_is); (case c => k_is); (case k => k_is)))
  (case d_first_parts => (refine' L2.DfIn.mk ?a ?l ?c ?k; (case a => k_is); (case l => k_is); (case c => k_is); (case k => k_is)))
  (case d_sizes => (refine' L2.DfIn.mk ?a ?l ?c ?k; (case a => k_is); (case l => k_is); (case c => k_is); (case k => k_is)))
  (case d_in_bounds => (refine' L2.DfIn.mk ?a ?l ?c ?k; (case a => k_is); (case l => k_is); (case c => k_is); (case k => k_is)))
  (case d_shape => (refine' L2.DfIn.mk ?a ?l ?c ?k; (case a => k_is); (case l => k_is); (case c => k_is); (case k => k_is)))
  (case d_grown => (refine' L2.DfIn.mk ?a ?l ?c ?k; (case a => k_is); (case l => k_is); (case c => k_is); (case k => k_is)))
  (case d_by_name => (refine' L2.DfIn.mk ?a ?l ?c ?k; (case a => k_is); (case l => k_is); (case c => k_is); (case k => k_is)))
  (case d_begun_with => (refine' L2.DfIn.mk ?a ?l ?c ?k; (case a => k_is); (case l => k_is); (case c => k_is); (case k => k_is)))
  (case d_arm_of => (refine' L2.DfIn.mk ?a ?l ?c ?k; (case a => k_is); (case l => k_is); (case c => k_is); (case k => k_is)))
  (case m_Run___init__ => (refine' L2.MeIn.mk ?a ?l ?c ?k ?n; (case a => k_is); (case l => k_is); (case c => k_is); (case k => k_is); (case n => k_is)))
  (case m_Run_begin_def => (refine' L2.MeIn.mk ?a ?l ?c ?k ?n; (case a => k_is); (case l => k_is); (case c => k_is); (case k => k_is); (case n => k_is)))
  (case m_Run_give => (refine' L2.MeIn.mk ?a ?l ?c ?k ?n; (case a => k_is); (case l => k_is); (case c => k_is); (case k => k_is); (case n => k_is)))
  (case m_Run_choose => (refine' L2.MeIn.mk ?a ?l ?c ?k ?n; (case a => k_is); (case l => k_is); (case c => k_is); (case k => k_is); (case n => k_is)))
  (case m_Run_take_arm => (refine' L2.MeIn.mk ?a ?l ?c ?k ?n; (case a => k_is); (case l => k_is); (case c => k_is); (case k => k_is); (case n => k_is)))
  (case m_Run_go_on => (refine' L2.MeIn.mk ?a ?l ?c ?k ?n; (case a => k_is); (case l => k_is); (case c => k_is); (case k => k_is); (case n => k_is)))
  (case d_run => (refine' L2.DfIn.mk ?a ?l ?c ?k; (case a => k_is); (case l => k_is); (case c => k_is); (case k => k_is)))
  (case d__law_draw => (refine' L2.DfIn.mk ?a ?l ?c ?k; (case a => k_is); (case l => k_is); (case c => k_is); (case k => k_is)))
  (case d__law_name => (refine' L2.DfIn.mk ?a ?l ?c ?k; (case a => k_is); (case l => k_is); (case c => k_is); (case k => k_is)))
  (case d__law_stem => (refine' L2.DfIn.mk ?a ?l ?c ?k; (case a => k_is); (case l => k_is); (case c => k_is); (case k => k_is)))
  (case d__law_sorts => (refine' L2.DfIn.mk ?a ?l ?c ?k; (case a => k_is); (case l => k_is); (case c => k_is); (case k => k_is)))
  (case d__law_tags => (refine' L2.DfIn.mk ?a ?l ?c ?k; (case a => k_is); (case l => k_is); (case c => k_is); (case k => k_is)))
  (case d__law_parts => (refine' L2.DfIn.mk ?a ?l ?c ?k; (case a => k_is); (case l => k_is); (case c => k_is); (case k => k_is)))
  (case d__law_pick => (refine' L2.DfIn.mk ?a ?l ?c ?k; (case a => k_is); (case l => k_is); (case c => k_is); (case k => k_is)))
  (case d__law_give => (refine' L2.DfIn.mk ?a ?l ?c ?k; (case a => k_is); (case l => k_is); (case c => k_is); (case k => k_is)))
  (case d__law_body => (refine' L2.DfIn.mk ?a ?l ?c ?k; (case a => k_is); (case l => k_is); (case c => k_is); (case k => k_is)))
  (case d__law_case => (refine' L2.DfIn.mk ?a ?l ?c ?k; (case a => k_is); (case l => k_is); (case c => k_is); (case k => k_is)))
  (case d__law_foot => (refine' L2.DfIn.mk ?a ?l ?c ?k; (case a => k_is); (case l => k_is); (case c => k_is); (case k => k_is)))
  (case d__law_ladder => (refine' L2.DfIn.mk ?a ?l ?c ?k; (case a => k_is); (case l => k_is); (case c => k_is); (case k => k_is)))
  (case d__law_split => (refine' L2.DfIn.mk ?a ?l ?c ?k; (case a => k_is); (case l => k_is); (case c => k_is); (case k => k_is)))
  (case d__law_due => (refine' L2.DfIn.mk ?a ?l ?c ?k; (case a => k_is); (case l => k_is); (case c => k_is); (case k => k_is)))
  (case d__law_same => (refine' L2.DfIn.mk ?a ?l ?c ?k; (case a => k_is); (case l => k_is); (case c => k_is); (case k => k_is)))
  (case d_law => (refine' L2.DfIn.mk ?a ?l ?c ?k; (case a => k_is); (case l => k_is); (case c => k_is); (case k => k_is)))
  (case z_len => k_is)
  (case z_range => k_is)
  (case z_isinstance => k_is)
  (case z_int => k_is)
  (case z_bool => k_is)
  (case z_reversed => k_is)
  (case z_list => k_is)
  (case z_str => k_is)
  (case z_tuple => k_is)
  (case z_dict => k_is)
  (case z_zip => k_is)
#print axioms PySem.Challenge.cw_reusewise_k35_ifs_and_cases_holds
