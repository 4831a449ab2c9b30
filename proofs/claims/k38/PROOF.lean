import PyProof.Rows.All
import Wide.All
import OpenK.AllK
import Wide.FinOn
import Lean
import PyProof.EqAt
import PyProof.EqKinds
import PyProof.TupleCall
import PyProof.PassesOwn
import PyProof.StationsW
import OpenK.KCls
import PyProof.ExcAttrAll.ValueError
import PyProof.ExcClass3
import PyProof.WalksEnum
import PyProof.EnumMake
import PyProof.EnumFor
import PyProof.EnumStmt
import KE.KRevIter
import PyProof.AutoSeq1
import PyProof.FactsAll.list
import PyProof.MeetsStr
import PyProof.StrLawsTight
import PyProof.NeKinds
import PyProof.Rows.SumAny
import PyProof.SeqI3
import PyProof.ZipIter
import PyProof.WalksMore
import PyProof.ListNew
import PyProof.IsRules
import KE.KItemsList
import PyProof.StrBlockL
import PyProof.StrBlockI
import PyProof.StrBlock2
import PyProof.StrLawsIn
import PyProof.StrLawsChain
import PyProof.Rows.StrLast
import PyProof.Rows.StrItems
import KE.IntTextText
import KE.KLam
import KE.KNestM
import PyProof.FactsAll.object_1
import PyProof.CallType
import KE.KIntText
import KE.KDictList
import PyProof.IsiTupleOf
import KE.KDictSum
import PyProof.Rows.SortWalk
import KE.KDictOf
import PyProof.AttrMissHeap
import PyProof.Walks
import PySem.Challenge.RW_reusewise_k38_runs_refused
set_option Elab.async false
set_option linter.all false
set_option maxRecDepth 100000
set_option maxHeartbeats 4000000
namespace L2
open PySem PySem.Spec PyProof.Rows
abbrev Key := Sum Int Str
def wx : Key -> Value -> Bool
  | .inl k, v => Value.isInt k v
  | .inr x, v => Value.isStrOf x v
def keyH (w : World) : Key -> Int
  | .inl k => hashInt k
  | .inr x => hashStr w x
theorem zP : ∀ {k : Key} {v : Value}, wx k v = true -> (∃ i t, k = Sum.inl i /\ v = Value.int i t) \/ (∃ x t, k = Sum.inr x /\ v = Value.str x t)
  | .inl i, v, h => by
    obtain ⟨t, e⟩ := Value.isInt_shape (k := i) (v := v) h
    exact .inl ⟨i, t, rfl, e⟩
  | .inr x, v, h => by
    obtain ⟨t, e⟩ := Value.isStrOf_shape (x := x) (v := v) h
    exact .inr ⟨x, t, rfl, e⟩
theorem ZO (i : Int) (t : Tok) : wx (.inl i) (.int i t) = true := by simp [wx, Value.isInt]
theorem ZP (x : Str) (t : Tok) : wx (.inr x) (.str x t) = true := by simp [wx, Value.isStrOf]
theorem VV (a b : Int) : decide ((Sum.inl a : Key) = Sum.inl b) = (a == b) := by
  by_cases e : a = b
  · subst e; simp
  · have h : ¬ (Sum.inl a : Key) = Sum.inl b := fun q => e (Sum.inl.inj q)
    rw [decide_eq_false h]
    exact (beq_eq_false_iff_ne.mpr e).symm
theorem VW (a b : Str) : decide ((Sum.inr a : Key) = Sum.inr b) = decide (a = b) := by
  by_cases e : a = b
  · subst e; simp
  · have h : ¬ (Sum.inr a : Key) = Sum.inr b := fun q => e (Sum.inr.inj q)
    rw [decide_eq_false h, decide_eq_false e]
theorem VX (a : Int) (b : Str) : decide ((Sum.inl a : Key) = Sum.inr b) = false := decide_eq_false (fun q => nomatch q)
theorem VY (a : Str) (b : Int) : decide ((Sum.inr a : Key) = Sum.inl b) = false := decide_eq_false (fun q => nomatch q)
def zR (prog : Program) (w : World) : PySem.KeyKind prog w Key where
  is := wx
  hash := keyH w
  inj := fun v a b ha hb => by
    rcases zP ha with ⟨i, t, rfl, rfl⟩ | ⟨x, t, rfl, rfl⟩
    · rcases zP hb with ⟨j, u, rfl, e⟩ | ⟨y, u, rfl, e⟩
      · injection e with e1 _; rw [e1]
      · exact nomatch e
    · rcases zP hb with ⟨j, u, rfl, e⟩ | ⟨y, u, rfl, e⟩
      · exact nomatch e
      · injection e with e1 _; rw [e1]
  byValue := fun k v h => by
    rcases zP h with ⟨i, t, rfl, rfl⟩ | ⟨x, t, rfl, rfl⟩ <;> rfl
  pyHash := fun hv h => by
    rcases zP hv with ⟨i, t, rfl, rfl⟩ | ⟨x, t, rfl, rfl⟩
    · exact wpAny_pyHash_int h
    · exact wpAny_pyHash_str h
  eqBool := fun hu hv h => by
    rcases zP hu with ⟨i, t, rfl, rfl⟩ | ⟨x, t, rfl, rfl⟩
    · rcases zP hv with ⟨j, u, rfl, rfl⟩ | ⟨y, u, rfl, rfl⟩
      · rw [VV] at h; exact wpAny_eqBool_int h
      · rw [VX] at h; exact SeqAt.EqAt.int_str i t y u _ _ _ _ h
    · rcases zP hv with ⟨j, u, rfl, rfl⟩ | ⟨y, u, rfl, rfl⟩
      · rw [VY] at h; exact SeqAt.EqAt.str_int x t j u _ _ _ _ h
      · rw [VW] at h; exact wpAny_eqBool_str h
  «strs» := fun k x t v h => by
    rcases zP h with ⟨i, u, rfl, e⟩ | ⟨y, u, rfl, e⟩
    · exact nomatch e
    · injection e with e1 _
      subst e1
      cases v <;> rfl
theorem vD (prog : Program) (w : World) (i : Int) (t : Tok) : (zR prog w).is (.inl i) (.int i t) = true := ZO i t
theorem xF (prog : Program) (w : World) (x : Str) (t : Tok) : (zR prog w).is (.inr x) (.str x t) = true := ZP x t
end L2
namespace L2
open PySem PySem.Spec PyProof.Rows
inductive V where
  | non | bl (b : Bool) | int (i : Int) | str (x : Str) | byt (b : Array UInt8) | flt (b : UInt64) | ref (a : Addr) | ty (n : String)
  deriving DecidableEq
def RelV : V -> Value -> Prop
  | .non, u => u = Value.none
  | .bl b, u => u = Value.bool b
  | .int i, u => ∃ t, u = Value.int i t
  | .str x, u => ∃ t, u = Value.str x t
  | .byt b, u => ∃ t, u = Value.bytes b t
  | .flt b, u => ∃ t, u = Value.float b t
  | .ref a, u => u = Value.ref a
  | .ty n, u => u = Value.type n
abbrev Vals : List V -> List Value -> Prop := Paired RelV
theorem Vals.length {xs : List V} {us : List Value} (r : Vals xs us) : xs.length = us.length := Paired.length r
theorem Vals.get : ∀ {xs : List V} {us : List Value} {i : Nat} {x : V}, Vals xs us -> xs[i]? = some x -> ∃ u, us[i]? = some u /\ RelV x u
  | _, _, _, _, .nil, e => by simp at e
  | _, _, 0, _, .cons r _, e => by simp at e; subst e; exact ⟨_, rfl, r⟩
  | _, _, i + 1, x, .cons _ t, e => by
    obtain ⟨u, h1, h2⟩ := Vals.get (i := i) (x := x) t (by simpa using e)
    exact ⟨u, by simpa using h1, h2⟩
theorem Vals.set {x : V} {u : Value} (r : RelV x u) : ∀ {xs : List V} {us : List Value} (i : Nat), Vals xs us -> Vals (xs.set i x) (us.set i u)
  | _, _, _, .nil => .nil
  | _, _, 0, .cons _ t => .cons r t
  | _, _, i + 1, .cons q t => .cons q (Vals.set r i t)
theorem Vals.append : ∀ {xs ys : List V} {us ws : List Value}, Vals xs us -> Vals ys ws -> Vals (xs ++ ys) (us ++ ws)
  | _, _, _, _, .nil, s => s
  | _, _, _, _, .cons r t, s => .cons r (Vals.append t s)
theorem Vals.take : ∀ {xs : List V} {us : List Value} (n : Nat), Vals xs us -> Vals (xs.take n) (us.take n)
  | _, _, 0, _ => .nil
  | _, _, _ + 1, .nil => .nil
  | _, _, n + 1, .cons r t => .cons r (Vals.take n t)
theorem Vals.drop : ∀ {xs : List V} {us : List Value} (n : Nat), Vals xs us -> Vals (xs.drop n) (us.drop n)
  | _, _, 0, r => r
  | _, _, _ + 1, .nil => .nil
  | _, _, n + 1, .cons _ t => Vals.drop n t
theorem Vals.none_of : ∀ {xs : List V} {us : List Value} {i : Nat}, Vals xs us -> xs[i]? = none -> us[i]? = none := fun {xs us i} r e => by
  have h1 := r.length
  have h2 : xs.length <= i := List.getElem?_eq_none_iff.mp e
  exact List.getElem?_eq_none_iff.mpr (by omega)
def RelO : Option V -> Option Value -> Prop
  | some v, some u => RelV v u
  | none, none => True
  | _, _ => False
def KV {κ : Type} : List (κ × V) -> List (κ × Value) -> Prop := Paired fun (p : κ × V) (q : κ × Value) => p.1 = q.1 /\ RelV p.2 q.2
def kV : Key -> V
  | .inl i => .int i
  | .inr x => .str x
inductive HO where
  | lst (xs : List V)
  | tup (xs : List V)
  | dK (kvs : List (Key × V)) | dT (kvs : List (List Key × V))
  | set (S : Int -> Bool) (n : Nat)
  | ins (C dx : Addr) (fs : List (Str × V))
  | own (x : Addr)
  | xd (fs : List (Str × V))
  | met (f x : Addr)
  | rng (lo hi : Int)
  | frz (o : Obj) (u : HO)
  | tbl (ps : Array Value)
  | ext (φ : Heap -> Prop)
abbrev Hp := Addr -> Option HO
def upd (H : Hp) (a : Addr) (o : HO) : Hp := fun b => if b = a then some o else H b
theorem zg {H : Hp} {a : Addr} {o : HO} : upd H a o a = some o := by unfold upd; rw [if_pos rfl]
theorem zn {H : Hp} {a b : Addr} {o : HO} (h : b ≠ a) : upd H a o b = H b := by unfold upd; rw [if_neg h]
theorem zM {H : Hp} {a b : Addr} {o u : HO} (h : H a = some o) (h' : H b = some u) (d : o ≠ u) : a ≠ b := by
  intro e; subst e; rw [h] at h'; exact d (Option.some.inj h')
theorem zo {H : Hp} {a b : Addr} {o : HO} (h : H a = some o) (h' : H b = none) : a ≠ b := by
  intro e; subst e; rw [h] at h'; cases h'
def IsTupN (h : Heap) (a : Addr) (items : Array Value) : Prop := ∃ o, h.get? a = some o /\ o.cls = .type "tuple" /\ o.dict = none /\ ∃ n, o.data = .seq items n
theorem IsTupN.is {h : Heap} {a : Addr} {items : Array Value} (x : IsTupN h a items) : IsTup h a items := let ⟨o, a, b, _, c⟩ := x; ⟨o, a, b, c⟩
theorem IsTupN.keeps {h h' : Heap} {a : Addr} {items : Array Value} (x : IsTupN h a items) (hk : ∀ b o, h.get? b = some o -> h'.get? b = some o) : IsTupN h' a items := let ⟨o, ho, r⟩ := x; ⟨o, hk a o ho, r⟩
theorem IsTupN.new (h : Heap) (items : Array Value) : IsTupN (h.push { cls := .type "tuple", data := .seq items }) h.objs.size items := ⟨_, Heap.get?_push_size _ rfl, rfl, rfl, _, rfl⟩
section
variable (P : Program) (w : World)
def ObjOk (H : Hp) (h : Heap) (a : Addr) : HO -> Prop
  | .lst xs => xs.length <= sizeLine /\ ∃ (its : List Value) (n : Nat), Vals xs its /\ h.get? a = some { cls := .type "list", data := .seq its.toArray n }
  | .tup xs => xs.length <= sizeLine /\ ∃ its : List Value, Vals xs its /\ IsTupN h a its.toArray
  | .dK kvs => kvs.length <= sizeLine /\ (a == sysModules) = false /\ ∃ vs, KV kvs vs /\ h.DictOf (zR P w) a vs
  | .dT kvs => kvs.length <= sizeLine /\ (a == sysModules) = false /\ ∃ xs : List (List Key × Addr × Value),
      Paired (fun (p : List Key × V) (q : List Key × Addr × Value) => p.1 = q.1 /\ H q.2.1 = some (.tup (p.1.map kV)) /\ RelV p.2 q.2.2) kvs xs /\
      ∃ o es ep, h.get? a = some o /\ o.ExactDict /\ o.data = .dict es ep /\ es.toList = xs.map (entryOfKey (tupleKind (zR P w))) /\ (xs.map (·.1)).Nodup
  | .set S n => h.SetOf (intKind P w) a S n
  | .ins C dx fs => H dx = some (.own a) /\ fs.length <= 1000 /\ dx ≠ a /\ h.get? a = some (PySem.W.instObj C dx) /\
      ∃ mA, h.Ns1 dx mA /\ (∀ f, RelO (fs.lookup f) (mA f)) /\ PySem.Within mA (fs.map (·.1))
  | .own _ => ∃ o, h.get? a = some o
  | .xd fs => ∃ mA, h.Ns1 a mA /\ ∀ f, RelO (fs.lookup f) (mA f)
  | .rng lo hi => ∃ t u v, h.get? a = some { cls := .type "range", data := .fields #[.int lo t, .int hi u, .int 1 v] }
  | .frz o u => h.get? a = some o /\ ObjOk H h a u
  | .tbl ps => h.get? a = some { cls := .none, data := .fields ps }
  | .met f x => h.get? a = some (PySem.W.methodObj (.ref f) (.ref x))
  | .ext φ => φ h /\ (∃ o, h.get? a = some o) /\ ∀ h1 h2 : Heap, φ h1 -> (∀ o, h1.get? a = some o -> h2.get? a = some o) -> φ h2
def HOk (H : Hp) (h : Heap) : Prop := ∀ a o, H a = some o -> ObjOk P w H h a o
end
section
variable {P : Program} {w : World} {H H' : Hp} {h h' : Heap} {a : Addr} {o : HO}
theorem ObjOk.lt (x : ObjOk P w H h a o) : a < h.objs.size := by
  cases o with
  | lst xs => obtain ⟨_, _, _, _, e⟩ := x; exact Heap.lt_size e
  | tup xs => obtain ⟨_, _, _, p⟩ := x; exact p.is.lt
  | dK kvs => obtain ⟨_, _, _, _, o, _, _, e, _⟩ := x; exact Heap.lt_size e
  | dT kvs => obtain ⟨_, _, _, _, o, _, _, e, _⟩ := x; exact Heap.lt_size e
  | set S n => obtain ⟨o, _, _, _, e, _⟩ := x; exact Heap.lt_size e
  | ins C dx fs => obtain ⟨_, _, _, e, _⟩ := x; exact Heap.lt_size e
  | own y => obtain ⟨_, e⟩ := x; exact Heap.lt_size e
  | xd fs => obtain ⟨_, ⟨_, _, _, e, _⟩, _⟩ := x; exact Heap.lt_size e
  | rng lo hi => obtain ⟨_, _, _, e⟩ := x; exact Heap.lt_size e
  | frz ob u => obtain ⟨e, _⟩ := x; exact Heap.lt_size e
  | tbl ps => exact Heap.lt_size (show h.get? a = some _ from x)
  | met f y => exact Heap.lt_size (show h.get? a = some _ from x)
  | ext φ => obtain ⟨_, ⟨_, e⟩, _⟩ := x; exact Heap.lt_size e
theorem Paired.mapP {α β : Type} {F G : α -> β -> Prop} : ∀ {l₁ : List α} {l₂ : List β}, Paired F l₁ l₂ -> (∀ a b, F a b -> G a b) -> Paired G l₁ l₂
  | _, _, .nil, _ => .nil
  | _, _, .cons r t, f => .cons (f _ _ r) (Paired.mapP t f)
theorem ObjOk.stay (x : ObjOk P w H h a o) (k : ∀ b u, (b = a \/ H b = some (.own a)) -> h.get? b = some u -> h'.get? b = some u)
    (ho : ∀ b, H b = some (.own a) -> H' b = some (.own a)) (ht : ∀ b xs, H b = some (.tup xs) -> H' b = some (.tup xs)) : ObjOk P w H' h' a o := by
  induction o with
  | lst xs => obtain ⟨z, its, n, r, e⟩ := x; exact ⟨z, its, n, r, k _ _ (.inl rfl) e⟩
  | tup xs => obtain ⟨z, its, r, ob, e, c⟩ := x; exact ⟨z, its, r, ob, k _ _ (.inl rfl) e, c⟩
  | dK kvs => obtain ⟨z, y, vs, r, ob, es, ep, e, c⟩ := x; exact ⟨z, y, vs, r, ob, es, ep, k _ _ (.inl rfl) e, c⟩
  | dT kvs =>
    obtain ⟨z, y, xs, r, ob, es, ep, e, c⟩ := x
    exact ⟨z, y, xs, Paired.mapP r fun p q z => ⟨z.1, ht _ _ z.2.1, z.2.2⟩, ob, es, ep, k _ _ (.inl rfl) e, c⟩
  | set S n => obtain ⟨ob, es, ep, t, e, c⟩ := x; exact ⟨ob, es, ep, t, k _ _ (.inl rfl) e, c⟩
  | ins C dx fs =>
    obtain ⟨d, z, ne, e, mA, ⟨od, es, ep, e2, c⟩, r⟩ := x
    exact ⟨ho _ d, z, ne, k _ _ (.inl rfl) e, mA, ⟨od, es, ep, k _ _ (.inr d) e2, c⟩, r⟩
  | own y => obtain ⟨ob, e⟩ := x; exact ⟨ob, k _ _ (.inl rfl) e⟩
  | xd fs => obtain ⟨mA, ⟨od, es, ep, e, c⟩, r⟩ := x; exact ⟨mA, ⟨od, es, ep, k _ _ (.inl rfl) e, c⟩, r⟩
  | rng lo hi => obtain ⟨t, u, v, e⟩ := x; exact ⟨t, u, v, k _ _ (.inl rfl) e⟩
  | frz ob u ih => obtain ⟨e, q⟩ := x; exact ⟨k _ _ (.inl rfl) e, ih q⟩
  | tbl ps =>
    have e : h.get? a = some { cls := .none, data := .fields ps } := x
    show h'.get? a = some { cls := .none, data := .fields ps }
    exact k a _ (.inl rfl) e
  | met f y =>
    have e : h.get? a = some (PySem.W.methodObj (.ref f) (.ref y)) := x
    show h'.get? a = some (PySem.W.methodObj (.ref f) (.ref y))
    exact k a _ (.inl rfl) e
  | ext φ => obtain ⟨p, ⟨o, e⟩, st⟩ := x; exact ⟨st _ _ p fun o q => k _ _ (.inl rfl) q, ⟨o, k _ _ (.inl rfl) e⟩, st⟩
theorem HOk.lt (x : HOk P w H h) (e : H a = some o) : a < h.objs.size := (x a o e).lt
theorem HOk.fresh (x : HOk P w H h) (e : h.objs.size <= a) : H a = none := by
  cases q : H a with
  | none => rfl
  | some u => exact absurd (Nat.lt_of_lt_of_le (x.lt q) e) (Nat.lt_irrefl _)
theorem HOk.kept (x : HOk P w H h) (k : ∀ b u, h.get? b = some u -> h'.get? b = some u) : HOk P w H h' := fun a o e =>
  (x a o e).stay (fun b u _ q => k b u q) (fun _ q => q) fun _ _ q => q
theorem HOk.laid (x : HOk P w H h) (k : ∀ b u, h.get? b = some u -> h'.get? b = some u) (hp : h.objs.size <= a) (new : ObjOk P w (upd H a o) h' a o) : HOk P w (upd H a o) h' := fun b u e => by
  have hn := x.fresh hp
  by_cases hb : b = a
  · subst hb; rw [zg] at e; cases e; exact new
  · rw [zn hb] at e
    exact (x b u e).stay (fun c v _ q => k c v q) (fun c q => by rw [zn (zo q hn)]; exact q) fun c xs q => by rw [zn (zo q hn)]; exact q
end
def Rd (H : Hp) (a : Addr) (u : HO) : Prop := H a = some u \/ ∃ o, H a = some (.frz o u)
theorem Rd.of {H : Hp} {a : Addr} {u : HO} (h : H a = some u) : Rd H a u := .inl h
theorem Rd.ok {P : Program} {w : World} {H : Hp} {h : Heap} {a : Addr} {u : HO} (r : Rd H a u) (x : HOk P w H h) : ObjOk P w H h a u := by
  rcases r with r | ⟨o, r⟩
  · exact x a u r
  · obtain ⟨_, q⟩ := x a _ r
    exact q
def Mut : Option HO -> Prop
  | some (.lst _) => True
  | some (.dK _) => True
  | some (.dT _) => True
  | some (.set _ _) => True
  | some (.ins _ _ _) => True
  | some (.ext _) => True
  | _ => False
section
variable {P : Program} {w : World} {H : Hp} {h h' : Heap} {x e : Addr} {o' : HO}
theorem HOk.write (ok : HOk P w H h) (mu : Mut (H x)) (he : e = x \/ H e = some (.own x)) (k : ∀ b u, b ≠ e -> h.get? b = some u -> h'.get? b = some u) (heo : ∃ u, h'.get? e = some u)
    (new : ObjOk P w (upd H x o') h' x o') : HOk P w (upd H x o') h' := fun b u q => by
  have nown : ∀ c y, H c = some (.own y) -> c ≠ x := fun c y r z => by subst z; rw [r] at mu; exact mu
  have ntup : ∀ c xs, H c = some (.tup xs) -> c ≠ x := fun c xs r z => by subst z; rw [r] at mu; exact mu
  by_cases hb : b = x
  · subst hb; rw [zg] at q; cases q; exact new
  · rw [zn hb] at q
    by_cases hbe : b = e
    · have q' : H b = some (.own x) := by
        rcases he with z | z
        · exact absurd (hbe.trans z) hb
        · rw [hbe]; exact z
      rw [q] at q'; cases q'
      obtain ⟨v, hv⟩ := heo
      exact ⟨v, by rw [hbe]; exact hv⟩
    · refine (ok b u q).stay (fun c v hc r => k c v ?_ r) (fun c r => by rw [zn (nown c b r)]; exact r) fun c xs r => by rw [zn (ntup c xs r)]; exact r
      rcases hc with rfl | hc
      · exact hbe
      · rintro rfl
        rcases he with z | z
        · exact nown c b hc z
        · rw [hc] at z; cases z; exact hb rfl
end
structure Un (fs ex : List Addr) (H H' : Hp) (h h' : Heap) : Prop where
  keep : ∀ b o, h.get? b = some o -> H b = none -> b ∉ fs -> b ∉ ex -> h'.get? b = some o
  slot : ∀ b o, h.get? b = some o -> H b = none -> b ∈ fs -> b ∉ ex -> ∃ sl, h'.get? b = some { o with slots := sl }
  free : ∀ b o, h.get? b = some o -> H b = none -> b ∉ ex -> H' b = none
  there : ∀ b o, h.get? b = some o -> b ∉ ex -> ∃ o', h'.get? b = some o'
  tups : ∀ b xs, H b = some (.tup xs) -> H' b = some (.tup xs)
  frzs : ∀ b o u, H b = some (.frz o u) -> H' b = some (.frz o u)
  tbls : ∀ b ps, H b = some (.tbl ps) -> ∃ more, H' b = some (.tbl (ps ++ more))
section
variable {fs fs' ex ex' : List Addr} {H H1 H2 : Hp} {h h1 h2 h' : Heap} {a x e : Addr} {o : HO}
theorem Un.any (u : Un fs ex H H1 h h1) {b : Addr} {ob : Obj} (q : h.get? b = some ob) (n : H b = none) (hx : b ∉ ex) : ∃ sl, h1.get? b = some { ob with slots := sl } := by
  by_cases hb : b ∈ fs
  · exact u.slot b ob q n hb hx
  · exact ⟨ob.slots, u.keep b ob q n hb hx⟩
theorem Un.trans (a : Un fs ex H H1 h h1) (b : Un fs ex H1 H2 h1 h2) : Un fs ex H H2 h h2 where
  keep := fun c ob q n hc hx => b.keep c ob (a.keep c ob q n hc hx) (a.free c ob q n hx) hc hx
  slot := fun c ob q n hc hx => by
    obtain ⟨sl, e1⟩ := a.slot c ob q n hc hx
    obtain ⟨sl', e2⟩ := b.slot c _ e1 (a.free c ob q n hx) hc hx
    exact ⟨sl', e2⟩
  free := fun c ob q n hx => by
    obtain ⟨o', e1⟩ := a.there c ob q hx
    exact b.free c o' e1 (a.free c ob q n hx) hx
  there := fun c ob q hx => by
    obtain ⟨o', e1⟩ := a.there c ob q hx
    exact b.there c o' e1 hx
  tups := fun c xs q => b.tups c xs (a.tups c xs q)
  frzs := fun c ob xs q => b.frzs c ob xs (a.frzs c ob xs q)
  tbls := fun c ps q => by
    obtain ⟨m1, e1⟩ := a.tbls c ps q
    obtain ⟨m2, e2⟩ := b.tbls c _ e1
    exact ⟨m1 ++ m2, by rw [e2, Array.append_assoc]⟩
theorem Un.kept (k : ∀ b u, h.get? b = some u -> h'.get? b = some u) : Un fs ex H H h h' :=
  ⟨fun b ob q _ _ _ => k b ob q, fun b ob q _ _ _ => ⟨ob.slots, k b ob q⟩, fun _ _ _ n _ => n, fun b ob q _ => ⟨ob, k b ob q⟩, fun _ _ q => q, fun _ _ _ q => q, fun _ ps q => ⟨#[], by rw [q]; simp⟩⟩
theorem Un.refl : Un fs ex H H h h := Un.kept fun _ _ q => q
theorem Un.laid (k : ∀ b u, h.get? b = some u -> h'.get? b = some u) (hp : h.objs.size <= a) (hn : H a = none) : Un fs ex H (upd H a o) h h' where
  keep := fun b u q _ _ _ => k b u q
  slot := fun b u q _ _ _ => ⟨u.slots, k b u q⟩
  free := fun b u q n _ => by rw [zn (Nat.ne_of_lt (Nat.lt_of_lt_of_le (Heap.lt_size q) hp))]; exact n
  there := fun b u q _ => ⟨u, k b u q⟩
  tups := fun b xs q => by rw [zn (zo q hn)]; exact q
  frzs := fun b u xs q => by rw [zn (zo q hn)]; exact q
  tbls := fun b ps q => ⟨#[], by rw [zn (zo q hn), q]; simp⟩
theorem Un.write (mu : Mut (H x)) (he : e = x \/ H e = some (.own x)) (k : ∀ b u, b ≠ e -> h.get? b = some u -> h'.get? b = some u) (heo : ∃ u, h'.get? e = some u) : Un fs ex H (upd H x o) h h' := by
  have hx : ∀ b, H b = none -> b ≠ x := fun b n z => by subst z; rw [n] at mu; exact mu
  have hb : ∀ b, H b = none -> b ≠ e := fun b n z => by
    subst z
    rcases he with r | r
    · exact hx b n r
    · rw [n] at r; cases r
  have hm : ∀ b u, H b = some u -> ¬ Mut (some u) -> b ≠ x := fun b u q nm z => by subst z; rw [q] at mu; exact nm mu
  refine ⟨fun b u q n _ _ => k b u (hb b n) q, fun b u q n _ _ => ⟨u.slots, k b u (hb b n) q⟩, fun b u q n _ => by rw [zn (hx b n)]; exact n, fun b u q _ => ?_,
    fun b xs q => by rw [zn (hm b _ q fun z => z)]; exact q, fun b u xs q => by rw [zn (hm b _ q fun z => z)]; exact q, fun b ps q => ⟨#[], by rw [zn (hm b _ q fun z => z), q]; simp⟩⟩
  by_cases hbe : b = e
  · subst hbe; exact heo
  · exact ⟨u, k b u hbe q⟩
theorem Un.mono (u : Un fs ex H H1 h h1) (hs : ∀ b ∈ fs, b ∈ fs') (hx : ∀ b ∈ ex, b ∈ ex') : Un fs' ex' H H1 h h1 :=
  ⟨fun b ob q n hb he => u.keep b ob q n (fun z => hb (hs b z)) fun z => he (hx b z), fun _ _ q n _ he => u.any q n fun z => he (hx _ z), fun b ob q n he => u.free b ob q n fun z => he (hx b z), fun b ob q he => u.there b ob q fun z => he (hx b z), u.tups, u.frzs, u.tbls⟩
end
def trk (h : Heap) (H : Hp) : List Addr := (List.range h.objs.size).filter fun a => (H a).isSome
def hidT (h : Heap) (H : Hp) : Heap := PySem.W.hideAll h (trk h H)
theorem ZQ (h : Heap) (H : Hp) : (hidT h H).objs.size = h.objs.size := PySem.W.hideAll_size _ _
theorem Ys {h : Heap} {H : Hp} {b : Addr} {o : Obj} (e : h.get? b = some o) (n : H b = none) : (hidT h H).get? b = some o :=
  PySem.W.hideAll_get _ e fun hm => by
    have q : (H b).isSome = true := (List.mem_filter.mp hm).2
    rw [n] at q; simp at q
theorem Wh {h : Heap} {H : Hp} {b : Addr} {o : Obj} (e : (hidT h H).get? b = some o) : h.get? b = some o /\ H b = none := by
  have e' : h.get? b = some o := PySem.W.of_hideAll (trk h H) e
  refine ⟨e', ?_⟩
  cases q : H b with
  | none => rfl
  | some x =>
    have hm : b ∈ trk h H := List.mem_filter.mpr ⟨List.mem_range.mpr (Heap.lt_size e'), by simp [q]⟩
    have z : (hidT h H).get? b = none := PySem.W.hideAll_none (trk h H) hm
    rw [z] at e; cases e
def Wi (g h : Heap) (L : Addr) : List (Addr × Obj) := (List.range h.objs.size).filterMap fun a => if a = L \/ (g.get? a).isSome = true then none else (h.get? a).map fun o => (a, o)
def rest (g h : Heap) (L d : Addr) : List (Addr × Obj) := (Wi g h L).filter fun p => decide (p.1 ≠ d)
end L2
namespace L2
open PySem PySem.Spec PyProof.Rows
structure Mod (K : PySem.W.Frag) (mg : Str -> Option Value) (base : Heap) : Prop where
  kin : K.In base
  glob : base.Ns mainGlobals mg
  blt : ∃ mb, base.Ns builtinsNs mb /\ ∀ x : Str, x ≠ "__name__" -> mb x = bootBuiltins x
  nolimit : base.NoLimit
structure Cx where
  prog : Program
  w : World
  K : PySem.W.Frag
  mg : Str -> Option Value
  base : Heap
  A : Around
  N : List Str
  s₀ : Shared
  H₀ : Hp
  env : Env
  outer : List Env
  stack : List Env
  ex : List Addr
  fn : Str -> Bool
  calm : Bool
  pn : List (Addr × Obj)
  xe : Value -> Shared -> Prop
def frs (l : List Env) : List Addr := l.filterMap (·.frame)
abbrev Cx.fs (X : Cx) : List Addr := frs X.outer
def Vis (sc : Scope) (x : Str) : Prop := sc.names.lookup x = some .local \/ sc.names.lookup x = some .cell \/ sc.names.lookup x = some .free
def Loc (sc : Scope) (x : Str) : Prop := sc.names.lookup x = some .local \/ sc.names.lookup x = some .cell
def Look (env : Env) (h : Heap) (m : Str -> Option Value) (x : Str) (u : Value) : Prop :=
  (env.kindOf x = some .local /\ m x = some u) \/ ((env.kindOf x = some .cell \/ env.kindOf x = some .free) /\ ∃ c, env.cells.lookup x = some c /\ h.IsCell c (some u))
structure Cx.Ok (X : Cx) : Prop where
  mod : Mod X.K X.mg X.base
  kind : X.env.scope.kind = .function
  glob : X.env.globals = mainGlobals
  blt : X.env.builtins = builtinsNs
  above : X.s₀.heap.objs.size <= X.env.locals
  inj : ∀ x y c, X.env.cells.lookup x = some c -> X.env.cells.lookup y = some c -> x = y
  has : ∀ x, (X.env.kindOf x = some .cell \/ X.env.kindOf x = some .free) -> ∃ c, X.env.cells.lookup x = some c
  cab : ∀ x c, X.fn x = true -> X.env.cells.lookup x = some c -> X.s₀.heap.objs.size <= c
  hd : X.calm = true -> X.A.handled = none
  frames : X.A.frames = some X.stack
  stk : X.stack = X.outer \/ (X.stack = X.env :: X.outer /\ X.env.frame = some X.env.locals)
  exf : ∀ b ∈ X.ex, b ≠ X.env.locals /\ ∀ x c, X.env.cells.lookup x = some c -> c ≠ b
  bs : ∀ b o, X.base.get? b = some o -> X.s₀.heap.get? b = some o /\ X.H₀ b = none
  bsz : X.base.objs.size <= X.s₀.heap.objs.size
  noex : ∀ b o, X.base.get? b = some o -> b ∉ X.ex
  exfs : ∀ b ∈ X.ex, b ∉ X.fs
  funs : X.s₀.heap.FunFrames X.base X.outer
  frf : ∀ b ∈ X.fs, X.H₀ b = none
structure Inv (X : Cx) (pins : List (Addr × Obj)) (σ : List (Option V)) (H : Hp) (s : Shared) : Prop where
  ok : X.Ok
  os : s.os = X.s₀.os
  bare : AllBare s.gens
  base : Un X.fs X.ex X.H₀ H X.s₀.heap s.heap
  loc : ∃ m, s.heap.Ns X.env.locals m /\ ∀ (i : Nat) (x : Str) (v : V), X.N[i]? = some x -> σ[i]? = some (some v) -> Vis X.env.scope x -> ∃ u, RelV v u /\ Look X.env s.heap m x u
  cell : ∀ x c, X.env.cells.lookup x = some c -> ∃ v, s.heap.IsCell c v
  free : H X.env.locals = none
  freeC : ∀ x c, X.env.cells.lookup x = some c -> H c = none
  pin : ∀ p ∈ X.pn ++ pins, s.heap.get? p.1 = some p.2 /\ H p.1 = none /\ p.1 ≠ X.env.locals /\ p.1 ∉ X.fs /\ ∀ v, p.2.data ≠ .cell v
  hok : HOk X.prog X.w H s.heap
  len : σ.length = X.N.length
section
variable {X : Cx} {pins : List (Addr × Obj)} {σ : List (Option V)} {H H' : Hp} {s : Shared} {h' : Heap}
theorem Cx.Ok.nofr (ok : X.Ok) {b : Addr} {o : Obj} (e : X.base.get? b = some o) : b ∉ X.fs := fun hb => by
  have := (ok.funs.mem hb).1
  rw [e] at this; cases this
theorem Inv.bs (I : Inv X pins σ H s) : ∀ b o, X.base.get? b = some o -> s.heap.get? b = some o /\ H b = none := fun b o e =>
  ⟨I.base.keep b o (I.ok.bs b o e).1 (I.ok.bs b o e).2 (I.ok.nofr e) (I.ok.noex b o e), I.base.free b o (I.ok.bs b o e).1 (I.ok.bs b o e).2 (I.ok.noex b o e)⟩
theorem Inv.bk (I : Inv X pins σ H s) : ∀ b o, X.base.get? b = some o -> s.heap.get? b = some o := fun b o e => (I.bs b o e).1
theorem Inv.mod (I : Inv X pins σ H s) : Mod X.K X.mg X.base := I.ok.mod
theorem Inv.kIn (I : Inv X pins σ H s) : X.K.In s.heap := I.ok.mod.kin.keeps I.bk
theorem Inv.nolimit (I : Inv X pins σ H s) : s.heap.NoLimit := I.ok.mod.nolimit.keeps I.bk
theorem Inv.fr (I : Inv X pins σ H s) : ∃ m, Fr X.base X.env.locals s.heap m :=
  let ⟨m, hn, _⟩ := I.loc
  ⟨m, hn, I.bk, Nat.le_trans I.ok.bsz I.ok.above⟩
theorem Inv.lt (I : Inv X pins σ H s) : X.env.locals < s.heap.objs.size := let ⟨_, hn, _⟩ := I.loc; hn.lt
theorem Inv.sz (I : Inv X pins σ H s) : X.s₀.heap.objs.size <= s.heap.objs.size := Nat.le_trans I.ok.above (Nat.le_of_lt I.lt)
theorem Inv.nofs (I : Inv X pins σ H s) {a : Addr} (h : s.heap.objs.size <= a) : a ∉ X.fs := fun hb => by
  obtain ⟨_, o, ho, _⟩ := I.ok.funs.mem hb
  exact absurd (Nat.lt_of_lt_of_le (Heap.lt_size ho) (Nat.le_trans I.sz h)) (Nat.lt_irrefl _)
theorem Inv.cne (I : Inv X pins σ H s) : ∀ x c, X.env.cells.lookup x = some c -> c ≠ X.env.locals := fun x c e z => by
  obtain ⟨v, o, ho, hd⟩ := I.cell x c e
  obtain ⟨m, ⟨o', es, ep, ho', hd', _⟩, _⟩ := I.loc
  rw [z, ho'] at ho; cases ho; rw [hd'] at hd; cases hd
theorem Inv.funs (I : Inv X pins σ H s) : s.heap.FunFrames X.base X.outer := by
  have all : ∀ (l : List Env), (∀ b ∈ frs l, b ∈ X.fs) -> X.s₀.heap.FunFrames X.base l -> s.heap.FunFrames X.base l := by
    intro l
    induction l with
    | nil => intro _ _; trivial
    | cons env r ih =>
      intro hs hl
      obtain ⟨hk, ⟨L, o, hf, hn, ho, hd⟩, hr⟩ := hl
      have hL : L ∈ X.fs := hs L (by unfold frs; rw [List.filterMap_cons, hf]; exact List.mem_cons_self)
      obtain ⟨sl, e⟩ := I.base.slot L o ho (I.ok.frf L hL) hL fun z => I.ok.exfs L z hL
      exact ⟨hk, ⟨L, _, hf, hn, e, hd⟩, ih (fun b hb => hs b (by unfold frs; rw [List.filterMap_cons, hf]; exact List.mem_cons_of_mem _ hb)) hr⟩
  exact all X.outer (fun _ hb => hb) I.ok.funs
theorem Inv.stack (I : Inv X pins σ H s) : s.heap.FunFrames X.base X.stack := by
  rcases I.ok.stk with e | ⟨e, hf⟩
  · rw [e]; exact I.funs
  · rw [e]
    obtain ⟨m, hn, _⟩ := I.loc
    refine .cons (by rw [I.ok.kind]; decide) hf hn ?_ I.funs
    exact Heap.get?_none_of_le (Nat.le_trans I.ok.bsz I.ok.above)
theorem Inv.stkSub (I : Inv X pins σ H s) : ∀ b ∈ frs X.stack, b ∈ X.env.locals :: X.fs := fun b hb => by
  rcases I.ok.stk with e | ⟨e, hf⟩
  · rw [e] at hb; exact List.mem_cons_of_mem _ hb
  · rw [e] at hb
    unfold frs at hb
    rw [List.filterMap_cons, hf] at hb
    exact hb
theorem Inv.stkFree (I : Inv X pins σ H s) : ∀ b ∈ frs X.stack, H b = none := fun b hb => by
  rcases List.mem_cons.mp (I.stkSub b hb) with e | hb
  · rw [e]; exact I.free
  · obtain ⟨_, o, ho, _⟩ := I.ok.funs.mem hb
    exact I.base.free b o ho (I.ok.frf b hb) fun z => I.ok.exfs b z hb
theorem Inv.step {g' : Array GenState} {t' : Nat} {d' : Drawn} {ch : List Addr} (I : Inv X pins σ H s)
    (hch : ∀ b ∈ ch, (b ∈ X.ex \/ X.s₀.heap.objs.size <= b) /\ b ≠ X.env.locals /\ (∀ x c, X.env.cells.lookup x = some c -> c ≠ b) /\ ∀ p ∈ X.pn ++ pins, p.1 ≠ b)
    (keep : ∀ b o, b ≠ X.env.locals -> b ∉ X.fs -> b ∉ ch -> s.heap.get? b = some o -> H b = none -> h'.get? b = some o)
    (slot : ∀ b o, b ≠ X.env.locals -> b ∈ X.fs -> b ∉ ch -> s.heap.get? b = some o -> H b = none -> ∃ sl, h'.get? b = some { o with slots := sl }) (free : ∀ b o, b ∉ ch -> s.heap.get? b = some o -> H b = none -> H' b = none)
    (there : ∀ b o, b ∉ ch -> s.heap.get? b = some o -> ∃ o', h'.get? b = some o')
    (tups : ∀ b xs, H b = some (.tup xs) -> H' b = some (.tup xs)) (frzs : ∀ b o u, H b = some (.frz o u) -> H' b = some (.frz o u)) (tbls : ∀ b ps, H b = some (.tbl ps) -> ∃ more, H' b = some (.tbl (ps ++ more)))
    (ns : ∀ m, s.heap.Ns X.env.locals m -> h'.Ns X.env.locals m) (hok : HOk X.prog X.w H' h') (hg : AllBare g') :
    Inv X pins σ H' { s with heap := h', gens := g', drawn := d', toks := t' } := by
  have neL : ∀ b o, X.s₀.heap.get? b = some o -> b ≠ X.env.locals := fun b o e => Nat.ne_of_lt (Nat.lt_of_lt_of_le (Heap.lt_size e) I.ok.above)
  have neC : ∀ b o, X.s₀.heap.get? b = some o -> b ∉ X.ex -> b ∉ ch := fun b o e hx hb => by
    rcases (hch b hb).1 with z | z
    · exact hx z
    · exact absurd (Nat.lt_of_lt_of_le (Heap.lt_size e) z) (Nat.lt_irrefl _)
  have cellK : ∀ x c, X.env.cells.lookup x = some c -> ∀ v, s.heap.IsCell c v -> h'.IsCell c v := fun x c e v ⟨o, ho, hd⟩ => by
    have nch : c ∉ ch := fun z => (hch c z).2.2.1 x c e rfl
    by_cases hc : c ∈ X.fs
    · obtain ⟨sl, q⟩ := slot c o (I.cne x c e) hc nch ho (I.freeC x c e)
      exact ⟨_, q, hd⟩
    · exact ⟨o, keep c o (I.cne x c e) hc nch ho (I.freeC x c e), hd⟩
  refine ⟨I.ok, I.os, hg, ⟨fun b o e n hb hx => ?_, fun b o e n hb hx => ?_, fun b o e n hx => ?_, fun b o e hx => ?_, fun b xs e => tups b xs (I.base.tups b xs e), fun b o xs e => frzs b o xs (I.base.frzs b o xs e), fun b ps e => ?_⟩, ?_, fun x c e => ?_, ?_, fun x c e => ?_, fun p hp => ?_, hok, I.len⟩
  · exact keep b o (neL b o e) hb (neC b o e hx) (I.base.keep b o e n hb hx) (I.base.free b o e n hx)
  · obtain ⟨sl, e1⟩ := I.base.slot b o e n hb hx
    obtain ⟨sl', e2⟩ := slot b _ (neL b o e) hb (neC b o e hx) e1 (I.base.free b o e n hx)
    exact ⟨sl', e2⟩
  · obtain ⟨o', e1⟩ := I.base.there b o e hx
    exact free b o' (neC b o e hx) e1 (I.base.free b o e n hx)
  · obtain ⟨o', e1⟩ := I.base.there b o e hx
    exact there b o' (neC b o e hx) e1
  · obtain ⟨m1, e1⟩ := I.base.tbls b ps e
    obtain ⟨m2, e2⟩ := tbls b _ e1
    exact ⟨m1 ++ m2, by rw [e2, Array.append_assoc]⟩
  · obtain ⟨m, hn, hl⟩ := I.loc
    refine ⟨m, ns m hn, fun i x v e1 e2 e3 => ?_⟩
    obtain ⟨u, r, l⟩ := hl i x v e1 e2 e3
    refine ⟨u, r, ?_⟩
    rcases l with l | ⟨k, c, e, z⟩
    · exact .inl l
    · exact .inr ⟨k, c, e, cellK x c e _ z⟩
  · obtain ⟨v, z⟩ := I.cell x c e
    exact ⟨v, cellK x c e v z⟩
  · obtain ⟨m, ⟨o, _, _, ho, _⟩, _⟩ := I.loc
    exact free _ o (fun z => (hch _ z).2.1 rfl) ho I.free
  · obtain ⟨v, o, ho, hd⟩ := I.cell x c e
    exact free c o (fun z => (hch c z).2.2.1 x c e rfl) ho (I.freeC x c e)
  · obtain ⟨e, n, ne, nf, d⟩ := I.pin p hp
    have nch : p.1 ∉ ch := fun z => (hch p.1 z).2.2.2 p hp rfl
    exact ⟨keep p.1 p.2 ne nf nch e n, free p.1 p.2 nch e n, ne, nf, d⟩
theorem Inv.un {t' : Nat} (I : Inv X pins σ H s) (u : Un X.fs [] H H' s.heap h') (hok : HOk X.prog X.w H' h') : Inv X pins σ H' { s with heap := h', toks := t' } := by
  obtain ⟨m, ⟨o, es, ep, ho, r⟩, _⟩ := id I.loc
  obtain ⟨sl, hL⟩ := u.any ho I.free (by simp)
  exact I.step (g' := s.gens) (d' := s.drawn) (ch := []) (fun _ z => nomatch z) (fun b o _ hb _ e n => u.keep b o e n hb (by simp)) (fun b o _ hb _ e n => u.slot b o e n hb (by simp)) (fun b o _ e n => u.free b o e n (by simp)) (fun b o _ e => u.there b o e (by simp)) u.tups u.frzs u.tbls (fun m' hm => by
    obtain ⟨o', es', ep', ho', r'⟩ := hm
    rw [ho] at ho'; cases ho'
    exact ⟨_, es', ep', hL, r'⟩) hok I.bare
theorem Inv.call {g' : Array GenState} {t' : Nat} {d' : Drawn} {ch : List Addr} (I : Inv X pins σ H s) (u : Un (frs X.stack) ch H H' s.heap h') (hok : HOk X.prog X.w H' h') (hg : AllBare g')
    (hch : ∀ b ∈ ch, (b ∈ X.ex \/ X.s₀.heap.objs.size <= b) /\ b ≠ X.env.locals /\ (∀ x c, X.env.cells.lookup x = some c -> c ≠ b) /\ ∀ p ∈ X.pn ++ pins, p.1 ≠ b) :
    Inv X pins σ H' { s with heap := h', gens := g', drawn := d', toks := t' } := by
  obtain ⟨m, ⟨o, es, ep, ho, r⟩, _⟩ := id I.loc
  obtain ⟨sl, hL⟩ := u.any ho I.free fun z => (hch _ z).2.1 rfl
  exact I.step (ch := ch) hch (fun b o hL hb hc e n => u.keep b o e n (fun z => (List.mem_cons.mp (I.stkSub b z)).elim hL hb) hc) (fun b o _ _ hc e n => u.any e n hc) (fun b o hc e n => u.free b o e n hc) (fun b o hc e => u.there b o e hc) u.tups u.frzs u.tbls (fun m' hm => by
    obtain ⟨o', es', ep', ho', r'⟩ := hm
    rw [ho] at ho'; cases ho'
    exact ⟨_, es', ep', hL, r'⟩) hok hg
theorem Inv.turned {t' : Nat} {it : Addr} (I : Inv X pins σ H s) (k : ∀ b o, b ≠ it -> s.heap.get? b = some o -> h'.get? b = some o) (hn : H it = none) (hL : it ≠ X.env.locals)
    (h1 : it ∈ X.ex \/ X.s₀.heap.objs.size <= it) (h2 : ∀ x c, X.env.cells.lookup x = some c -> c ≠ it) (h3 : ∀ p ∈ X.pn ++ pins, p.1 ≠ it) : Inv X pins σ H { s with heap := h', toks := t' } := by
  have nit : ∀ b u, H b = some u -> b ≠ it := fun b u e z => by rw [z, hn] at e; cases e
  refine I.step (g' := s.gens) (d' := s.drawn) (ch := [it]) (fun b hb => ?_) (fun b o _ _ hc e _ => k b o (fun z => hc (by simp [z])) e) (fun b o _ _ hc e _ => ⟨o.slots, k b o (fun z => hc (by simp [z])) e⟩) (fun _ _ _ _ n => n)
    (fun b o hc e => ⟨o, k b o (fun z => hc (by simp [z])) e⟩) (fun _ _ e => e) (fun _ _ _ e => e) (fun b ps e => ⟨#[], by rw [e]; simp⟩) (fun m hm => ?_) (fun b u e => ?_) I.bare
  · have e : b = it := by simpa using hb
    subst e
    exact ⟨h1, hL, h2, h3⟩
  · obtain ⟨o, es, ep, ho, r⟩ := hm
    exact ⟨o, es, ep, k _ o (Ne.symm hL) ho, r⟩
  · refine (I.hok b u e).stay (fun c v hc q => k c v ?_ q) (fun _ q => q) fun _ _ q => q
    rcases hc with z | z
    · rw [z]; exact nit b u e
    · exact nit c _ z
theorem Inv.tok (I : Inv X pins σ H s) (t : Nat) : Inv X pins σ H { s with toks := t } := I.un (h' := s.heap) (t' := t) Un.refl I.hok
theorem Inv.kept {t' : Nat} (I : Inv X pins σ H s) (k : ∀ b u, s.heap.get? b = some u -> h'.get? b = some u) : Inv X pins σ H { s with heap := h', toks := t' } := I.un (Un.kept k) (I.hok.kept k)
theorem Inv.laid {a : Addr} {o : HO} {t' : Nat} (I : Inv X pins σ H s) (k : ∀ b u, s.heap.get? b = some u -> h'.get? b = some u) (hp : s.heap.objs.size <= a) (new : ObjOk X.prog X.w (upd H a o) h' a o) :
    Inv X pins σ (upd H a o) { s with heap := h', toks := t' } := I.un (Un.laid k hp (I.hok.fresh hp)) (I.hok.laid k hp new)
theorem Inv.write {x e : Addr} {o : HO} {t' : Nat} (I : Inv X pins σ H s) (mu : Mut (H x)) (he : e = x \/ H e = some (.own x)) (k : ∀ b u, b ≠ e -> s.heap.get? b = some u -> h'.get? b = some u) (heo : ∃ u, h'.get? e = some u)
    (new : ObjOk X.prog X.w (upd H x o) h' x o) : Inv X pins σ (upd H x o) { s with heap := h', toks := t' } := I.un (Un.write mu he k heo) (I.hok.write mu he k heo new)
theorem Inv.pins_of {pins' : List (Addr × Obj)} (I : Inv X pins σ H s) (h : ∀ p ∈ pins', s.heap.get? p.1 = some p.2 /\ H p.1 = none /\ p.1 ≠ X.env.locals /\ p.1 ∉ X.fs /\ ∀ v, p.2.data ≠ .cell v) : Inv X pins' σ H s :=
  ⟨I.ok, I.os, I.bare, I.base, I.loc, I.cell, I.free, I.freeC, fun p hp => (List.mem_append.mp hp).elim (fun z => I.pin p (List.mem_append_left _ z)) (h p), I.hok, I.len⟩
theorem yD {N : List Str} (hN : N.Nodup) {i j : Nat} {x : Str} (a : N[i]? = some x) (b : N[j]? = some x) : i = j := by
  obtain ⟨h1, e1⟩ := List.getElem?_eq_some_iff.mp a
  obtain ⟨h2, e2⟩ := List.getElem?_eq_some_iff.mp b
  exact (List.getElem_inj hN).mp (e1.trans e2.symm)
theorem wy {M : Model} {A : Around} {E : Value -> Shared -> Prop} {i : Nat} {x : Str} {v : V} {u : Value} {Q : Unit -> Shared -> Prop} (I : Inv X pins σ H s) (hN : X.N.Nodup) (hi : X.N[i]? = some x) (hx : Loc X.env.scope x) (r : RelV v u)
    (h : ∀ s', Inv X pins (σ.set i (some v)) H s' -> (∃ a, Heap.SameBut a s.heap s'.heap /\ (a = X.env.locals \/ X.env.cells.lookup x = some a)) -> Q () s') (hf : X.fn x = true \/ X.env.scope.names.lookup x = some .local := by first | exact .inl rfl | exact .inr rfl | assumption) : wpAny M A (storeName X.env x u) Q E s := by
  obtain ⟨m, hn, hl⟩ := id I.loc
  have hcls : (X.env.scope.kind == .class || (X.env.scope.kind == .module && X.env.locals != X.env.globals)) = false := by rw [I.ok.kind]; rfl
  have hiσ : i < σ.length := by rw [I.len]; exact (List.getElem?_eq_some_iff.mp hi).1
  have cne := I.cne
  have tracked : ∀ {a : Addr} {h' : Heap}, (∃ o, s.heap.get? a = some o /\ H a = none) -> Heap.SameBut a s.heap h' -> HOk X.prog X.w H h' := fun {a h'} ha hs b ob e => by
    obtain ⟨_, _, hfree⟩ := ha
    refine (I.hok b ob e).stay (fun c w' hc q => (hs.2 c ?_).trans q) (fun _ q => q) fun _ _ q => q
    rintro rfl
    rcases hc with rfl | hc
    · rw [hfree] at e; cases e
    · rw [hfree] at hc; cases hc
  rcases hx with hk | hk
  · refine wpAny_storeName_local hk hn (fun h' hn' hs => ?_) hcls
    obtain ⟨oL, _, _, hoL, _⟩ := id hn
    refine h _ ⟨I.ok, I.os, I.bare, ⟨fun b o e n hb hx => ?_, fun b o e n hb hx => ?_, I.base.free, fun b o e hx => ?_, I.base.tups, I.base.frzs, I.base.tbls⟩, ⟨_, hn', fun j y v' e1 e2 e3 => ?_⟩, fun y c e => ?_, I.free, I.freeC, fun p hp => ?_, tracked ⟨oL, hoL, I.free⟩ hs, by simpa using I.len⟩ ⟨_, hs, .inl rfl⟩
    · exact (hs.2 b (Nat.ne_of_lt (Nat.lt_of_lt_of_le (Heap.lt_size e) I.ok.above))).trans (I.base.keep b o e n hb hx)
    · obtain ⟨sl, e1⟩ := I.base.slot b o e n hb hx
      exact ⟨sl, (hs.2 b (Nat.ne_of_lt (Nat.lt_of_lt_of_le (Heap.lt_size e) I.ok.above))).trans e1⟩
    · obtain ⟨o', e1⟩ := I.base.there b o e hx
      exact ⟨o', (hs.2 b (Nat.ne_of_lt (Nat.lt_of_lt_of_le (Heap.lt_size e) I.ok.above))).trans e1⟩
    · by_cases hj : j = i
      · subst hj
        rw [hi] at e1; cases e1
        rw [List.getElem?_set_self hiσ] at e2
        cases e2
        exact ⟨u, r, .inl ⟨hk, by simp⟩⟩
      · rw [List.getElem?_set_ne (Ne.symm hj)] at e2
        obtain ⟨u', r', q⟩ := hl j y v' e1 e2 e3
        refine ⟨u', r', ?_⟩
        rcases q with ⟨k, e⟩ | ⟨k, c, e, z⟩
        · refine .inl ⟨k, ?_⟩
          have : y ≠ x := fun e => hj (yD hN e1 (e ▸ hi))
          simp [this, e]
        · exact .inr ⟨k, c, e, z.sameBut hs (cne y c e)⟩
    · obtain ⟨w', z⟩ := I.cell y c e
      exact ⟨w', z.sameBut hs (cne y c e)⟩
    · obtain ⟨e, n, ne, nf, d⟩ := I.pin p hp
      exact ⟨(hs.2 p.1 ne).trans e, n, ne, nf, d⟩
  · have hfn : X.fn x = true := by
      rcases hf with z | z
      · exact z
      · rw [z] at hk; cases hk
    obtain ⟨c, hc⟩ := I.ok.has x (.inl hk)
    obtain ⟨w', z⟩ := I.cell x c hc
    refine wpAny_storeName_cell I.ok.kind hk hc z (fun h' hc' hs => ?_)
    obtain ⟨oc, hoc, hocd⟩ := id z
    refine h { s with heap := h' } ⟨I.ok, I.os, I.bare, ⟨fun b o e n hb hx => ?_, fun b o e n hb hx => ?_, I.base.free, fun b o e hx => ?_, I.base.tups, I.base.frzs, I.base.tbls⟩, ⟨m, hn.sameBut hs (Ne.symm (cne x c hc)), fun j y v' e1 e2 e3 => ?_⟩, fun y c' e => ?_, I.free, I.freeC, fun p hp => ?_, tracked ⟨oc, hoc, I.freeC x c hc⟩ hs, by simpa using I.len⟩ ⟨c, hs, .inr hc⟩
    · exact (hs.2 b (Nat.ne_of_lt (Nat.lt_of_lt_of_le (Heap.lt_size e) (I.ok.cab x c hfn hc)))).trans (I.base.keep b o e n hb hx)
    · obtain ⟨sl, e1⟩ := I.base.slot b o e n hb hx
      exact ⟨sl, (hs.2 b (Nat.ne_of_lt (Nat.lt_of_lt_of_le (Heap.lt_size e) (I.ok.cab x c hfn hc)))).trans e1⟩
    · obtain ⟨o', e1⟩ := I.base.there b o e hx
      exact ⟨o', (hs.2 b (Nat.ne_of_lt (Nat.lt_of_lt_of_le (Heap.lt_size e) (I.ok.cab x c hfn hc)))).trans e1⟩
    · by_cases hj : j = i
      · subst hj
        rw [hi] at e1; cases e1
        rw [List.getElem?_set_self hiσ] at e2
        cases e2
        exact ⟨u, r, .inr ⟨.inl hk, c, hc, hc'⟩⟩
      · rw [List.getElem?_set_ne (Ne.symm hj)] at e2
        obtain ⟨u', r', q⟩ := hl j y v' e1 e2 e3
        refine ⟨u', r', ?_⟩
        rcases q with q | ⟨k, c', e, z'⟩
        · exact .inl q
        · refine .inr ⟨k, c', e, z'.sameBut hs ?_⟩
          rintro rfl
          exact hj (yD hN e1 (I.ok.inj _ _ _ e hc ▸ hi))
    · by_cases hcc : c' = c
      · subst hcc; exact ⟨_, hc'⟩
      · obtain ⟨w2, z2⟩ := I.cell y c' e
        exact ⟨w2, z2.sameBut hs hcc⟩
    · obtain ⟨e, n, ne, nf, d⟩ := I.pin p hp
      refine ⟨(hs.2 p.1 ?_).trans e, n, ne, nf, d⟩
      intro q
      rw [q, hoc] at e
      have q' : oc = p.2 := Option.some.inj e
      exact d w' (by rw [<- q']; exact hocd)
theorem xR {M : Model} {A : Around} {E : Value -> Shared -> Prop} {i : Nat} {x : Str} {v : V} {u : Value} {Q : Unit -> Shared -> Prop} (I : Inv X pins σ H s) (hN : X.N.Nodup) (hi : X.N[i]? = some x) (hx : Loc X.env.scope x) (r : RelV v u)
    (h : ∀ s', Inv X pins (σ.set i (some v)) H s' -> Q () s') (hf : X.fn x = true \/ X.env.scope.names.lookup x = some .local := by first | exact .inl rfl | exact .inr rfl | assumption) : wpAny M A (storeName X.env x u) Q E s :=
  wy I hN hi hx r (fun s' I' _ => h s' I') hf
theorem Inv.call' {s' : Shared} {ch : List Addr} (I : Inv X pins σ H s) (ho : s'.os = s.os) (u : Un (frs X.stack) ch H H' s.heap s'.heap) (hok : HOk X.prog X.w H' s'.heap) (hg : AllBare s'.gens)
    (hch : ∀ b ∈ ch, (b ∈ X.ex \/ X.s₀.heap.objs.size <= b) /\ b ≠ X.env.locals /\ (∀ x c, X.env.cells.lookup x = some c -> c ≠ b) /\ ∀ p ∈ X.pn ++ pins, p.1 ≠ b) : Inv X pins σ H' s' := by
  obtain ⟨h', g', d', t', o'⟩ := s'
  have e : o' = s.os := ho
  subst e
  exact I.call (g' := g') (t' := t') (d' := d') u hok hg hch
end
abbrev XK := Value -> Option Addr -> Hp -> Prop
abbrev St := List (Option V)
abbrev VK := V -> Hp -> Prop
abbrev TE := St -> Hp -> VK -> Prop
abbrev TT := St -> Hp -> (Bool -> Hp -> Prop) -> Prop
abbrev TA := St -> Hp -> (List V -> Hp -> Prop) -> Prop
structure Ends where
  nx : St -> Hp -> Prop
  rt : VK
  bk : St -> Hp -> Prop := fun _ _ => False
  ct : St -> Hp -> Prop := fun _ _ => False
abbrev TS := Ends -> St -> Hp -> Prop
def EP (X : Cx) (pins : List (Addr × Obj)) (σ : St) (Q : VK) (u : Value) (s' : Shared) : Prop := ∃ v H', Inv X pins σ H' s' /\ RelV v u /\ Q v H'
def TP (X : Cx) (pins : List (Addr × Obj)) (σ : St) (Q : Bool -> Hp -> Prop) (b : Bool) (s' : Shared) : Prop := ∃ H', Inv X pins σ H' s' /\ Q b H'
def AP (X : Cx) (pins : List (Addr × Obj)) (σ : St) (Q : List V -> Hp -> Prop) (us : List Value) (s' : Shared) : Prop := ∃ vs H', Inv X pins σ H' s' /\ Vals vs us /\ Q vs H'
def SP (X : Cx) (pins : List (Addr × Obj)) (D : Ends) (f : Flow) (s' : Shared) : Prop :=
  match f with
  | .next => ∃ σ' H', Inv X pins σ' H' s' /\ D.nx σ' H'
  | .brk => ∃ σ' H', Inv X pins σ' H' s' /\ D.bk σ' H'
  | .cont => ∃ σ' H', Inv X pins σ' H' s' /\ D.ct σ' H'
  | .ret u => ∃ v σ' H', Inv X pins σ' H' s' /\ RelV v u /\ D.rt v H'
def PE (X : Cx) (e : Expr) (t : TE) : Prop :=
  ∀ (pins : List (Addr × Obj)) (s : Shared) (σ : St) (H : Hp) (Q : VK), Inv X pins σ H s -> t σ H Q -> wpAny (model X.prog X.w) X.A (eval e X.env) (EP X pins σ Q) X.xe s
def PT (X : Cx) (e : Expr) (t : TT) : Prop :=
  ∀ (pins : List (Addr × Obj)) (s : Shared) (σ : St) (H : Hp) (Q : Bool -> Hp -> Prop), Inv X pins σ H s -> t σ H Q -> wpAny (model X.prog X.w) X.A (isTrue e X.env (eval e X.env)) (TP X pins σ Q) X.xe s
def PW (X : Cx) (e : Expr) (t : TT) : Prop :=
  ∀ (whole : Sem Value) (pins : List (Addr × Obj)) (s : Shared) (σ : St) (H : Hp) (Q : Bool -> Hp -> Prop), Inv X pins σ H s -> t σ H Q -> wpAny (model X.prog X.w) X.A (isTrue e X.env whole) (TP X pins σ Q) X.xe s
theorem PW.pt {X : Cx} {e : Expr} {t : TT} (h : PW X e t) : PT X e t := h _
def PA (X : Cx) (es : List Expr) (t : TA) : Prop :=
  ∀ (pos : Pos) (pins : List (Addr × Obj)) (s : Shared) (σ : St) (H : Hp) (Q : List V -> Hp -> Prop), Inv X pins σ H s -> t σ H Q -> wpAny (model X.prog X.w) X.A (spliced (backTo pos (starEach es X.env))) (AP X pins σ Q) X.xe s
def PS (X : Cx) (st : Stmt) (t : TS) : Prop :=
  ∀ (pins : List (Addr × Obj)) (s : Shared) (σ : St) (H : Hp) (D : Ends), Inv X pins σ H s -> t D σ H -> wpAny (model X.prog X.w) X.A (exec st X.env) (SP X pins D) X.xe s
def PSs (X : Cx) (st : List Stmt) (t : TS) : Prop :=
  ∀ (pins : List (Addr × Obj)) (s : Shared) (σ : St) (H : Hp) (D : Ends), Inv X pins σ H s -> t D σ H -> wpAny (model X.prog X.w) X.A (execs st X.env) (SP X pins D) X.xe s
theorem thn {α : Type} {t : Sem α} {Q Q' : α -> Shared -> Prop} {M : Model} {A : Around} {E : Value -> Shared -> Prop} {s : Shared} (h : wpAny M A t Q E s) (hQ : ∀ a s, Q a s -> Q' a s) : wpAny M A t Q' E s := wpAny_mono h hQ fun _ _ x => x
end L2
namespace L2
open PySem PySem.Spec PyProof.Rows
section
variable {X : Cx}
def tVar (i : Nat) : TE := fun σ H Q => ∃ v, σ[i]? = some (some v) /\ Q v H
def tC (v : V) : TE := fun _ H Q => Q v H
theorem VZ {i : Nat} {x : Str} {pos : Pos} (hN : X.N[i]? = some x) (hv : Vis X.env.scope x) (hd : (x == ("__debug__" : Str)) = false := by decide) (hcd : (x == ("__classdict__" : Str)) = false := by decide) : PE X (.Name x pos) (tVar i) := by
  intro pins s σ H Q I h
  obtain ⟨v, e, h⟩ := h
  obtain ⟨m, hn, hl⟩ := I.loc
  obtain ⟨u, r, l⟩ := hl i x v hN e hv
  have fin : EP X pins σ Q u s := ⟨v, H, I, r, h⟩
  rcases l with ⟨hk, hm⟩ | ⟨hk, c, hc, hcell⟩
  · exact wpAny_Name (wpAny_loadName_local I.ok.kind hk hn hm fin) hd
  · rcases hk with hk | hk
    · exact wpAny_Name (wpAny_loadName_cell I.ok.kind hk hc hcell fin) hd
    · exact wpAny_Name (wpAny_loadName_free I.ok.kind hk hc hcell fin hcd) hd
theorem V0 {i j pos} : PE X (.Constant (.int i) j pos) (tC (.int i)) := fun _ _ _ H _ I h => wpAny_Constant_int ⟨.int i, H, I.tok _, ⟨_, rfl⟩, h⟩
theorem qv {b j pos} : PE X (.Constant (.bool b) j pos) (tC (.bl b)) := fun _ _ _ H _ I h => Constant_bool ⟨.bl b, H, I, rfl, h⟩
theorem V1 {j pos} : PE X (.Constant .none j pos) (tC .non) := fun _ _ _ H _ I h => Constant_none ⟨.non, H, I, rfl, h⟩
theorem V2 {x j pos} : PE X (.Constant (.str x) j pos) (tC (.str x)) := fun _ _ _ H _ I h => Calls.Constant_str ⟨.str x, H, I.tok _, ⟨_, rfl⟩, h⟩
def Gl (X : Cx) (x : Str) : Prop := X.env.kindOf x = some .globalImplicit
theorem yy {E : Value -> Shared -> Prop} {pins : List (Addr × Obj)} {s : Shared} {σ : St} {H : Hp} {x : Str} {u : Value} {pos : Pos} {Q : Value -> Shared -> Prop} (I : Inv X pins σ H s) (hg : Gl X x) (hm : X.mg x = some u) (h : Q u s)
    (hd : (x == ("__debug__" : Str)) = false := by decide) : wpAny (model X.prog X.w) X.A (eval (.Name x pos) X.env) Q E s :=
  Calls.Name_function_global I.ok.kind hg (Calls.loadGlobal_global (by rw [I.ok.glob]; exact I.mod.glob.keeps I.bk) hm h) hd
theorem yN {E : Value -> Shared -> Prop} {pins : List (Addr × Obj)} {s : Shared} {σ : St} {H : Hp} {x : Str} {u : Value} {pos : Pos} {Q : Value -> Shared -> Prop} (I : Inv X pins σ H s) (hg : Gl X x) (hm : X.mg x = none) (hv : bootBuiltins x = some u) (h : Q u s)
    (hn : x ≠ "__name__" := by decide) (hd : (x == ("__debug__" : Str)) = false := by decide) : wpAny (model X.prog X.w) X.A (eval (.Name x pos) X.env) Q E s := by
  obtain ⟨mb, h1, h2⟩ := I.mod.blt
  exact Calls.Name_function_global I.ok.kind hg (Calls.loadGlobal_builtin (by rw [I.ok.glob]; exact I.mod.glob.keeps I.bk) hm (by rw [I.ok.blt]; exact h1.keeps I.bk) ((h2 x hn).trans hv) h) hd
theorem Wj {x : Str} {v : V} {u : Value} {pos : Pos} (hg : Gl X x) (hm : X.mg x = some u) (r : RelV v u) (hd : (x == ("__debug__" : Str)) = false := by decide) : PE X (.Name x pos) (tC v) :=
  fun _ _ _ H _ I h => yy I hg hm ⟨v, H, I, r, h⟩ hd
theorem Wk {x : Str} {v : V} {u : Value} {pos : Pos} (hg : Gl X x) (hm : X.mg x = none) (hv : bootBuiltins x = some u) (r : RelV v u) (hn : x ≠ "__name__" := by decide) (hd : (x == ("__debug__" : Str)) = false := by decide) : PE X (.Name x pos) (tC v) :=
  fun _ _ _ H _ I h => yN I hg hm hv ⟨v, H, I, r, h⟩ hn hd
variable {a b : Expr} {ta tb : TE} {pos : Pos}
def PC (X : Cx) (op : CmpOp) (a b : Expr) (t : TE) : Prop :=
  ∀ (pins : List (Addr × Obj)) (s : Shared) (σ : St) (H : Hp) (Q : VK), Inv X pins σ H s -> t σ H Q ->
    wpAny (model X.prog X.w) X.A (eval a X.env) (fun v s₁ => wpAny (model X.prog X.w) X.A (eval b X.env) (fun u s₂ => wpAny (model X.prog X.w) X.A (compareOp op v u) (EP X pins σ Q) X.xe s₂) X.xe s₁) X.xe s
theorem Yt (b : Expr) {op : CmpOp} (h : op ≠ .In) (h2 : op ≠ .NotIn) : behindInMarks op b = false := by
  have e1 : (op == CmpOp.In) = false := by cases op <;> first | rfl | exact absurd rfl h
  have e2 : (op == CmpOp.NotIn) = false := by cases op <;> first | rfl | exact absurd rfl h2
  cases b <;> simp [behindInMarks, e1, e2]
def tIsN (ta : TE) : TE := fun σ H Q => ta σ H fun x H1 => Q (.bl (decide (x = .non))) H1
theorem RelV.none_iff {x : V} {v : Value} (r : RelV x v) : (v == Value.none) = decide (x = .non) := by
  cases x with
  | non => cases r; rfl
  | bl _ => cases r; rfl
  | int _ => obtain ⟨t, rfl⟩ := r; rfl
  | str _ => obtain ⟨t, rfl⟩ := r; rfl
  | byt _ => obtain ⟨t, rfl⟩ := r; rfl
  | flt _ => obtain ⟨t, rfl⟩ := r; rfl
  | ref _ => cases r; rfl
  | ty _ => cases r; rfl
theorem V3 {j pos'} (ha : PE X a ta) : PC X .Is a (.Constant .none j pos') (tIsN ta) := by
  intro pins s σ H Q I h
  refine thn (ha pins s σ H _ I h) fun v s1 ⟨x, H1, I1, r1, q1⟩ => ?_
  exact Constant_none (is_none_gen ⟨.bl _, H1, I1, by rw [r1.none_iff]; rfl, q1⟩)
def tB (t : TE) : TT := fun σ H Q => t σ H fun x H1 => ∃ c, x = .bl c /\ Q c H1
theorem Yu {op : CmpOp} {t : TE} (h : PC X op a b t) (h1 : behindInMarks op b = false := by first | exact Yt _ (by decide) (by decide) | rfl) : PT X (.Compare a [op] [b] pos) (tB t) := by
  intro pins s σ H Q I hw
  refine wpAny_isTrue_Compare1 (thn (h pins s σ H _ I hw) fun v s1 h1 => thn h1 fun u s2 h2 => thn h2 fun c s3 ⟨x, H1, I1, r1, q1⟩ => ?_) h1
  obtain ⟨d, rfl, q⟩ := q1
  cases r1
  exact wpAny_truthy_bool ⟨H1, I1, q⟩
theorem V4 {e : Expr} {t : TE} (h : PE X e t) (he : ∀ whole, isTrue e X.env whole = (do let v <- whole; standAt e.pos; holding [v] (truthy v)) := by intro _; rfl) : PT X e (tB t) := by
  intro pins s σ H Q I hw
  refine isTrue_plain (thn (h pins s σ H _ I hw) fun v s1 ⟨x, H1, I1, r1, q1⟩ => ?_) (he _)
  obtain ⟨d, rfl, q⟩ := q1
  cases r1
  exact wpAny_truthy_bool ⟨H1, I1, q⟩
variable {tA tB' : TT} {rest : List Expr}
def tAnd (t u : TT) : TT := fun σ H Q => t σ H fun c H1 => if c = true then u σ H1 Q else Q false H1
def tOr (t u : TT) : TT := fun σ H Q => t σ H fun c H1 => if c = true then Q true H1 else u σ H1 Q
def tNot (t : TT) : TT := fun σ H Q => t σ H fun c H1 => Q (!c) H1
theorem pw_and1 (ha : PT X a tA) : PW X (.BoolOp .And [a] pos) tA := by
  intro wh pins s σ H Q I h
  refine isTrue_and (thn (ha pins s σ H Q I h) fun c s1 e => ?_)
  cases c with
  | true => exact isTrue_and_nil e
  | false => exact e
theorem pw_or1 (ha : PT X a tA) : PW X (.BoolOp .Or [a] pos) tA := by
  intro wh pins s σ H Q I h
  refine isTrue_or (thn (ha pins s σ H Q I h) fun c s1 e => ?_)
  cases c with
  | false => exact isTrue_or_nil e
  | true => exact e
theorem pw_and (ha : PT X a tA) (hb : PW X (.BoolOp .And (b :: rest) pos) tB') : PW X (.BoolOp .And (a :: b :: rest) pos) (tAnd tA tB') := by
  intro wh pins s σ H Q I h
  refine isTrue_and (thn (ha pins s σ H _ I h) fun c s1 ⟨H1, I1, q1⟩ => ?_)
  cases c with
  | true => exact hb wh pins s1 σ H1 Q I1 q1
  | false => exact ⟨H1, I1, q1⟩
theorem pw_or (ha : PT X a tA) (hb : PW X (.BoolOp .Or (b :: rest) pos) tB') : PW X (.BoolOp .Or (a :: b :: rest) pos) (tOr tA tB') := by
  intro wh pins s σ H Q I h
  refine isTrue_or (thn (ha pins s σ H _ I h) fun c s1 ⟨H1, I1, q1⟩ => ?_)
  cases c with
  | true => exact ⟨H1, I1, q1⟩
  | false => exact hb wh pins s1 σ H1 Q I1 q1
theorem V5 (ha : PT X a tA) : PT X (.UnaryOp .Not a pos) (tNot tA) := by
  intro pins s σ H Q I h
  exact isTrue_not (ha pins s σ H (fun c H1 => Q (!c) H1) I h)
def Vv (ta tb : TE) : TE := fun σ H Q => ta σ H fun x H1 => ∃ c, x = .bl c /\ if c = true then tb σ H1 Q else Q (.bl false) H1
def Vw (ta : TE) : TE := fun σ H Q => ta σ H fun x H1 => ∃ c, x = .bl c /\ Q (.bl (!c)) H1
theorem V6 {op} {t : TE} (h : PE X a t) : PE X (.BoolOp op [a] pos) t := fun pins s σ H Q I hw => BoolOp_one (h pins s σ H Q I hw)
theorem V7 (ha : PE X a ta) (hb : PE X (.BoolOp .And (b :: rest) pos) tb) : PE X (.BoolOp .And (a :: b :: rest) pos) (Vv ta tb) := by
  intro pins s σ H Q I h
  refine BoolOp_and (thn (ha pins s σ H _ I h) fun v s1 ⟨x, H1, I1, r1, q1⟩ => ?_)
  obtain ⟨c, rfl, q1⟩ := q1
  cases r1
  refine wpAny_truthy_bool ?_
  cases c with
  | true => exact hb pins s1 σ H1 Q I1 q1
  | false => exact ⟨.bl false, H1, I1, rfl, q1⟩
theorem V8 (ha : PE X a ta) : PE X (.UnaryOp .Not a pos) (Vw ta) := by
  intro pins s σ H Q I h
  refine UnaryOp_ (thn (ha pins s σ H _ I h) fun v s1 ⟨x, H1, I1, r1, q1⟩ => ?_)
  obtain ⟨c, rfl, q1⟩ := q1
  cases r1
  exact not_of (wpAny_truthy_bool ⟨.bl (!c), H1, I1, rfl, q1⟩)
def tIf (t : TT) (ta tb : TE) : TE := fun σ H Q => t σ H fun c H1 => if c = true then ta σ H1 Q else tb σ H1 Q
theorem Yv {c : Expr} (hc : PT X c tA) (ha : PE X a ta) (hb : PE X b tb) : PE X (.IfExp c a b pos) (tIf tA ta tb) := by
  intro pins s σ H Q I h
  refine wpAny_IfExp (thn (hc pins s σ H _ I h) fun d s1 ⟨H1, I1, q1⟩ => ?_)
  cases d with
  | true => exact ha pins s1 σ H1 Q I1 q1
  | false => exact hb pins s1 σ H1 Q I1 q1
end
end L2
namespace L2
open PySem PySem.Spec PyProof.Rows
def SqL (K : PySem.W.Frag) (H : Hp) (a : Addr) (xs : List V) : Prop :=
  Rd H a (.lst xs) \/
    ∃ (o : Obj) (its : Array Value) (n : Nat), K.lookup a = some o /\ o.cls = .type "list" /\ o.dict = none /\ o.data = .seq its n /\ its.size <= sizeLine /\ Vals xs its.toList
def SqT (K : PySem.W.Frag) (H : Hp) (a : Addr) (xs : List V) : Prop :=
  Rd H a (.tup xs) \/
    ∃ (o : Obj) (its : Array Value) (n : Nat), K.lookup a = some o /\ o.cls = .type "tuple" /\ o.data = .seq its n /\ its.size <= sizeLine /\ Vals xs its.toList
def absV : Value -> Option V
  | .none => some .non
  | .bool b => some (.bl b)
  | .int i _ => some (.int i)
  | .str x _ => some (.str x)
  | .bytes b _ => some (.byt b)
  | .float b _ => some (.flt b)
  | .ref a => some (.ref a)
  | .type n => some (.ty n)
  | _ => none
theorem RelV.abs {x : V} {u : Value} (r : RelV x u) : absV u = some x := by
  cases x with
  | non => cases r; rfl
  | bl _ => cases r; rfl
  | int _ => obtain ⟨t, rfl⟩ := r; rfl
  | str _ => obtain ⟨t, rfl⟩ := r; rfl
  | byt _ => obtain ⟨t, rfl⟩ := r; rfl
  | flt _ => obtain ⟨t, rfl⟩ := r; rfl
  | ref _ => cases r; rfl
  | ty _ => cases r; rfl
theorem RelV.inj {x y : V} {u : Value} (r : RelV x u) (q : RelV y u) : x = y := Option.some.inj (r.abs.symm.trans q.abs)
theorem Vals.inj : ∀ {xs ys : List V} {us : List Value}, Vals xs us -> Vals ys us -> xs = ys
  | _, _, _, .nil, .nil => rfl
  | _, _, _, .cons r t, .cons r' t' => by rw [r.inj r', Vals.inj t t']
section
variable {X : Cx} {pins : List (Addr × Obj)} {σ : St} {H : Hp} {s : Shared} {a : Addr} {xs ys : List V}
theorem SqL.of {K : PySem.W.Frag} (h : H a = some (.lst xs)) : SqL K H a xs := .inl (.inl h)
theorem SqT.of {K : PySem.W.Frag} (h : H a = some (.tup xs)) : SqT K H a xs := .inl (.inl h)
theorem Inv.list (I : Inv X pins σ H s) (h : SqL X.K H a xs) : ∃ its : List Value, Vals xs its /\ PlainL s.heap a its.toArray /\ xs.length <= sizeLine := by
  rcases h with h | ⟨o, its, n, hk, hc, hd, hs, hz, r⟩
  · obtain ⟨z, its, n, r, e⟩ := h.ok I.hok
    exact ⟨its, r, ⟨_, n, e, rfl, rfl, rfl⟩, z⟩
  · refine ⟨its.toList, r, ⟨o, n, I.kIn a o hk, hc, hd, by simpa using hs⟩, ?_⟩
    have e := r.length
    simp only [Array.length_toList] at e
    omega
theorem Inv.tuple (I : Inv X pins σ H s) (h : SqT X.K H a xs) : ∃ its : List Value, Vals xs its /\ IsTup s.heap a its.toArray /\ xs.length <= sizeLine := by
  rcases h with h | ⟨o, its, n, hk, hc, hs, hz, r⟩
  · obtain ⟨z, its, r, p⟩ := h.ok I.hok
    exact ⟨its, r, p.is, z⟩
  · refine ⟨its.toList, r, ⟨o, I.kIn a o hk, hc, n, by simpa using hs⟩, ?_⟩
    have e := r.length
    simp only [Array.length_toList] at e
    omega
theorem Inv.list_inj (I : Inv X pins σ H s) (h : SqL X.K H a xs) (h' : SqL X.K H a ys) : xs = ys := by
  obtain ⟨its, r, ⟨o, n, e, _, _, d⟩, _⟩ := I.list h
  obtain ⟨its', r', ⟨o', n', e', _, _, d'⟩, _⟩ := I.list h'
  rw [e] at e'; cases e'
  rw [d] at d'
  injection d' with d1 _
  have : its = its' := by simpa using congrArg Array.toList d1
  subst this
  exact r.inj r'
theorem Inv.tuple_inj (I : Inv X pins σ H s) (h : SqT X.K H a xs) (h' : SqT X.K H a ys) : xs = ys := by
  obtain ⟨its, r, ⟨o, e, _, n, d⟩, _⟩ := I.tuple h
  obtain ⟨its', r', ⟨o', e', _, n', d'⟩, _⟩ := I.tuple h'
  rw [e] at e'; cases e'
  rw [d] at d'
  injection d' with d1 _
  have : its = its' := by simpa using congrArg Array.toList d1
  subst this
  exact r.inj r'
end
abbrev Cx.wish (X : Cx) (E : Value -> Shared -> Prop) : Cx := { X with xe := E }
abbrev Cx.nox (X : Cx) : Cx := X.wish fun _ _ => False
theorem Cx.Ok.wish {X : Cx} (ok : X.Ok) (E : Value -> Shared -> Prop) : (X.wish E).Ok :=
  ⟨ok.mod, ok.kind, ok.glob, ok.blt, ok.above, ok.inj, ok.has, ok.cab, ok.hd, ok.frames, ok.stk, ok.exf, ok.bs, ok.bsz, ok.noex, ok.exfs, ok.funs, ok.frf⟩
theorem Cx.Ok.unwish {X : Cx} {E : Value -> Shared -> Prop} (ok : (X.wish E).Ok) : X.Ok :=
  ⟨ok.mod, ok.kind, ok.glob, ok.blt, ok.above, ok.inj, ok.has, ok.cab, ok.hd, ok.frames, ok.stk, ok.exf, ok.bs, ok.bsz, ok.noex, ok.exfs, ok.funs, ok.frf⟩
section
variable {X : Cx} {pins : List (Addr × Obj)} {σ : St} {H : Hp} {s : Shared} {E : Value -> Shared -> Prop}
theorem Inv.wish (I : Inv X pins σ H s) (E : Value -> Shared -> Prop) : Inv (X.wish E) pins σ H s := ⟨I.ok.wish E, I.os, I.bare, I.base, I.loc, I.cell, I.free, I.freeC, I.pin, I.hok, I.len⟩
theorem Inv.unwish (I : Inv (X.wish E) pins σ H s) : Inv X pins σ H s := ⟨I.ok.unwish, I.os, I.bare, I.base, I.loc, I.cell, I.free, I.freeC, I.pin, I.hok, I.len⟩
theorem SP.unwish {D : Ends} {f : Flow} {s' : Shared} (h : SP (X.wish E) pins D f s') : SP X pins D f s' := by
  cases f with
  | next => obtain ⟨σ', H', I, q⟩ := h; exact ⟨σ', H', I.unwish, q⟩
  | brk => obtain ⟨σ', H', I, q⟩ := h; exact ⟨σ', H', I.unwish, q⟩
  | cont => obtain ⟨σ', H', I, q⟩ := h; exact ⟨σ', H', I.unwish, q⟩
  | ret u => obtain ⟨v, σ', H', I, r, q⟩ := h; exact ⟨v, σ', H', I.unwish, r, q⟩
theorem PE.nox {e : Expr} {t : TE} (h : PE X.nox e t) : PE X e t := fun pins s σ H Q I hw =>
  wpAny_mono (h pins s σ H Q (I.wish _) hw) (fun _ _ ⟨v, H', I', r, q⟩ => ⟨v, H', I'.unwish, r, q⟩) fun _ _ z => False.elim z
theorem PT.nox {e : Expr} {t : TT} (h : PT X.nox e t) : PT X e t := fun pins s σ H Q I hw =>
  wpAny_mono (h pins s σ H Q (I.wish _) hw) (fun _ _ ⟨H', I', q⟩ => ⟨H', I'.unwish, q⟩) fun _ _ z => False.elim z
theorem PSs.nox {st : List Stmt} {t : TS} (h : PSs X.nox st t) : PSs X st t := fun pins s σ H D I hw =>
  wpAny_mono (h pins s σ H D (I.wish _) hw) (fun _ _ q => q.unwish) fun _ _ z => False.elim z
end
section
variable {X : Cx} {st : Stmt} {rest : List Stmt} {t u : TS} {e : Expr} {te : TE} {pos : Pos}
def Yw : TS := fun D σ H => D.nx σ H
def tSeq (t u : TS) : TS := fun D σ H => t { D with nx := u D } σ H
theorem Wl : PSs X [] Yw := fun _ _ σ H _ I h => wpAny_execs_nil ⟨σ, H, I, h⟩
theorem Yx (h1 : PS X st t) (h2 : PSs X rest u) : PSs X (st :: rest) (tSeq t u) := by
  intro pins s σ H D I h
  refine wpAny_execs_cons (thn (h1 pins s σ H { D with nx := u D } I h) fun f s1 q => ?_)
  cases f with
  | next =>
    obtain ⟨σ', H', I', q⟩ := q
    exact h2 pins s1 σ' H' D I' q
  | ret v => exact q
  | brk => exact q
  | cont => exact q
theorem Wm (h1 : PS X st t) : PSs X [st] t := by
  intro pins s σ H D I h
  refine wpAny_execs_cons (thn (h1 pins s σ H D I h) fun f s1 q => ?_)
  cases f with
  | next => exact wpAny_execs_nil q
  | ret v => exact q
  | brk => exact q
  | cont => exact q
theorem Inv.quiet {pins : List (Addr × Obj)} {σ : St} {H : Hp} {s : Shared} (I : Inv X pins σ H s) : interactive X.env = false := by simp [interactive, I.ok.kind]
def tDrop (te : TE) : TS := fun D σ H => te σ H fun _ H1 => D.nx σ H1
theorem Wn (he : PE X e te) (hs : swapsWith e none pos.line X.env = pure false := by rfl) : PS X (.Expr e pos) (tDrop te) := by
  intro pins s σ H D I h
  exact wpAny_Expr_any (thn (he pins s σ H _ I h) fun v s1 ⟨x, H1, I1, r1, q1⟩ => ⟨σ, H1, I1, q1⟩) I.quiet hs
def tRet (te : TE) : TS := fun D σ H => te σ H D.rt
theorem V9 (he : PE X e te) : PS X (.Return (some e) pos) (tRet te) := by
  intro pins s σ H D I h
  exact wpAny_Return_some (thn (he pins s σ H _ I h) fun v s1 ⟨x, H1, I1, r1, q1⟩ => ⟨x, σ, H1, I1, r1, q1⟩)
def tIfS (c : TT) (t u : TS) : TS := fun D σ H => c σ H fun b H1 => if b = true then t D σ H1 else u D σ H1
theorem qw {c : Expr} {a b : List Stmt} {tc : TT} (hc : PT X c tc) (ha : PSs X a t) (hb : PSs X b u) : PS X (.If c a b pos) (tIfS tc t u) := by
  intro pins s σ H D I h
  refine wpAny_If (thn (hc pins s σ H _ I h) fun d s1 ⟨H1, I1, q1⟩ => ?_)
  cases d with
  | true => exact ha pins s1 σ H1 D I1 q1
  | false => exact hb pins s1 σ H1 D I1 q1
end
abbrev TG := V -> St -> Hp -> (St -> Hp -> Prop) -> Prop
abbrev TGs := List V -> St -> Hp -> (St -> Hp -> Prop) -> Prop
def PG (X : Cx) (target : Expr) (t : TG) : Prop :=
  ∀ (pins : List (Addr × Obj)) (s : Shared) (σ : St) (H : Hp) (v : V) (u : Value) (Q : St -> Hp -> Prop), Inv X pins σ H s -> RelV v u -> t v σ H Q ->
    wpAny (model X.prog X.w) X.A (assign target X.env u) (fun _ s' => ∃ σ' H', Inv X pins σ' H' s' /\ Q σ' H') X.xe s
def PGs (X : Cx) (ts : List Expr) (t : TGs) : Prop :=
  ∀ (pins : List (Addr × Obj)) (s : Shared) (σ : St) (H : Hp) (vs : List V) (us : List Value) (Q : St -> Hp -> Prop), Inv X pins σ H s -> Vals vs us -> t vs σ H Q ->
    wpAny (model X.prog X.w) X.A (assignInOrder ((assignEach ts X.env).map (·.2)) us) (fun _ s' => ∃ σ' H', Inv X pins σ' H' s' /\ Q σ' H') X.xe s
abbrev TSet := V -> V -> V -> Hp -> (Hp -> Prop) -> Prop
def PSet (X : Cx) (t : TSet) : Prop :=
  ∀ (pins : List (Addr × Obj)) (s : Shared) (σ : St) (H : Hp) (o i v : V) (ov iv u : Value) (Q : Hp -> Prop), Inv X pins σ H s -> RelV o ov -> RelV i iv -> RelV v u -> t o i v H Q ->
    wpAny (model X.prog X.w) X.A (setItem ov iv u) (fun _ s' => ∃ H', Inv X pins σ H' s' /\ Q H') X.xe s
section
variable {X : Cx} {pos : Pos}
def vE (i : Nat) : TG := fun v σ H Q => Q (σ.set i (some v)) H
theorem Wo {i : Nat} {x : Str} (hN : X.N.Nodup) (hi : X.N[i]? = some x) (hx : Loc X.env.scope x) (hf : X.fn x = true \/ X.env.scope.names.lookup x = some .local := by first | exact .inl rfl | exact .inr rfl | assumption) : PG X (.Name x pos) (vE i) := by
  intro pins s σ H v u Q I r h
  exact wpAny_assign_Name (xR I hN hi hx r (fun s' I' => ⟨_, H, I', h⟩) hf)
def gNil : TGs := fun vs σ H Q => vs = [] /\ Q σ H
def Vx (t : TG) (u : TGs) : TGs := fun vs σ H Q => ∃ v r, vs = v :: r /\ t v σ H fun σ' H' => u r σ' H' Q
theorem Wp : PGs X [] gNil := by
  intro pins s σ H vs us Q I r h
  obtain ⟨e, h⟩ := h
  subst e
  cases r
  exact assignInOrder_nil ⟨σ, H, I, h⟩
theorem Yy {e : Expr} {es : List Expr} {t : TG} {u : TGs} (h1 : PG X e t) (h2 : PGs X es u)
    (hs : (assignEach (e :: es) X.env).map (·.2) = assign e X.env :: (assignEach es X.env).map (·.2) := by rfl) : PGs X (e :: es) (Vx t u) := by
  intro pins s σ H vs us Q I r h
  obtain ⟨v, vr, e1, h⟩ := h
  subst e1
  cases r with
  | cons r rr =>
    rw [hs]
    refine assignInOrder_cons (thn (h1 pins s σ H _ _ _ I r h) fun _ s1 ⟨σ1, H1, I1, q1⟩ => ?_)
    exact h2 pins s1 σ1 H1 _ _ Q I1 rr q1
def gTup (K : PySem.W.Frag) (n : Nat) (t : TGs) : TG := fun v σ H Q => ∃ a xs, v = .ref a /\ SqT K H a xs /\ xs.length = n /\ t xs σ H Q
theorem Ja {es : List Expr} {k : Nat} {t : TGs} {n : Nat} (hc : X.calm = true) (h : PGs X es t)
    (hn : (assignEach es X.env).length = n := by rfl) (hst : (assignEach es X.env).findIdx? (·.1) = none := by rfl) : PG X (.Tuple es k pos) (gTup X.K n t) := by
  intro pins s σ H v u Q I r hw
  obtain ⟨a, xs, e1, hq, hl, hw⟩ := hw
  subst e1
  cases r
  obtain ⟨its, rv, ht, hz⟩ := I.tuple hq
  refine assign_Tuple_tuple (I.ok.hd hc) ht (by simp [hn, <- hl, rv.length]) hst fun h' hx => ?_
  have I1 : Inv X pins σ H { s with heap := h' } := I.kept (t' := s.toks) fun b o e => hx b o (Nat.ne_of_lt (Heap.lt_size e)) e
  exact h pins _ σ H xs _ Q I1 (by simpa using rv) hw
def gSub (to ti : TE) (t : TSet) : TG := fun v σ H Q => to σ H fun o H1 => ti σ H1 fun i H2 => t o i v H2 fun H3 => Q σ H3
theorem Jb {o i : Expr} {to ti : TE} {t : TSet} (ho : PE X o to) (hi : PE X i ti) (hs : PSet X t)
    (ha : ∀ v, assign (.Subscript o i pos) X.env v = (do
      let ov <- holding [v] (eval o X.env)
      let iv <- holding [v, ov] (eval i X.env)
      standAt pos
      holding [v, ov, iv] (setItem ov iv v)
      release [v, ov, iv] []) := by intro _; rfl) : PG X (.Subscript o i pos) (gSub to ti t) := by
  intro pins s σ H v u Q I r h
  rw [ha]
  refine wpAny_bind (wpAny_holding (thn (ho pins s σ H _ I h) fun ov s1 ⟨x, H1, I1, r1, q1⟩ => ?_))
  refine wpAny_bind (wpAny_holding (thn (hi pins s1 σ H1 _ I1 q1) fun iv s2 ⟨y, H2, I2, r2, q2⟩ => ?_))
  refine wpAny_bind (wpAny_standAt (wpAny_bind (wpAny_holding (thn (hs pins s2 σ H2 x y v ov iv u _ I2 r1 r2 r q2) fun _ s3 ⟨H3, I3, q3⟩ => ?_))))
  exact wpAny_release ⟨σ, H3, I3, q3⟩
def tAsg (te : TE) (g : TG) : TS := fun D σ H => te σ H fun x H1 => g x σ H1 D.nx
theorem Jc {tg e : Expr} {te : TE} {g : TG} (he : PE X e te) (hg : PG X tg g) (hs : swapsWithSole [tg] e pos.line X.env = pure false := by rfl) (hw : swappedStores [tg] e X.env = pure none := by rfl)
    (h1 : (assignEach [tg] X.env).map (·.2) = [assign tg X.env] := by rfl) : PS X (.Assign [tg] e pos) (tAsg te g) := by
  intro pins s σ H D I h
  refine wpAny_Assign_stores (thn (he pins s σ H _ I h) fun v s1 ⟨x, H1, I1, r1, q1⟩ => ?_) hs hw
  rw [h1]
  exact thn (hg pins s1 σ H1 x v _ I1 r1 q1) fun _ s2 q => q
theorem Jd {i : Nat} {x : Str} {e : Expr} {te : TE} {pos' : Pos} (hN : X.N.Nodup) (hi : X.N[i]? = some x) (hx : Loc X.env.scope x) (he : PE X e te) (hs : swapsWith e (some (.Name x pos')) pos.line X.env = pure false := by rfl) (hf : X.fn x = true \/ X.env.scope.names.lookup x = some .local := by first | exact .inl rfl | exact .inr rfl | assumption) :
    PS X (.Assign [.Name x pos'] e pos) (tAsg te (vE i)) := by
  intro pins s σ H D I h
  refine wpAny_Assign_Name (thn (he pins s σ H _ I h) fun v s1 ⟨y, H1, I1, r1, q1⟩ => ?_) hs
  exact xR I1 hN hi hx r1 (fun s2 I2 => ⟨_, H1, I2, q1⟩) hf
end
section
variable {X : Cx} {pos : Pos}
def wX (c : TT) (tb : TS) : TS := fun D σ H => ∃ W : Nat -> St -> Hp -> Prop, (∃ m, W m σ H) /\ ∀ m σ H, W m σ H ->
  c σ H fun b H1 => if b = true then ∃ N : St -> Hp -> Prop, (∀ σ' H', N σ' H' -> ∃ m', m' < m /\ W m' σ' H') /\ tb { D with nx := N, ct := N, bk := D.nx } σ H1 else D.nx σ H1
theorem Yz {c : Expr} {body : List Stmt} {tc : TT} {tb : TS} (hp : PassesOwn (model X.prog X.w) X.A X.env X.xe) (hc : PT X c tc) (hb : PSs X body tb) : PS X (.While c body [] pos) (wX tc tb) := by
  intro pins s σ H D I h
  obtain ⟨W, ⟨m0, w0⟩, turn⟩ := h
  refine wpAny_While (codeAny_whileLoop (fun n s' => ∃ σ' H', Inv X pins σ' H' s' /\ W n σ' H') ?_ m0 ⟨σ, H, I, w0⟩)
  rintro n s1 ⟨σ1, H1, I1, w1⟩
  refine wpAny_passesOwn hp (thn (hc pins s1 σ1 H1 _ I1 (turn n σ1 H1 w1)) fun b s2 ⟨H2, I2, q2⟩ => ?_)
  cases b with
  | true =>
    obtain ⟨N, hN, q2⟩ := q2
    rw [if_pos rfl]
    refine wpAny_passesOwn hp (thn (hb pins s2 σ1 H2 _ I2 q2) fun f s3 q3 => ?_)
    cases f with
    | next =>
      obtain ⟨σ3, H3, I3, n3⟩ := q3
      obtain ⟨m', hm, w3⟩ := hN σ3 H3 n3
      exact ⟨m', hm, σ3, H3, I3, w3⟩
    | cont =>
      obtain ⟨σ3, H3, I3, n3⟩ := q3
      obtain ⟨m', hm, w3⟩ := hN σ3 H3 n3
      exact ⟨m', hm, σ3, H3, I3, w3⟩
    | brk => exact q3
    | ret v => exact q3
  | false =>
    rw [if_neg Bool.false_ne_true]
    exact wpAny_execs_nil ⟨σ1, H2, I2, q2⟩
end
structure It where
  go : Nat -> Hp -> Prop
  yld : Nat -> Hp -> V -> Hp -> Prop
  stop : Nat -> Hp -> Prop
def FpOk (X : Cx) (pins : List (Addr × Obj)) (H : Hp) (b : Addr) : Prop :=
  H b = none /\ b ≠ X.env.locals /\ b ∉ X.fs /\ (b ∈ X.ex \/ X.s₀.heap.objs.size <= b) /\ (∀ x c, X.env.cells.lookup x = some c -> c ≠ b) /\ ∀ p ∈ X.pn ++ pins, p.1 ≠ b
theorem Inv.fpOk {X : Cx} {pins : List (Addr × Obj)} {σ : St} {H H' : Hp} {s : Shared} {b : Addr} (I : Inv X pins σ H s) (hb : s.heap.objs.size <= b) (hn : H' b = none) : FpOk X pins H' b := by
  refine ⟨hn, Nat.ne_of_gt (Nat.lt_of_lt_of_le I.lt hb), I.nofs hb, .inr (Nat.le_trans I.sz hb), fun x c e z => ?_, fun p hp z => ?_⟩
  · obtain ⟨v, q⟩ := I.cell x c e
    exact absurd (Nat.lt_of_lt_of_le q.lt (by rw [z]; exact hb)) (Nat.lt_irrefl _)
  · exact absurd (Nat.lt_of_lt_of_le (Heap.lt_size (I.pin p hp).1) (by rw [z]; exact hb)) (Nat.lt_irrefl _)
structure Turn (P : Program) (w : World) (K : PySem.W.Frag) (tg : Expr) (J : It) (fp : List Addr) (it : Addr) (tn : Nat -> Heap -> Prop) : Prop where
  mem : it ∈ fp
  obj : ∀ i h, tn i h -> ∀ b ∈ fp, ∃ o, h.get? b = some o /\ ∀ v, o.data ≠ .cell v
  keep : ∀ i h h', tn i h -> (∀ b ∈ fp, ∀ o, h.get? b = some o -> h'.get? b = some o) -> tn i h'
  item : ∀ (X : Cx), X.prog = P -> X.w = w -> X.K = K -> X.calm = true -> ∀ (i : Nat) (pins : List (Addr × Obj)) (s : Shared) (σ : St) (H : Hp) (E : Value -> Shared -> Prop), Inv X pins σ H s -> (∀ b ∈ fp, FpOk X pins H b) -> tn i s.heap -> J.go i H ->
    wpAny (model P w) X.A (pyNext (.ref it)) (fun r s1 => ∃ u, r = some u /\
      wpAny (model P w) X.A (letOwnedTupleGo tg (.ref it) u) (fun _ s2 => ∃ x H', Inv X pins σ H' s2 /\ RelV x u /\ J.yld i H x H' /\ tn (i + 1) s2.heap /\ ∀ b ∈ fp, H' b = none) E s1) E s
  done : ∀ (X : Cx), X.prog = P -> X.w = w -> X.K = K -> X.calm = true -> ∀ (i : Nat) (pins : List (Addr × Obj)) (s : Shared) (σ : St) (H : Hp) (E : Value -> Shared -> Prop), Inv X pins σ H s -> (∀ b ∈ fp, FpOk X pins H b) -> tn i s.heap -> J.stop i H ->
    wpAny (model P w) X.A (pyNext (.ref it)) (fun r s1 => r = none /\ Inv X pins σ H s1) E s
  self : ∀ (A : Around) (i : Nat) (s : Shared) (Q : Value -> Shared -> Prop) (E : Value -> Shared -> Prop), tn i s.heap -> Q (.ref it) s -> wpAny (model P w) A (pyIter (.ref it)) Q E s
abbrev TI := St -> Hp -> (It -> Hp -> Prop) -> Prop
def PIE (X : Cx) (pins : List (Addr × Obj)) (σ : St) (tg : Expr) (R : It -> Hp -> Prop) (itv : Value) (s2 : Shared) : Prop :=
  ∃ (it : Addr) (fp : List Addr) (tn : Nat -> Heap -> Prop) (J : It) (H' : Hp), itv = .ref it /\ Inv X pins σ H' s2 /\ Turn X.prog X.w X.K tg J fp it tn /\ tn 0 s2.heap /\ (∀ b ∈ fp, FpOk X pins H' b) /\ R J H'
def PI (X : Cx) (tg iter : Expr) (wi : TI) : Prop :=
  ∀ (pins : List (Addr × Obj)) (s : Shared) (σ : St) (H : Hp) (R : It -> Hp -> Prop), Inv X pins σ H s -> wi σ H R ->
    wpAny (model X.prog X.w) X.A (eval iter X.env) (fun v s1 => wpAny (model X.prog X.w) X.A (pyIter v) (PIE X pins σ tg R) X.xe s1) X.xe s
theorem wz {M : Model} {A : Around} {E : Value -> Shared -> Prop} {s : Shared} {tg : Expr} {it : Addr} {u : Value} {o : Obj} {n : String} {vs : Array Value} {Q : Unit -> Shared -> Prop} (ho : s.heap.get? it = some o) (hc : o.cls = .type n) (hd : o.data = .fields vs)
    (hn : ["enumerate", "zip", "dict_itemiterator", "dict_reverseitemiterator", "odict_iterator", "itertools.zip_longest", "itertools.pairwise"].contains n = false) (hQ : Q () s) : wpAny M A (letOwnedTupleGo tg (.ref it) u) Q E s := by
  unfold letOwnedTupleGo
  cases tg <;> first
    | exact wpAny_pure hQ
    | (cases u <;> first
        | exact wpAny_pure hQ
        | (refine wpAny_bind (wpAny_load ho ?_)
           rw [hc, hd]
           show wpAny M A (if (["enumerate", "zip", "dict_itemiterator", "dict_reverseitemiterator", "odict_iterator", "itertools.zip_longest", "itertools.pairwise"].contains n && vs[0]? == some (rawInt _)) = true then _ else _) Q E s
           rw [if_neg (by intro h; rw [hn, Bool.false_and] at h; cases h)]
           exact wpAny_pure hQ))
def Itl (K : PySem.W.Frag) (a : Addr) : It :=
  ⟨fun i H => ∃ xs x, SqL K H a xs /\ xs[i]? = some x, fun i H x H' => H' = H /\ ∀ xs, SqL K H a xs -> xs[i]? = some x, fun i H => ∃ xs, SqL K H a xs /\ xs.length <= i⟩
def Itt (K : PySem.W.Frag) (a : Addr) : It :=
  ⟨fun i H => ∃ xs x, SqT K H a xs /\ xs[i]? = some x, fun i H x H' => H' = H /\ ∀ xs, SqT K H a xs -> xs[i]? = some x, fun i H => ∃ xs, SqT K H a xs /\ xs.length <= i⟩
def Itr (lo : Int) (n : Nat) : It := ⟨fun i _ => i < n, fun i H x H' => H' = H /\ x = .int (lo + i), fun i _ => n <= i⟩
theorem ZR {P : Program} {w : World} {K : PySem.W.Frag} {tg : Expr} (a it : Addr) : Turn P w K tg (Itl K a) [it] it (fun i h => h.IsListIter it a i) where
  mem := by simp
  obj := fun i h st b hb => by
    have e : b = it := by simpa using hb
    subst e
    obtain ⟨o, e, c, d⟩ := st
    exact ⟨o, e, fun v z => by rw [d] at z; cases z⟩
  keep := fun i h h' st k => st.at fun o e => k it (by simp) o e
  item := by
    intro X hP hw hK hc i pins s σ H E I hf st hg
    subst hP hw hK
    obtain ⟨xs, x, hq, hx⟩ := hg
    obtain ⟨its, rv, p, hz⟩ := I.list hq
    obtain ⟨u, hu, ru⟩ := rv.get hx
    obtain ⟨f0, f1, f2, f3, f4, f5⟩ := hf it (by simp)
    refine wpAny_pyNext_list_item st p.isList (x := u) (by simpa using hu) fun h' st' sb => ?_
    have I1 : Inv X pins σ H { s with heap := h' } := I.turned (t' := s.toks) (fun b o hb e => (sb.2 b hb).trans e) f0 f1 f3 f4 f5
    obtain ⟨o, e, c, d⟩ := id st'
    exact ⟨u, rfl, wz (s := { s with heap := h' }) e c d (by decide) ⟨x, H, I1, ru, ⟨rfl, fun ys hy => by rw [I.list_inj hy hq]; exact hx⟩, st', fun b hb => (hf b hb).1⟩⟩
  done := by
    intro X hP hw hK hc i pins s σ H E I hf st hg
    subst hP hw hK
    obtain ⟨xs, hq, hx⟩ := hg
    obtain ⟨its, rv, p, hz⟩ := I.list hq
    obtain ⟨f0, f1, f2, f3, f4, f5⟩ := hf it (by simp)
    have hl := rv.length
    exact wpAny_pyNext_list_end (I.ok.hd hc) st p.isList (by simp; omega) fun h' eb => ⟨rfl, I.turned (t' := s.toks) (fun b o hb e => eb b o hb e) f0 f1 f3 f4 f5⟩
  self := fun _ _ _ _ _ st h => wpAny_pyIter_listiter st h
theorem ja {P : Program} {w : World} {K : PySem.W.Frag} {tg : Expr} (a it : Addr) : Turn P w K tg (Itt K a) [it] it (fun i h => h.IsTupleIter it a i) where
  mem := by simp
  obj := fun i h st b hb => by
    have e : b = it := by simpa using hb
    subst e
    obtain ⟨o, e, c, d⟩ := st
    exact ⟨o, e, fun v z => by rw [d] at z; cases z⟩
  keep := fun i h h' st k => st.at fun o e => k it (by simp) o e
  item := by
    intro X hP hw hK hc i pins s σ H E I hf st hg
    subst hP hw hK
    obtain ⟨xs, x, hq, hx⟩ := hg
    obtain ⟨its, rv, p, hz⟩ := I.tuple hq
    obtain ⟨u, hu, ru⟩ := rv.get hx
    obtain ⟨f0, f1, f2, f3, f4, f5⟩ := hf it (by simp)
    refine wpAny_pyNext_tuple_item st (show s.heap.IsTuple a its.toArray from p) (x := u) (by simpa using hu) fun h' st' sb => ?_
    have I1 : Inv X pins σ H { s with heap := h' } := I.turned (t' := s.toks) (fun b o hb e => (sb.2 b hb).trans e) f0 f1 f3 f4 f5
    obtain ⟨o, e, c, d⟩ := id st'
    exact ⟨u, rfl, wz (s := { s with heap := h' }) e c d (by decide) ⟨x, H, I1, ru, ⟨rfl, fun ys hy => by rw [I.tuple_inj hy hq]; exact hx⟩, st', fun b hb => (hf b hb).1⟩⟩
  done := by
    intro X hP hw hK hc i pins s σ H E I hf st hg
    subst hP hw hK
    obtain ⟨xs, hq, hx⟩ := hg
    obtain ⟨its, rv, p, hz⟩ := I.tuple hq
    obtain ⟨f0, f1, f2, f3, f4, f5⟩ := hf it (by simp)
    have hl := rv.length
    exact wpAny_pyNext_tuple_end (I.ok.hd hc) st (show s.heap.IsTuple a its.toArray from p) (by simp; omega) fun h' eb => ⟨rfl, I.turned (t' := s.toks) (fun b o hb e => eb b o hb e) f0 f1 f3 f4 f5⟩
  self := fun _ _ _ _ _ st h => wpAny_pyIter_tupleiter st h
theorem jb {P : Program} {w : World} {K : PySem.W.Frag} {tg : Expr} (it : Addr) (lo : Int) (n : Nat) : Turn P w K tg (Itr lo n) [it] it (fun i h => IsRangeIter h it (lo + (i : Nat) * 1) ((n : Int) - (i : Nat)) 1) where
  mem := by simp
  obj := fun i h st b hb => by
    have e : b = it := by simpa using hb
    subst e
    exact ⟨_, st, fun v z => by
      have z' : Data.fields _ = Data.cell v := z
      cases z'⟩
  keep := fun i h h' st k => k it (by simp) _ st
  item := by
    intro X hP hw hK hc i pins s σ H E I hf st hg
    subst hP hw hK
    obtain ⟨f0, f1, f2, f3, f4, f5⟩ := hf it (by simp)
    have W := Walks.range (prog := X.prog) (w := X.w) (I.ok.hd hc) it lo 1 n
    refine W.item i s _ _ hg st fun v h' tk hv st' kk => ?_
    obtain ⟨t, rfl⟩ := hv
    have I1 : Inv X pins σ H { s with heap := h', toks := tk } := I.turned (fun b o hb e => kk b o (by simpa using hb) e) f0 f1 f3 f4 f5
    refine ⟨_, rfl, wz (s := { s with heap := h', toks := tk }) (n := "range_iterator") st' rfl rfl (by decide) ⟨.int (lo + i), H, I1, ⟨t, ?_⟩, ⟨rfl, rfl⟩, st', fun b hb => (hf b hb).1⟩⟩
    rw [Int.mul_one]
  done := by
    intro X hP hw hK hc i pins s σ H E I hf st hg
    subst hP hw hK
    obtain ⟨f0, f1, f2, f3, f4, f5⟩ := hf it (by simp)
    exact wpAny_pyNext_range_end (I.ok.hd hc) st (by have : n <= i := hg; omega) fun h' eb => ⟨rfl, I.turned (t' := s.toks) (fun b o hb e => eb b o hb e) f0 f1 f3 f4 f5⟩
  self := fun _ _ _ _ _ st h => wpAny_pyIter_rangeiter st h
end L2
namespace L2
open PySem PySem.Spec PyProof.Rows
section
variable {X : Cx} {tg : Expr}
def jY (K : PySem.W.Frag) (tl : TE) : TI := fun σ H R => tl σ H fun x H1 => ∃ a, x = .ref a /\ (∃ xs, SqL K H1 a xs) /\ R (Itl K a) H1
def iTup (K : PySem.W.Frag) (tl : TE) : TI := fun σ H R => tl σ H fun x H1 => ∃ a, x = .ref a /\ (∃ xs, SqT K H1 a xs) /\ R (Itt K a) H1
theorem Wq {l : Expr} {tl : TE} (hl : PE X l tl) : PI X tg l (jY X.K tl) := by
  intro pins s σ H R I h
  refine thn (hl pins s σ H _ I h) fun v s1 ⟨x, H1, I1, r1, q1⟩ => ?_
  obtain ⟨a, e, ⟨xs, hq⟩, q⟩ := q1
  subst e
  cases r1
  obtain ⟨its, rv, p, hz⟩ := I1.list hq
  refine wpAny_pyIter_list p.isList ?_
  refine ⟨s1.heap.objs.size, [s1.heap.objs.size], _, _, H1, rfl, I1.kept (t' := s1.toks) fun b o e => Heap.get?_push_of_some _ e, ZR a _, ⟨_, Heap.get?_push_size _ rfl, rfl, rfl⟩, fun b hb => ?_, q⟩
  have e : b = s1.heap.objs.size := by simpa using hb
  subst e
  exact I1.fpOk (Nat.le_refl _) (I1.hok.fresh (Nat.le_refl _))
theorem Je {l : Expr} {tl : TE} (hl : PE X l tl) : PI X tg l (iTup X.K tl) := by
  intro pins s σ H R I h
  refine thn (hl pins s σ H _ I h) fun v s1 ⟨x, H1, I1, r1, q1⟩ => ?_
  obtain ⟨a, e, ⟨xs, hq⟩, q⟩ := q1
  subst e
  cases r1
  obtain ⟨its, rv, p, hz⟩ := I1.tuple hq
  refine wpAny_pyIter_tuple (show s1.heap.IsTuple a its.toArray from p) ?_
  refine ⟨s1.heap.objs.size, [s1.heap.objs.size], _, _, H1, rfl, I1.kept (t' := s1.toks) fun b o e => Heap.get?_push_of_some _ e, ja a _, ⟨_, Heap.get?_push_size _ rfl, rfl, rfl⟩, fun b hb => ?_, q⟩
  have e : b = s1.heap.objs.size := by simpa using hb
  subst e
  exact I1.fpOk (Nat.le_refl _) (I1.hok.fresh (Nat.le_refl _))
theorem YA {pins : List (Addr × Obj)} {σ : St} {H : Hp} {s : Shared} {R : It -> Hp -> Prop} {E : Value -> Shared -> Prop} {lo hi : Int} {t u v : Tok} {tk : Nat} (I : Inv X pins σ H s) (h1 : -(2 ^ 62) <= lo) (h2 : lo < 2 ^ 62) (h3 : -(2 ^ 62) <= hi) (h4 : hi < 2 ^ 62)
    (q : R (Itr lo (hi - lo).toNat) H) : wpAny (model X.prog X.w) X.A (pyIter (.ref s.heap.objs.size)) (PIE X pins σ tg R) E { s with heap := s.heap.push { cls := .type "range", data := .fields #[.int lo t, .int hi u, .int 1 v] }, toks := tk } := by
  refine wpAny_pyIter_range (IsRange.new ..) (small_one h1 h2 h3 h4) ?_
  have I1 : Inv X pins σ H { s with heap := s.heap.push { cls := .type "range", data := .fields #[.int lo t, .int hi u, .int 1 v] }, toks := tk } := I.kept fun b o e => Heap.get?_push_of_some _ e
  refine ⟨(s.heap.push { cls := .type "range", data := .fields #[.int lo t, .int hi u, .int 1 v] }).objs.size, [(s.heap.push { cls := .type "range", data := .fields #[.int lo t, .int hi u, .int 1 v] }).objs.size], _, _, H, rfl,
    I1.kept (t' := tk) fun b o e => Heap.get?_push_of_some _ e, jb _ lo (hi - lo).toNat, ?_, fun b hb => ?_, q⟩
  · have e1 : lo + ((0 : Nat) : Int) * 1 = lo := by simp
    have e2 : (((hi - lo).toNat : Nat) : Int) - ((0 : Nat) : Int) = Builtin.Range.rangeSize lo hi 1 := by rw [rangeSize_one]; split <;> omega
    show IsRangeIter _ _ (lo + ((0 : Nat) : Int) * 1) ((((hi - lo).toNat : Nat) : Int) - ((0 : Nat) : Int)) 1
    rw [e1, e2]
    exact Heap.get?_push_size _ rfl
  · have e : b = (s.heap.push { cls := .type "range", data := .fields #[.int lo t, .int hi u, .int 1 v] }).objs.size := by simpa using hb
    subst e
    exact I1.fpOk (Nat.le_refl _) (I1.hok.fresh (Nat.le_refl _))
def Vy (ta : TA) : TI := fun σ H R => ta σ H fun vs H1 => ∃ j : Int, vs = [.int j] /\ -(2 ^ 62) <= j /\ j < 2 ^ 62 /\ R (Itr 0 j.toNat) H1
theorem ZT {a : Expr} {ta : TA} {p pos : Pos} (hg : Gl X "range") (hm : X.mg "range" = none) (ha : PA X [a] ta) (hs : starEach [a] X.env = [(false, eval a X.env)] := by rfl) : PI X tg (.Call (.Name "range" p) [a] [] pos) (Vy ta) := by
  intro pins s σ H R I h
  refine Call_ (yN I hg hm boot_range (PyProof.Rows.callWith_type1 (thn (ha pos pins s σ H _ I h) fun us s1 ⟨vs, H1, I1, r1, q1⟩ => ?_) hs rfl))
  obtain ⟨j, e, q1, q2, q⟩ := q1
  subst e
  cases r1 with
  | cons r rr =>
    cases rr
    obtain ⟨t, rfl⟩ := r
    exact call_range_1 (YA I1 (by omega) (by omega) q1 q2 (by simpa using q))
def tFor (wi : TI) (g : TG) (tb : TS) : TS := fun D σ H => wi σ H fun J H1 => ∃ W : Nat -> Nat -> St -> Hp -> Prop, (∃ m, W 0 m σ H1) /\ ∀ i m σ H, W i m σ H ->
  (J.stop i H /\ D.nx σ H) \/ (J.go i H /\ ∃ N : St -> Hp -> Prop, (∀ σ' H', N σ' H' -> ∃ m', m' < m /\ W (i + 1) m' σ' H') /\ ∀ x H', J.yld i H x H' -> g x σ H' fun σ2 H2 => tb { D with nx := N, ct := N, bk := D.nx } σ2 H2)
def xq (fp : List Addr) (h : Heap) : List (Addr × Obj) := fp.filterMap fun b => (h.get? b).map fun o => (b, o)
theorem yH {fp : List Addr} {h : Heap} {b : Addr} {o : Obj} (hb : b ∈ fp) (e : h.get? b = some o) : (b, o) ∈ xq fp h := List.mem_filterMap.mpr ⟨b, hb, by rw [e]; rfl⟩
theorem ZU {fp : List Addr} {h : Heap} {p : Addr × Obj} (hp : p ∈ xq fp h) : p.1 ∈ fp /\ h.get? p.1 = some p.2 := by
  obtain ⟨b, hb, e⟩ := List.mem_filterMap.mp hp
  cases q : h.get? b with
  | none => rw [q] at e; cases e
  | some o =>
    rw [q] at e
    have e' : (b, o) = p := Option.some.inj e
    subst e'
    exact ⟨hb, q⟩
theorem Inv.pinned {pins : List (Addr × Obj)} {σ : St} {H : Hp} {s : Shared} {fp : List Addr} (I : Inv X pins σ H s) (hf : ∀ b ∈ fp, FpOk X pins H b) (ho : ∀ b ∈ fp, ∃ o, s.heap.get? b = some o /\ ∀ v, o.data ≠ .cell v) : Inv X (pins ++ xq fp s.heap) σ H s :=
  I.pins_of fun p hp => (List.mem_append.mp hp).elim (fun z => I.pin p (List.mem_append_right _ z)) fun z => by
    obtain ⟨hb, e⟩ := ZU z
    obtain ⟨f0, f1, f2, _⟩ := hf p.1 hb
    obtain ⟨o, e', d⟩ := ho p.1 hb
    rw [e] at e'; cases e'
    exact ⟨e, f0, f1, f2, d⟩
theorem Inv.unpinned {pins pl : List (Addr × Obj)} {σ : St} {H : Hp} {s : Shared} (I : Inv X (pins ++ pl) σ H s) : Inv X pins σ H s := I.pins_of fun p hp => I.pin p (List.mem_append_right _ (List.mem_append_left _ hp))
theorem Jf {iter : Expr} {body : List Stmt} {wi : TI} {g : TG} {tb : TS} {pos : Pos} (hp : PassesOwn (model X.prog X.w) X.A X.env X.xe) (hc : X.calm = true) (hi : PI X tg iter wi) (hg : PG X tg g) (hb : PSs X body tb)
    (hs : ∀ x, foldedSetIterable iter X.env x = pure x := by intro _; rfl) : PS X (.For tg iter body [] pos) (tFor wi g tb) := by
  intro pins s σ H D I h
  refine wpAny_For (thn (hi pins s σ H _ I h) fun v s1 h1 => thn h1 fun itv s2 h2 => ?_) hs
  obtain ⟨it, fp, tn, J, H2, e, I2, T, st2, f2, W, ⟨m0, w0⟩, turn⟩ := h2
  subst e
  have stat : ∀ {H' : Hp}, (∀ b ∈ fp, H' b = none) -> ∀ b ∈ fp, FpOk X pins H' b := fun hn b hb => ⟨hn b hb, (f2 b hb).2⟩
  refine codeAny_forLoop_any (fun n s' => ∃ i σ' H', Inv X pins σ' H' s' /\ tn i s'.heap /\ (∀ b ∈ fp, H' b = none) /\ W i n σ' H') ?_ m0 ⟨0, σ, H2, I2, st2, fun b hb => (f2 b hb).1, w0⟩
  rintro n s3 ⟨i, σ3, H3, I3, st3, fr3, w3⟩
  rcases turn i n σ3 H3 w3 with ⟨stop, qn⟩ | ⟨go, N, hN, step⟩
  · refine wpAny_passesOwn hp (thn (T.done X rfl rfl rfl hc i pins s3 σ3 H3 X.xe I3 (stat fr3) st3 stop) fun r s4 ⟨hr, I4⟩ => ?_)
    subst hr
    exact wpAny_execs_nil ⟨σ3, H3, I4, qn⟩
  · refine wpAny_passesOwn hp (thn (T.item X rfl rfl rfl hc i pins s3 σ3 H3 X.xe I3 (stat fr3) st3 go) fun r s4 ⟨u, hr, h4⟩ => ?_)
    subst hr
    refine wpAny_passesOwn hp (thn h4 fun _ s5 ⟨x, H5, I5, r5, y5, st5, fr5⟩ => ?_)
    have I5' := I5.pinned (stat fr5) (T.obj _ _ st5)
    refine wpAny_passesOwn hp (thn (hg _ s5 σ3 H5 x u _ I5' r5 (step x H5 y5)) fun _ s6 ⟨σ6, H6, I6, q6⟩ => ?_)
    refine wpAny_passesOwn hp (thn (hb _ s6 σ6 H6 _ I6 q6) fun f s7 q7 => ?_)
    have again : ∀ {σ7 : St} {H7 : Hp}, Inv X (pins ++ xq fp s5.heap) σ7 H7 s7 -> N σ7 H7 -> ∃ m, m < n /\ ∃ i σ' H', Inv X pins σ' H' s7 /\ tn i s7.heap /\ (∀ b ∈ fp, H' b = none) /\ W i m σ' H' := fun {σ7 H7} I7 n7 => by
      obtain ⟨m', hm, w7⟩ := hN σ7 H7 n7
      refine ⟨m', hm, i + 1, σ7, H7, I7.unpinned, T.keep _ _ _ st5 fun b hb o e => (I7.pin (b, o) (List.mem_append_right _ (List.mem_append_right _ (yH hb e)))).1, fun b hb => ?_, w7⟩
      obtain ⟨o, e, d⟩ := T.obj _ _ st5 b hb
      exact (I7.pin (b, o) (List.mem_append_right _ (List.mem_append_right _ (yH hb e)))).2.1
    cases f with
    | next => obtain ⟨σ7, H7, I7, n7⟩ := q7; exact again I7 n7
    | cont => obtain ⟨σ7, H7, I7, n7⟩ := q7; exact again I7 n7
    | brk => obtain ⟨σ7, H7, I7, q7⟩ := q7; exact ⟨σ7, H7, I7.unpinned, q7⟩
    | ret v => obtain ⟨x7, σ7, H7, I7, r7, q7⟩ := q7; exact ⟨x7, σ7, H7, I7.unpinned, r7, q7⟩
end
theorem wY {K : PySem.W.Frag} {a : Addr} {xs : List V} {g : TG} {tb : TS} {D : Ends} {σ : St} {H : Hp} (Pv : Nat -> St -> Hp -> Prop) (h0 : Pv 0 σ H) (hl : ∀ i σ H, i <= xs.length -> Pv i σ H -> SqT K H a xs)
    (hs : ∀ i x σ H, xs[i]? = some x -> Pv i σ H -> g x σ H fun σ2 H2 => tb { D with nx := Pv (i + 1), ct := Pv (i + 1), bk := D.nx } σ2 H2) (hd : ∀ σ H, Pv xs.length σ H -> D.nx σ H) :
    ∃ W : Nat -> Nat -> St -> Hp -> Prop, (∃ m, W 0 m σ H) /\ ∀ i m σ H, W i m σ H ->
      ((Itt K a).stop i H /\ D.nx σ H) \/ ((Itt K a).go i H /\ ∃ N : St -> Hp -> Prop, (∀ σ' H', N σ' H' -> ∃ m', m' < m /\ W (i + 1) m' σ' H') /\ ∀ x H', (Itt K a).yld i H x H' -> g x σ H' fun σ2 H2 => tb { D with nx := N, ct := N, bk := D.nx } σ2 H2) := by
  refine ⟨fun i m σ H => m = xs.length - i /\ i <= xs.length /\ Pv i σ H, ⟨xs.length, by simp, Nat.zero_le _, h0⟩, ?_⟩
  rintro i m σ H ⟨rfl, hi, p⟩
  have q := hl i σ H hi p
  by_cases hlt : i < xs.length
  · refine .inr ⟨⟨xs, xs[i], q, by simp [hlt]⟩, Pv (i + 1), fun σ' H' p' => ⟨xs.length - (i + 1), by omega, rfl, hlt, p'⟩, fun x H' y => ?_⟩
    obtain ⟨e, y⟩ := y
    subst e
    exact hs i x σ _ (y xs q) p
  · have e : i = xs.length := by omega
    subst e
    exact .inl ⟨⟨xs, q, Nat.le_refl _⟩, hd σ H p⟩
theorem wA {lo : Int} {n : Nat} {g : TG} {tb : TS} {D : Ends} {σ : St} {H : Hp} (Pv : Nat -> St -> Hp -> Prop) (h0 : Pv 0 σ H)
    (hs : ∀ i σ H, i < n -> Pv i σ H -> g (.int (lo + i)) σ H fun σ2 H2 => tb { D with nx := Pv (i + 1), ct := Pv (i + 1), bk := D.nx } σ2 H2) (hd : ∀ σ H, Pv n σ H -> D.nx σ H) :
    ∃ W : Nat -> Nat -> St -> Hp -> Prop, (∃ m, W 0 m σ H) /\ ∀ i m σ H, W i m σ H ->
      ((Itr lo n).stop i H /\ D.nx σ H) \/ ((Itr lo n).go i H /\ ∃ N : St -> Hp -> Prop, (∀ σ' H', N σ' H' -> ∃ m', m' < m /\ W (i + 1) m' σ' H') /\ ∀ x H', (Itr lo n).yld i H x H' -> g x σ H' fun σ2 H2 => tb { D with nx := N, ct := N, bk := D.nx } σ2 H2) := by
  refine ⟨fun i m σ H => m = n - i /\ i <= n /\ Pv i σ H, ⟨n, by simp, Nat.zero_le _, h0⟩, ?_⟩
  rintro i m σ H ⟨rfl, hi, p⟩
  by_cases hlt : i < n
  · refine .inr ⟨hlt, Pv (i + 1), fun σ' H' p' => ⟨n - (i + 1), by omega, rfl, hlt, p'⟩, fun x H' y => ?_⟩
    obtain ⟨e, y⟩ := y
    subst e y
    exact hs i σ _ hlt p
  · have e : i = n := by omega
    subst e
    exact .inl ⟨Nat.le_refl _, hd σ H p⟩
end L2
namespace L2
open PySem PySem.Spec PyProof.Rows
abbrev R2 := V -> V -> Hp -> VK -> Prop
def OpR (X : Cx) (f : Value -> Value -> Sem Value) (r : R2) : Prop :=
  ∀ (pins : List (Addr × Obj)) (s : Shared) (σ : St) (H : Hp) (x y : V) (v u : Value) (Q : VK), Inv X pins σ H s -> RelV x v -> RelV y u -> r x y H Q ->
    wpAny (model X.prog X.w) X.A (f v u) (EP X pins σ Q) X.xe s
def UnR (X : Cx) (f : Value -> Sem Value) (r : V -> Hp -> VK -> Prop) : Prop :=
  ∀ (pins : List (Addr × Obj)) (s : Shared) (σ : St) (H : Hp) (x : V) (v : Value) (Q : VK), Inv X pins σ H s -> RelV x v -> r x H Q ->
    wpAny (model X.prog X.w) X.A (f v) (EP X pins σ Q) X.xe s
def CallR (X : Cx) (f : Value) (r : List V -> Hp -> VK -> Prop) : Prop :=
  ∀ (pins : List (Addr × Obj)) (s : Shared) (σ : St) (H : Hp) (xs : List V) (us : List Value) (Q : VK), Inv X pins σ H s -> Vals xs us -> r xs H Q ->
    wpAny (model X.prog X.w) X.A (call f us) (EP X pins σ Q) X.xe s
def tOp (r : R2) (ta tb : TE) : TE := fun σ H Q => ta σ H fun x H1 => tb σ H1 fun y H2 => r x y H2 Q
def tUn (r : V -> Hp -> VK -> Prop) (ta : TE) : TE := fun σ H Q => ta σ H fun x H1 => r x H1 Q
def rI (C : Int -> Int -> Prop) (g : Int -> Int -> V) : R2 := fun x y H Q => ∃ i j, x = .int i /\ y = .int j /\ C i j /\ Q (g i j) H
def rI0 (g : Int -> Int -> V) : R2 := fun x y H Q => ∃ i j, x = .int i /\ y = .int j /\ Q (g i j) H
def rU (g : Int -> V) : V -> Hp -> VK -> Prop := fun x H Q => ∃ i, x = .int i /\ Q (g i) H
section
variable {X : Cx} {a b c : Expr} {ta tb tc : TE} {pos : Pos}
theorem binT (ha : PE X a ta) (hb : PE X b tb) {pins : List (Addr × Obj)} {s : Shared} {σ : St} {H : Hp} {R : V -> V -> Hp -> Prop} (I : Inv X pins σ H s)
    (h : ta σ H fun x H1 => tb σ H1 fun y H2 => R x y H2) {Q : Value -> Shared -> Prop} {f : Value -> Value -> Sem Value}
    (hf : ∀ v u s2 x y H2, Inv X pins σ H2 s2 -> RelV x v -> RelV y u -> R x y H2 -> wpAny (model X.prog X.w) X.A (f v u) Q X.xe s2) :
    wpAny (model X.prog X.w) X.A (eval a X.env) (fun v s₁ => wpAny (model X.prog X.w) X.A (eval b X.env) (fun u s₂ => wpAny (model X.prog X.w) X.A (f v u) Q X.xe s₂) X.xe s₁) X.xe s := by
  refine thn (ha pins s σ H _ I h) fun v s1 ⟨x, H1, I1, r1, q1⟩ => ?_
  refine thn (hb pins s1 σ H1 _ I1 q1) fun u s2 ⟨y, H2, I2, r2, q2⟩ => ?_
  exact hf v u s2 x y H2 I2 r1 r2 q2
theorem qx {op : Operator} {r : R2} (ho : OpR X (binaryOp op) r) (ha : PE X a ta) (hb : PE X b tb) : PE X (.BinOp a op b pos) (tOp r ta tb) := by
  intro pins s σ H Q I h
  exact wpAny_BinOp (binT ha hb I h fun v u s2 x y H2 I2 rx ry q => ho pins s2 σ H2 x y v u Q I2 rx ry q)
theorem qy {op : UnaryOp} {r : V -> Hp -> VK -> Prop} (ho : UnR X (unaryOp op) r) (ha : PE X a ta) : PE X (.UnaryOp op a pos) (tUn r ta) := by
  intro pins s σ H Q I h
  exact UnaryOp_ (thn (ha pins s σ H _ I h) fun v s1 ⟨x, H1, I1, r1, q1⟩ => ho pins s1 σ H1 x v Q I1 r1 q1)
theorem opI {f : Value -> Value -> Sem Value} {C : Int -> Int -> Prop} {g : Int -> Int -> Int}
    (rule : ∀ (i j : Int) (t u : Tok) (s : Shared) (Q : Value -> Shared -> Prop) (E : Value -> Shared -> Prop), C i j -> Q (.int (g i j) s.toks) { s with toks := s.toks + 1 } -> wpAny (model X.prog X.w) X.A (f (.int i t) (.int j u)) Q E s) :
    OpR X f (rI C fun i j => .int (g i j)) := by
  intro pins s σ H x y v u Q I rx ry h
  obtain ⟨i, j, rfl, rfl, hc, q⟩ := h
  obtain ⟨t, rfl⟩ := rx
  obtain ⟨t', rfl⟩ := ry
  exact rule i j t t' s _ _ hc ⟨.int (g i j), H, I.tok _, ⟨_, rfl⟩, q⟩
theorem opI0 {f : Value -> Value -> Sem Value} {g : Int -> Int -> Int}
    (rule : ∀ (i j : Int) (t u : Tok) (s : Shared) (Q : Value -> Shared -> Prop) (E : Value -> Shared -> Prop), Q (.int (g i j) s.toks) { s with toks := s.toks + 1 } -> wpAny (model X.prog X.w) X.A (f (.int i t) (.int j u)) Q E s) :
    OpR X f (rI0 fun i j => .int (g i j)) := by
  intro pins s σ H x y v u Q I rx ry h
  obtain ⟨i, j, rfl, rfl, q⟩ := h
  obtain ⟨t, rfl⟩ := rx
  obtain ⟨t', rfl⟩ := ry
  exact rule i j t t' s _ _ ⟨.int (g i j), H, I.tok _, ⟨_, rfl⟩, q⟩
theorem opB0 {f : Value -> Value -> Sem Value} {g : Int -> Int -> Bool}
    (rule : ∀ (i j : Int) (t u : Tok) (s : Shared) (Q : Value -> Shared -> Prop) (E : Value -> Shared -> Prop), Q (.bool (g i j)) s -> wpAny (model X.prog X.w) X.A (f (.int i t) (.int j u)) Q E s) :
    OpR X f (rI0 fun i j => .bl (g i j)) := by
  intro pins s σ H x y v u Q I rx ry h
  obtain ⟨i, j, rfl, rfl, q⟩ := h
  obtain ⟨t, rfl⟩ := rx
  obtain ⟨t', rfl⟩ := ry
  exact rule i j t t' s _ _ ⟨.bl (g i j), H, I, rfl, q⟩
def CDiv (i j : Int) : Prop := 0 < j /\ j < 1073741824
def CPow (i j : Int) : Prop := 0 <= j /\ j <= 1000000 /\ i.natAbs < 2 ^ 64
def CMul (i j : Int) : Prop := (-(2 ^ 64) < i /\ i < 2 ^ 64) \/ (-(2 ^ 64) < j /\ j < 2 ^ 64)
theorem CMul.ok {i j : Int} (h : CMul i j) : IntMulOk i j := by
  rcases h with ⟨h1, h2⟩ | ⟨h1, h2⟩
  · exact .of_left (intBits_le_64 h1 h2)
  · exact .of_right (intBits_le_64 h1 h2)
theorem Jg : OpR X (binaryOp .Add) (rI0 fun i j => .int (i + j)) := opI0 fun _ _ _ _ _ _ _ q => add_int q
theorem Jh : OpR X (binaryOp .Sub) (rI0 fun i j => .int (i - j)) := opI0 fun _ _ _ _ _ _ _ q => sub_int q
theorem Ji : OpR X (binaryOp .Mult) (rI CMul fun i j => .int (i * j)) := opI fun _ _ _ _ _ _ _ hc q => mul_int q hc.ok
theorem Wr : OpR X (binaryOp .FloorDiv) (rI CDiv fun i j => .int (i / j)) := opI fun i j _ _ _ _ _ hc q => by
  have h1 : (0 : Int) < j := hc.1
  have h2 : j < 1073741824 := hc.2
  exact floordiv_int (by omega) (by rw [Int.fdiv_eq_ediv_of_nonneg i (by omega)]; exact q) (.inl (PyProof.noPylong_small (by omega)))
theorem Jj : OpR X (binaryOp .Mod) (rI (fun _ j => 0 < j) fun i j => .int (i % j)) := opI fun i j _ _ _ _ _ hc q => by
  have h1 : (0 : Int) < j := hc
  exact mod_int' (by omega) (by rw [Int.fmod_eq_emod_of_nonneg i (by omega)]; exact q)
theorem Ws : OpR X (binaryOp .Mod) (rI (fun _ j => j ≠ 0) fun i j => .int (i.fmod j)) := opI fun _ _ _ _ _ _ _ hc q => mod_int' hc q
theorem Jk : OpR X (binaryOp .Pow) (rI CPow fun i j => .int (i ^ j.toNat)) := opI fun _ _ _ _ _ _ _ hc q => pow_int_small hc.1 hc.2.1 hc.2.2 q
theorem unI {f : Value -> Sem Value} {g : Int -> Int}
    (rule : ∀ (i : Int) (t : Tok) (s : Shared) (Q : Value -> Shared -> Prop) (E : Value -> Shared -> Prop), Q (.int (g i) s.toks) { s with toks := s.toks + 1 } -> wpAny (model X.prog X.w) X.A (f (.int i t)) Q E s) :
    UnR X f (rU fun i => .int (g i)) := by
  intro pins s σ H x v Q I rx h
  obtain ⟨i, rfl, q⟩ := h
  obtain ⟨t, rfl⟩ := rx
  exact rule i t s _ _ ⟨.int (g i), H, I.tok _, ⟨_, rfl⟩, q⟩
theorem Jl : UnR X (unaryOp .USub) (rU fun i => .int (-i)) := unI fun _ _ _ _ _ q => neg_int q
end
def scal : V -> V -> Bool
  | .non, .non => true | .non, .int _ => true | .int _, .non => true | .non, .bl _ => true | .bl _, .non => true | .non, .str _ => true | .str _, .non => true
  | .int _, .int _ => true | .bl _, .bl _ => true | .str _, .str _ => true | .byt _, .byt _ => true
  | .int _, .str _ => true | .str _, .int _ => true | .bl _, .str _ => true | .str _, .bl _ => true
  | _, _ => false
def rEq : R2 := fun x y H Q => scal x y = true /\ Q (.bl (decide (x = y))) H
def rNe : R2 := fun x y H Q => scal x y = true /\ Q (.bl (!decide (x = y))) H
theorem jZ {i j : Int} : decide (V.int i = V.int j) = (i == j) := by
  rw [Bool.eq_iff_iff]
  simp
theorem YB {i j : Bool} : decide (V.bl i = V.bl j) = (i == j) := by
  rw [Bool.eq_iff_iff]
  simp
theorem j0 {i j : Str} : decide (V.str i = V.str j) = (i == j) := by
  rw [Bool.eq_iff_iff]
  simp
theorem j3 {i j : Array UInt8} : decide (V.byt i = V.byt j) = (i.toList == j.toList) := by
  rw [Bool.eq_iff_iff]
  cases i
  cases j
  simp
section
variable {X : Cx} {a b c : Expr} {ta tb tc : TE} {pos : Pos}
theorem zL {pins : List (Addr × Obj)} {σ : St} {H : Hp} {s : Shared} {Q : VK} {k k' : Bool} (I : Inv X pins σ H s) (q : Q (.bl k) H) (e : k = k') : EP X pins σ Q (.bool k') s := by
  subst e
  exact ⟨.bl k, H, I, rfl, q⟩
theorem qz : OpR X (compareOp .Eq) rEq := by
  intro pins s σ H x y v u Q I rx ry h
  obtain ⟨hs, q⟩ := h
  cases x with
  | non =>
    cases rx
    cases y with
    | non => cases ry; exact PySem.EqNone.eq_none_none (zL I q (by simp))
    | bl j => cases ry; exact PySem.EqNone.eq_none_bool (zL I q (by simp))
    | int j => obtain ⟨t', rfl⟩ := ry; exact PySem.EqNone.eq_none_int (zL I q (by simp))
    | str j => obtain ⟨t', rfl⟩ := ry; exact PySem.EqNone.eq_none_str (zL I q (by simp))
    | _ => exact absurd (show false = true from hs) Bool.false_ne_true
  | bl i =>
    cases rx
    cases y with
    | non => cases ry; exact PySem.EqNone.eq_bool_none (zL I q (by simp))
    | bl j => cases ry; exact eq_bool (zL I q YB)
    | str j => obtain ⟨t', rfl⟩ := ry; exact PySem.EqMixed.eq_bool_str (zL I q (by simp))
    | _ => exact absurd (show false = true from hs) Bool.false_ne_true
  | int i =>
    obtain ⟨t, rfl⟩ := rx
    cases y with
    | non => cases ry; exact PySem.EqNone.eq_int_none (zL I q (by simp))
    | int j => obtain ⟨t', rfl⟩ := ry; exact eq_int (zL I q jZ)
    | str j => obtain ⟨t', rfl⟩ := ry; exact PySem.EqMixed.eq_int_str (zL I q (by simp))
    | _ => exact absurd (show false = true from hs) Bool.false_ne_true
  | str i =>
    obtain ⟨t, rfl⟩ := rx
    cases y with
    | non => cases ry; exact PySem.EqNone.eq_str_none (zL I q (by simp))
    | bl j => cases ry; exact PySem.EqMixed.eq_str_bool (zL I q (by simp))
    | int j => obtain ⟨t', rfl⟩ := ry; exact PySem.EqMixed.eq_str_int (zL I q (by simp))
    | str j => obtain ⟨t', rfl⟩ := ry; exact eq_str (zL I q j0)
    | _ => exact absurd (show false = true from hs) Bool.false_ne_true
  | byt i =>
    obtain ⟨t, rfl⟩ := rx
    cases y with
    | byt j => obtain ⟨t', rfl⟩ := ry; exact PySem.W.eq_bytes (zL I q j3)
    | _ => exact absurd (show false = true from hs) Bool.false_ne_true
  | _ => cases y <;> exact absurd (show false = true from hs) Bool.false_ne_true
theorem qA : OpR X (compareOp .NotEq) rNe := by
  intro pins s σ H x y v u Q I rx ry h
  obtain ⟨hs, q⟩ := h
  cases x with
  | non =>
    cases rx
    cases y with
    | non => cases ry; exact PySem.EqNone.ne_none_none (zL I q (by simp))
    | bl j => cases ry; exact PySem.EqNone.ne_none_bool (zL I q (by simp))
    | int j => obtain ⟨t', rfl⟩ := ry; exact PySem.EqNone.ne_none_int (zL I q (by simp))
    | str j => obtain ⟨t', rfl⟩ := ry; exact PySem.EqNone.ne_none_str (zL I q (by simp))
    | _ => exact absurd (show false = true from hs) Bool.false_ne_true
  | bl i =>
    cases rx
    cases y with
    | non => cases ry; exact PySem.EqNone.ne_bool_none (zL I q (by simp))
    | bl j => cases ry; exact ne_bool (zL I q (congrArg not YB))
    | str j => obtain ⟨t', rfl⟩ := ry; exact PySem.EqMixed.ne_bool_str (zL I q (by simp))
    | _ => exact absurd (show false = true from hs) Bool.false_ne_true
  | int i =>
    obtain ⟨t, rfl⟩ := rx
    cases y with
    | non => cases ry; exact PySem.EqNone.ne_int_none (zL I q (by simp))
    | int j => obtain ⟨t', rfl⟩ := ry; exact ne_int (zL I q (congrArg not jZ))
    | str j => obtain ⟨t', rfl⟩ := ry; exact PySem.EqMixed.ne_int_str (zL I q (by simp))
    | _ => exact absurd (show false = true from hs) Bool.false_ne_true
  | str i =>
    obtain ⟨t, rfl⟩ := rx
    cases y with
    | non => cases ry; exact PySem.EqNone.ne_str_none (zL I q (by simp))
    | bl j => cases ry; exact PySem.EqMixed.ne_str_bool (zL I q (by simp))
    | int j => obtain ⟨t', rfl⟩ := ry; exact PySem.EqMixed.ne_str_int (zL I q (by simp))
    | str j => obtain ⟨t', rfl⟩ := ry; exact ne_str (zL I q (congrArg not j0))
    | _ => exact absurd (show false = true from hs) Bool.false_ne_true
  | byt i =>
    obtain ⟨t, rfl⟩ := rx
    cases y with
    | byt j => obtain ⟨t', rfl⟩ := ry; exact PySem.W.ne_bytes (zL I q (congrArg not j3))
    | _ => exact absurd (show false = true from hs) Bool.false_ne_true
  | _ => cases y <;> exact absurd (show false = true from hs) Bool.false_ne_true
theorem qB : OpR X (compareOp .Lt) (rI0 fun i j => .bl (decide (i < j))) := opB0 fun _ _ _ _ _ _ _ q => lt_int q
theorem qC : OpR X (compareOp .Gt) (rI0 fun i j => .bl (decide (j < i))) := opB0 fun _ _ _ _ _ _ _ q => gt_int q
theorem OpR.or {f : Value -> Value -> Sem Value} {r r' : R2} (h : OpR X f r) (h' : OpR X f r') : OpR X f (fun x y H Q => r x y H Q \/ r' x y H Q) := by
  intro pins s σ H x y v u Q I rx ry q
  rcases q with q | q
  · exact h pins s σ H x y v u Q I rx ry q
  · exact h' pins s σ H x y v u Q I rx ry q
theorem zv (b : Expr) {op : CmpOp} (h : op ≠ .In := by decide) (h2 : op ≠ .NotIn := by decide) : behindInMarks op b = false := by
  have e1 : (op == CmpOp.In) = false := by cases op <;> first | rfl | exact absurd rfl h
  have e2 : (op == CmpOp.NotIn) = false := by cases op <;> first | rfl | exact absurd rfl h2
  cases b <;> simp [behindInMarks, e1, e2]
theorem Wt {op : CmpOp} {r : R2} (ho : OpR X (compareOp op) r) (ha : PE X a ta) (hb : PE X b tb) (hm : behindInMarks op b = false) : PE X (.Compare a [op] [b] pos) (tOp r ta tb) := by
  intro pins s σ H Q I h
  exact wpAny_Compare1 (binT ha hb I h fun v u s2 x y H2 I2 rx ry q => ho pins s2 σ H2 x y v u Q I2 rx ry q) hm
def Vz (t : TE) : TT := fun σ H Q => t σ H fun x H' => ∃ k, x = .bl k /\ Q k H'
theorem Wu {op : CmpOp} {r : R2} (ho : OpR X (compareOp op) r) (ha : PE X a ta) (hb : PE X b tb) (hm : behindInMarks op b = false) : PT X (.Compare a [op] [b] pos) (Vz (tOp r ta tb)) := by
  intro pins s σ H Q I h
  refine wpAny_isTrue_Compare1 (thn (ha pins s σ H _ I h) fun v s1 ⟨x, H1, I1, r1, q1⟩ => thn (hb pins s1 σ H1 _ I1 q1) fun u s2 ⟨y, H2, I2, r2, q2⟩ =>
    thn (ho pins s2 σ H2 x y v u _ I2 r1 r2 q2) fun c s3 ⟨z, H3, I3, r3, k, e, q3⟩ => ?_) hm
  subst e
  cases r3
  exact wpAny_truthy_bool ⟨H3, I3, q3⟩
def YC (r r' : R2) (ta tb tc : TE) : TE := fun σ H Q => ta σ H fun x H1 => tb σ H1 fun y H2 => r x y H2 fun z H3 => ∃ k, z = .bl k /\
  (if k = true then tc σ H3 fun w' H4 => r' y w' H4 Q else Q (.bl false) H3)
theorem YD {op op' : CmpOp} {r r' : R2} (ho : OpR X (compareOp op) r) (ho' : OpR X (compareOp op') r') (ha : PE X a ta) (hb : PE X b tb) (hc : PE X c tc)
    (hm : lastMarks [op, op'] [b, c] = false := by with_unfolding_all rfl) : PE X (.Compare a [op, op'] [b, c] pos) (YC r r' ta tb tc) := by
  intro pins s σ H Q I h
  refine Compare_chain (thn (ha pins s σ H _ I h) fun v s1 ⟨x, H1, I1, r1, q1⟩ => chain_link (thn (hb pins s1 σ H1 _ I1 q1) fun u s2 ⟨y, H2, I2, r2, q2⟩ =>
    thn (ho pins s2 σ H2 x y v u _ I2 r1 r2 q2) fun d s3 ⟨z, H3, I3, r3, k, e, q3⟩ => ?_)) hm
  subst e
  cases r3
  refine wpAny_truthy_bool ?_
  cases k with
  | false => exact ite_ff ⟨.bl false, H3, I3, rfl, q3⟩
  | true => exact ite_tt (chain_last (thn (hc pins s3 σ H3 _ I3 q3) fun w' s4 ⟨z', H4, I4, r4, q4⟩ => ho' pins s4 σ H4 y z' u w' Q I4 r2 r4 q4))
theorem y7 : (sizeLine : Nat) < 2 ^ 63 := by rw [sizeLine_eq]; decide
theorem jc : OpR X (binaryOp .Add) (fun x y H Q => ∃ i j, x = .str i /\ y = .str j /\ i.length + j.length <= sizeLine /\ Q (.str (i ++ j)) H) := by
  intro pins s σ H x y v u Q I rx ry h
  obtain ⟨i, j, rfl, rfl, hz, q⟩ := h
  obtain ⟨t, rfl⟩ := rx
  obtain ⟨t', rfl⟩ := ry
  exact add_str (fun t' tk => ⟨.str (i ++ j), H, I.tok _, ⟨_, rfl⟩, q⟩) hz
theorem wB {x : V} {us : List Value} (r : Vals [x] us) : ∃ u, us = [u] /\ RelV x u := by
  cases r with
  | cons r1 r2 => cases r2; exact ⟨_, rfl, r1⟩
theorem j4 {x y : V} {us : List Value} (r : Vals [x, y] us) : ∃ u w', us = [u, w'] /\ RelV x u /\ RelV y w' := by
  cases r with
  | cons r1 r2 =>
    cases r2 with
    | cons r3 r4 => cases r4; exact ⟨_, _, rfl, r1, r3⟩
end
end L2
namespace L2
open PySem PySem.Spec PyProof.Rows
structure ObjM (h : Heap) (x dx C : Addr) (mA : Str -> Option Value) : Prop where
  obj : h.get? x = some (PySem.W.instObj C dx)
  ns : h.Ns1 dx mA
  ne : dx ≠ x
theorem wC {h : Heap} {dx : Addr} {mA : Str -> Option Value} (n : h.Ns1 dx mA) : ∃ od, h.get? dx = some od /\ ∀ name, PySem.W.lookIn name od = some (mA name) := by
  obtain ⟨o, es, ep, ho, hd, hk, _, hm⟩ := n
  refine ⟨o, ho, fun name => ?_⟩
  have e := hm name
  unfold nsFind findBy at e
  rw [<- Array.find?_toList] at e
  unfold PySem.W.lookIn
  rw [hd]
  dsimp only
  split
  · rename_i y q
    rw [q] at e
    exact congrArg some e
  · rename_i q
    rw [q] at e
    have a : es.toList.any (·.refKey) = false := by
      rw [List.any_eq_false]
      intro y hy
      obtain ⟨z, t, hkey⟩ := hk y (Array.mem_toList_iff.mp hy)
      simp [DictEntry.refKey, hkey]
    have a' : ¬ es.toList.any (·.refKey) = true := by rw [a]; exact Bool.false_ne_true
    rw [if_neg a']
    exact congrArg some e
theorem ObjM.look {h : Heap} {x dx C : Addr} {mA : Str -> Option Value} (I : ObjM h x dx C mA) : ∃ od, PySem.W.InstAt h x (PySem.W.instObj C dx) C (some od) /\ ∀ name, PySem.W.lookIn name od = some (mA name) :=
  let ⟨od, ho, hl⟩ := wC I.ns
  ⟨od, ⟨I.obj, rfl, rfl, ho⟩, hl⟩
section
variable {prog : Program} {w : World} {A : Around} {E : Value -> Shared -> Prop} {s : Shared} {K : PySem.W.Frag} {x dx C f : Addr} {mA : Str -> Option Value} {name : Str} {v : Value}
theorem Wv {expr : Bool} {Q : Value -> Shared -> Prop} (X : K.In s.heap) (I : ObjM s.heap x dx C mA) (hg : PySem.W.plainGet K C name = true) (hh : PySem.W.hasDictIn K C = true)
    (ha : PySem.W.findIn K (.ref C) name = some none) (hv : mA name = some v) (hv' : PySem.W.handedIn v = true) (h : Q v { s with toks := s.toks + 1 }) :
    wpAny (model prog w) A (getAttr (.ref x) name expr) Q E s := by
  obtain ⟨od, J, hl⟩ := I.look
  exact PySem.W.get_value X J (PySem.W.plainGet_of hg).1 (PySem.W.findObj_own hh ha rfl (by rw [hl, hv])) hv' h
theorem YE {pl : Sem Bool} {Q : Value × List Value -> Shared -> Prop} (X : K.In s.heap) (I : ObjM s.heap x dx C mA) (hg : PySem.W.plainGet K C name = true)
    (hf : PySem.W.findIn K (.ref C) name = some (some (.ref f))) (ht : PySem.W.isFn K (.ref f) = true) (hv : mA name = none) (h : Q (.ref f, [.ref x]) s) :
    wpAny (model prog w) A (getMethod (.ref x) name pl) Q E s := by
  obtain ⟨od, J, hl⟩ := I.look
  exact PySem.W.method_fn X J (PySem.W.plainGet_of hg).1 (PySem.W.plainGet_of hg).2 hf (beq_iff_eq.mp ht) (by show (PySem.W.lookIn name od).map (·.isSome) = some false; rw [hl, hv]; rfl) h
theorem Ww {ns : List Str} {Q : Unit -> Shared -> Prop} (X : K.In s.heap) (I : ObjM s.heap x dx C mA)
    (hs : PySem.W.findIn K (.ref C) "__setattr__" = some (some (.builtin "object.__setattr__"))) (hp : PySem.W.plainOver K C = true) (ht : PySem.W.takerIn K C name = some none) (hh : PySem.W.hasDictIn K C = true)
    (hw : PySem.Within mA ns) (hsz : ns.length <= sizeLine)
    (h : ∀ h', ObjM h' x dx C (fun y => if y = name then some v else mA y) -> Heap.SameBut dx s.heap h' -> Q () { s with heap := h', toks := s.toks + 2 }) :
    wpAny (model prog w) A (setAttr (.ref x) name v) Q E s := by
  obtain ⟨od, J, hl⟩ := I.look
  refine PySem.W.set_plain X J hs (PySem.W.osa_open (s := { s with toks := s.toks + 1 }) (r := none) X J hp ht fun b => ?_)
  obtain ⟨cd, hc, hd'⟩ := PySem.W.any_some hh
  have hx : s.heap.get? x = some ⟨.ref C, some dx, .plain, #[]⟩ := I.obj
  refine wpAny_bind (wpAny_pure (wpAny_bind (wpAny_bind (wpAny_loadPart hx (wpAny_bind (PySem.W.Looks.here (s := { s with toks := s.toks + 1 }) (PySem.W.looks_clsIn X hc) ?_))))))
  rw [hd']
  refine wpAny_pure (a := some dx) (wpAny_bind (wpAny_pure (wpAny_bind ?_)))
  refine wpAny_nsSet1 (s := { s with toks := s.toks + 1 }) I.ns fun h' hn2 hs2 => ?_
  obtain ⟨oD, esD, epD, hoD, hdD, hcD⟩ := hn2.count (PySem.Within.cons name v hw)
  refine wpAny_bind (wpAny_lookBehind hoD (by rw [hdD]; exact pastItsLine_dict (Nat.le_trans hcD (by rw [List.length_cons]; omega))) ?_)
  exact wpAny_pure (h _ ⟨(hs2.2 _ (Ne.symm I.ne)).trans I.obj, hn2, I.ne⟩ hs2)
theorem YF {R : Result -> Shared -> Prop} {vs : List Value} {kw : List (Str × Value)} (X : K.In s.heap) (hm : PySem.W.makesIn K C = true)
    (hi : PySem.W.findIn K (.ref C) "__init__" = some (some (.ref f))) (hf : PySem.W.typeIn K (.ref f) = some (.type "function"))
    (h : codeAny (model prog w) (A.under (.builtin "type.__call__" ⟨.ref C :: vs, kw⟩)) (.call (.ref f) ⟨.ref (s.heap.objs.size + 1) :: vs, kw⟩) (PySem.W.InitBack (s.heap.objs.size + 1) R)
      { s with heap := (s.heap.push PySem.W.emptyDict).push (PySem.W.instObj C s.heap.objs.size) }) :
    codeAny (model prog w) A (.call (.ref C) ⟨vs, kw⟩) R s := by
  obtain ⟨hh, g, d, t, os⟩ := s
  exact PySem.W.make_core (PySem.W.makes_of X hm) (PySem.W.looks_findIn X hi) (fun self => PySem.W.bind_fn X self hf) (.inl rfl) h
end
def putF (f : Str) (v : V) : List (Str × V) -> List (Str × V)
  | [] => [(f, v)]
  | (g, x) :: r => if g = f then (g, v) :: r else (g, x) :: putF f v r
theorem xG (f g : Str) (v : V) : ∀ fs : List (Str × V), (putF f v fs).lookup g = if g = f then some v else fs.lookup g
  | [] => by
    show List.lookup g [(f, v)] = _
    by_cases h : g = f
    · have hb : (g == f) = true := beq_iff_eq.mpr h
      simp only [List.lookup, hb, if_pos h]
    · have hb : (g == f) = false := beq_eq_false_iff_ne.mpr h
      simp only [List.lookup, hb, if_neg h]
  | (k, x) :: r => by
    have ih := xG f g v r
    rw [show putF f v ((k, x) :: r) = (if k = f then (k, v) :: r else (k, x) :: putF f v r) from rfl]
    by_cases hk : k = f
    · rw [if_pos hk]
      by_cases h : g = k
      · have hb : (g == k) = true := beq_iff_eq.mpr h
        simp only [List.lookup, hb, if_pos (h.trans hk)]
      · have hb : (g == k) = false := beq_eq_false_iff_ne.mpr h
        simp only [List.lookup, hb, if_neg (fun e : g = f => h (e.trans hk.symm))]
    · rw [if_neg hk]
      by_cases h : g = k
      · have hb : (g == k) = true := beq_iff_eq.mpr h
        simp only [List.lookup, hb, if_neg (fun e : g = f => hk (h.symm.trans e))]
      · have hb : (g == k) = false := beq_eq_false_iff_ne.mpr h
        simp only [List.lookup, hb]
        exact ih
theorem xt (f : Str) (v : V) : ∀ fs : List (Str × V), f ∈ (putF f v fs).map (·.1) /\ ∀ g, g ∈ fs.map (·.1) -> g ∈ (putF f v fs).map (·.1)
  | [] => ⟨by simp [putF], fun g h => by simp at h⟩
  | (k, x) :: r => by
    obtain ⟨i1, i2⟩ := xt f v r
    rw [show putF f v ((k, x) :: r) = (if k = f then (k, v) :: r else (k, x) :: putF f v r) from rfl]
    by_cases hk : k = f
    · rw [if_pos hk]
      subst hk
      exact ⟨by simp, fun g h => by simpa using h⟩
    · rw [if_neg hk]
      refine ⟨?_, fun g h => ?_⟩
      · rw [List.map_cons]
        exact List.mem_cons_of_mem _ i1
      · rw [List.map_cons] at h ⊢
        rcases List.mem_cons.mp h with e | e
        · exact List.mem_cons.mpr (.inl e)
        · exact List.mem_cons_of_mem _ (i2 g e)
theorem xH (f : Str) (v : V) : ∀ fs : List (Str × V), (putF f v fs).length <= fs.length + 1
  | [] => by simp [putF]
  | (k, x) :: r => by
    have ih := xH f v r
    rw [show putF f v ((k, x) :: r) = (if k = f then (k, v) :: r else (k, x) :: putF f v r) from rfl]
    by_cases hk : k = f
    · rw [if_pos hk, List.length_cons, List.length_cons]; omega
    · rw [if_neg hk, List.length_cons, List.length_cons]; omega
theorem RelO.some_of {v : V} {o : Option Value} (r : RelO (some v) o) : ∃ u, o = some u /\ RelV v u := by
  cases o with
  | none => exact (show False from r).elim
  | some u => exact ⟨u, rfl, r⟩
theorem RelO.none_of {o : Option Value} (r : RelO none o) : o = none := by
  cases o with
  | none => rfl
  | some u => exact (show False from r).elim
theorem wD {v : V} {u : Value} (r : RelV v u) : PySem.W.handedIn u = true := by
  cases v with
  | non => cases (show u = Value.none from r); rfl
  | bl b => cases (show u = Value.bool b from r); rfl
  | int i => obtain ⟨t, e⟩ := (show ∃ t, u = Value.int i t from r); cases e; rfl
  | str x => obtain ⟨t, e⟩ := (show ∃ t, u = Value.str x t from r); cases e; rfl
  | byt b => obtain ⟨t, e⟩ := (show ∃ t, u = Value.bytes b t from r); cases e; rfl
  | flt b => obtain ⟨t, e⟩ := (show ∃ t, u = Value.float b t from r); cases e; rfl
  | ref a => cases (show u = Value.ref a from r); rfl
  | ty n => cases (show u = Value.type n from r); rfl
section
variable {P : Program} {w : World} {H H' : Hp} {h h' : Heap} {a C dx : Addr} {fs fs' : List (Str × V)}
theorem xM (hok : HOk P w H h) (e : H a = some (.ins C dx fs)) : ∃ mA, ObjM h a dx C mA /\ (∀ f, RelO (fs.lookup f) (mA f)) /\ PySem.Within mA (fs.map (·.1)) /\ fs.length <= 1000 /\ H dx = some (.own a) := by
  obtain ⟨d, z, ne, ob, mA, n, r, q⟩ := (show ObjOk P w H h a (.ins C dx fs) from hok a _ e)
  exact ⟨mA, ⟨ob, n, ne⟩, r, q, z, d⟩
end
structure Cls (K : PySem.W.Frag) (C : Addr) : Prop where
  pg : PySem.W.plainGet K C Str.empty = true
  hd : PySem.W.hasDictIn K C = true
  po : PySem.W.plainOver K C = true
  sa : PySem.W.findIn K (.ref C) "__setattr__" = some (some (.builtin "object.__setattr__"))
theorem Cls.get {K : PySem.W.Frag} {C : Addr} (c : Cls K C) (f : Str) : PySem.W.plainGet K C f = true := c.pg
def NoAttr (K : PySem.W.Frag) (C : Addr) (f : Str) : Prop := PySem.W.findIn K (.ref C) f = some none
theorem NoAttr.taker {K : PySem.W.Frag} {C : Addr} {f : Str} (n : NoAttr K C f) : PySem.W.takerIn K C f = some none := by
  unfold PySem.W.takerIn
  rw [show PySem.W.findIn K (.ref C) f = some none from n]
  rfl
structure Con (K : PySem.W.Frag) (C : Addr) (f : Str) (v : V) (u : Value) : Prop where
  at_ : PySem.W.findIn K (.ref C) f = some (some u)
  rel : RelV v u
  get : PySem.W.specialIn K u "__get__" = some none
  cp : PySem.W.copiedNames.contains f = false
structure Meth (K : PySem.W.Frag) (C : Addr) (m : Str) (f : Addr) : Prop where
  at_ : PySem.W.findIn K (.ref C) m = some (some (.ref f))
  fn : PySem.W.isFn K (.ref f) = true
  kp : PySem.W.keepIn K (.ref f) = true
section
variable {X : Cx} {pins : List (Addr × Obj)} {σ : St} {H : Hp} {s : Shared} {a C dx : Addr} {fs : List (Str × V)} {f : Str} {v : V} {A : Around} {E : Value -> Shared -> Prop}
theorem jd {b : Bool} {Q : Value -> Shared -> Prop} (I : Inv X pins σ H s) (e : H a = some (.ins C dx fs)) (c : Cls X.K C) (n : NoAttr X.K C f) (l : fs.lookup f = some v)
    (h : ∀ u s', Inv X pins σ H s' -> RelV v u -> Q u s') : wpAny (model X.prog X.w) A (getAttr (.ref a) f b) Q E s := by
  obtain ⟨mA, O, r, _, _, _⟩ := xM I.hok e
  obtain ⟨u, hu, ru⟩ := RelO.some_of (v := v) (o := mA f) (by rw [<- l]; exact r f)
  exact Wv I.kIn O (c.get f) c.hd n hu (wD ru) (h u _ (I.tok _) ru)
theorem xS {m : Str} {g : Addr} {pl : Sem Bool} {Q : Value × List Value -> Shared -> Prop} (I : Inv X pins σ H s) (e : H a = some (.ins C dx fs)) (c : Cls X.K C) (k : Meth X.K C m g) (l : fs.lookup m = none)
    (h : Q (.ref g, [.ref a]) s) : wpAny (model X.prog X.w) A (getMethod (.ref a) m pl) Q E s := by
  obtain ⟨mA, O, r, _, _, _⟩ := xM I.hok e
  have hn : mA m = none := RelO.none_of (by rw [<- l]; exact r m)
  exact YE I.kIn O (c.get m) k.at_ k.fn hn h
theorem je {y : V} {u : Value} {Q : Unit -> Shared -> Prop} (I : Inv X pins σ H s) (e : H a = some (.ins C dx fs)) (c : Cls X.K C) (n : NoAttr X.K C f) (hl : fs.length < 1000) (ry : RelV y u)
    (h : ∀ s', Inv X pins σ (upd H a (.ins C dx (putF f y fs))) s' -> Q () s') : wpAny (model X.prog X.w) A (setAttr (.ref a) f u) Q E s := by
  obtain ⟨mA, O, r, wi, _, ho⟩ := xM I.hok e
  have hz : (fs.map (·.1)).length <= sizeLine := by rw [List.length_map, sizeLine_eq]; omega
  refine Ww I.kIn O c.sa c.po n.taker c.hd wi hz fun h' O' sb => h _ ?_
  have hd : ∃ o, h'.get? dx = some o := let ⟨o, _, _, e', _⟩ := O'.ns; ⟨o, e'⟩
  refine I.write (x := a) (e := dx) (by rw [e]; exact True.intro) (.inr ho) (fun b q hb z => (sb.2 b hb).trans z) hd ?_
  refine ⟨by rw [zn O.ne]; exact ho, ?_, O.ne, O'.obj, _, O'.ns, fun g => ?_, fun g hg => ?_⟩
  · have := xH f y fs; omega
  · show RelO ((putF f y fs).lookup g) (if g = f then some u else mA g)
    rw [xG]
    by_cases q : g = f
    · rw [if_pos q, if_pos q]; exact ry
    · rw [if_neg q, if_neg q]; exact r g
  · by_cases q : g = f
    · rw [q]; exact (xt f y fs).1
    · refine (xt f y fs).2 g (wi g fun z => hg ?_)
      show (if g = f then some u else mA g) = none
      rw [if_neg q]; exact z
theorem Inv.made (I : Inv X pins σ H s) : Inv X pins σ (upd (upd H s.heap.objs.size (.own (s.heap.objs.size + 1))) (s.heap.objs.size + 1) (.ins C s.heap.objs.size []))
    { s with heap := (s.heap.push PySem.W.emptyDict).push (PySem.W.instObj C s.heap.objs.size) } := by
  have e1 : (s.heap.push PySem.W.emptyDict).get? s.heap.objs.size = some PySem.W.emptyDict := Heap.get?_push_size s.heap rfl
  have e2 : ((s.heap.push PySem.W.emptyDict).push (PySem.W.instObj C s.heap.objs.size)).get? (s.heap.objs.size + 1) = some (PySem.W.instObj C s.heap.objs.size) := by
    have := Heap.get?_push_size (s.heap.push PySem.W.emptyDict) (o := PySem.W.instObj C s.heap.objs.size) rfl
    rwa [Heap.size_push] at this
  have e3 : (s.heap.push PySem.W.emptyDict).Ns s.heap.objs.size (fun _ => none) := ⟨PySem.W.emptyDict, #[], _, e1, rfl, (fun e he => absurd he (by simp)), fun _ => rfl⟩
  have I1 := I.laid (a := s.heap.objs.size) (o := .own (s.heap.objs.size + 1)) (h' := s.heap.push PySem.W.emptyDict) (t' := s.toks) (fun b u q => Heap.get?_push_of_some _ q) (Nat.le_refl _) ⟨_, e1⟩
  refine I1.laid (a := s.heap.objs.size + 1) (o := .ins C s.heap.objs.size []) (t' := s.toks) (fun b u q => Heap.get?_push_of_some _ q) (Nat.le_of_eq (Heap.size_push _ _)) ?_
  have ne : s.heap.objs.size ≠ s.heap.objs.size + 1 := Nat.ne_of_lt (Nat.lt_succ_self _)
  refine ⟨by rw [zn ne, zg], Nat.zero_le _, ne, e2, fun _ => none, (Heap.Ns1.of_empty e3).at fun o q => Heap.get?_push_of_some _ q, fun _ => True.intro, fun y hy => absurd rfl hy⟩
theorem j5 {prog : Program} {w : World} {env : Env} {e : Expr} {f : Str} {pos : Pos} {s : Shared} {Q : Value -> Shared -> Prop} (hb : attributeBase e f env (eval e env) = eval e env)
    (h : wpAny (model prog w) A (eval e env) (fun o s₁ => wpAny (model prog w) A (getAttr o f true) Q E s₁) E s) : wpAny (model prog w) A (eval (.Attribute e f pos) env) Q E s :=
  Attribute_any_ h (by rw [arm_eval_Attribute, hb])
end
def tFld (K : PySem.W.Frag) (ta : TE) (f : Str) : TE := fun σ H Q => ta σ H fun x H1 => ∃ a C dx fs v, x = .ref a /\ H1 a = some (.ins C dx fs) /\ Cls K C /\ NoAttr K C f /\ fs.lookup f = some v /\ Q v H1
def sFld (K : PySem.W.Frag) (ta tv : TE) (f : Str) : TS := fun D σ H => tv σ H fun y H1 => ta σ H1 fun x H2 => ∃ a C dx fs, x = .ref a /\ H2 a = some (.ins C dx fs) /\ Cls K C /\ NoAttr K C f /\ fs.length < 1000 /\
  D.nx σ (upd H2 a (.ins C dx (putF f y fs)))
section
variable {X : Cx} {o e value : Expr} {f : Str} {pos pos' tpos : Pos} {ta tv : TE}
theorem Jn (he : PE X e ta) (hb : attributeBase e f X.env (eval e X.env) = eval e X.env) : PE X (.Attribute e f pos) (tFld X.K ta f) := by
  intro pins s σ H Q I h
  refine j5 hb (thn (he pins s σ H _ I h) fun u s1 ⟨x, H1, I1, rx, a, C, dx, fs, v, ex, ea, c, n, l, q⟩ => ?_)
  subst ex
  obtain rfl : u = Value.ref a := rx
  exact jd I1 ea c n l fun u' s2 I2 ru => ⟨v, H1, I2, ru, q⟩
theorem Jo (ha : PE X o ta) (hv : PE X value tv) (hs : swapsWith value (some (.Attribute o f pos')) pos.line X.env = pure false) : PS X (.Assign [.Attribute o f pos'] value pos) (sFld X.K ta tv f) := by
  intro pins s σ H D I h
  refine plainObj_wpAny_Assign_Attribute (thn (hv pins s σ H _ I h) fun u s1 ⟨y, H1, I1, ry, q⟩ => thn (ha pins s1 σ H1 _ I1 q) fun ov s2 ⟨x, H2, I2, rx, a, C, dx, fs, ex, ea, c, n, l, q2⟩ => ?_) hs
  subst ex
  obtain rfl : ov = Value.ref a := rx
  exact je I2 ea c n l ry fun s3 I3 => ⟨σ, _, I3, q2⟩
end
section
variable {X : Cx} {pins : List (Addr × Obj)} {σ : St} {H : Hp} {s : Shared} {A : Around} {E : Value -> Shared -> Prop} {Q : Value -> Shared -> Prop} {c : Value} {b : Bool}
inductive TyOf (K : PySem.W.Frag) (H : Hp) : V -> Value -> Prop where
  | non : TyOf K H .non (.type "NoneType")
  | bl (x : Bool) : TyOf K H (.bl x) (.type "bool")
  | int (i : Int) : TyOf K H (.int i) (.type "int")
  | str (x : Str) : TyOf K H (.str x) (.type "str")
  | flt (x : UInt64) : TyOf K H (.flt x) (.type "float")
  | lst {a : Addr} {xs : List V} (e : H a = some (.lst xs)) : TyOf K H (.ref a) (.type "list")
  | frz {a : Addr} {o : Obj} {xs : List V} (e : H a = some (.frz o (.lst xs))) : TyOf K H (.ref a) (.type "list")
  | tup {a : Addr} {xs : List V} (e : H a = some (.tup xs)) : TyOf K H (.ref a) (.type "tuple")
  | dK {a : Addr} {kvs : List (Key × V)} (e : H a = some (.dK kvs)) : TyOf K H (.ref a) (.type "dict")
  | dT {a : Addr} {kvs : List (List Key × V)} (e : H a = some (.dT kvs)) : TyOf K H (.ref a) (.type "dict")
  | ins {a C dx : Addr} {fs : List (Str × V)} (e : H a = some (.ins C dx fs)) (cl : Cls K C) (ha : PySem.W.findIn K (.ref C) "__class__" = some (some (.builtin "object.__class__")))
      (hn : PySem.W.specialIn K (.builtin "object.__class__") "__get__" = some (some (.builtin "getset_descriptor.__get__"))) (htk : PySem.W.takesIn K (.builtin "object.__class__") = some true)
      (hm : PySem.W.mroIn K C (.type "object") = some true) : TyOf K H (.ref a) (.ref C)
theorem ZV {x : V} {u t : Value} (I : Inv X pins σ H s) (rx : RelV x u) (ty : TyOf X.K H x t) (e : PySem.W.kitOne X.K t c = some b) (h : ∀ tk, Q (.bool b) { s with toks := tk }) :
    wpAny (model X.prog X.w) A (call (.builtin "isinstance") [u, c]) Q E s := by
  cases ty with
  | non => cases (show u = Value.none from rx); exact PySem.W.kia_one PySem.W.kitx_none I.kIn True.intro e (fun z => nomatch z) h
  | bl y => cases (show u = Value.bool y from rx); exact PySem.W.kia_one PySem.W.kitx_bool I.kIn True.intro e (fun z => nomatch z) h
  | int i => obtain ⟨t, q⟩ := (show ∃ t, u = Value.int i t from rx); cases q; exact PySem.W.kia_one PySem.W.kitx_int I.kIn True.intro e (fun z => nomatch z) h
  | str y => obtain ⟨t, q⟩ := (show ∃ t, u = Value.str y t from rx); cases q; exact PySem.W.kia_one PySem.W.kitx_str I.kIn True.intro e (fun z => nomatch z) h
  | flt y => obtain ⟨t, q⟩ := (show ∃ t, u = Value.float y t from rx); cases q; exact PySem.W.kia_one PySem.W.kitx_float I.kIn True.intro e (fun z => nomatch z) h
  | @lst a xs ea =>
    cases (show u = Value.ref a from rx)
    obtain ⟨_, _, n, _, h1⟩ := (show ObjOk X.prog X.w H s.heap a (.lst xs) from I.hok a _ ea)
    exact PySem.W.kia_one PySem.W.kitx_list I.kIn ⟨_, h1, rfl⟩ e (fun z => nomatch z) h
  | @frz a ob xs ea =>
    cases (show u = Value.ref a from rx)
    obtain ⟨_, _, _, n, _, h1⟩ := (show ObjOk X.prog X.w H s.heap a (.frz ob (.lst xs)) from I.hok a _ ea)
    exact PySem.W.kia_one PySem.W.kitx_list I.kIn ⟨_, h1, rfl⟩ e (fun z => nomatch z) h
  | @tup a xs ea =>
    cases (show u = Value.ref a from rx)
    obtain ⟨_, _, _, p⟩ := (show ObjOk X.prog X.w H s.heap a (.tup xs) from I.hok a _ ea)
    obtain ⟨o, h1, h2, _⟩ := p
    exact PySem.W.kia_one PySem.W.kitx_tuple I.kIn ⟨o, h1, h2⟩ e (fun z => nomatch z) h
  | @dK a kvs ea =>
    cases (show u = Value.ref a from rx)
    obtain ⟨_, _, vs, _, p⟩ := (show ObjOk X.prog X.w H s.heap a (.dK kvs) from I.hok a _ ea)
    obtain ⟨o, es, ep, h1, h2, _⟩ := p
    exact PySem.W.kia_one PySem.W.kitx_dict I.kIn ⟨o, h1, h2.1⟩ e (fun z => nomatch z) h
  | @dT a kvs ea =>
    cases (show u = Value.ref a from rx)
    obtain ⟨_, _, xs, _, o, es, ep, h1, h2, _⟩ := (show ObjOk X.prog X.w H s.heap a (.dT kvs) from I.hok a _ ea)
    exact PySem.W.kia_one PySem.W.kitx_dict I.kIn ⟨o, h1, h2.1⟩ e (fun z => nomatch z) h
  | @ins a C dx fs ea cl ha hn htk hm =>
    cases (show u = Value.ref a from rx)
    obtain ⟨mA, O, _⟩ := xM I.hok ea
    obtain ⟨od, J, _⟩ := O.look
    exact PySem.W.kia_one (PySem.W.kitx_own (cl.get _) cl.hd ha hn htk hm) I.kIn J e (fun z => nomatch z) h
end
end L2
namespace L2
open PySem PySem.Spec PyProof.Rows
structure Room (k : Nat) (A : Around) : Prop where
  hd : A.handled = none
  dp : A.depth + 3 * k + 5 < recursionLimit
  un : A.units + 16 * k + 200 < cLine
theorem Room.mono {j k : Nat} {A : Around} (r : Room k A) (h : j <= k) : Room j A := ⟨r.hd, by have := r.dp; omega, by have := r.un; omega⟩
theorem Room.deeper {k : Nat} {A : Around} (r : Room (k + 1) A) (env : Env) : Room k (A.deeper env) :=
  ⟨r.hd, by have := r.dp; show A.depth + 1 + 3 * k + 5 < _; omega, by have := r.un; show A.units + 3 + 16 * k + 200 < _; omega⟩
theorem Room.in1 {k : Nat} {A : Around} (r : Room (k + 1) A) : Room k A.in1 :=
  ⟨r.hd, by have := r.dp; show A.depth + 3 * k + 5 < _; omega, by have := r.un; show A.units + 1 + 16 * k + 200 < _; omega⟩
theorem jf {A : Around} {C : Addr} {us : List Value} {kw : List (Str × Value)} : (A.under (.builtin "type.__call__" ⟨.ref C :: us, kw⟩)).depth = A.depth + 1 := by
  first | rfl | simp [Around.under, Code.weight, Code.isCreation, Code.isGuard, Code.isCaller, Code.frames, Code.isFrame, guardIds]
theorem jg {A : Around} {C : Addr} {us : List Value} {kw : List (Str × Value)} : (A.under (.builtin "type.__call__" ⟨.ref C :: us, kw⟩)).units = A.units + 1 := by
  first | rfl | simp [Around.under, Code.cUnits, Code.frames, Code.isFrame]
theorem Room.make {k : Nat} {A : Around} (r : Room (k + 1) A) (C : Addr) (us : List Value) (kw : List (Str × Value)) : Room k (A.under (.builtin "type.__call__" ⟨.ref C :: us, kw⟩)) :=
  ⟨r.hd, by have := r.dp; rw [jf]; omega, by have := r.un; rw [jg]; omega⟩
theorem Room.depth {k : Nat} {A : Around} (r : Room k A) : A.depth < recursionLimit := by have := r.dp; omega
theorem Room.units {k : Nat} {A : Around} (r : Room k A) : A.units + 64 < cLine := by have := r.un; omega
theorem Room.units0 {k : Nat} {A : Around} (r : Room k A) : A.units < cLine := by have := r.un; omega
def tNil : TA := fun _ H Q => Q [] H
def xT (ta : TE) (tr : TA) : TA := fun σ H Q => ta σ H fun x H1 => tr σ H1 fun xs H2 => Q (x :: xs) H2
section
variable {X : Cx} {e : Expr} {es : List Expr} {te : TE} {t : TA} {pos : Pos}
theorem Jp : PA X [] tNil := fun _ _ _ _ H Q I h => Calls.spliced_nil ⟨[], H, I, .nil, h⟩
theorem Wx (ha : PE X e te) (hr : PA X es t) (hs : starEach (e :: es) X.env = (false, eval e X.env) :: starEach es X.env := by rfl) : PA X (e :: es) (xT te t) := by
  intro pos pins s σ H Q I h
  rw [hs]
  show wpAny _ _ (spliced ((false, eval e X.env) :: backTo pos (starEach es X.env))) _ _ s
  refine Calls.spliced_cons (thn (ha pins s σ H _ I h) fun u s1 ⟨x, H1, I1, r1, q1⟩ => ?_)
  exact thn (hr pos pins s1 σ H1 _ I1 q1) fun us s2 ⟨xs, H2, I2, r2, q2⟩ => ⟨x :: xs, H2, I2, .cons r1 r2, q2⟩
def tTup (t : TA) : TE := fun σ H Q => t σ H fun xs H1 => xs.length <= sizeLine /\ ∀ p, H1 p = none -> Q (.ref p) (upd H1 p (.tup xs))
def tLst (t : TA) : TE := fun σ H Q => t σ H fun xs H1 => xs.length <= sizeLine /\ ∀ p, H1 p = none -> Q (.ref p) (upd H1 p (.lst xs))
theorem Jq {x1} (h : PA X es t) : PE X (.Tuple es x1 pos) (tTup t) := by
  intro pins s σ H Q I hq
  refine wpAny_Tuple_spliced (thn (h pos pins s σ H _ I hq) fun us s1 ⟨xs, H1, I1, r, z, q⟩ => ⟨by rw [<- r.length]; exact z, ?_⟩)
  have hf : H1 s1.heap.objs.size = none := I1.hok.fresh (Nat.le_refl _)
  refine ⟨.ref s1.heap.objs.size, upd H1 s1.heap.objs.size (.tup xs), I1.laid (t' := s1.toks) (fun b u e => Heap.get?_push_of_some _ e) (Nat.le_refl _) ?_, rfl, q _ hf⟩
  exact ⟨z, us, r, ⟨_, Heap.get?_push_size _ rfl, rfl, rfl, _, rfl⟩⟩
theorem Jr (h : PA X es t) : PE X (.List es pos) (tLst t) := by
  intro pins s σ H Q I hq
  refine wpAny_List_spliced (thn (h pos pins s σ H _ I hq) fun us s1 ⟨xs, H1, I1, r, z, q⟩ => ⟨by rw [<- r.length]; exact z, ?_⟩)
  have hf : H1 s1.heap.objs.size = none := I1.hok.fresh (Nat.le_refl _)
  refine ⟨.ref s1.heap.objs.size, upd H1 s1.heap.objs.size (.lst xs), I1.laid (t' := s1.toks) (fun b u e => Heap.get?_push_of_some _ e) (Nat.le_refl _) ?_, rfl, q _ hf⟩
  exact ⟨z, us, 0, r, Heap.get?_push_size _ rfl⟩
end
abbrev Sp := List V -> Hp -> VK -> XK -> Prop
abbrev CXT := List Env -> Hp -> Shared -> XK -> Value -> Shared -> Prop
structure Env0 (P : Program) (w : World) (K : PySem.W.Frag) (mg : Str -> Option Value) (base : Heap) (A : Around) (outer : List Env) (s : Shared) (H : Hp) : Prop where
  frames : A.frames = some outer
  mod : Mod K mg base
  bs : ∀ b o, base.get? b = some o -> s.heap.get? b = some o /\ H b = none
  bsz : base.objs.size <= s.heap.objs.size
  funs : s.heap.FunFrames base outer
  frf : ∀ b ∈ frs outer, H b = none
  hok : HOk P w H s.heap
  bare : AllBare s.gens
def CE (outer : List Env) (P : Program) (w : World) (H : Hp) (s : Shared) (Q : VK) (u : Value) (s' : Shared) : Prop :=
  ∃ v H', s'.os = s.os /\ AllBare s'.gens /\ Un (frs outer) [] H H' s.heap s'.heap /\ HOk P w H' s'.heap /\ RelV v u /\ Q v H'
def CR (CX : CXT) (outer : List Env) (P : Program) (w : World) (H : Hp) (s : Shared) (Q : VK) (E : XK) (r : Result) (s' : Shared) : Prop :=
  match r with
  | .ok (.ret u) => CE outer P w H s Q u s'
  | .ok _ => False
  | .error e => CX outer H s E e s'
structure FnOk (P : Program) (w : World) (K : PySem.W.Frag) (mg : Str -> Option Value) (base : Heap) (CX : CXT) (k : Nat) (f : Addr) (fd : FuncData) (ps : List Str) (sp : Sp) : Prop where
  len : ∀ vs H Q E, sp vs H Q E -> vs.length = ps.length
  run : ∀ (A : Around) (outer : List Env) (s : Shared) (H : Hp) (args : Args) (us : List Value) (vs : List V) (Q : VK) (E : XK), Room k A -> Env0 P w K mg base A outer s H -> BindsTo s fd args (ps.zip us) -> Vals vs us -> sp vs H Q E ->
    codeAny (model P w) A (.call (.ref f) args) (CR CX outer P w H s Q E) s
theorem FnOk.mono {P : Program} {w : World} {K : PySem.W.Frag} {mg : Str -> Option Value} {base : Heap} {CX : CXT} {j k : Nat} {f : Addr} {fd : FuncData} {ps : List Str} {sp : Sp} (F : FnOk P w K mg base CX j f fd ps sp) (h : j <= k) :
    FnOk P w K mg base CX k f fd ps sp := ⟨F.len, fun A outer s H args us vs Q E hr => F.run A outer s H args us vs Q E (hr.mono h)⟩
theorem FnOk.imp {P : Program} {w : World} {K : PySem.W.Frag} {mg : Str -> Option Value} {base : Heap} {CX : CXT} {k : Nat} {f : Addr} {fd : FuncData} {ps : List Str} {sp sp' : Sp} (F : FnOk P w K mg base CX k f fd ps sp)
    (h : ∀ vs H Q E, sp' vs H Q E -> sp vs H Q E) : FnOk P w K mg base CX k f fd ps sp' :=
  ⟨fun vs H Q E q => F.len vs H Q E (h _ _ _ _ q), fun A outer s H args us vs Q E hr he hb hv hs => F.run A outer s H args us vs Q E hr he hb hv (h _ _ _ _ hs)⟩
theorem Env0.make {P : Program} {w : World} {K : PySem.W.Frag} {mg : Str -> Option Value} {base : Heap} {A : Around} {outer : List Env} {s : Shared} {H : Hp} (e : Env0 P w K mg base A outer s H) (C : Addr) (us : List Value) (kw : List (Str × Value)) :
    Env0 P w K mg base (A.under (.builtin "type.__call__" ⟨.ref C :: us, kw⟩)) outer s H := ⟨by first | exact e.frames | (simpa [Around.under, Code.envs, Code.isFrame, pushEnvs] using e.frames), e.mod, e.bs, e.bsz, e.funs, e.frf, e.hok, e.bare⟩
theorem Env0.in1 {P : Program} {w : World} {K : PySem.W.Frag} {mg : Str -> Option Value} {base : Heap} {A : Around} {outer : List Env} {s : Shared} {H : Hp} (e : Env0 P w K mg base A outer s H) :
    Env0 P w K mg base A.in1 outer s H := ⟨e.frames, e.mod, e.bs, e.bsz, e.funs, e.frf, e.hok, e.bare⟩
section
variable {X : Cx} {pins : List (Addr × Obj)} {σ : St} {H : Hp} {s s' : Shared}
theorem Inv.env0 (I : Inv X pins σ H s) : Env0 X.prog X.w X.K X.mg X.base X.A X.stack s H :=
  ⟨I.ok.frames, I.ok.mod, I.bs, Nat.le_trans I.ok.bsz I.sz, I.stack, I.stkFree, I.hok, I.bare⟩
theorem Inv.after {Q : VK} {u : Value} (I : Inv X pins σ H s) (h : CE X.stack X.prog X.w H s Q u s') : EP X pins σ Q u s' := by
  obtain ⟨v, H', os, bare, un, hok, r, q⟩ := h
  obtain ⟨hh, g, d, t, os'⟩ := s'
  obtain rfl : os' = s.os := os
  exact ⟨v, H', I.call (h' := hh) (g' := g) (d' := d) (t' := t) (ch := []) un hok bare (fun b z => absurd z (by simp)), r, q⟩
end
def wE (sp : Sp) (dvs : List V) (E : XK) (t : TA) : TE := fun σ H Q => t σ H fun vs H1 => sp (vs ++ dvs) H1 Q E
def j6 (C : Addr) (m : Str) (sp : Sp) (dvs : List V) (E : XK) (ta : TE) (t : TA) : TE := fun σ H Q => ta σ H fun x H1 => ∃ a dx fs, x = .ref a /\ H1 a = some (.ins C dx fs) /\ fs.lookup m = none /\
  t σ H1 fun vs H2 => sp (x :: (vs ++ dvs)) H2 Q E
def VA (C : Addr) (sp : Sp) (dvs : List V) (E : XK) (t : TA) : TE := fun σ H Q => t σ H fun vs H1 => ∀ x dx, H1 x = none -> H1 dx = none -> dx ≠ x ->
  sp (.ref x :: (vs ++ dvs)) (upd (upd H1 dx (.own x)) x (.ins C dx [])) (fun v H2 => v = .non /\ Q (.ref x) H2) E
def Binds (K : PySem.W.Frag) (fd : FuncData) (ps : List Str) (ds : List Value) : Prop :=
  ∀ (s : Shared) (us : List Value), K.In s.heap -> (us ++ ds).length = ps.length -> BindsTo s fd ⟨us, []⟩ (ps.zip (us ++ ds))
theorem Binds.all {K : PySem.W.Frag} {fd : FuncData} {ps : List Str} (h : ∀ us : List Value, us.length = ps.length -> bindArgs fd ⟨us, []⟩ = pure (ps.zip us)) : Binds K fd ps [] := fun s us _ hl => by
  rw [List.append_nil] at hl ⊢
  exact .of_eq (h us hl)
def zO (CX : CXT) (X : Cx) (E : XK) : Prop := ∀ (pins : List (Addr × Obj)) (σ : St) (H : Hp) (s : Shared) (e : Value) (s' : Shared), Inv X pins σ H s -> CX X.stack H s E e s' -> X.xe e s'
section
variable {X : Cx} {CX : CXT} {k : Nat} {f C : Addr} {fd : FuncData} {ps : List Str} {sp : Sp} {dvs : List V} {ds : List Value} {E : XK} {x m : Str} {p pos apos : Pos} {e o : Expr} {es : List Expr} {ta : TE} {t : TA}
theorem wZ {pins : List (Addr × Obj)} {σ : St} {H : Hp} {s : Shared} {Q : VK} {us : List Value} {vs : List V} (F : FnOk X.prog X.w X.K X.mg X.base CX k f fd ps sp) (hr : Room k X.A) (hb : Binds X.K fd ps ds) (hd : Vals dvs ds) (hx : zO CX X E)
    (I : Inv X pins σ H s) (r : Vals vs us) (h : sp (vs ++ dvs) H Q E) : wpAny (model X.prog X.w) X.A (call (.ref f) us) (EP X pins σ Q) X.xe s := by
  have r2 : Vals (vs ++ dvs) (us ++ ds) := r.append hd
  have hl : (us ++ ds).length = ps.length := by rw [<- r2.length]; exact F.len _ _ _ _ h
  refine wpAny_call (codeAny_mono (F.run X.A X.stack s H ⟨us, []⟩ (us ++ ds) (vs ++ dvs) Q E hr I.env0 (hb s us I.kIn hl) r2 h) fun r s' hq => ?_)
  cases r with
  | error e => exact hx pins σ H s e s' I hq
  | ok fl =>
    cases fl with
    | ret u => exact I.after hq
    | next => exact False.elim hq
    | brk => exact False.elim hq
    | cont => exact False.elim hq
theorem Wy (F : FnOk X.prog X.w X.K X.mg X.base CX k f fd ps sp) (hr : Room k X.A) (hg : Gl X x) (hm : X.mg x = some (.ref f)) (hk : PySem.W.keepIn X.K (.ref f) = true) (hb : Binds X.K fd ps ds) (hd : Vals dvs ds) (hx : zO CX X E)
    (ha : PA X (e :: es) t) (hdb : (x == ("__debug__" : Str)) = false := by decide) (he : starEach (e :: es) X.env = (false, eval e X.env) :: starEach es X.env := by rfl) (hpl : (backTo pos (starEach es X.env)).any (·.1) = false := by rfl) :
    PE X (.Call (.Name x p) (e :: es) [] pos) (wE sp dvs E t) := by
  intro pins s σ H Q I h
  refine wpAny_Call_Name_kw (yy I hg hm ?_ hdb)
  refine PySem.W.callWith_K (h₀ := X.base) I.ok.mod.kin hk (thn (ha pos pins s σ H _ I h) fun us s1 ⟨vs, H1, I1, r, q⟩ => ⟨I1.kIn, ?_⟩) he hpl
  exact wZ F hr hb hd hx I1 r q
theorem Wz {pl : Sem Bool} (he : PE X o ta) (c : Cls X.K C) (hm : Meth X.K C m f) (F : FnOk X.prog X.w X.K X.mg X.base CX k f fd ps sp) (hr : Room k X.A) (hb : Binds X.K fd ps ds) (hd : Vals dvs ds) (hx : zO CX X E) (ha : PA X (e :: es) t)
    (hst : starEach (e :: es) X.env = (false, eval e X.env) :: starEach es X.env := by rfl) (hpl : (backTo pos (starEach es X.env)).any (·.1) = false := by rfl)
    (ht : eval (.Call (.Attribute o m apos) (e :: es) [] pos) X.env = (do
      let ov <- eval o X.env
      standAt apos.atName
      let (f, first) <- holding [ov] (getMethod ov m pl)
      callWith pos f first (backTo pos (starEach (e :: es) X.env)) (backToKw pos (keywordEach [] X.env))) := by rfl) :
    PE X (.Call (.Attribute o m apos) (e :: es) [] pos) (j6 C m sp dvs E ta t) := by
  intro pins s σ H Q I h
  refine PySem.W.methodCall_KW (pl := pl) (thn (he pins s σ H _ I h) fun u s1 ⟨x, H1, I1, rx, a, dx, fs, ex, ea, l, q⟩ => ?_) ht
  subst ex
  obtain rfl : u = Value.ref a := rx
  refine xS I1 ea c hm l ?_
  refine PySem.W.callWith_K (first := [.ref a]) (h₀ := X.base) I.ok.mod.kin hm.kp (thn (ha pos pins s1 σ H1 _ I1 q) fun us s2 ⟨vs, H2, I2, r, q2⟩ => ⟨I2.kIn, ?_⟩) hst hpl
  exact wZ (us := .ref a :: us) (vs := .ref a :: vs) F hr hb hd hx I2 (.cons rfl r) q2
theorem YG {pl : Sem Bool} (he : PE X o ta) (c : Cls X.K C) (hm : Meth X.K C m f) (F : FnOk X.prog X.w X.K X.mg X.base CX k f fd ps sp) (hr : Room k X.A) (hb : Binds X.K fd ps ds) (hd : Vals dvs ds) (hx : zO CX X E)
    (ht : eval (.Call (.Attribute o m apos) [] [] pos) X.env = (do
      let ov <- eval o X.env
      standAt apos.atName
      let (f, first) <- holding [ov] (getMethod ov m pl)
      callWith pos f first (backTo pos (starEach [] X.env)) (backToKw pos (keywordEach [] X.env))) := by rfl) :
    PE X (.Call (.Attribute o m apos) [] [] pos) (j6 C m sp dvs E ta tNil) := by
  intro pins s σ H Q I h
  refine PySem.W.methodCall_KW (pl := pl) (thn (he pins s σ H _ I h) fun u s1 ⟨x, H1, I1, rx, a, dx, fs, ex, ea, l, q⟩ => ?_) ht
  subst ex
  obtain rfl : u = Value.ref a := rx
  refine xS I1 ea c hm l ?_
  exact PySem.W.callWith_K0 (first := [.ref a]) I1.kIn hm.kp (wZ (us := [.ref a]) (vs := [.ref a]) F hr hb hd hx I1 (.cons rfl .nil) q)
structure Mk (K : PySem.W.Frag) (C f : Addr) : Prop where
  makes : PySem.W.makesIn K C = true
  init : PySem.W.findIn K (.ref C) "__init__" = some (some (.ref f))
  fn : PySem.W.isFn K (.ref f) = true
  kp : PySem.W.keepIn K (.ref C) = true
theorem YH {pins : List (Addr × Obj)} {σ : St} {H : Hp} {s : Shared} {Q : VK} {us : List Value} {vs : List V} (M : Mk X.K C f) (F : FnOk X.prog X.w X.K X.mg X.base CX k f fd ps sp) (hr : Room (k + 1) X.A) (hb : Binds X.K fd ps ds) (hd : Vals dvs ds)
    (hx : zO CX X E) (I : Inv X pins σ H s) (r : Vals vs us)
    (h : ∀ x dx, H x = none -> H dx = none -> dx ≠ x -> sp (.ref x :: (vs ++ dvs)) (upd (upd H dx (.own x)) x (.ins C dx [])) (fun v H2 => v = .non /\ Q (.ref x) H2) E) :
    wpAny (model X.prog X.w) X.A (call (.ref C) us) (EP X pins σ Q) X.xe s := by
  have hq := h (s.heap.objs.size + 1) s.heap.objs.size (I.hok.fresh (Nat.le_succ _)) (I.hok.fresh (Nat.le_refl _)) (Nat.ne_of_lt (Nat.lt_succ_self _))
  have I2 := Inv.made (C := C) I
  have r2 : Vals (V.ref (s.heap.objs.size + 1) :: (vs ++ dvs)) (Value.ref (s.heap.objs.size + 1) :: (us ++ ds)) := .cons rfl (r.append hd)
  have hl : (Value.ref (s.heap.objs.size + 1) :: us ++ ds).length = ps.length := by
    have e := r2.length
    rw [F.len _ _ _ _ hq] at e
    exact e.symm
  refine wpAny_call (YF (f := f) I.kIn M.makes M.init (beq_iff_eq.mp M.fn) (codeAny_mono (F.run _ X.stack _ _ ⟨Value.ref (s.heap.objs.size + 1) :: us, []⟩ (Value.ref (s.heap.objs.size + 1) :: (us ++ ds)) _ _ E (hr.make C us [])
    (I2.env0.make C us []) (hb _ (Value.ref (s.heap.objs.size + 1) :: us) I2.kIn hl) r2 hq) fun r s' hq' => ?_))
  cases r with
  | error e => exact hx pins σ _ _ e s' I2 hq'
  | ok fl =>
    cases fl with
    | ret u =>
      obtain ⟨v, H', I3, rv, ev, q3⟩ := I2.after hq'
      subst ev
      exact ⟨rv, ⟨V.ref (s.heap.objs.size + 1), H', I3, rfl, q3⟩⟩
    | next => exact False.elim hq'
    | brk => exact False.elim hq'
    | cont => exact False.elim hq'
theorem WA (M : Mk X.K C f) (F : FnOk X.prog X.w X.K X.mg X.base CX k f fd ps sp) (hr : Room (k + 1) X.A) (hg : Gl X x) (hm : X.mg x = some (.ref C)) (hb : Binds X.K fd ps ds) (hd : Vals dvs ds) (hx : zO CX X E)
    (ha : PA X (e :: es) t) (hdb : (x == ("__debug__" : Str)) = false := by decide) (he : starEach (e :: es) X.env = (false, eval e X.env) :: starEach es X.env := by rfl) (hpl : (backTo pos (starEach es X.env)).any (·.1) = false := by rfl) :
    PE X (.Call (.Name x p) (e :: es) [] pos) (VA C sp dvs E t) := by
  intro pins s σ H Q I h
  refine wpAny_Call_Name_kw (yy I hg hm ?_ hdb)
  refine PySem.W.callWith_K (h₀ := X.base) I.ok.mod.kin M.kp (thn (ha pos pins s σ H _ I h) fun us s1 ⟨vs, H1, I1, r, q⟩ => ⟨I1.kIn, ?_⟩) he hpl
  exact YH M F hr hb hd hx I1 r q
end
section
variable {X : Cx} {CX : CXT} {k : Nat} {f C : Addr} {fd : FuncData} {ps ks : List Str} {sp : Sp} {E : XK} {x m : Str} {p pos apos kpos : Pos} {e o : Expr} {es : List Expr} {kws : List Keyword} {te ta : TE} {t tk : TA} {nm : Option Str}
structure KBinds (K : PySem.W.Frag) (fd : FuncData) (ps ks : List Str) (g : List Value -> List Value -> List Value) (gV : List V -> List V -> List V) : Prop where
  to : ∀ (s : Shared) (us ws : List Value), K.In s.heap -> (g us ws).length = ps.length -> BindsTo s fd ⟨us, ks.zip ws⟩ (ps.zip (g us ws))
  rel : ∀ {vs : List V} {us : List Value} {zs : List V} {ws : List Value}, Vals vs us -> Vals zs ws -> Vals (gV vs zs) (g us ws)
variable {g : List Value -> List Value -> List Value} {gV : List V -> List V -> List V}
end
structure FnScope (N P : List Str) (sc : Scope) : Prop where
  kind : sc.kind = .function
  co : sc.isCoroutine = false
  gen : sc.isGenerator = false
  nd : N.Nodup
  pre : N.take P.length = P
  par : ∀ x ∈ P, sc.names.lookup x = some .local \/ sc.names.lookup x = some .cell
  nofree : ∀ y ∈ sc.names, y.2 ≠ .free
theorem wF {kindOf : Str -> Option NameKind} {x : Str} : ∀ {binds : List (Str × Value)} {m : Str -> Option Value}, (∀ v, (x, v) ∉ binds) -> bindL kindOf binds m x = m x
  | [], _, _ => rfl
  | (n, v) :: r, m, h => by
    unfold bindL
    rw [wF fun w hw => h w (List.mem_cons_of_mem _ hw)]
    split
    · have : x ≠ n := by rintro rfl; exact h v List.mem_cons_self
      simp [this]
    · rfl
theorem wG {kindOf : Str -> Option NameKind} {x : Str} : ∀ {binds : List (Str × Value)} {m : Str -> Option Value}, (∀ v, (x, v) ∉ binds) -> bindC kindOf binds m x = m x
  | [], _, _ => rfl
  | (n, v) :: r, m, h => by
    unfold bindC
    rw [wG fun w hw => h w (List.mem_cons_of_mem _ hw)]
    split
    · rfl
    · have : x ≠ n := by rintro rfl; exact h v List.mem_cons_self
      simp [this]
theorem wH {kindOf : Str -> Option NameKind} {x : Str} {v : Value} : ∀ {P : List Str} {vs : List Value} {i : Nat} {m : Str -> Option Value}, P.Nodup -> P[i]? = some x -> vs[i]? = some v -> kindOf x = some .local ->
    bindL kindOf (P.zip vs) m x = some v
  | [], _, _, _, _, h, _, _ => by simp at h
  | _ :: _, [], _, _, _, _, h, _ => by simp at h
  | p :: P, w :: vs, 0, m, nd, h1, h2, hk => by
    simp at h1 h2; subst h1; subst h2
    show bindL kindOf ((p, w) :: P.zip vs) m p = _
    unfold bindL
    rw [wF fun v hv => (List.nodup_cons.mp nd).1 (List.of_mem_zip hv).1, if_pos hk]
    simp
  | p :: P, w :: vs, i + 1, m, nd, h1, h2, hk => by
    show bindL kindOf ((p, w) :: P.zip vs) m x = _
    unfold bindL
    exact wH (i := i) (List.nodup_cons.mp nd).2 (by simpa using h1) (by simpa using h2) hk
theorem wI {kindOf : Str -> Option NameKind} {x : Str} {v : Value} : ∀ {P : List Str} {vs : List Value} {i : Nat} {m : Str -> Option Value}, P.Nodup -> P[i]? = some x -> vs[i]? = some v -> kindOf x ≠ some .local ->
    bindC kindOf (P.zip vs) m x = some v
  | [], _, _, _, _, h, _, _ => by simp at h
  | _ :: _, [], _, _, _, _, h, _ => by simp at h
  | p :: P, w :: vs, 0, m, nd, h1, h2, hk => by
    simp at h1 h2; subst h1; subst h2
    show bindC kindOf ((p, w) :: P.zip vs) m p = _
    unfold bindC
    rw [wG fun v hv => (List.nodup_cons.mp nd).1 (List.of_mem_zip hv).1, if_neg hk]
    simp
  | p :: P, w :: vs, i + 1, m, nd, h1, h2, hk => by
    show bindC kindOf ((p, w) :: P.zip vs) m x = _
    unfold bindC
    exact wI (i := i) (List.nodup_cons.mp nd).2 (by simpa using h1) (by simpa using h2) hk
def z6 (N : List Str) (vs : List V) : St := vs.map some ++ List.replicate (N.length - vs.length) none
def cxOf (CX : CXT) (P : Program) (w : World) (K : PySem.W.Frag) (mg : Str -> Option Value) (base : Heap) (N : List Str) (qual : Str) (scope : Scope) (f : Addr) (cd : Value) (A : Around) (outer : List Env) (s : Shared) (H : Hp) (E : XK) : Cx where
  prog := P
  w := w
  K := K
  mg := mg
  base := base
  A := A.deeper (envOfC qual scope s.heap.objs.size f cd)
  N := N
  s₀ := s
  H₀ := H
  env := envOfC qual scope s.heap.objs.size f cd
  outer := outer
  stack := envOfC qual scope s.heap.objs.size f cd :: outer
  ex := []
  calm := true
  fn := fun _ => true
  pn := []
  xe := fun e s' => wpAny (model P w) (A.deeper (envOfC qual scope s.heap.objs.size f cd)) (leaving (envOfC qual scope s.heap.objs.size f cd) e) (fun _ s'' => CX outer H s E e s'') (fun e' s'' => CX outer H s E e' s'') s'
theorem vF {sc : Scope} {n : Nat} {x : Str} (h : sc.names.lookup x = some .cell) : ∃ c, (cellsFrom n sc.names []).lookup x = some c := by
  have q := PySem.W.cellsFrom_some sc.names n [] (.inl h)
  exact Option.isSome_iff_exists.mp q
theorem xx {CX : CXT} {P : Program} {w : World} {K : PySem.W.Frag} {mg : Str -> Option Value} {base : Heap} {N ps : List Str} {qual : Str} {scope : Scope} {f : Addr} {cd : Value} {A : Around} {outer : List Env} {s s1 : Shared} {H : Hp} {E : XK} {us : List Value} {vs : List V}
    (S : FnScope N ps scope) (hd : A.handled = none) (e0 : Env0 P w K mg base A outer s H) (hl : vs.length = ps.length) (r : Vals vs us)
    (x : InCallC s s.heap.objs.size (bindL (envOfC qual scope s.heap.objs.size f cd).kindOf (ps.zip us) fun _ => none) (cellsFrom (s.heap.objs.size + 1) scope.names []) (bindC (envOfC qual scope s.heap.objs.size f cd).kindOf (ps.zip us) fun _ => none) s1) :
    Inv (cxOf CX P w K mg base N qual scope f cd A outer s H E) [] (z6 N vs) H s1 := by
  have hpl : ps.length <= N.length := by have := congrArg List.length S.pre; rw [List.length_take] at this; omega
  obtain ⟨h1, tk, rfl, hk⟩ := x.done
  have noA : ∀ b : Addr, b ∉ (cxOf CX P w K mg base N qual scope f cd A outer s H E).ex := fun b z => absurd (show b ∈ ([] : List Addr) from z) (by simp)
  refine ⟨⟨e0.mod, S.kind, rfl, rfl, Nat.le_refl _, fun y z c h1 h2 => ?_, fun y hy => ?_, fun y c _ h => ?_, fun _ => hd, Around.frames_deeper e0.frames, .inr ⟨rfl, rfl⟩, fun b z => absurd z (noA b), e0.bs, e0.bsz, fun b _ _ => noA b, fun b z => absurd z (noA b), e0.funs, e0.frf⟩,
    rfl, e0.bare, Un.kept hk, ⟨_, x.toInCall.ns, fun i y v h1 h2 h3 => ?_⟩, fun y c h => ⟨_, x.cell y c h⟩, e0.hok.fresh (Nat.le_refl _), fun y c h => ?_, fun p hp => absurd (show p ∈ ([] : List (Addr × Obj)) from hp) (by simp), e0.hok.kept hk, ?_⟩
  · exact name_of_addr x.apart (PySem.mem_of_lookup h1) (PySem.mem_of_lookup h2)
  · have hy : scope.names.lookup y = some .cell \/ scope.names.lookup y = some .free := hy
    rcases hy with hy | hy
    · exact vF hy
    · exact absurd rfl (S.nofree _ (PySem.mem_of_lookup hy))
  · exact Nat.le_of_lt (x.above y c (PySem.mem_of_lookup h))
  · have hi : i < vs.length := by
      unfold z6 at h2
      by_cases hi : i < vs.length
      · exact hi
      · rw [List.getElem?_append_right (by simpa using hi)] at h2
        rw [List.getElem?_replicate] at h2
        split at h2 <;> cases h2
    have ha : vs[i]? = some v := by
      unfold z6 at h2
      rw [List.getElem?_append_left (by simpa using hi), List.getElem?_map] at h2
      cases e : vs[i]? with
      | none => rw [e] at h2; cases h2
      | some a => rw [e] at h2; cases h2; rfl
    obtain ⟨u, hu, rv⟩ := r.get ha
    have hp : ps[i]? = some y := by
      rw [<- S.pre, List.getElem?_take_of_lt (by omega)]; exact h1
    have ndP : ps.Nodup := by rw [<- S.pre]; exact S.nd.sublist (List.take_sublist _ _)
    refine ⟨u, rv, ?_⟩
    rcases S.par y (List.mem_of_getElem? hp) with k | k
    · exact .inl ⟨k, wH ndP hp hu k⟩
    · obtain ⟨c, e⟩ := vF (n := s.heap.objs.size + 1) k
      refine .inr ⟨.inl k, c, e, ?_⟩
      have q := x.cell y c e
      rw [wI ndP hp hu (by show scope.names.lookup y ≠ _; rw [k]; decide)] at q
      exact q
  · exact e0.hok.fresh (Nat.le_of_lt (x.above y c (PySem.mem_of_lookup h)))
  · unfold z6
    show _ = N.length
    rw [List.length_append, List.length_map, List.length_replicate]
    omega
theorem j7 {CX : CXT} {P : Program} {w : World} {K : PySem.W.Frag} {mg : Str -> Option Value} {base : Heap} {k : Nat} {f : Addr} {name qual : Str} {params : Arguments} {body : List Stmt} {scope : Scope} {dV kV doc pm cdv ct oc : Value} {an od : Option Addr}
    {osl : Array (Option Value)} {N ps : List Str} {sp : Sp} (lk : K.lookup f = some ⟨oc, od, .func (PySem.W.fnOf name qual params body scope dV kV doc pm an cdv ct), osl⟩) (hcd : PySem.W.codeIn K cdv qual = true) (S : FnScope N ps scope)
    (len : ∀ vs H Q E, sp vs H Q E -> vs.length = ps.length)
    (hbody : ∀ (A : Around) (outer : List Env) (s : Shared) (H : Hp) (vs : List V) (Q : VK) (E : XK), Room k (A.deeper (envOfC qual scope s.heap.objs.size f cdv)) -> sp vs H Q E ->
      ∃ t, PSs (cxOf CX P w K mg base N qual scope f cdv A outer s H E) body t /\ t { nx := fun _ H' => Q .non H', rt := Q } (z6 N vs) H) :
    FnOk P w K mg base CX (k + 1) f (PySem.W.fnOf name qual params body scope dV kV doc pm an cdv ct) ps sp := by
  refine ⟨len, fun A outer s H args us vs Q E hr e0 hb r hsp => ?_⟩
  have hl := len _ _ _ _ hsp
  have KX : K.In s.heap := e0.mod.kin.keeps fun b o e => (e0.bs b o e).1
  have lim : s.heap.NoLimit := e0.mod.nolimit.keeps fun b o e => (e0.bs b o e).1
  have hkind : ∀ y ∈ ps.zip us, scope.names.lookup y.1 = some .local \/ (scope.names.lookup y.1 = some .cell /\ ((cellsFrom (s.heap.objs.size + 1) scope.names []).lookup y.1).isSome = true) := fun ⟨n, v⟩ hy => by
    rcases S.par n (List.of_mem_zip hy).1 with q | q
    · exact .inl q
    · exact .inr ⟨q, PySem.W.cellsFrom_some _ _ _ (.inl q)⟩
  refine codeAny_call_function hr.depth (KX _ _ lk) rfl S.co S.gen rfl (PySem.W.codeRec_of KX hcd) (hb _ _ _ _ ?_)
  refine wpAny_newFunctionEnv_cells S.kind hkind fun env he s1 x => ?_
  subst he
  refine ⟨lim.keeps x.toInCall.keep, codeAny_func ?_⟩
  obtain ⟨t, ht, hq⟩ := hbody A outer s H vs Q E (hr.deeper _) hsp
  have I : Inv (cxOf CX P w K mg base N qual scope f cdv A outer s H E) [] (z6 N vs) H s1 := xx S hr.hd e0 hl r x
  refine wpAny_mono (ht [] s1 (z6 N vs) H _ I hq) (fun fl s' hs => ?_) fun e s' hs => hs
  have fin : ∀ {σ' : St} {H' : Hp} {v : V} {u : Value}, Inv (cxOf CX P w K mg base N qual scope f cdv A outer s H E) [] σ' H' s' -> RelV v u -> Q v H' -> CE outer P w H s Q u s' :=
    fun {σ' H' v u} J rv q => ⟨v, H', J.os, J.bare, J.base, J.hok, rv, q⟩
  cases fl with
  | ret u =>
    obtain ⟨v, σ', H', J, rv, q⟩ := hs
    exact fin J rv q
  | next =>
    obtain ⟨σ', H', J, q⟩ := hs
    exact fin (v := V.non) (u := Value.none) J rfl q
  | brk =>
    obtain ⟨_, _, _, q⟩ := hs
    exact False.elim q
  | cont =>
    obtain ⟨_, _, _, q⟩ := hs
    exact False.elim q
end L2
namespace L2
open PySem PySem.Spec PyProof.Rows
section
variable {X : Cx} {x : Str} {p pos : Pos} {e : Expr} {es : List Expr} {t : TA} {id T : String} {r : List V -> Hp -> VK -> Prop}
def tCB (r : List V -> Hp -> VK -> Prop) (t : TA) : TE := fun σ H Q => t σ H fun vs H1 => r vs H1 Q
theorem YI (hc : CallR X (.builtin id) r) (hg : Gl X x) (hm : X.mg x = none) (hv : bootBuiltins x = some (.builtin id)) (ha : PA X (e :: es) t) (hn : x ≠ "__name__" := by decide) (hdb : (x == ("__debug__" : Str)) = false := by decide)
    (he : starEach (e :: es) X.env = (false, eval e X.env) :: starEach es X.env := by rfl) (hpl : (backTo pos (starEach es X.env)).any (·.1) = false := by rfl) : PE X (.Call (.Name x p) (e :: es) [] pos) (tCB r t) := by
  intro pins s σ H Q I h
  refine wpAny_Call_Name_kw (yN I hg hm hv ?_ hn hdb)
  exact PyProof.Rows.callWith_builtin1 (thn (ha pos pins s σ H _ I h) fun us s1 ⟨vs, H1, I1, r1, q1⟩ => hc pins s1 σ H1 vs us Q I1 r1 q1) he hpl
theorem ZW (hc : CallR X (.type T) r) (hg : Gl X x) (hm : X.mg x = none) (hv : bootBuiltins x = some (.type T)) (ha : PA X (e :: es) t) (hn : x ≠ "__name__" := by decide) (hdb : (x == ("__debug__" : Str)) = false := by decide)
    (he : starEach (e :: es) X.env = (false, eval e X.env) :: starEach es X.env := by rfl) (hpl : (backTo pos (starEach es X.env)).any (·.1) = false := by rfl) : PE X (.Call (.Name x p) (e :: es) [] pos) (tCB r t) := by
  intro pins s σ H Q I h
  refine wpAny_Call_Name_kw (yN I hg hm hv ?_ hn hdb)
  exact PyProof.Rows.callWith_type1 (thn (ha pos pins s σ H _ I h) fun us s1 ⟨vs, H1, I1, r1, q1⟩ => hc pins s1 σ H1 vs us Q I1 r1 q1) he hpl
end
end L2
namespace HT
open PySem PyProof.Rows
section
open PySem.SeqAt
open PySem.AutoSeq1 (wpAny_loadPart')
open PySem.MeetsSeq PySem.MeetsSeq2 PySem.MeetsSeq3
end
section
variable {prog : Program} {w : World} {A : Around} {E : Value -> Shared -> Prop} {s : Shared}
end
end HT
namespace L2
open PySem PySem.Spec PyProof.Rows
abbrev TO := St -> Hp -> (Option Int -> Hp -> Prop) -> Prop
def PO (X : Cx) (e : Option Expr) (t : TO) : Prop :=
  ∀ (pins : List (Addr × Obj)) (s : Shared) (σ : St) (H : Hp) (Q : Option Int -> Hp -> Prop), Inv X pins σ H s -> t σ H Q ->
    wpAny (model X.prog X.w) X.A (evalPart e X.env) (fun u s' => ∃ o H', Inv X pins σ H' s' /\ IsPart u o /\ Q o H') X.xe s
def j8 : TO := fun _ H Q => Q none H
def VB (t : TE) : TO := fun σ H Q => t σ H fun x H1 => ∃ i, x = .int i /\ Q (some i) H1
section
variable {X : Cx} {e : Expr} {te : TE} {lo hi : Option Expr} {tl th : TO} {pos p2 : Pos}
theorem WB : PO X none j8 := by
  intro pins s σ H Q I h
  rw [evalPart_none]
  exact wpAny_pure ⟨none, H, I, .none, h⟩
theorem WC (h : PE X e te) : PO X (some e) (VB te) := by
  intro pins s σ H Q I hw
  rw [evalPart_some]
  refine thn (h pins s σ H _ I hw) fun u s1 ⟨x, H1, I1, r1, q1⟩ => ?_
  obtain ⟨i, rfl, q⟩ := q1
  obtain ⟨t, rfl⟩ := r1
  exact ⟨some i, H1, I1, .int i t, q⟩
def SlR (X : Cx) (r : V -> Option Int -> Option Int -> Hp -> VK -> Prop) : Prop :=
  ∀ (pins : List (Addr × Obj)) (s : Shared) (σ : St) (H : Hp) (x : V) (v vl vu : Value) (lo hi : Option Int) (sl : Addr) (Q : VK), Inv X pins σ H s -> RelV x v -> s.heap.IsSliceOf sl vl vu .none -> IsPart vl lo -> IsPart vu hi -> r x lo hi H Q ->
    ∃ T id, typeLookup (.type T) "__getitem__" = pure (some (.builtin id)) /\ s.TypeIs v T /\ wpAny (model X.prog X.w) X.A (getItem v (.ref sl)) (EP X pins σ Q) X.xe s
theorem SlR.or {r r' : V -> Option Int -> Option Int -> Hp -> VK -> Prop} (h : SlR X r) (h' : SlR X r') : SlR X (fun x lo hi H Q => r x lo hi H Q \/ r' x lo hi H Q) := by
  intro pins s σ H x v vl vu lo hi sl Q I rx hs pl pu q
  rcases q with q | q
  · exact h pins s σ H x v vl vu lo hi sl Q I rx hs pl pu q
  · exact h' pins s σ H x v vl vu lo hi sl Q I rx hs pl pu q
def tSl (r : V -> Option Int -> Option Int -> Hp -> VK -> Prop) (te : TE) (tl th : TO) : TE := fun σ H Q => te σ H fun x H1 => tl σ H1 fun l H2 => th σ H2 fun u H3 => r x l u H3 Q
theorem YJ {r : V -> Option Int -> Option Int -> Hp -> VK -> Prop} (hr : SlR X r) (he : PE X e te) (hl : PO X lo tl) (hu : PO X hi th) : PE X (.Subscript e (.Slice lo hi none p2) pos) (tSl r te tl th) := by
  intro pins s σ H Q I h
  refine Subscript_ (thn (he pins s σ H _ I h) fun v s1 ⟨x, H1, I1, r1, q1⟩ => ?_)
  refine wpAny_Slice (thn (hl pins s1 σ H1 _ I1 q1) fun vl s2 ⟨l, H2, I2, pl, q2⟩ => thn (hu pins s2 σ H2 _ I2 q2) fun vu s3 ⟨u, H3, I3, pu, q3⟩ => ?_)
  rw [evalPart_none]
  refine wpAny_pure ?_
  have I4 : Inv X pins σ H3 { s3 with heap := s3.heap.push { cls := .type "slice", data := .fields #[vl, vu, .none] } } := I3.kept (t' := s3.toks) fun b ob q => Heap.get?_push_of_some _ q
  obtain ⟨T, id, hT, ht, hg⟩ := hr pins { s3 with heap := s3.heap.push { cls := .type "slice", data := .fields #[vl, vu, .none] } } σ H3 x v vl vu l u s3.heap.objs.size Q I4 r1 (Heap.IsSliceOf.new ..) pl pu q3
  show wpAny (model X.prog X.w) X.A (subscriptTail e (.Slice lo hi none p2) v (.ref s3.heap.objs.size)) (EP X pins σ Q) X.xe { s3 with heap := s3.heap.push { cls := .type "slice", data := .fields #[vl, vu, .none] } }
  exact tail_any (ops := [.ref s3.heap.objs.size, v]) ht hT hg (by with_unfolding_all rfl)
end
end L2
namespace L2
open PySem PySem.Spec PyProof.Rows
def ixN (n : Nat) (i : Int) : Option Nat := if 0 <= i then (if i < n then some i.toNat else none) else if -(n : Int) <= i then some (i + n).toNat else none
def atI {α : Type} (xs : List α) (i : Int) : Option α := (ixN xs.length i).bind fun j => xs[j]?
theorem Za {n : Nat} {i : Int} {j : Nat} (h : ixN n i = some j) : seqIndex? i n = some j /\ j < n /\ -(n : Int) <= i /\ i < n := by
  unfold ixN at h
  by_cases h0 : 0 <= i
  · rw [if_pos h0] at h
    by_cases h1 : i < n
    · rw [if_pos h1] at h
      have e : i.toNat = j := Option.some.inj h
      exact ⟨by rw [seqIndex_of h0 h1, e], by omega, by omega, h1⟩
    · rw [if_neg h1] at h; cases h
  · rw [if_neg h0] at h
    by_cases h1 : -(n : Int) <= i
    · rw [if_pos h1] at h
      have e : (i + n).toNat = j := Option.some.inj h
      exact ⟨by rw [seqIndex_neg (by omega) h1, e], by omega, h1, by omega⟩
    · rw [if_neg h1] at h; cases h
theorem w4 {α : Type} {xs : List α} {i : Int} {v : α} (h : atI xs i = some v) : ∃ j, seqIndex? i xs.length = some j /\ xs[j]? = some v /\ j < xs.length /\ -(xs.length : Int) <= i /\ i < xs.length := by
  unfold atI at h
  cases e : ixN xs.length i with
  | none => rw [e] at h; cases h
  | some j =>
    rw [e] at h
    obtain ⟨h1, h2, h3, h4⟩ := Za e
    exact ⟨j, h1, h, h2, h3, h4⟩
theorem zp {α : Type} {xs : List α} {j : Nat} {v : α} (h : xs[j]? = some v) : atI xs (j : Int) = some v := by
  have hj : j < xs.length := (List.getElem?_eq_some_iff.mp h).1
  have e : ixN xs.length (j : Int) = some j := by
    unfold ixN
    rw [if_pos (by omega), if_pos (by omega)]; simp
  unfold atI; rw [e]; exact h
def Zb (b : Expr) : Prop := ∀ o i, subscripted b false o i = operate [o, i] (getItem o i)
def IxR (X : Cx) (r : R2) : Prop :=
  ∀ (value slice : Expr) (pins : List (Addr × Obj)) (s : Shared) (σ : St) (H : Hp) (x y : V) (v u : Value) (Q : VK), Inv X pins σ H s -> RelV x v -> RelV y u -> r x y H Q ->
    subscripted slice false v u = operate [v, u] (getItem v u) -> wpAny (model X.prog X.w) X.A (subscriptTail value slice v u) (EP X pins σ Q) X.xe s
def MtR (X : Cx) (id : String) (r : V -> List V -> Hp -> VK -> Prop) : Prop :=
  ∀ (pins : List (Addr × Obj)) (s : Shared) (σ : St) (H : Hp) (x : V) (xs : List V) (v : Value) (us : List Value) (Q : VK), Inv X pins σ H s -> RelV x v -> Vals xs us -> r x xs H Q ->
    wpAny (model X.prog X.w) X.A (call (.builtin id) (v :: us)) (EP X pins σ Q) X.xe s
section
variable {X : Cx} {a b : Expr} {ta tb : TE} {pos : Pos}
theorem IxR.or {r r' : R2} (h : IxR X r) (h' : IxR X r') : IxR X (fun x y H Q => r x y H Q \/ r' x y H Q) := by
  intro value slice pins s σ H x y v u Q I rx ry q hs
  rcases q with q | q
  · exact h value slice pins s σ H x y v u Q I rx ry q hs
  · exact h' value slice pins s σ H x y v u Q I rx ry q hs
theorem MtR.or {id : String} {r r' : V -> List V -> Hp -> VK -> Prop} (h : MtR X id r) (h' : MtR X id r') : MtR X id (fun x xs H Q => r x xs H Q \/ r' x xs H Q) := by
  intro pins s σ H x xs v us Q I rx rs q
  rcases q with q | q
  · exact h pins s σ H x xs v us Q I rx rs q
  · exact h' pins s σ H x xs v us Q I rx rs q
theorem qD {r : R2} (hr : IxR X r) (ha : PE X a ta) (hb : PE X b tb) (hs : Zb b) : PE X (.Subscript a b pos) (tOp r ta tb) := by
  intro pins s σ H Q I h
  exact Subscript_ (binT ha hb I h fun v u s2 x y H2 I2 rx ry q => hr a b pins s2 σ H2 x y v u Q I2 rx ry q (hs _ _))
def rIxL (K : PySem.W.Frag) : R2 := fun x y H Q => ∃ p xs i v, x = .ref p /\ y = .int i /\ SqL K H p xs /\ atI xs i = some v /\ Q v H
def rIxT (K : PySem.W.Frag) : R2 := fun x y H Q => ∃ p xs i v, x = .ref p /\ y = .int i /\ SqT K H p xs /\ atI xs i = some v /\ Q v H
def rIxS : R2 := fun x y H Q => ∃ z i c, x = .str z /\ y = .int i /\ z.length <= sizeLine /\ atI z.cps.toList i = some c /\ Q (.str ⟨#[c]⟩) H
theorem WD : IxR X (rIxL X.K) := by
  intro value slice pins s σ H x y v u Q I rx ry h hs
  obtain ⟨p, xs, i, z, rfl, rfl, hq, he, q⟩ := h
  cases rx
  obtain ⟨t, rfl⟩ := ry
  obtain ⟨its, r, pl, hz⟩ := I.list hq
  obtain ⟨j, h1, h2, h3, h4, h5⟩ := w4 he
  obtain ⟨w, ew, rw'⟩ := r.get h2
  have hl := r.length
  have hn := y7
  have fin : EP X pins σ Q w s := ⟨z, H, I, rw', q⟩
  by_cases h0 : 0 <= i
  · have hj : i.toNat = j := by
      rw [seqIndex_of h0 h5] at h1
      exact Option.some.inj h1
    exact item_listR pl.isList h0 (by omega) (by rw [hj]; simpa using ew) fin hs
  · have hj : (i + (its.toArray.size : Int)).toNat = j := by
      rw [seqIndex_neg (by omega) h4] at h1
      rw [List.size_toArray, <- hl]
      exact Option.some.inj h1
    exact subscriptTail_builtinR (x := w) pl.isList.typeIs slot_list_getitem.lookup
      (wpAny_getItem_list_neg (Q := fun r s' => r = w /\ EP X pins σ Q r s') pl.isList (by omega) (by rw [List.size_toArray] <;> omega) (by omega) (by rw [hj]; simpa using ew) ⟨rfl, fin⟩) hs
theorem Js : IxR X (rIxT X.K) := by
  intro value slice pins s σ H x y v u Q I rx ry h hs
  obtain ⟨p, xs, i, z, rfl, rfl, hq, he, q⟩ := h
  cases rx
  obtain ⟨t, rfl⟩ := ry
  obtain ⟨its, r, pl, hz⟩ := I.tuple hq
  obtain ⟨j, h1, h2, h3, h4, h5⟩ := w4 he
  obtain ⟨w, ew, rw'⟩ := r.get h2
  have hl := r.length
  have hn := y7
  have fin : EP X pins σ Q w s := ⟨z, H, I, rw', q⟩
  exact subscriptTail_builtinR (x := w) pl.typeIs slot_tuple_getitem.lookup
    (getItem_tuple (j := j) (Q := fun r s' => r = w /\ EP X pins σ Q r s') pl (by omega) (by omega) (by rw [List.size_toArray, <- hl]; exact h1) (by simpa using ew) ⟨rfl, fin⟩) hs
theorem Jt : IxR X rIxS := by
  intro value slice pins s σ H x y v u Q I rx ry h hs
  obtain ⟨z, i, c, rfl, rfl, hz, he, q⟩ := h
  obtain ⟨t, rfl⟩ := rx
  obtain ⟨t', rfl⟩ := ry
  obtain ⟨j, h1, h2, h3, h4, h5⟩ := w4 he
  have hl : z.cps.toList.length = z.length := by simp [Str.length]
  rw [hl] at h1 h4 h5
  have hn := y7
  exact tail_any (typeIs_str s z t) slot_str_getitem.lookup (getItem_str (c := c) (by
    have e1 : decide (i < -(2 ^ 63 : Int)) = false := decide_eq_false (by omega)
    have e2 : decide (i ≥ 2 ^ 63) = false := decide_eq_false (by omega)
    rw [e1, e2, Bool.or_false]) (by rw [h1]; simpa using h2) ⟨.str ⟨#[c]⟩, H, I.tok _, ⟨_, rfl⟩, q⟩) hs
theorem jh (its : List Value) (n j : Nat) (u : Value) : Obj.mapSeq (·.setIfInBounds j u) { cls := .type "list", data := .seq its.toArray n } = { cls := .type "list", data := .seq (its.set j u).toArray n } := by
  simp [Obj.mapSeq]
theorem Inv.lst {pins : List (Addr × Obj)} {σ : St} {H : Hp} {s : Shared} {p : Addr} {xs : List V} (I : Inv X pins σ H s) (h : H p = some (.lst xs)) :
    ∃ (its : List Value) (n : Nat), Vals xs its /\ s.heap.get? p = some { cls := .type "list", data := .seq its.toArray n } /\ xs.length <= sizeLine := by
  obtain ⟨z, its, n, r, e⟩ := I.hok p _ h
  exact ⟨its, n, r, e, z⟩
theorem Inv.lstUpd {pins : List (Addr × Obj)} {σ : St} {H : Hp} {s : Shared} {p : Addr} {xs ys : List V} {its its' : List Value} {n n' : Nat} {f : Obj -> Obj} (I : Inv X pins σ H s) (h : H p = some (.lst xs))
    (ho : s.heap.get? p = some { cls := .type "list", data := .seq its.toArray n }) (hf : f { cls := .type "list", data := .seq its.toArray n } = { cls := .type "list", data := .seq its'.toArray n' }) (r : Vals ys its') (hz : ys.length <= sizeLine) (t : Nat) :
    Inv X pins σ (upd H p (.lst ys)) { s with heap := s.heap.update p f, toks := t } := by
  have e : (s.heap.update p f).get? p = some { cls := .type "list", data := .seq its'.toArray n' } := by
    rw [Heap.get?_update_self f ho (by rw [hf] <;> rfl), hf]
  refine I.write (x := p) (e := p) (by rw [h]; trivial) (.inl rfl) (fun b u hb q => (Heap.get?_update_other _ _ (Ne.symm hb)).trans q) ⟨_, e⟩ ?_
  exact ⟨hz, its', n', r, e⟩
def VC : V -> V -> V -> Hp -> (Hp -> Prop) -> Prop := fun o i v H Q => ∃ p xs k j, o = .ref p /\ i = .int k /\ H p = some (.lst xs) /\ ixN xs.length k = some j /\ Q (upd H p (.lst (xs.set j v)))
theorem YK : PSet X VC := by
  intro pins s σ H o i v ov iv u Q I ro ri rv h
  obtain ⟨p, xs, k, j, rfl, rfl, hp, hj, q⟩ := h
  cases ro
  obtain ⟨t, rfl⟩ := ri
  obtain ⟨its, n, r, ho, hz⟩ := I.lst hp
  obtain ⟨h1, h2, h3, h4⟩ := Za hj
  have hl := r.length
  have hn := y7
  have I' : Inv X pins σ (upd H p (.lst (xs.set j v))) { s with heap := s.heap.update p (Obj.mapSeq (·.setIfInBounds j u)) } :=
    I.lstUpd hp ho (jh its n j u) (r.set rv j) (by rw [List.length_set]; exact hz) s.toks
  by_cases h0 : 0 <= k
  · have hk : k.toNat = j := by
      rw [seqIndex_of h0 h4] at h1
      exact Option.some.inj h1
    exact PySem.W.ki_setAt ho h0 (by omega) (by rw [List.size_toArray, <- hl]; exact h4) (by rw [hk]; exact ⟨_, I', q⟩)
  · have hk : (k + (its.toArray.size : Int)).toNat = j := by
      rw [seqIndex_neg (by omega) h3] at h1
      rw [List.size_toArray, <- hl]
      exact Option.some.inj h1
    exact PySem.W.ki_setBack ho (by omega) (by rw [List.size_toArray, <- hl]; exact h3) (by omega) (by rw [hk]; exact ⟨_, I', q⟩)
def yp : V -> Bool
  | .non => true
  | .bl _ => true
  | .int _ => true
  | .str _ => true
  | _ => false
def eqV : V -> V -> Bool
  | .non, .non => true
  | .bl a, .bl b => a == b
  | .bl a, .int b => (if a then 1 else 0) == b
  | .int a, .bl b => a == (if b then 1 else 0)
  | .int a, .int b => a == b
  | .str a, .str b => a == b
  | _, _ => false
theorem YL {A : Around} {s : Shared} {y x : V} {u v : Value} (ry : RelV y u) (rx : RelV x v) (fy : yp y = true) (fx : yp x = true) : SeqAt.EqAt A s u v (eqV y x) := by
  cases y with
  | non =>
    cases ry
    cases x with
    | non => cases rx; exact SeqAt.EqAt.same _
    | bl b => cases rx; exact SeqAt.EqAt.none_bool b
    | int b => obtain ⟨t, rfl⟩ := rx; exact SeqAt.EqAt.none_int b t
    | str b => obtain ⟨t, rfl⟩ := rx; exact SeqAt.EqAt.none_str b t
    | _ => exact absurd (show false = true from fx) Bool.false_ne_true
  | bl a =>
    cases ry
    cases x with
    | non => cases rx; exact SeqAt.EqAt.bool_none a
    | bl b => cases rx; exact SeqAt.EqAt.bool_bool a b
    | int b => obtain ⟨t, rfl⟩ := rx; exact SeqAt.EqAt.bool_int a b t
    | str b => obtain ⟨t, rfl⟩ := rx; exact SeqAt.EqAt.bool_str a b t
    | _ => exact absurd (show false = true from fx) Bool.false_ne_true
  | int a =>
    obtain ⟨t', rfl⟩ := ry
    cases x with
    | non => cases rx; exact SeqAt.EqAt.int_none a t'
    | bl b => cases rx; exact SeqAt.EqAt.int_bool a t' b
    | int b => obtain ⟨t, rfl⟩ := rx; exact SeqAt.EqAt.int_int a t' b t
    | str b => obtain ⟨t, rfl⟩ := rx; exact SeqAt.EqAt.int_str a t' b t
    | _ => exact absurd (show false = true from fx) Bool.false_ne_true
  | str a =>
    obtain ⟨t', rfl⟩ := ry
    cases x with
    | non => cases rx; exact SeqAt.EqAt.str_none a t'
    | bl b => cases rx; exact SeqAt.EqAt.str_bool a t' b
    | int b => obtain ⟨t, rfl⟩ := rx; exact SeqAt.EqAt.str_int a t' b t
    | str b => obtain ⟨t, rfl⟩ := rx; exact SeqAt.EqAt.str_str a t' b t
    | _ => exact absurd (show false = true from fx) Bool.false_ne_true
  | _ => exact absurd (show false = true from fy) Bool.false_ne_true
def eqU (x : V) (u : Value) : Bool := match u with
  | .none => eqV .non x
  | .bool b => eqV (.bl b) x
  | .int i _ => eqV (.int i) x
  | .str z _ => eqV (.str z) x
  | _ => false
theorem YM {x y : V} {u : Value} (r : RelV y u) (f : yp y = true) : eqU x u = eqV y x := by
  cases y with
  | non => cases r; rfl
  | bl b => cases r; rfl
  | int i => obtain ⟨t, rfl⟩ := r; rfl
  | str z => obtain ⟨t, rfl⟩ := r; rfl
  | _ => exact absurd (show false = true from f) Bool.false_ne_true
theorem w5 {x : V} : ∀ {xs : List V} {us : List Value}, Vals xs us -> xs.all yp = true -> us.any (eqU x) = xs.any fun y => eqV y x
  | _, _, .nil, _ => rfl
  | y :: xs, u :: us, .cons r t, f => by
    rw [List.all_cons, Bool.and_eq_true] at f
    rw [List.any_cons, List.any_cons, YM r f.1, w5 t f.2]
theorem xg {A : Around} {s : Shared} {x : V} {v : Value} (rx : RelV x v) (fx : yp x = true) : ∀ {xs : List V} {us : List Value}, Vals xs us -> xs.all yp = true -> ∀ u ∈ us, SeqAt.EqAt A s u v (eqU x u)
  | _, _, .nil, _ => fun u hu => by cases hu
  | y :: xs, u :: us, .cons r t, f => fun u' hu => by
    rw [List.all_cons, Bool.and_eq_true] at f
    rcases List.mem_cons.mp hu with rfl | hu
    · rw [YM r f.1]; exact YL r rx f.1 fx
    · exact xg rx fx t f.2 u' hu
def inV (x : V) (xs : List V) : Bool := xs.any fun y => eqV y x
def rIn (K : PySem.W.Frag) (neg : Bool) : R2 := fun x y H Q => ∃ p xs, y = .ref p /\ (SqL K H p xs \/ SqT K H p xs) /\ yp x = true /\ xs.all yp = true /\ Q (.bl (if neg then !inV x xs else inV x xs)) H
theorem ZX : OpR X (compareOp .In) (rIn X.K false) := by
  intro pins s σ H x y v u Q I rx ry h
  obtain ⟨p, xs, rfl, hq, fx, fs, q⟩ := h
  cases ry
  rcases hq with hq | hq
  · obtain ⟨its, r, pl, hz⟩ := I.list hq
    refine SeqAt.in_listAt (eqU x) pl.isList (fun w hw => xg rx fx r fs w (by simpa using hw)) ⟨.bl _, H, I, rfl, ?_⟩
    rw [show its.toArray.any (eqU x) = its.any (eqU x) by simp, w5 r fs]
    exact q
  · obtain ⟨its, r, pl, hz⟩ := I.tuple hq
    refine SeqAt.in_tupleAt (eqU x) pl (fun w hw => xg rx fx r fs w (by simpa using hw)) ⟨.bl _, H, I, rfl, ?_⟩
    rw [show its.toArray.any (eqU x) = its.any (eqU x) by simp, w5 r fs]
    exact q
theorem w6 : CallR X (.builtin "len") (fun xs H Q => ∃ p ys, xs = [.ref p] /\ (SqL X.K H p ys \/ SqT X.K H p ys) /\ Q (.int ys.length) H) := by
  intro pins s σ H xs us Q I r h
  obtain ⟨p, ys, rfl, hq, q⟩ := h
  obtain ⟨u, rfl, rx⟩ := wB r
  cases rx
  have hn := y7
  rcases hq with hq | hq
  · obtain ⟨its, r', pl, hz⟩ := I.list hq
    have hlen := r'.length
    exact Calls.call_len_list pl.isList (by simp only [List.size_toArray] <;> omega) ⟨.int ys.length, H, I.tok _, ⟨s.toks + 1, by rw [List.size_toArray, hlen]⟩, q⟩
  · obtain ⟨its, r', pl, hz⟩ := I.tuple hq
    have hlen := r'.length
    exact len_tuple pl (by simp only [List.size_toArray] <;> omega) ⟨.int ys.length, H, I.tok _, ⟨s.toks + 1, by rw [List.size_toArray, hlen]⟩, q⟩
theorem CallR.or {f : Value} {r r' : List V -> Hp -> VK -> Prop} (h : CallR X f r) (h' : CallR X f r') : CallR X f (fun xs H Q => r xs H Q \/ r' xs H Q) := by
  intro pins s σ H xs us Q I rs q
  rcases q with q | q
  · exact h pins s σ H xs us Q I rs q
  · exact h' pins s σ H xs us Q I rs q
theorem w9 : CallR X (.type "list") (fun xs H Q => ∃ p ys, xs = [.ref p] /\ (SqL X.K H p ys \/ SqT X.K H p ys) /\ ∀ l, H l = none -> Q (.ref l) (upd H l (.lst ys))) := by
  intro pins s σ H xs us Q I r h
  obtain ⟨p, ys, rfl, hq, q⟩ := h
  obtain ⟨u, rfl, rx⟩ := wB r
  cases rx
  have fin : ∀ (its : List Value), Vals ys its -> ys.length <= sizeLine -> ∀ (h' : Heap) (c' : Nat), (∀ b o', s.heap.get? b = some o' -> h'.get? b = some o') ->
      h'.get? s.heap.objs.size = some { cls := .type "list", dict := none, data := .seq its.toArray c', slots := #[] } -> EP X pins σ Q (.ref s.heap.objs.size) { s with heap := h' } := fun its r' hz h' c' kp e =>
    ⟨.ref s.heap.objs.size, _, I.laid (t' := s.toks) kp (Nat.le_refl _) (show ObjOk X.prog X.w _ h' _ (.lst ys) from ⟨hz, its, c', r', e⟩), rfl, q _ (I.hok.fresh (Nat.le_refl _))⟩
  rcases hq with hq | hq
  · obtain ⟨its, r', pl, hz⟩ := I.list hq
    have hlen := r'.length
    obtain ⟨o, ho, hc, n, hd⟩ := pl.isList
    exact call_list_seq p (.inl rfl) ho hc hd (fun h' c' kp e => fin its r' hz h' c' kp e) (by simp only [List.size_toArray] <;> omega)
  · obtain ⟨its, r', pl, hz⟩ := I.tuple hq
    have hlen := r'.length
    obtain ⟨o, ho, hc, n, hd⟩ := pl
    exact call_list_seq p (.inr rfl) ho hc hd (fun h' c' kp e => fin its r' hz h' c' kp e) (by simp only [List.size_toArray] <;> omega)
theorem wr : CallR X (.type "tuple") (fun xs H Q => ∃ p ys, xs = [.ref p] /\ ((SqL X.K H p ys /\ ∀ l, H l = none -> Q (.ref l) (upd H l (.tup ys))) \/ (SqT X.K H p ys /\ Q (.ref p) H))) := by
  intro pins s σ H xs us Q I r h
  obtain ⟨p, ys, rfl, h⟩ := h
  obtain ⟨u, rfl, rx⟩ := wB r
  cases rx
  rcases h with ⟨hq, q⟩ | ⟨hq, q⟩
  · obtain ⟨its, r', pl, hz⟩ := I.list hq
    have hlen := r'.length
    refine call_tuple_list pl.isList (fun h' kp => ?_) (by simp only [List.size_toArray] <;> omega)
    have I1 : Inv X pins σ H { s with heap := h' } := I.kept (t' := s.toks) kp
    have I2 : Inv X pins σ (upd H h'.objs.size (.tup ys)) { s with heap := h'.push { cls := .type "tuple", data := .seq its.toArray } } :=
      I1.laid (t' := s.toks) (fun b o e => Heap.get?_push_of_some _ e) (Nat.le_refl _) (show ObjOk X.prog X.w _ _ _ (.tup ys) from ⟨hz, its, r', IsTupN.new _ _⟩)
    exact ⟨.ref h'.objs.size, _, I2, rfl, q _ (I1.hok.fresh (Nat.le_refl _))⟩
  · obtain ⟨its, r', pl, hz⟩ := I.tuple hq
    exact call_tuple_same pl ⟨.ref p, H, I, rfl, q⟩
def tyV (K : PySem.W.Frag) (T : String) (x : V) (H : Hp) : Prop := match x with
  | .str _ => T = "str"
  | .int _ => T = "int"
  | .ref p => (T = "list" /\ ∃ xs, SqL K H p xs) \/ (T = "tuple" /\ ((∃ o, K.lookup p = some o /\ o.cls = .type "tuple" /\ o.dict = none) \/ ∃ xs, H p = some (.tup xs))) \/
      (T = "dict" /\ ((∃ kvs, H p = some (.dK kvs)) \/ ∃ kvs, H p = some (.dT kvs))) \/ (T = "set" /\ ∃ S n, H p = some (.set S n))
  | _ => False
theorem YN {pins : List (Addr × Obj)} {σ : St} {H : Hp} {s : Shared} {T : String} {x : V} {v : Value} (I : Inv X pins σ H s) (r : RelV x v) (ty : tyV X.K T x H) :
    s.TypeIs v T /\ ∀ a, v = .ref a -> ∃ ob, s.heap.get? a = some ob /\ ob.dict = none := by
  cases x with
  | str z =>
    obtain ⟨t, rfl⟩ := r
    cases (show T = "str" from ty)
    exact ⟨typeIs_str s z t, fun _ e => nomatch e⟩
  | int i =>
    obtain ⟨t, rfl⟩ := r
    cases (show T = "int" from ty)
    exact ⟨typeIs_int s i t, fun _ e => nomatch e⟩
  | ref p =>
    cases r
    rcases ty with ⟨rfl, xs, hq⟩ | ⟨rfl, ⟨o, hk, hc, hd⟩ | ⟨xs, hk⟩⟩ | ⟨rfl, hk⟩ | ⟨rfl, S, n, hk⟩
    · obtain ⟨its, _, pl, _⟩ := I.list hq
      refine ⟨pl.isList.typeIs, fun a e => ?_⟩
      cases e
      obtain ⟨o, n, e, c, hd, _⟩ := pl
      exact ⟨o, e, hd⟩
    · refine ⟨⟨o, I.kIn p o hk, hc⟩, fun a e => ?_⟩
      cases e
      exact ⟨o, I.kIn _ o hk, hd⟩
    · obtain ⟨_, _, _, o, ho, hc, hd, _⟩ := I.hok p _ hk
      refine ⟨⟨o, ho, hc⟩, fun a e => ?_⟩
      cases e
      exact ⟨o, ho, hd⟩
    · have z : ∃ o, s.heap.get? p = some o /\ o.ExactDict := by
        rcases hk with ⟨kvs, hk⟩ | ⟨kvs, hk⟩
        · obtain ⟨_, _, _, _, o, _, _, e, ex, _⟩ := I.hok p _ hk
          exact ⟨o, e, ex⟩
        · obtain ⟨_, _, _, _, o, _, _, e, ex, _⟩ := I.hok p _ hk
          exact ⟨o, e, ex⟩
      obtain ⟨o, e, ex⟩ := z
      refine ⟨⟨o, e, ex.1⟩, fun a e2 => ?_⟩
      cases e2
      exact ⟨o, e, ex.2.1⟩
    · obtain ⟨o, _, _, _, e, ex, _⟩ := I.hok p _ hk
      refine ⟨⟨o, e, ex.1⟩, fun a e2 => ?_⟩
      cases e2
      exact ⟨o, e, ex.2.1⟩
  | _ => exact False.elim ty
def tBM0 (K : PySem.W.Frag) (T : String) (r : V -> List V -> Hp -> VK -> Prop) (to : TE) : TE := fun σ H Q => to σ H fun x H1 => tyV K T x H1 /\ r x [] H1 Q
def tBM (K : PySem.W.Frag) (T : String) (r : V -> List V -> Hp -> VK -> Prop) (to : TE) (t : TA) : TE := fun σ H Q => to σ H fun x H1 => tyV K T x H1 /\ t σ H1 fun xs H2 => r x xs H2 Q
variable {o e : Expr} {es : List Expr} {to : TE} {t : TA} {name : Str} {apos cpos : Pos} {T id : String} {r : V -> List V -> Hp -> VK -> Prop}
theorem Ju (pa : PlainAttrs T) (slot : Slot T name id) (hty : typeOf (.builtin id) = pure (.type "method_descriptor")) (hm : MtR X id r) (ho : PE X o to)
    (hbase : attributeBase o name X.env (eval o X.env) = eval o X.env := by rfl) (hline : (apos.endLine == cpos.line) = true := by rfl) : PE X (.Call (.Attribute o name apos) [] [] cpos) (tBM0 X.K T r to) := by
  intro pins s σ H Q I h
  refine wpAny_Call_method0_late hbase hline (thn (ho pins s σ H _ I h) fun v s1 ⟨x, H1, I1, r1, ty, q1⟩ => ?_)
  obtain ⟨h1, h2⟩ := YN I1 r1 ty
  exact ⟨T, id, pa, slot, hty, h1, h2, Calls.callWith_builtin rfl (PySem.evalArgs_none (hm pins s1 σ H1 x [] v [] Q I1 r1 .nil q1))⟩
theorem qF (pa : PlainAttrs T) (slot : Slot T name id) (hty : typeOf (.builtin id) = pure (.type "method_descriptor")) (hm : MtR X id r) (ho : PE X o to) (ha : PA X (e :: es) t)
    (hbase : attributeBase o name X.env (eval o X.env) = eval o X.env := by rfl)
    (hfew : ((backTo cpos (starEach (e :: es) X.env)).all (fun x => !x.1) && (backToKw cpos (keywordEach [] X.env)).all (fun x => x.1.isSome)
      && decide ((e :: es).length + ([] : List Keyword).length + (if ([] : List Keyword).isEmpty then 0 else 1) < 30)) = true := by rfl)
    (hline : (apos.endLine == cpos.line) = true := by rfl) (hs : starEach (e :: es) X.env = (false, eval e X.env) :: starEach es X.env := by rfl) (hplain : (backTo cpos (starEach es X.env)).any (·.1) = false := by rfl) :
    PE X (.Call (.Attribute o name apos) (e :: es) [] cpos) (tBM X.K T r to t) := by
  intro pins s σ H Q I h
  refine wpAny_Call_method_late hbase hfew hline rfl (thn (ho pins s σ H _ I h) fun v s1 ⟨x, H1, I1, r1, ty, q1⟩ => ?_)
  obtain ⟨h1, h2⟩ := YN I1 r1 ty
  refine ⟨T, id, pa, slot, hty, h1, h2, ?_⟩
  have hA := ha cpos pins s1 σ H1 _ I1 q1
  rw [hs] at hA ⊢
  refine Calls.callWith_builtin (by show (false || (backTo cpos (starEach es X.env)).any (·.1)) = false; rw [hplain] <;> rfl) (Calls.evalArgs_plain ?_)
  exact thn hA fun us s2 ⟨vs, H2, I2, r2, q2⟩ => hm pins s2 σ H2 x vs v us Q I2 r1 r2 q2
end
end L2
namespace L2
open PySem PySem.Spec PyProof.Rows
def MtM (X : Cx) (id : String) (r : V -> List V -> Hp -> VK -> Prop) : Prop :=
  ∀ (pins : List (Addr × Obj)) (s : Shared) (σ : St) (H : Hp) (x : V) (xs : List V) (v : Value) (us : List Value) (Q : VK), Inv X pins σ H s -> RelV x v -> Vals xs us -> r x xs H Q ->
    wpAny (model X.prog X.w) X.A (call (.builtin id) (v :: us)) (EP X pins σ Q) X.xe s
theorem Vals.one : ∀ {x : V} {us : List Value}, Vals [x] us -> ∃ u, us = [u] /\ RelV x u
  | _, _, .cons r .nil => ⟨_, rfl, r⟩
theorem Vals.two : ∀ {x y : V} {us : List Value}, Vals [x, y] us -> ∃ u v, us = [u, v] /\ RelV x u /\ RelV y v
  | _, _, _, .cons r (.cons q .nil) => ⟨_, _, rfl, r, q⟩
theorem Vals.zero : ∀ {us : List Value}, Vals [] us -> us = []
  | _, .nil => rfl
theorem Vals.dropLast {xs : List V} {us : List Value} (h : Vals xs us) : Vals xs.dropLast us.dropLast := by
  induction h with
  | nil => exact .nil
  | cons r t ih =>
    cases t with
    | nil => exact .nil
    | cons q t' => exact .cons r ih
theorem Vals.eraseIdx : ∀ {xs : List V} {us : List Value} (i : Nat), Vals xs us -> Vals (xs.eraseIdx i) (us.eraseIdx i)
  | _, _, _, .nil => .nil
  | _, _, 0, .cons _ t => t
  | _, _, i + 1, .cons r t => .cons r (Vals.eraseIdx i t)
theorem Vals.reverse {xs : List V} {us : List Value} (h : Vals xs us) : Vals xs.reverse us.reverse := by
  induction h with
  | nil => exact .nil
  | cons r t ih => rw [List.reverse_cons, List.reverse_cons]; exact Vals.append ih (.cons r .nil)
theorem ji {α : Type} (l : List α) : l.eraseIdx (l.length - 1) = l.dropLast := by
  induction l with
  | nil => rfl
  | cons a r ih =>
    cases r with
    | nil => rfl
    | cons b r =>
      have e : (a :: b :: r).length - 1 = ((b :: r).length - 1) + 1 := by
        have h1 : (a :: b :: r).length = r.length + 2 := rfl
        have h2 : (b :: r).length = r.length + 1 := rfl
        omega
      rw [e, List.eraseIdx_cons_succ, ih]
      all_goals rfl
theorem wJ {α : Type} : ∀ (l : List α) (i : Nat), (l.eraseIdx i).length <= l.length
  | [], _ => Nat.le_refl _
  | _ :: _, 0 => Nat.le_succ _
  | _ :: r, i + 1 => Nat.succ_le_succ (wJ r i)
section
variable {X : Cx} {pins : List (Addr × Obj)} {σ : St} {H : Hp} {s : Shared} {l b : Addr} {xs ys zs : List V}
theorem Inv.lset {its its' : List Value} {n : Nat} {f : Array Value -> Array Value} {t' : Nat} (I : Inv X pins σ H s) (hH : H l = some (.lst xs))
    (e : s.heap.get? l = some { cls := .type "list", data := .seq its.toArray n }) (hf : f its.toArray = its'.toArray) (hv : Vals ys its') (hz : ys.length <= sizeLine) :
    Inv X pins σ (upd H l (.lst ys)) { s with heap := s.heap.update l (Obj.mapSeq f), toks := t' } := by
  have q := PySem.IsL.update e f
  rw [hf] at q
  refine I.write (x := l) (e := l) (by rw [hH]; exact trivial) (.inl rfl) (fun b' u hb hu => (Heap.get?_update_other s.heap (Obj.mapSeq f) (Ne.symm hb)).trans hu) ⟨_, q⟩ ?_
  exact ⟨hz, its', _, hv, q⟩
theorem Inv.lnew {its : List Value} {t' : Nat} (I : Inv X pins σ H s) (hv : Vals ys its) (hz : ys.length <= sizeLine) :
    Inv X pins σ (upd H s.heap.objs.size (.lst ys)) { s with heap := s.heap.push { cls := .type "list", data := .seq its.toArray }, toks := t' } :=
  I.laid (fun _ _ q => Heap.get?_push_of_some _ q) (Nat.le_refl _) ⟨hz, its, 0, hv, Heap.get?_push_size _ rfl⟩
theorem Inv.fresh (I : Inv X pins σ H s) : H s.heap.objs.size = none := I.hok.fresh (Nat.le_refl _)
theorem Inv.lstM (I : Inv X pins σ H s) (hH : H l = some (.lst xs)) : xs.length <= sizeLine /\ ∃ (its : List Value) (n : Nat), Vals xs its /\ xs.length = its.length /\ s.heap.get? l = some { cls := .type "list", data := .seq its.toArray n } := by
  obtain ⟨z, its, n, r, e⟩ := I.hok l _ hH
  exact ⟨z, its, n, r, r.length, e⟩
end
section
variable {X : Cx}
def Zc : V -> List V -> Hp -> VK -> Prop := fun x vs H Q => ∃ l xs y, x = .ref l /\ vs = [y] /\ H l = some (.lst xs) /\ xs.length < sizeLine /\ Q .non (upd H l (.lst (xs ++ [y])))
theorem ZY : MtM X "list.append" Zc := by
  intro pins s σ H x vs v us Q I rx rv h
  obtain ⟨l, xs, y, rfl, rfl, hH, hz, q⟩ := h
  cases rx
  obtain ⟨u, rfl, ru⟩ := rv.one
  obtain ⟨z, its, n, r, hl, e⟩ := I.lstM hH
  refine call_meets F.slot_list_append ⟨_, e, rfl⟩ F.entry_list_append (F.args_list_append_2 _ _) (PySem.list_append l its.toArray n u (by rw [List.size_toArray]; omega)) ⟨e, ?_⟩
  refine ⟨.non, _, I.lset (its' := its ++ [u]) hH e (by simp) (r.append (.cons ru .nil)) ?_, rfl, q⟩
  rw [List.length_append, List.length_singleton]
  omega
def rPop : V -> List V -> Hp -> VK -> Prop := fun x vs H Q => ∃ l xs y, x = .ref l /\ vs = [] /\ H l = some (.lst xs) /\ xs[xs.length - 1]? = some y /\ Q y (upd H l (.lst xs.dropLast))
theorem Jv : MtM X "list.pop" rPop := by
  intro pins s σ H x vs v us Q I rx rv h
  obtain ⟨l, xs, y, rfl, rfl, hH, hy, q⟩ := h
  cases rx
  have hus := rv.zero
  subst hus
  obtain ⟨z, its, n, r, hl, e⟩ := I.lstM hH
  obtain ⟨u, hu, ru⟩ := r.get hy
  have hy' : its.toArray[its.toArray.size - 1]? = some u := by
    show its.toArray[its.length - 1]? = some u
    rw [<- Array.getElem?_toList, <- hl]
    exact hu
  refine call_meets F.slot_list_pop ⟨_, e, rfl⟩ F.entry_list_pop (F.args_list_pop_1 _) (MeetsSeq.list_pop_last l its.toArray n u hy' (by rw [List.size_toArray]; omega)) ⟨e, ?_⟩
  refine ⟨y, _, I.lset (its' := its.dropLast) hH e ?_ r.dropLast ?_, ru, q⟩
  · show its.toArray.eraseIdxIfInBounds (its.toArray.size - 1) = its.dropLast.toArray
    rw [List.size_toArray, List.eraseIdxIfInBounds_toArray, ji]
  · rw [List.length_dropLast]
    omega
def YO : V -> List V -> Hp -> VK -> Prop := fun x vs H Q => ∃ l xs i k y, x = .ref l /\ vs = [.int i] /\ H l = some (.lst xs) /\ -(2 ^ 63) <= i /\ i < 2 ^ 63 /\ seqIndex? i xs.length = some k /\ xs[k]? = some y /\ Q y (upd H l (.lst (xs.eraseIdx k)))
theorem YQ : MtM X "list.pop" YO := by
  intro pins s σ H x vs v us Q I rx rv h
  obtain ⟨l, xs, i, k, y, rfl, rfl, hH, h1, h2, hk, hy, q⟩ := h
  cases rx
  obtain ⟨u, rfl, ru⟩ := rv.one
  obtain ⟨t, rfl⟩ := ru
  obtain ⟨z, its, n, r, hl, e⟩ := I.lstM hH
  obtain ⟨w, hw, rw'⟩ := r.get hy
  refine call_meets F.slot_list_pop ⟨_, e, rfl⟩ F.entry_list_pop (F.args_list_pop_2 _ _)
    (MeetsSeq.list_pop_at l its.toArray n i t k w (fitsIndex_both h1 h2) (by rw [List.size_toArray, <- hl]; exact hk) (by rw [<- Array.getElem?_toList]; exact hw) (by rw [List.size_toArray]; omega)) ⟨e, ?_⟩
  refine ⟨y, _, I.lset (its' := its.eraseIdx k) hH e ?_ (r.eraseIdx k) ?_, rw', q⟩
  · show its.toArray.eraseIdxIfInBounds k = (its.eraseIdx k).toArray
    rw [List.eraseIdxIfInBounds_toArray]
  · have := wJ xs k
    omega
def rCat : R2 := fun x y H Q => ∃ l b xs zs, x = .ref l /\ y = .ref b /\ H l = some (.lst xs) /\ H b = some (.lst zs) /\ xs.length + zs.length <= sizeLine /\ ∀ p, H p = none -> Q (.ref p) (upd H p (.lst (xs ++ zs)))
theorem Jw : OpR X (binaryOp .Add) rCat := by
  intro pins s σ H x y v u Q I rx ry h
  obtain ⟨l, b, xs, zs, rfl, rfl, hH, hB, hz, q⟩ := h
  cases rx
  cases ry
  obtain ⟨z, its, n, r, hl, e⟩ := I.lstM hH
  obtain ⟨z2, its2, n2, r2, hl2, e2⟩ := I.lstM hB
  refine PySem.P.add_list e e2 ?_ (by rw [List.size_toArray, List.size_toArray]; omega)
  have ea : its.toArray ++ its2.toArray = (its ++ its2).toArray := by simp
  rw [ea]
  exact ⟨.ref _, _, I.lnew (t' := s.toks) (r.append r2) (by rw [List.length_append]; omega), rfl, q _ I.fresh⟩
end
section
variable {prog : Program} {w : World} {A : Around} {E : Value -> Shared -> Prop} {s : Shared}
end
section
variable {X : Cx}
end
end L2
namespace Att
open PySem PySem.W PySem.Calls PyProof.Rows
theorem xL {P : Params} {h : Heap} : ∀ (ns : List Int) (vs : List Value), WellAll P h vs (ns.map WData.int) -> IntsAre vs ns := by
  intro ns
  induction ns with
  | nil =>
    intro vs w
    rw [List.map_nil] at w
    cases w
    exact .nil
  | cons n ns ih =>
    intro vs w
    rw [List.map_cons] at w
    cases w with
    | cons a b =>
      cases a
      exact .cons _ _ (ih _ b)
theorem ZZ {l : OpenLaw} {n : Nat} (hn : l.most = some n) {P : Params} {h : Heap} {args : List WData} {vals : List Value}
    (hpre : l.row.toRowW.claim.pre args = true) (hwl : WellAll P h vals args) :
    ∃ a vs ns, vals = [Value.ref a] /\ args = [WData.list (ns.map WData.int)] /\ h.get? a = some { cls := .type "list", data := .seq vs.toArray } /\ IntsAre vs ns /\ ns.length <= n := by
  have hsh : WShape.hasAll [] args [.list .int] = true := (pre_splitW hpre).1
  have hc : l.pre.holds [] { args := args } = true := (pre_splitW hpre).2
  obtain ⟨d, r, rfl, h1, h2⟩ := hasAllW_cons hsh
  obtain rfl := hasAllW_nil h2
  obtain ⟨xs, rfl, h3⟩ := hasW_list h1
  obtain ⟨ns, rfl⟩ := items_int h3
  have hlen : ns.length <= n := by
    unfold OpenLaw.pre at hc
    have h4 : (WTm.not (.lt (.lit (.int (n : Int))) (.len (.arg 0)))).holds [] { args := [.list (ns.map .int)] } = true := by
      have h4 := (holds_andW hc).1
      rw [hn] at h4
      exact h4
    have h5 := condW_of h4 (w_not (w_lt w_lit (w_len_list (w_arg rfl))))
    rw [List.length_map] at h5
    refine Nat.le_of_not_lt fun q => ?_
    have q' : (n : Int) < ((ns.length : Nat) : Int) := by omega
    first
      | (rw [decide_eq_true q'] at h5; exact absurd h5 (by decide))
      | (simp at h5; omega)
  cases hwl with
  | cons w1 w2 =>
    cases w2
    cases w1 with
    | list ho hall => exact ⟨_, _, ns, rfl, rfl, ho, xL ns _ hall, hlen⟩
theorem Z0 (l : OpenLaw) (args : List WData) : l.row.toRowW.claim.post args (.bool true) args = true :=
  postW_of (r := l.row.toRowW) (X := (true == true))
    (show WShape.has [] (.bool true) .bool = true by first | rfl | decide | simp [WShape.has, WShape.arms, WShape.armsAll])
    (show (WTm.eq .res (.lit (.bool true))).value [] { args := args, res := some (.bool true), after := args } = some (.bool (true == true)) from w_eq_bool (w_res rfl) w_lit) rfl
theorem attach_call {l : OpenLaw} {n : Nat} {q : Program} {loose : List Str} {XP : (Str -> Option Value) -> Heap -> Prop} {YP : World -> Heap -> Prop} {d : DefRec}
    (hn : l.most = some n) (hdf : d.params.defaults = [])
    (call : ∀ (w : World) (s₀ s₁ : Shared) (mg mb : Str -> Option Value) (fa : Addr) (o : Obj) (pm cd doc : Value) (a : Addr) (vs : List Value) (ns : List Int),
      Ground q loose [] XP w s₀ mg mb s₁.heap -> YP w s₁.heap ->
      s₁.heap.get? fa = some o -> o.data = .func (docDef d.name d.params d.body d.scope pm cd doc) -> s₁.heap.CodeRec cd d.name -> mg d.name = some (.ref fa) ->
      s₁.heap.get? a = some { cls := .type "list", data := .seq vs.toArray } -> IntsAre vs ns -> ns.length <= n -> s₁.gens = #[] ->
      codeAny (model l.prog w) callerA (.call (.ref fa) ⟨[.ref a], []⟩) (fun r s' => r = .ok (.ret (.bool true)) /\ OldK s₁.heap s'.heap /\ s'.os = s₁.os /\ AllBare s'.gens) s₁) :
    WalkO q loose XP YP l.row.toRowW d [] (fun f vs => PySem.call f vs) := by
  intro w s₀ s₁ mg mb G Y fa o pm cd doc dV kV ho hd hcd hD hmg hg args vals as hpre hlay hrd hwl hlo
  obtain rfl : dV = .none := Dflts.none hD hdf
  obtain rfl : kV = .none := Dflts.noKw hD
  obtain ⟨a, vs, ns, rfl, rfl, hobj, hints, hlen⟩ := ZZ hn hpre hwl
  refine enter_call (codeAny_mono (call w s₀ s₁ mg mb fa o pm cd doc a vs ns G Y ho (fd_plain hd) hcd hmg hobj hints hlen hg) fun r s' hq => ?_)
  obtain ⟨rfl, h2, h3, h4⟩ := hq
  exact ⟨.inl ⟨.bool true, .bool true, [], rfl, fun _ => rfl, .bool true, Z0 l _, fun _ => ⟨List.Pairwise.nil, fun _ hm => (nomatch hm)⟩⟩, h2, h3, h4⟩
section
variable {prog : Program} {w : World} {A : Around} {E : Value -> Shared -> Prop} {s : Shared} {K : Frag}
def Qe (h : Heap) (L d : Addr) : List (Addr × Obj) := (List.range h.objs.size).filterMap fun a => if a = L \/ a = d then none else (h.get? a).map fun o => (a, o)
end
end Att
namespace L2
open PySem PySem.Spec PyProof.Rows
theorem wK : ∀ {vs : List Value} {ns : List Int}, IntsAre vs ns -> Vals (ns.map V.int) vs
  | _, _, .nil => .nil
  | _, _, .cons n t h => .cons ⟨t, rfl⟩ (wK h)
end L2
namespace L2
open PySem PySem.Spec PyProof.Rows
end L2
/- THE LAST THEOREM (shape; LID, My.* are yours):
   My.Adr: a structure of the addresses that your layer names (classes, functions); My.Txt K t: a structure (Prop) of the equations over K;
   My.txt_mk : {K} {implicit addresses ..} (e1 : nsIn K mainGlobals "law" = some (some (.ref f))) (e2 : K.lookup f = some ⟨oc, od, .func (fnOf "law" "law" params body scope dV kV doc pm an cdv ct), sl⟩) (e3 : codeIn K cdv "law" = true) .. : ∃ t, My.Txt K t
set_option maxRecDepth 100000 in
set_option maxHeartbeats 0 in
theorem PySem.Challenge.cw_LID_holds : PySem.Challenge.rw_LID.Holds := by
  w_on; o_law; k_head; (case hw => w_witness2)
  k_fill
  refine L2.walk_of (l := PySem.Challenge.rw_LID) (n := 63) (k := 40) (x := "script") (CX := fun w => ..) (sp := fun _ => My.sp_law) rfl (by decide) rfl ⟨rfl, by decide, by decide⟩ (fun w h Y => PySem.W.kIn_of Y) ?F ?S ?C
  case F =>
    intro w mg fa h KX G hmg
    have T : ∃ t, My.Txt (L2.KOf KX) t := by
      dsimp only [L2.KOf]                          -- K must stand as «<heap const> w.params» for k_is
      refine' My.txt_mk ?e1 ?e2 ?e3 ..
      (case e1 => PySem.W.k_is)                    -- in the order: a name -> its address -> its object -> its parts
      (case e2 => PySem.W.k_is)
      ..
    obtain ⟨t, T⟩ := T
    have e0 := hmg.symm.trans (PySem.W.mg_of KX G T.law)
    cases e0                                       -- fa is the law's own address
    exact ⟨_, fun s u => .of_eq rfl, fun base kb nb => My.law_fn T kb nb⟩     -- if «.of_eq rfl» comes too early: refine' ⟨_, ?b, fun base kb nb => My.law_fn T kb nb⟩; exact fun s u => .of_eq rfl
  case S => exact fun w H a ns hl hO hS => ..
  case C => exact ..
(the tactic k_is has no namespace: write k_is) -/
namespace L2
open PySem PySem.Spec PyProof.Rows
def yj (s : Stmt) (j : Nat) : Stmt := match s with
  | .ClassDef _ _ _ body _ _ _ _ _ _ _ => body.getD j (.Pass ⟨0, 0, 0, 0⟩)
  | _ => .Pass ⟨0, 0, 0, 0⟩
def zI (s : Stmt) : Arguments := match s with
  | .FunctionDef _ a _ _ _ _ _ _ _ _ => a
  | _ => { posonlyargs := [], args := [], vararg := none, kwonlyargs := [], kw_defaults := [], kwarg := none, defaults := [] }
def zD (s : Stmt) : List Stmt := match s with
  | .FunctionDef _ _ b _ _ _ _ _ _ _ => b
  | _ => []
def zm (s : Stmt) : Scope := match s with
  | .FunctionDef _ _ _ _ _ _ sc _ _ _ => sc
  | _ => { kind := .function, names := [], isGenerator := false, isCoroutine := false }
abbrev CX0 : CXT := fun _ _ _ _ _ _ => False
abbrev E0 : XK := fun _ _ _ => False
theorem zJ {X : Cx} : zO CX0 X E0 := fun _ _ _ _ _ _ _ h => h.elim
structure Fun (K : PySem.W.Frag) (x qual : Str) (st : Stmt) (f : Addr) (fd : FuncData) : Prop where
  ex : ∃ (oc : Value) (od : Option Addr) (kV doc pm : Value) (an : Option Addr) (cdv ct : Value) (osl : Array (Option Value)),
    fd = PySem.W.fnOf x qual (zI st) (zD st) (zm st) .none kV doc pm an cdv ct /\ K.lookup f = some ⟨oc, od, .func fd, osl⟩ /\ PySem.W.codeIn K cdv qual = true
  kp : PySem.W.keepIn K (.ref f) = true
section
variable {P : Program} {w : World} {K : PySem.W.Frag} {mg : Str -> Option Value} {base : Heap}
theorem Fun.ok {x qual : Str} {st : Stmt} {f : Addr} {fd : FuncData} {N ps : List Str} {k : Nat} {sp : Sp} (F : Fun K x qual st f fd) (S : FnScope N ps (zm st)) (len : ∀ vs H Q E, sp vs H Q E -> vs.length = ps.length)
    (hbody : ∀ (cdv : Value) (A : Around) (outer : List Env) (s : Shared) (H : Hp) (vs : List V) (Q : VK) (E : XK), Room k (A.deeper (envOfC qual (zm st) s.heap.objs.size f cdv)) -> sp vs H Q E ->
      ∃ t, PSs (cxOf CX0 P w K mg base N qual (zm st) f cdv A outer s H E).nox (zD st) t /\ t { nx := fun _ H' => Q .non H', rt := Q } (z6 N vs) H) : FnOk P w K mg base CX0 (k + 1) f fd ps sp := by
  obtain ⟨oc, od, kV, doc, pm, an, cdv, ct, osl, rfl, lk, hcd⟩ := F.ex
  refine j7 lk hcd S len fun A outer s H vs Q E hr hsp => ?_
  obtain ⟨t, h, q⟩ := hbody cdv A outer s H vs Q E hr hsp
  exact ⟨t, h.nox, q⟩
theorem Fun.binds {x qual : Str} {st : Stmt} {f : Addr} {fd : FuncData} {ps : List Str} (F : Fun K x qual st f fd)
    (h : ∀ (kV doc pm : Value) (an : Option Addr) (cdv ct : Value) (us : List Value), us.length = ps.length -> bindArgs (PySem.W.fnOf x qual (zI st) (zD st) (zm st) .none kV doc pm an cdv ct) ⟨us, []⟩ = pure (ps.zip us)) : Binds K fd ps [] := by
  obtain ⟨oc, od, kV, doc, pm, an, cdv, ct, osl, rfl, lk, hcd⟩ := F.ex
  exact .all (h kV doc pm an cdv ct)
theorem YR {x qual : Str} {st : Stmt} {f : Addr} {oc : Value} {od an : Option Addr} {osl : Array (Option Value)} {kV doc pm cdv ct : Value} (l : K.lookup f = some ⟨oc, od, .func (PySem.W.fnOf x qual (zI st) (zD st) (zm st) .none kV doc pm an cdv ct), osl⟩)
    (c : PySem.W.codeIn K cdv qual = true) (k : PySem.W.keepIn K (.ref f) = true) : Fun K x qual st f (PySem.W.fnOf x qual (zI st) (zD st) (zm st) .none kV doc pm an cdv ct) := ⟨⟨oc, od, kV, doc, pm, an, cdv, ct, osl, rfl, l, c⟩, k⟩
end
theorem VD {A : Around} {k : Nat} (hr : Room k A) : A.units + 1 < cLine := Nat.lt_of_le_of_lt (Nat.add_le_add_left (by decide : 1 <= 64) _) hr.units
section
variable {X : Cx}
theorem pv (i : Nat) {x : Str} {pos : Pos} (hN : X.N[i]? = some x := by rfl) (hv : Vis X.env.scope x := by first | exact Or.inl rfl | exact Or.inr (Or.inl rfl) | exact Or.inr (Or.inr rfl)) (hd : (x == ("__debug__" : Str)) = false := by decide)
    (hcd : (x == ("__classdict__" : Str)) = false := by decide) : PE X (.Name x pos) (tVar i) := VZ hN hv hd hcd
end
theorem iteF {A B : Prop} (h : B) : if false = true then A else B := by
  rw [if_neg Bool.false_ne_true]
  exact h
theorem iteT {A B : Prop} (h : A) : if true = true then A else B := by
  rw [if_pos rfl]
  exact h
theorem ite2 {c A B : Prop} [Decidable c] (h1 : c -> A) (h2 : ¬ c -> B) : if c then A else B := by
  by_cases h : c
  · rw [if_pos h]
    exact h1 h
  · rw [if_neg h]
    exact h2 h
def Same (H H' : Hp) : Prop := ∀ b o, H b = some o -> H' b = some o
theorem Same.refl (H : Hp) : Same H H := fun _ _ h => h
theorem Same.trans {H H1 H2 : Hp} (a : Same H H1) (b : Same H1 H2) : Same H H2 := fun c o h => b c o (a c o h)
theorem Same.free {H H' : Hp} (e : Same H H') {l : Addr} (h : H' l = Option.none) : H l = Option.none := by
  cases q : H l with
  | none => rfl
  | some o =>
    rw [e l o q] at h
    cases h
theorem Same.seq {K : PySem.W.Frag} {H H' : Hp} {a : Addr} {xs : List V} (e : Same H H') (h : SqL K H a xs) : SqL K H' a xs := by
  rcases h with (h | ⟨o, h⟩) | h
  · exact .inl (.inl (e _ _ h))
  · exact .inl (.inr ⟨o, e _ _ h⟩)
  · exact .inr h
end L2
namespace L2
open PySem PySem.Spec PyProof.Rows
def AllIn (env : Env) : List (Str × Addr) -> Prop
  | [] => True
  | p :: r => env.cells.lookup p.1 = some p.2 /\ AllIn env r
theorem AllIn.get {env : Env} : ∀ {cl : List (Str × Addr)} {y : Str} {c : Addr}, AllIn env cl -> cl.lookup y = some c -> env.cells.lookup y = some c
  | [], _, _, _, h => by simp at h
  | (n, a) :: r, y, c, ⟨e, t⟩, h => by
    rw [List.lookup_cons] at h
    by_cases q : y = n
    · subst q
      rw [beq_self_eq_true] at h
      cases h
      exact e
    · have q' : (y == n) = false := beq_eq_false_iff_ne.mpr q
      rw [q'] at h
      exact AllIn.get t h
def yO : List Nat -> St -> St
  | [], σ => σ
  | i :: S, σ => yO S (σ.set i none)
theorem yX : ∀ (S : List Nat) (σ : St), (yO S σ).length = σ.length
  | [], _ => rfl
  | i :: S, σ => by rw [yO, yX S, List.length_set]
theorem wL : ∀ (S : List Nat) (σ : St) {j : Nat} {v : V}, (yO S σ)[j]? = some (some v) -> σ[j]? = some (some v) /\ j ∉ S
  | [], _, _, _, h => ⟨h, by simp⟩
  | i :: S, σ, j, v, h => by
    obtain ⟨h1, h2⟩ := wL S (σ.set i none) h
    rw [List.getElem?_set] at h1
    by_cases e : i = j
    · rw [if_pos e] at h1
      split at h1 <;> cases h1
    · rw [if_neg e] at h1
      exact ⟨h1, fun z => (List.mem_cons.mp z).elim (fun z => e z.symm) h2⟩
structure LcOk (X : Cx) (scope : Scope) (cl : List (Str × Addr)) (S : List Nat) : Prop where
  clos : closureFor scope X.env = pure cl
  kind : scope.kind = .function
  noC : scope.names.all (fun y => y.2 != .cell) = true
  loc : scope.names.all (fun y => y.2 != .local || scope.names.lookup y.1 == some .local) = true
  own : X.N.zipIdx.all (fun y => S.contains y.2 || scope.names.lookup y.1 != some .local) = true
  sub : AllIn X.env cl
  has : scope.names.all (fun p => p.2 != .free || ((cl.lookup p.1).isSome && (X.env.kindOf p.1 == some .cell || X.env.kindOf p.1 == some .free))) = true
section
variable {X : Cx} {scope : Scope} {cl : List (Str × Addr)} {S : List Nat}
theorem LcOk.nocell (L : LcOk X scope cl S) : ∀ y ∈ scope.names, y.2 ≠ .cell := fun y hy => by
  have h := List.all_eq_true.mp L.noC y hy
  exact bne_iff_ne.mp h
theorem LcOk.locs (L : LcOk X scope cl S) : ∀ y ∈ scope.names, y.2 = .local -> scope.names.lookup y.1 = some .local := fun y hy e => by
  have h := List.all_eq_true.mp L.loc y hy
  rw [e] at h
  simpa using h
theorem LcOk.apart (L : LcOk X scope cl S) : ∀ (i : Nat) (y : Str), X.N[i]? = some y -> i ∉ S -> scope.names.lookup y ≠ some .local := fun i y hy hi => by
  have h := List.all_eq_true.mp L.own (y, i) (List.mem_zipIdx_iff_getElem?.mpr hy)
  have hc : S.contains i = false := by simpa using hi
  rw [hc, Bool.false_or] at h
  exact bne_iff_ne.mp h
theorem LcOk.free (L : LcOk X scope cl S) {y : Str} (h : scope.names.lookup y = some .free) : (∃ c, cl.lookup y = some c) /\ (X.env.kindOf y = some .cell \/ X.env.kindOf y = some .free) := by
  have h1 := List.all_eq_true.mp L.has _ (PySem.mem_of_lookup h)
  simp only [bne_self_eq_false, Bool.false_or, Bool.and_eq_true, Bool.or_eq_true, beq_iff_eq] at h1
  exact ⟨Option.isSome_iff_exists.mp h1.1, h1.2⟩
theorem yv (names : List (Str × NameKind)) (env : Env) (y : Str) :
    (names.map fun (n, k) => if (k == NameKind.free && env.scope.kind == .function && env.kindOf n == some .cell) then (n, NameKind.cell) else (n, k)).lookup y =
      (names.lookup y).map fun k => if (k == NameKind.free && env.scope.kind == .function && env.kindOf y == some .cell) then NameKind.cell else k := by
  induction names with
  | nil => rfl
  | cons p r ih =>
    obtain ⟨n, k⟩ := p
    rw [List.map_cons]
    by_cases q : y = n
    · subst q
      by_cases hc : (k == NameKind.free && env.scope.kind == .function && env.kindOf y == some .cell) = true
      · show List.lookup y ((if (k == NameKind.free && env.scope.kind == .function && env.kindOf y == some .cell) = true then (y, NameKind.cell) else (y, k)) :: _) = _
        rw [if_pos hc, List.lookup_cons, List.lookup_cons, beq_self_eq_true]
        show some NameKind.cell = some (if _ then _ else _)
        rw [if_pos hc]
      · show List.lookup y ((if (k == NameKind.free && env.scope.kind == .function && env.kindOf y == some .cell) = true then (y, NameKind.cell) else (y, k)) :: _) = _
        rw [if_neg hc, List.lookup_cons, List.lookup_cons, beq_self_eq_true]
        show some k = some (if _ then _ else _)
        rw [if_neg hc]
    · have q' : (y == n) = false := beq_eq_false_iff_ne.mpr q
      by_cases hc : (k == NameKind.free && env.scope.kind == .function && env.kindOf n == some .cell) = true
      · show List.lookup y ((if (k == NameKind.free && env.scope.kind == .function && env.kindOf n == some .cell) = true then (n, NameKind.cell) else (n, k)) :: _) = _
        rw [if_pos hc, List.lookup_cons, List.lookup_cons, q']
        exact ih
      · show List.lookup y ((if (k == NameKind.free && env.scope.kind == .function && env.kindOf n == some .cell) = true then (n, NameKind.cell) else (n, k)) :: _) = _
        rw [if_neg hc, List.lookup_cons, List.lookup_cons, q']
        exact ih
theorem LcOk.kinds (L : LcOk X scope cl S) {y : Str} (h : (relabel scope X.env).names.lookup y = some .cell \/ (relabel scope X.env).names.lookup y = some .free) : scope.names.lookup y = some .free := by
  have e : (relabel scope X.env).names.lookup y = (scope.names.lookup y).map fun k => if (k == NameKind.free && X.env.scope.kind == .function && X.env.kindOf y == some .cell) then NameKind.cell else k := yv scope.names X.env y
  rw [e] at h
  cases q : scope.names.lookup y with
  | none => rw [q] at h; rcases h with h | h <;> cases h
  | some k =>
    have hk : k ≠ .cell := L.nocell _ (PySem.mem_of_lookup q)
    rw [q] at h
    by_cases hf : k = .free
    · rw [hf]
    · have z : (k == NameKind.free) = false := beq_eq_false_iff_ne.mpr hf
      rw [Option.map_some, z, Bool.false_and, Bool.false_and, if_neg Bool.false_ne_true] at h
      rcases h with h | h
      · exact absurd (Option.some.inj h) hk
      · exact absurd (Option.some.inj h) hf
def cxLC (X : Cx) (scope : Scope) (cl : List (Str × Addr)) (M : List Str) (C : Addr) (s₀ : Shared) (H₀ : Hp) (ex : List Addr) (E : Value -> Shared -> Prop) : Cx where
  prog := X.prog
  w := X.w
  K := X.K
  mg := X.mg
  base := X.base
  A := X.A
  N := X.N ++ M
  s₀ := s₀
  H₀ := H₀
  env := compEnvC scope cl C X.env
  outer := X.stack
  stack := X.stack
  ex := ex
  fn := fun _ => false
  calm := X.calm
  pn := []
  xe := E
variable {pins : List (Addr × Obj)} {σ : St} {H : Hp} {s : Shared} {ex : List Addr} {M : List Str} {C : Addr}
theorem vG {E : Value -> Shared -> Prop} {h1 : Heap} {tk : Nat} {m : Str -> Option Value} (I : Inv X pins σ H s) (L : LcOk X scope cl S) (hf : ∀ b ∈ ex, FpOk X pins H b) (hlt : ∀ b ∈ ex, b < s.heap.objs.size)
    (hk : ∀ b o, s.heap.get? b = some o -> h1.get? b = some o) (hC : s.heap.objs.size <= C) (hns : h1.Ns C m) :
    Inv (cxLC X scope cl M C s H ex E) [] (yO S σ ++ List.replicate M.length none) H { s with heap := h1, toks := tk } := by
  refine ⟨⟨I.ok.mod, L.kind, I.ok.glob, I.ok.blt, hC, fun x y c a b => I.ok.inj x y c (L.sub.get a) (L.sub.get b), fun y hy => (L.free (L.kinds hy)).1, (fun x c z => nomatch z), I.ok.hd, I.ok.frames, .inl rfl, fun b hb => ⟨?_, fun x c e => ?_⟩,
      I.bs, Nat.le_trans I.ok.bsz I.sz, fun b o e hb => ?_, fun b hb z => ?_, I.stack, I.stkFree⟩,
    rfl, I.bare, Un.kept hk, ⟨m, hns, fun i y v e1 e2 e3 => ?_⟩, fun y c e => ?_, I.hok.fresh hC, fun y c e => I.freeC y c (L.sub.get e), fun p hp => absurd (show p ∈ ([] : List (Addr × Obj)) from hp) (by simp), I.hok.kept hk, ?_⟩
  · exact Nat.ne_of_lt (Nat.lt_of_lt_of_le (hlt b hb) hC)
  · exact (hf b hb).2.2.2.2.1 x c (L.sub.get e)
  · rcases (hf b hb).2.2.2.1 with z | z
    · exact I.ok.noex b o e z
    · exact absurd (Nat.lt_of_lt_of_le (Heap.lt_size e) (Nat.le_trans I.ok.bsz z)) (Nat.lt_irrefl _)
  · rcases List.mem_cons.mp (I.stkSub b z) with q | q
    · exact (hf b hb).2.1 q
    · exact (hf b hb).2.2.1 q
  · have e1' : (X.N ++ M)[i]? = some y := e1
    by_cases hi : i < σ.length
    · rw [List.getElem?_append_left (by rw [yX]; exact hi)] at e2
      obtain ⟨e2, hiS⟩ := wL S σ e2
      rw [List.getElem?_append_left (by rw [<- I.len]; exact hi)] at e1'
      obtain ⟨m0, hn0, hl⟩ := I.loc
      have hy : scope.names.lookup y = some .free := by
        rcases e3 with e3 | e3
        · have q := yv scope.names X.env y
          have e3' : (relabel scope X.env).names.lookup y = some .local := e3
          cases z : scope.names.lookup y with
          | none =>
            rw [z] at q
            have q' : (relabel scope X.env).names.lookup y = none := q
            rw [e3'] at q'; cases q'
          | some k =>
            have hk1 : k ≠ .local := fun w => L.apart i y e1' hiS (w ▸ z)
            rw [z, Option.map_some] at q
            have q' : some NameKind.local = some (if (k == NameKind.free && X.env.scope.kind == .function && X.env.kindOf y == some .cell) = true then NameKind.cell else k) := e3'.symm.trans q
            have q2 := Option.some.inj q'
            by_cases hc : (k == NameKind.free && X.env.scope.kind == .function && X.env.kindOf y == some .cell) = true
            · rw [if_pos hc] at q2; cases q2
            · rw [if_neg hc] at q2; exact absurd q2.symm hk1
        · exact L.kinds e3
      obtain ⟨⟨c, hc⟩, hk2⟩ := L.free hy
      obtain ⟨u, r, l⟩ := hl i y v e1' e2 (.inr hk2)
      refine ⟨u, r, .inr ⟨?_, c, hc, ?_⟩⟩
      · have q := yv scope.names X.env y
        rw [hy, Option.map_some] at q
        have q' : (relabel scope X.env).names.lookup y = some (if (NameKind.free == NameKind.free && X.env.scope.kind == .function && X.env.kindOf y == some .cell) = true then NameKind.cell else NameKind.free) := q
        by_cases hc : (NameKind.free == NameKind.free && X.env.scope.kind == .function && X.env.kindOf y == some .cell) = true
        · rw [if_pos hc] at q'; exact .inl q'
        · rw [if_neg hc] at q'; exact .inr q'
      · rcases l with ⟨l1, _⟩ | ⟨_, c', e', z⟩
        · rcases hk2 with w | w <;> (rw [l1] at w; cases w)
        · have ec : c' = c := by
            have w := L.sub.get hc
            rw [e'] at w
            exact Option.some.inj w
          subst ec
          obtain ⟨o, ho, hd⟩ := z
          exact ⟨o, hk _ _ ho, hd⟩
    · rw [List.getElem?_append_right (by rw [yX]; exact Nat.not_lt.mp hi), List.getElem?_replicate] at e2
      split at e2 <;> cases e2
  · obtain ⟨v, o, ho, hd⟩ := I.cell y c (L.sub.get e)
    exact ⟨v, o, hk _ _ ho, hd⟩
  · show (yO S σ ++ List.replicate M.length none).length = (X.N ++ M).length
    rw [List.length_append, List.length_append, List.length_replicate, yX, I.len]
def PTs (X : Cx) (ifs : List Expr) (t : TT) : Prop :=
  ∀ (pins : List (Addr × Obj)) (s : Shared) (σ : St) (H : Hp) (Q : Bool -> Hp -> Prop), Inv X pins σ H s -> t σ H Q ->
    wpAny (model X.prog X.w) X.A (forIn ifs true fun c r => if r = true then do let ok <- isTrue c X.env (eval c X.env); pure (ForInStep.yield ok) else pure (ForInStep.yield r)) (TP X pins σ Q) X.xe s
def tYes : TT := fun _ H Q => Q true H
theorem WE {X : Cx} : PTs X [] tYes := fun _ _ _ H _ I h => wpAny_tests_nil ⟨H, I, h⟩
theorem WF {X : Cx} {c : Expr} {t : TT} (h : PT X c t) : PTs X [c] t := fun pins s σ H Q I q => wpAny_tests_one (h pins s σ H Q I q)
def lcBy (J : It) (g : TG) (tt : TT) (te : TE) (Q : VK) (W : Nat -> Nat -> St -> List V -> Hp -> Prop) : Prop := ∀ i m τ ys H, W i m τ ys H ->
  (J.stop i H /\ ∀ p, H p = none -> Q (.ref p) (upd H p (.lst ys))) \/
  (J.go i H /\ ∃ N : St -> List V -> Hp -> Prop, (∀ τ' ys' H', N τ' ys' H' -> ∃ m', m' < m /\ W (i + 1) m' τ' ys' H') /\ ∀ x H', J.yld i H x H' -> g x τ H' fun τ2 H2 => tt τ2 H2 fun b H3 =>
    if b = true then te τ2 H3 fun y H4 => ys.length < sizeLine /\ N τ2 (ys ++ [y]) H4 else N τ2 ys H3)
def tLC (wi : TI) (g : TG) (tt : TT) (te : TE) (n : Nat) : TE := fun σ H Q => wi σ H fun J H1 => ∃ W, (∃ m, W 0 m (σ ++ List.replicate n none) [] H1) /\ lcBy J g tt te Q W
def tLCS (S : List Nat) (wi : TI) (g : TG) (tt : TT) (te : TE) (n : Nat) : TE := fun σ H Q => wi σ H fun J H1 => ∃ W, (∃ m, W 0 m (yO S σ ++ List.replicate n none) [] H1) /\ lcBy J g tt te Q W
theorem vc {tg elt iter : Expr} {ifs : List Expr} {pos : Pos} {g : TG} {tt : TT} {te : TE} {J : It} {fp : List Addr} {it : Addr} {tn : Nat -> Heap -> Prop} {Q : VK} {E : Value -> Shared -> Prop} {R : Value -> Addr -> Result -> Shared -> Prop} {Al : Addr -> (Value -> Shared -> Prop) -> Prop}
    {W : Nat -> Nat -> St -> List V -> Hp -> Prop} {m0 : Nat} (L : LcOk X scope cl S) (hc : X.calm = true) (I : Inv X pins σ H s) (T : Turn X.prog X.w X.K tg J fp it tn) (st : tn 0 s.heap) (hf : ∀ b ∈ fp, FpOk X pins H b)
    (hg : ∀ C s H ex E, PG (cxLC X scope cl M C s H ex E) tg g) (ht : ∀ C s H ex E, PTs (cxLC X scope cl M C s H ex E) ifs tt) (he : ∀ C E, Al C E -> PE (cxLC X scope cl M C s H fp E) elt te)
    (hal : ∀ C, s.heap.objs.size < C -> Al C (notedBy (model X.prog X.w) X.A (compEnvC scope cl C X.env) (fun e s' => R (.ref s.heap.objs.size) C (.error e) s')))
    (w0 : W 0 m0 (yO S σ ++ List.replicate M.length none) [] H) (turn : lcBy J g tt te Q W)
    (hR : ∀ D C s' H' ys m, Inv X pins σ (upd H' D (.lst ys)) s' -> FpOk X pins (upd H' D (.lst ys)) C -> s'.heap.Ns C m -> Q (.ref D) (upd H' D (.lst ys)) -> R (.ref D) C (.ok .next) s') :
    wpAny (model X.prog X.w) X.A (newList []) (fun acc s₃ => wpAny (model X.prog X.w) X.A (newFunctionEnv scope X.env.globals cl [] X.env.qual none .none (some X.env)) (fun cenv s₄ =>
      codeAny (model X.prog X.w) X.A (.compStart (.ListComp elt [⟨tg, iter, ifs, 0⟩] scope pos) 0 (.ref it) acc { cenv with scope := relabel scope X.env }) (R acc cenv.locals) s₄) E s₃) E s := by
  refine wpAny_newObj_type (wpAny_newFunctionEnv L.nocell (by intro y hy; simp at hy) (fun h₁ hns₁ hsb₁ => ?_) L.kind)
  dsimp only at hns₁ hsb₁ ⊢
  generalize hG : s.heap.push { cls := .type "list", dict := none, data := .seq ([] : List Value).toArray } = G at hns₁ hsb₁ ⊢
  have hC : G.objs.size = s.heap.objs.size + 1 := by rw [<- hG, Heap.size_push]
  have hDC : s.heap.objs.size ≠ G.objs.size := by rw [hC]; exact Nat.ne_of_lt (Nat.lt_succ_self _)
  have hCle : s.heap.objs.size <= G.objs.size := by rw [hC]; exact Nat.le_succ _
  have old : ∀ b o, s.heap.get? b = some o -> h₁.get? b = some o := fun b o e =>
    hsb₁.extBut b o (by rw [hC]; exact Nat.ne_of_lt (Nat.lt_succ_of_lt (Heap.lt_size e))) (Heap.get?_push_of_some _ (hG ▸ Heap.get?_push_of_some _ e))
  have hacc : h₁.get? s.heap.objs.size = some { cls := .type "list", data := .seq ([] : List Value).toArray } := hsb₁.extBut _ _ hDC (Heap.get?_push_of_some _ (hG ▸ Heap.get?_push_size _ rfl))
  have fpo : ∀ b ∈ fp, b < s.heap.objs.size := fun b hb => let ⟨o, e, _⟩ := T.obj 0 _ st b hb; Heap.lt_size e
  have st1 : tn 0 h₁ := T.keep 0 _ _ st fun b _ o e => old b o e
  have nofs : s.heap.objs.size ∉ frs X.stack := fun z => by
    rcases List.mem_cons.mp (I.stkSub _ z) with q | q
    · exact absurd (q ▸ I.lt) (Nat.lt_irrefl _)
    · exact I.nofs (Nat.le_refl _) q
  have nocl : ∀ y c, cl.lookup y = some c -> c ≠ s.heap.objs.size := fun y c e z => by
    obtain ⟨v, o, ho, _⟩ := I.cell y c (L.sub.get e)
    exact absurd (z ▸ Heap.lt_size ho) (Nat.lt_irrefl _)
  have loop : ∀ s₃ : Shared, s₃ = { s with heap := h₁, toks := s.toks + ([] : List (Str × Value)).length } ->
      codeAny (model X.prog X.w) X.A (.compLoop (.ListComp elt [⟨tg, iter, ifs, 0⟩] scope pos) 0 (.ref it) (.ref s.heap.objs.size) (compEnvC scope cl G.objs.size X.env)) (R (.ref s.heap.objs.size) G.objs.size) s₃ := by
    rintro s₃ rfl
    have hAl := hal G.objs.size (by rw [hC]; exact Nat.lt_succ_self _)
    generalize hE : notedBy (model X.prog X.w) X.A (compEnvC scope cl G.objs.size X.env) (fun e s' => R (.ref s.heap.objs.size) G.objs.size (.error e) s') = E' at hAl ⊢
    have IY : Inv (cxLC X scope cl M G.objs.size s H fp E') [] (yO S σ ++ List.replicate M.length none) H { s with heap := h₁, toks := s.toks + ([] : List (Str × Value)).length } := vG I L hf fpo old hCle hns₁
    refine codeAny_loop rfl (fun n s' => ∃ (i : Nat) (τ : St) (H' : Hp) (ys : List V) (its : List Value) (k : Nat), Inv (cxLC X scope cl M G.objs.size s H fp E') [] τ H' s' /\ tn i s'.heap /\ (∀ b ∈ fp, H' b = none) /\
      s'.heap.get? s.heap.objs.size = some { cls := .type "list", data := .seq its.toArray k } /\ H' s.heap.objs.size = none /\ Vals ys its /\ ys.length <= sizeLine /\ W i n τ ys H') (fun n s' hI => ?_) m0
      ⟨0, _, H, [], [], _, IY, st1, fun b hb => (hf b hb).1, hacc, I.hok.fresh (Nat.le_refl _), .nil, Nat.zero_le _, w0⟩
    obtain ⟨i, τ, H1, ys, its, k, I1, st1, fr1, eD, fD, rv, hz, w1⟩ := hI
    show wpAny _ X.A ((compTurn (.ListComp elt [⟨tg, iter, ifs, 0⟩] scope pos) 0 (.ref it) (.ref s.heap.objs.size) (compEnvC scope cl G.objs.size X.env)).onRaise (fun x => do noteFrame x (compEnvC scope cl G.objs.size X.env); theTreesLotGoes x)) _ _ s'
    refine wpAny_noted ?_
    rw [hE, compTurn_list]
    have I1' : Inv (cxLC X scope cl M G.objs.size s H fp E') [(s.heap.objs.size, { cls := .type "list", data := .seq its.toArray k })] τ H1 s' := I1.pins_of fun p hp => by
      have e : p = (s.heap.objs.size, { cls := .type "list", data := .seq its.toArray k }) := by simpa using hp
      subst e
      exact ⟨eD, fD, hDC, nofs, (fun v z => nomatch z)⟩
    have stat : ∀ {H' : Hp}, (∀ b ∈ fp, H' b = none) -> ∀ b ∈ fp, FpOk (cxLC X scope cl M G.objs.size s H fp E') [(s.heap.objs.size, { cls := .type "list", data := .seq its.toArray k })] H' b := fun hn b hb => by
      refine ⟨hn b hb, ?_, ?_, .inl hb, fun x c e => (hf b hb).2.2.2.2.1 x c (L.sub.get e), fun p hp z => ?_⟩
      · exact Nat.ne_of_lt (Nat.lt_of_lt_of_le (fpo b hb) hCle)
      · intro z
        rcases List.mem_cons.mp (I.stkSub b z) with q | q
        · exact (hf b hb).2.1 q
        · exact (hf b hb).2.2.1 q
      · have e : p = (s.heap.objs.size, { cls := .type "list", data := .seq its.toArray k }) := by
          have hp' : p ∈ [(s.heap.objs.size, ({ cls := .type "list", data := .seq its.toArray k } : Obj))] := hp
          simpa using hp'
        subst e
        exact absurd (z ▸ fpo b hb) (Nat.lt_irrefl _)
    refine wpAny_bind (wpAny_standAt (wpAny_bind ?_))
    rcases turn i n τ ys H1 w1 with ⟨stop, q⟩ | ⟨go, N, hN, step⟩
    · refine thn (T.done (cxLC X scope cl M G.objs.size s H fp E') rfl rfl rfl hc i _ s' τ H1 E' I1' (stat fr1) st1 stop) fun r s4 ⟨hr, I4⟩ => ?_
      subst hr
      refine wpAny_pure ?_
      obtain ⟨eD4, _, _⟩ := I4.pin (s.heap.objs.size, { cls := .type "list", data := .seq its.toArray k }) (List.mem_append_right _ List.mem_cons_self)
      have base4 : Un (frs X.stack) fp H H1 s.heap s4.heap := I4.base
      have un : Un (frs X.stack) fp H (upd H1 s.heap.objs.size (.lst ys)) s.heap s4.heap := ⟨base4.keep, base4.slot, fun b o e n hx => by rw [zn (Nat.ne_of_lt (Heap.lt_size e))]; exact base4.free b o e n hx, base4.there,
        fun b xs e => by rw [zn (zo (base4.tups b xs e) fD)]; exact base4.tups b xs e, fun b o u e => by rw [zn (zo (base4.frzs b o u e) fD)]; exact base4.frzs b o u e,
        fun b ps e => by
          obtain ⟨more, w⟩ := base4.tbls b ps e
          exact ⟨more, by rw [zn (zo w fD)]; exact w⟩⟩
      have hok : HOk X.prog X.w (upd H1 s.heap.objs.size (.lst ys)) s4.heap := fun b u e => by
        by_cases hb : b = s.heap.objs.size
        · subst hb
          rw [zg] at e
          cases e
          exact ⟨hz, its, k, rv, eD4⟩
        · rw [zn hb] at e
          exact (I4.hok b u e).stay (fun c v _ q => q) (fun c q => by rw [zn (zo q fD)]; exact q) fun c xs q => by rw [zn (zo q fD)]; exact q
      have IX : Inv X pins σ (upd H1 s.heap.objs.size (.lst ys)) s4 := I.call' I4.os un hok I4.bare fun b hb => ⟨(hf b hb).2.2.2.1, (hf b hb).2.1, (hf b hb).2.2.2.2.1, (hf b hb).2.2.2.2.2⟩
      have fC : H1 G.objs.size = none := I4.free
      obtain ⟨m4, n4, _⟩ := I4.loc
      exact hR _ _ s4 H1 ys m4 IX (I.fpOk hCle (by rw [zn (Ne.symm hDC)]; exact fC)) n4 (q _ fD)
    · refine thn (T.item (cxLC X scope cl M G.objs.size s H fp E') rfl rfl rfl hc i _ s' τ H1 E' I1' (stat fr1) st1 go) fun r s4 ⟨u, hr, h4⟩ => ?_
      subst hr
      refine wpAny_bind (thn h4 fun _ s5 ⟨x, H5, I5, r5, y5, st5, fr5⟩ => ?_)
      have I5' := I5.pinned (stat fr5) (T.obj _ _ st5)
      have kept : ∀ {τ6 : St} {H6 : Hp} {s6 : Shared}, Inv (cxLC X scope cl M G.objs.size s H fp E') ([(s.heap.objs.size, { cls := .type "list", data := .seq its.toArray k })] ++ xq fp s5.heap) τ6 H6 s6 ->
          Inv (cxLC X scope cl M G.objs.size s H fp E') [] τ6 H6 s6 /\ tn (i + 1) s6.heap /\ (∀ b ∈ fp, H6 b = none) /\ s6.heap.get? s.heap.objs.size = some { cls := .type "list", data := .seq its.toArray k } /\ H6 s.heap.objs.size = none := fun {τ6 H6 s6} I6 => by
        have pin : ∀ b ∈ fp, ∀ o, s5.heap.get? b = some o -> s6.heap.get? b = some o /\ H6 b = none := fun b hb o e =>
          let w := I6.pin (b, o) (List.mem_append_right _ (List.mem_append_right _ (yH hb e)))
          ⟨w.1, w.2.1⟩
        have pD := I6.pin (s.heap.objs.size, { cls := .type "list", data := .seq its.toArray k }) (List.mem_append_right _ (List.mem_append_left _ List.mem_cons_self))
        refine ⟨I6.pins_of (fun p hp => nomatch hp), T.keep _ _ _ st5 fun b hb o e => (pin b hb o e).1, fun b hb => ?_, pD.1, pD.2.1⟩
        obtain ⟨o, e, _⟩ := T.obj _ _ st5 b hb
        exact (pin b hb o e).2
      refine wpAny_bind (thn (hg _ _ _ _ _ _ s5 τ H5 x u _ I5' r5 (step x H5 y5)) fun _ s6 ⟨σ6, H6, I6, q6⟩ => ?_)
      refine wpAny_bind (thn (ht _ _ _ _ _ _ s6 σ6 H6 _ I6 q6) fun ok s7 ⟨H7, I7, q7⟩ => ?_)
      cases ok with
      | false =>
        have q7' : N σ6 ys H7 := by simpa using q7
        obtain ⟨m', hm, w7⟩ := hN _ _ _ q7'
        obtain ⟨K1, K2, K3, K4, K5⟩ := kept I7
        exact wpAny_pure ⟨rfl, m', hm, i + 1, σ6, H7, ys, its, k, K1, K2, K3, K4, K5, rv, hz, w7⟩
      | true =>
        have q7' : te σ6 H7 fun y H4 => ys.length < sizeLine /\ N σ6 (ys ++ [y]) H4 := by simpa using q7
        refine wpAny_bind (wpAny_bind (thn (he _ _ hAl _ s7 σ6 H7 _ I7 q7') fun y s8 ⟨v8, H8, I8, r8, hz8, n8⟩ => ?_))
        obtain ⟨m', hm, w8⟩ := hN _ _ _ n8
        obtain ⟨K1, K2, K3, K4, K5⟩ := kept I8
        have hl := rv.length
        refine wpAny_bind (wpAny_list_append_plain (hsz := by rw [List.size_toArray]; omega) ⟨k, K4⟩ fun h9 hl9 hs9 => wpAny_pure (wpAny_pure ⟨rfl, m', hm, ?_⟩))
        obtain ⟨k9, e9⟩ := hl9
        have I9 : Inv (cxLC X scope cl M G.objs.size s H fp E') [] σ6 H8 { s8 with heap := h9 } := K1.turned (t' := s8.toks) (it := s.heap.objs.size) (fun b o hb e => (hs9.2 b hb).trans e) K5 hDC (.inr (Nat.le_refl _))
          (fun y c e => nocl y c e) fun p hp => nomatch hp
        refine ⟨i + 1, σ6, H8, ys ++ [v8], its ++ [y], k9, I9, T.keep _ _ _ K2 fun b hb o e => (hs9.2 b (Nat.ne_of_lt (fpo b hb))).trans e, K3, ?_, K5, rv.append (.cons r8 .nil), ?_, w8⟩
        · rw [e9]
          simp
        · rw [List.length_append, List.length_singleton]
          omega
  exact codeAny_compStart_list (loop _ rfl) (T.self X.A 0 _ _ _ st1 (loop _ rfl))
variable {tg elt iter : Expr} {ifs : List Expr} {pos : Pos} {wi : TI} {g : TG} {tt : TT} {te : TE}
theorem qG (L : LcOk X scope cl S) (hc : X.calm = true) (hi : PI X tg iter wi) (hg : ∀ C s H ex E, PG (cxLC X scope cl M C s H ex E) tg g) (ht : ∀ C s H ex E, PTs (cxLC X scope cl M C s H ex E) ifs tt) (he : ∀ C s H ex E, PE (cxLC X scope cl M C s H ex E) elt te)
    (hs : ∀ x, foldedSetIterable iter X.env x = pure x := by intro _; rfl) : PE X (.ListComp elt [⟨tg, iter, ifs, 0⟩] scope pos) (tLCS S wi g tt te M.length) := by
  intro pins s σ H Q I h
  rw [eval_ListComp]
  refine wpAny_comprehension_free (use := none) rfl hs L.clos L.kind L.locs (thn (hi pins s σ H _ I h) fun v s1 h1 => thn h1 fun itv s2 h2 => ?_)
  obtain ⟨it, fp, tn, J, H2, rfl, I2, T, st2, f2, W, ⟨m0, w0⟩, turn⟩ := h2
  refine vc (R := fun acc C => compPost (model X.prog X.w) X.A X.xe none (EP X pins σ Q) acc C) (Al := fun _ _ => True) L hc I2 T st2 f2 hg ht (fun C E _ => he C _ _ _ E) (fun _ _ => trivial) w0 turn ?_
  intro D C s' H' ys m IX fC ns q
  exact ⟨m, ns, fun h' sb => ⟨.ref D, _, IX.turned (t' := s'.toks) (fun b o hb e => (sb.2 b hb).trans e) fC.1 fC.2.1 fC.2.2.2.1 fC.2.2.2.2.1 fC.2.2.2.2.2, rfl, q⟩⟩
theorem Z3 {i : Nat} {y : Str} {py spos : Pos} (hN : X.N.Nodup) (hi' : X.N[i]? = some y) (hy : Loc X.env.scope y) (L : LcOk X scope cl S) (hc : X.calm = true) (hi : PI X tg iter wi) (hg : ∀ C s H ex E, PG (cxLC X scope cl M C s H ex E) tg g)
    (ht : ∀ C s H ex E, PTs (cxLC X scope cl M C s H ex E) ifs tt) (he : ∀ C s H ex E, PE (cxLC X scope cl M C s H ex E) elt te) (hs : ∀ x, foldedSetIterable iter X.env x = pure x := by intro _; rfl)
    (hsw : swapsWith (.ListComp elt [⟨tg, iter, ifs, 0⟩] scope pos) (some (.Name y py)) spos.line X.env = pure true := by rfl)
    (hf : X.fn y = true \/ X.env.scope.names.lookup y = some .local := by first | exact .inl rfl | exact .inr rfl | assumption) :
    PS X (.Assign [.Name y py] (.ListComp elt [⟨tg, iter, ifs, 0⟩] scope pos) spos) (fun D σ H => tLCS S wi g tt te M.length σ H fun v H1 => D.nx (σ.set i (some v)) H1) := by
  intro pins s σ H D I h
  rw [exec_Assign_Name_used _ _ _ _ hsw]
  refine wpAny_bind (wpAny_standAt (wpAny_bind ?_))
  show wpAny _ X.A (do let _ <- comprehension (.ListComp elt [⟨tg, iter, ifs, 0⟩] scope pos) scope X.env _ (newList []) false (eval iter X.env) (some (assign (.Name y py) X.env))) _ _ s
  refine wpAny_bind (wpAny_mono (wpAny_comprehension_free (use := some (assign (.Name y py) X.env)) (Q := fun _ s' => SP X pins D .next s') rfl hs L.clos L.kind L.locs
    (thn (hi pins s σ H _ I h) fun v s1 h1 => thn h1 fun itv s2 h2 => ?_)) (fun _ s' hq => wpAny_pure (wpAny_pure hq)) fun _ _ e => e)
  obtain ⟨it, fp, tn, J, H2, rfl, I2, T, st2, f2, W, ⟨m0, w0⟩, turn⟩ := h2
  refine vc (R := fun acc C => compPost (model X.prog X.w) X.A X.xe (some (assign (.Name y py) X.env)) (fun _ s' => SP X pins D .next s') acc C) (Al := fun _ _ => True) L hc I2 T st2 f2 hg ht (fun C E _ => he C _ _ _ E) (fun _ _ => trivial) w0 turn ?_
  intro D' C s' H' ys m IX fC ns q
  show wpAny _ X.A (assign (.Name y py) X.env (.ref D')) _ _ s'
  refine wpAny_assign_Name (wy IX hN hi' hy (v := .ref D') rfl (fun s'' I'' ⟨a, sb, ha⟩ => ?_) hf)
  refine ⟨m, ns.sameBut sb ?_, fun h' sb' => ⟨_, _, I''.turned (t' := s''.toks) (fun b o hb e => (sb'.2 b hb).trans e) fC.1 fC.2.1 fC.2.2.2.1 fC.2.2.2.2.1 fC.2.2.2.2.2, q⟩⟩
  rcases ha with ha | ha
  · rw [ha]; exact fC.2.1
  · exact Ne.symm (fC.2.2.2.2.1 y a ha)
end
def clOf (scope : Scope) (env : Env) : List (Str × Addr) := scope.names.foldl (fun cs p => if p.2 == .free then (match env.cells.lookup p.1 with | some a => (p.1, a) :: cs | none => cs) else cs) []
theorem Zd (env : Env) : ∀ (names : List (Str × NameKind)) (acc : List (Str × Addr)), AllIn env acc -> AllIn env (names.foldl (fun cs p => if p.2 == .free then (match env.cells.lookup p.1 with | some a => (p.1, a) :: cs | none => cs) else cs) acc)
  | [], _, h => h
  | (n, k) :: r, acc, h => by
    rw [List.foldl_cons]
    refine Zd env r _ ?_
    by_cases hk : (k == NameKind.free) = true
    · rw [if_pos hk]
      cases e : env.cells.lookup n with
      | none => exact h
      | some a => exact ⟨e, h⟩
    · rw [if_neg hk]
      exact h
section
variable {X : Cx} {scope : Scope} {M : List Str} {tg elt iter : Expr} {ifs : List Expr} {pos : Pos} {wi : TI} {g : TG} {tt : TT} {te : TE}
theorem qH {S : List Nat} (h1 : closureFor scope X.env = pure (clOf scope X.env)) (h2 : scope.kind = .function) (h3 : scope.names.all (fun y => y.2 != .cell) = true) (h4 : scope.names.all (fun y => y.2 != .local || scope.names.lookup y.1 == some .local) = true)
    (h5 : X.N.zipIdx.all (fun y => S.contains y.2 || scope.names.lookup y.1 != some .local) = true) (h6 : scope.names.all (fun p => p.2 != .free || (((clOf scope X.env).lookup p.1).isSome && (X.env.kindOf p.1 == some .cell || X.env.kindOf p.1 == some .free))) = true) :
    LcOk X scope (clOf scope X.env) S := ⟨h1, h2, h3, h4, h5, Zd X.env scope.names [] trivial, h6⟩
theorem lcOk (h1 : closureFor scope X.env = pure (clOf scope X.env)) (h2 : scope.kind = .function) (h3 : scope.names.all (fun y => y.2 != .cell) = true) (h4 : scope.names.all (fun y => y.2 != .local || scope.names.lookup y.1 == some .local) = true)
    (h5 : X.N.all (fun y => scope.names.lookup y != some .local) = true) (h6 : scope.names.all (fun p => p.2 != .free || (((clOf scope X.env).lookup p.1).isSome && (X.env.kindOf p.1 == some .cell || X.env.kindOf p.1 == some .free))) = true) :
    LcOk X scope (clOf scope X.env) [] := qH h1 h2 h3 h4 (List.all_eq_true.mpr fun y hy => by
      have hm : y.1 ∈ X.N := List.mem_of_getElem? (List.mem_zipIdx_iff_getElem?.mp hy)
      rw [List.all_eq_true.mp h5 y.1 hm, Bool.or_true]) h6
theorem WG (M : List Str) (hc : X.calm = true) (hi : PI X tg iter wi) (hg : ∀ C s H ex E, PG (cxLC X scope (clOf scope X.env) M C s H ex E) tg g) (ht : ∀ C s H ex E, PTs (cxLC X scope (clOf scope X.env) M C s H ex E) ifs tt)
    (he : ∀ C s H ex E, PE (cxLC X scope (clOf scope X.env) M C s H ex E) elt te) (hs : ∀ x, foldedSetIterable iter X.env x = pure x := by intro _; rfl)
    (h1 : closureFor scope X.env = pure (clOf scope X.env) := by with_unfolding_all rfl) (h2 : scope.kind = .function := by rfl) (h3 : scope.names.all (fun y => y.2 != .cell) = true := by rfl) (h4 : scope.names.all (fun y => y.2 != .local || scope.names.lookup y.1 == some .local) = true := by rfl)
    (h5 : X.N.all (fun y => scope.names.lookup y != some .local) = true := by rfl) (h6 : scope.names.all (fun p => p.2 != .free || (((clOf scope X.env).lookup p.1).isSome && (X.env.kindOf p.1 == some .cell || X.env.kindOf p.1 == some .free))) = true := by rfl) :
    PE X (.ListComp elt [⟨tg, iter, ifs, 0⟩] scope pos) (tLC wi g tt te M.length) := qG (lcOk h1 h2 h3 h4 h5 h6) hc hi hg ht he hs
theorem WH (M : List Str) {i : Nat} {y : Str} {py spos : Pos} (hN : X.N.Nodup) (hi' : X.N[i]? = some y) (hy : Loc X.env.scope y) (hc : X.calm = true) (hi : PI X tg iter wi) (hg : ∀ C s H ex E, PG (cxLC X scope (clOf scope X.env) M C s H ex E) tg g)
    (ht : ∀ C s H ex E, PTs (cxLC X scope (clOf scope X.env) M C s H ex E) ifs tt) (he : ∀ C s H ex E, PE (cxLC X scope (clOf scope X.env) M C s H ex E) elt te) (hs : ∀ x, foldedSetIterable iter X.env x = pure x := by intro _; rfl)
    (hsw : swapsWith (.ListComp elt [⟨tg, iter, ifs, 0⟩] scope pos) (some (.Name y py)) spos.line X.env = pure true := by rfl)
    (hf : X.fn y = true \/ X.env.scope.names.lookup y = some .local := by first | exact .inl rfl | exact .inr rfl | assumption)
    (h1 : closureFor scope X.env = pure (clOf scope X.env) := by with_unfolding_all rfl) (h2 : scope.kind = .function := by rfl) (h3 : scope.names.all (fun y => y.2 != .cell) = true := by rfl) (h4 : scope.names.all (fun y => y.2 != .local || scope.names.lookup y.1 == some .local) = true := by rfl)
    (h5 : X.N.all (fun y => scope.names.lookup y != some .local) = true := by rfl) (h6 : scope.names.all (fun p => p.2 != .free || (((clOf scope X.env).lookup p.1).isSome && (X.env.kindOf p.1 == some .cell || X.env.kindOf p.1 == some .free))) = true := by rfl) :
    PS X (.Assign [.Name y py] (.ListComp elt [⟨tg, iter, ifs, 0⟩] scope pos) spos) (fun D σ H => tLC wi g tt te M.length σ H fun v H1 => D.nx (σ.set i (some v)) H1) := Z3 hN hi' hy (lcOk h1 h2 h3 h4 h5 h6) hc hi hg ht he hs hsw hf
end
section
variable {g : TG} {tt : TT} {te : TE} {Q : VK} {σ : St} {H : Hp}
theorem xO {K : PySem.W.Frag} {a : Addr} {xs : List V} (Pv : Nat -> St -> List V -> Hp -> Prop) (h0 : Pv 0 σ [] H) (hl : ∀ i τ ys H, i <= xs.length -> Pv i τ ys H -> SqL K H a xs)
    (hs : ∀ i x τ ys H, xs[i]? = some x -> Pv i τ ys H -> g x τ H fun τ2 H2 => tt τ2 H2 fun b H3 => if b = true then te τ2 H3 fun y H4 => ys.length < sizeLine /\ Pv (i + 1) τ2 (ys ++ [y]) H4 else Pv (i + 1) τ2 ys H3)
    (hd : ∀ τ ys H, Pv xs.length τ ys H -> ∀ p, H p = none -> Q (.ref p) (upd H p (.lst ys))) : ∃ W, (∃ m, W 0 m σ [] H) /\ lcBy (Itl K a) g tt te Q W := by
  refine ⟨fun i m τ ys H => m = xs.length - i /\ i <= xs.length /\ Pv i τ ys H, ⟨xs.length, by simp, Nat.zero_le _, h0⟩, ?_⟩
  rintro i m τ ys H ⟨rfl, hi, p⟩
  have q := hl i τ ys H hi p
  by_cases hlt : i < xs.length
  · refine .inr ⟨⟨xs, xs[i], q, by simp [hlt]⟩, Pv (i + 1), fun τ' ys' H' p' => ⟨xs.length - (i + 1), by omega, rfl, hlt, p'⟩, fun x H' y => ?_⟩
    obtain ⟨e, y⟩ := y
    subst e
    exact hs i x τ ys _ (y xs q) p
  · have e : i = xs.length := by omega
    subst e
    exact .inl ⟨⟨xs, q, Nat.le_refl _⟩, hd τ ys H p⟩
theorem xU {lo : Int} {n : Nat} (Pv : Nat -> St -> List V -> Hp -> Prop) (h0 : Pv 0 σ [] H)
    (hs : ∀ i τ ys H, i < n -> Pv i τ ys H -> g (.int (lo + i)) τ H fun τ2 H2 => tt τ2 H2 fun b H3 => if b = true then te τ2 H3 fun y H4 => ys.length < sizeLine /\ Pv (i + 1) τ2 (ys ++ [y]) H4 else Pv (i + 1) τ2 ys H3)
    (hd : ∀ τ ys H, Pv n τ ys H -> ∀ p, H p = none -> Q (.ref p) (upd H p (.lst ys))) : ∃ W, (∃ m, W 0 m σ [] H) /\ lcBy (Itr lo n) g tt te Q W := by
  refine ⟨fun i m τ ys H => m = n - i /\ i <= n /\ Pv i τ ys H, ⟨n, by simp, Nat.zero_le _, h0⟩, ?_⟩
  rintro i m τ ys H ⟨rfl, hi, p⟩
  by_cases hlt : i < n
  · refine .inr ⟨hlt, Pv (i + 1), fun τ' ys' H' p' => ⟨n - (i + 1), by omega, rfl, hlt, p'⟩, fun x H' y => ?_⟩
    obtain ⟨e, y⟩ := y
    subst e y
    exact hs i τ ys _ hlt p
  · have e : i = n := by omega
    subst e
    exact .inl ⟨Nat.le_refl _, hd τ ys H p⟩
end
end L2
namespace L2
open PySem PySem.Spec PyProof.Rows Builtin Builtin.Str
section
variable {X : Cx} {tg : Expr}
def rSlS : V -> Option Int -> Option Int -> Hp -> VK -> Prop := fun x lo hi H Q => ∃ z, x = .str z /\ z.length <= sizeLine /\ Q (.str (Txt.slice z lo hi)) H
theorem Jx : SlR X rSlS := by
  intro pins s σ H x v vl vu lo hi sl Q I rx hs pl pu h
  obtain ⟨z, rfl, hz, q⟩ := h
  obtain ⟨t, rfl⟩ := rx
  have fin : ∀ (l u : Option (Int × Tok)), s.heap.IsSlice sl l u none -> Txt.slice z (l.map (·.1)) (u.map (·.1)) = Txt.slice z lo hi -> wpAny (model X.prog X.w) X.A (getItem (.str z t) (.ref sl)) (EP X pins σ Q) X.xe s := fun l u hS e =>
    wpAny_getItem_str_slice (l := l) (u := u) (st := none) hS rfl (post_val_or_str ⟨Nat.le_trans (Txt.slice_le z _ _) hz, fun t' k => ⟨.str (Txt.slice z lo hi), H, I.tok k, ⟨t', by rw [<- e]; rfl⟩, q⟩⟩)
  refine ⟨"str", _, F.slot_str_getitem.lookup, typeIs_str _ _ _, ?_⟩
  cases pl with
  | none =>
    cases pu with
    | none => exact fin none none hs rfl
    | int j uj => exact fin none (some (j, uj)) hs rfl
  | int i ui =>
    cases pu with
    | none => exact fin (some (i, ui)) none hs rfl
    | int j uj => exact fin (some (i, ui)) (some (j, uj)) hs rfl
theorem jj : OpR X (binaryOp .Mult) (fun x y H Q => ∃ z n, x = .str z /\ y = .int n /\ MulOk z n /\ Q (.str (Txt.mul z n)) H) := by
  intro pins s σ H x y v u Q I rx ry h
  obtain ⟨z, n, rfl, rfl, ok, q⟩ := h
  obtain ⟨t, rfl⟩ := rx
  obtain ⟨t', rfl⟩ := ry
  exact SB.mul ok fun t'' k => ⟨.str (Txt.mul z n), H, I.tok k, ⟨t'', rfl⟩, q⟩
theorem vH : CallR X (.builtin "isinstance") (fun xs H Q => ∃ x t T b, xs = [x, .ty T] /\ TyOf X.K H x t /\ PySem.W.kitOne X.K t (.type T) = some b /\ Q (.bl b) H) := by
  intro pins s σ H xs us Q I r h
  obtain ⟨x, t, T, b, rfl, ty, e, q⟩ := h
  obtain ⟨u, u', rfl, rx, ru⟩ := j4 r
  cases ru
  exact ZV I rx ty e fun tk => ⟨.bl b, H, I.tok tk, rfl, q⟩
end
end L2
namespace L2
open PySem PySem.Spec PyProof.Rows
def zy : Expr -> Bool
  | .Starred .. => true
  | _ => false
theorem zH {e : Expr} {es : List Expr} {env : Env} (h : zy e = false) : starEach (e :: es) env = (false, eval e env) :: starEach es env := by
  cases e <;> first
    | rfl
    | exact absurd (show true = false from h) (by decide)
theorem zY {env : Env} {pos : Pos} : ∀ {es : List Expr}, es.all (fun e => !zy e) = true -> (backTo pos (starEach es env)).any (·.1) = false
  | [], _ => rfl
  | e :: es, h => by
    rw [List.all_cons, Bool.and_eq_true] at h
    have h1 : zy e = false := by simpa using h.1
    rw [zH h1]
    show (false || (backTo pos (starEach es env)).any (·.1)) = false
    rw [zY h.2]
    rfl
section
variable {X : Cx} {CX : CXT} {k : Nat} {f C : Addr} {fd : FuncData} {ps : List Str} {sp : Sp} {dvs : List V} {ds : List Value} {E : XK} {x m : Str} {p pos apos : Pos} {e o : Expr} {es : List Expr} {te ta : TE} {t : TA} {id T : String} {r : List V -> Hp -> VK -> Prop}
theorem pa_c (ha : PE X e te) (hr : PA X es t) (h : zy e = false := by rfl) : PA X (e :: es) (xT te t) := Wx ha hr (zH h)
theorem qI (F : FnOk X.prog X.w X.K X.mg X.base CX k f fd ps sp) (hr : Room k X.A) (hg : Gl X x) (hm : X.mg x = some (.ref f)) (hk : PySem.W.keepIn X.K (.ref f) = true) (hb : Binds X.K fd ps ds) (hd : Vals dvs ds) (hx : zO CX X E)
    (ha : PA X (e :: es) t) (hdb : (x == ("__debug__" : Str)) = false := by decide) (h1 : zy e = false := by rfl) (h2 : es.all (fun e => !zy e) = true := by rfl) :
    PE X (.Call (.Name x p) (e :: es) [] pos) (wE sp dvs E t) := Wy F hr hg hm hk hb hd hx ha hdb (zH h1) (zY h2)
theorem Jy (hc : CallR X (.builtin id) r) (hg : Gl X x) (hm : X.mg x = none) (hv : bootBuiltins x = some (.builtin id)) (ha : PA X (e :: es) t) (hn : x ≠ "__name__" := by decide) (hdb : (x == ("__debug__" : Str)) = false := by decide)
    (h1 : zy e = false := by rfl) (h2 : es.all (fun e => !zy e) = true := by rfl) : PE X (.Call (.Name x p) (e :: es) [] pos) (tCB r t) := YI hc hg hm hv ha hn hdb (zH h1) (zY h2)
theorem WI (hc : CallR X (.type T) r) (hg : Gl X x) (hm : X.mg x = none) (hv : bootBuiltins x = some (.type T)) (ha : PA X (e :: es) t) (hn : x ≠ "__name__" := by decide) (hdb : (x == ("__debug__" : Str)) = false := by decide)
    (h1 : zy e = false := by rfl) (h2 : es.all (fun e => !zy e) = true := by rfl) : PE X (.Call (.Name x p) (e :: es) [] pos) (tCB r t) := ZW hc hg hm hv ha hn hdb (zH h1) (zY h2)
end
end L2
namespace L2
open PySem PySem.Spec PyProof.Rows
structure jE (X : Cx) (e : Expr) (t : TE) : Prop where
  out : PE X e t
structure jT (X : Cx) (e : Expr) (t : TT) : Prop where
  out : PT X e t
structure jW (X : Cx) (e : Expr) (t : TT) : Prop where
  out : PW X e t
structure jA (X : Cx) (es : List Expr) (t : TA) : Prop where
  out : PA X es t
structure jS (X : Cx) (st : Stmt) (t : TS) : Prop where
  out : PS X st t
structure jSs (X : Cx) (sts : List Stmt) (t : TS) : Prop where
  out : PSs X sts t
structure jG (X : Cx) (tg : Expr) (t : TG) : Prop where
  out : PG X tg t
structure jGs (X : Cx) (tg : List Expr) (t : TGs) : Prop where
  out : PGs X tg t
structure jI (X : Cx) (tg iter : Expr) (t : TI) : Prop where
  out : PI X tg iter t
structure jO (X : Cx) (e : Option Expr) (t : TO) : Prop where
  out : PO X e t
structure jTs (X : Cx) (ifs : List Expr) (t : TT) : Prop where
  out : PTs X ifs t
structure jOp (X : Cx) (f : Value -> Value -> Sem Value) (r : R2) : Prop where
  out : OpR X f r
structure jIx (X : Cx) (r : R2) : Prop where
  out : IxR X r
structure jSl (X : Cx) (r : V -> Option Int -> Option Int -> Hp -> VK -> Prop) : Prop where
  out : SlR X r
structure jMt (X : Cx) (id : String) (r : V -> List V -> Hp -> VK -> Prop) : Prop where
  out : MtR X id r
structure jCa (X : Cx) (f : Value) (r : List V -> Hp -> VK -> Prop) : Prop where
  out : CallR X f r
section
variable {X : Cx} {a b c e o : Expr} {es rest : List Expr} {ta tb tc te to : TE} {t u : TA} {tA tB' : TT} {pos p p2 apos cpos px : Pos} {x y m : Str} {op op' : CmpOp} {bop : Operator} {r r' : R2}
theorem jv (i : Nat) (hN : X.N[i]? = some x := by rfl) (hv : Vis X.env.scope x := by first | exact Or.inl rfl | exact Or.inr (Or.inl rfl) | exact Or.inr (Or.inr rfl)) (hd : (x == ("__debug__" : Str)) = false := by decide)
    (hcd : (x == ("__classdict__" : Str)) = false := by decide) : jE X (.Name x pos) (tVar i) := ⟨pv i hN hv hd hcd⟩
theorem zj {i j} : jE X (.Constant (.int i) j pos) (tC (.int i)) := ⟨V0⟩
theorem YS {b j} : jE X (.Constant (.bool b) j pos) (tC (.bl b)) := ⟨qv⟩
theorem xW {j} : jE X (.Constant .none j pos) (tC .non) := ⟨V1⟩
theorem zu {x j} : jE X (.Constant (.str x) j pos) (tC (.str x)) := ⟨V2⟩
theorem ye {v : V} {w : Value} (hg : Gl X x) (hm : X.mg x = some w) (r : RelV v w) (hd : (x == ("__debug__" : Str)) = false := by decide) : jE X (.Name x pos) (tC v) := ⟨Wj hg hm r hd⟩
theorem yr {v : V} {w : Value} (hg : Gl X x) (hm : X.mg x = none) (hv : bootBuiltins x = some w) (r : RelV v w) (hn : x ≠ "__name__" := by decide) (hd : (x == ("__debug__" : Str)) = false := by decide) : jE X (.Name x pos) (tC v) := ⟨Wk hg hm hv r hn hd⟩
theorem zz (ho : jOp X (binaryOp bop) r) (ha : jE X a ta) (hb : jE X b tb) : jE X (.BinOp a bop b pos) (tOp r ta tb) := ⟨qx ho.out ha.out hb.out⟩
theorem jk (ha : jE X a ta) : jE X (.UnaryOp .USub a pos) (tUn (rU fun i => .int (-i)) ta) := ⟨qy Jl ha.out⟩
theorem xh (ho : jOp X (compareOp op) r) (ha : jE X a ta) (hb : jE X b tb) (hm : behindInMarks op b = false) : jE X (.Compare a [op] [b] pos) (tOp r ta tb) := ⟨Wt ho.out ha.out hb.out hm⟩
theorem zr (ho : jOp X (compareOp op) r) (ha : jE X a ta) (hb : jE X b tb) (hm : behindInMarks op b = false) : jT X (.Compare a [op] [b] pos) (Vz (tOp r ta tb)) := ⟨Wu ho.out ha.out hb.out hm⟩
theorem vI (ho : jOp X (compareOp op) r) (ho' : jOp X (compareOp op') r') (ha : jE X a ta) (hb : jE X b tb) (hc : jE X c tc) (hm : lastMarks [op, op'] [b, c] = false := by with_unfolding_all rfl) : jE X (.Compare a [op, op'] [b, c] pos) (YC r r' ta tb tc) := ⟨YD ho.out ho'.out ha.out hb.out hc.out hm⟩
theorem yn (h : jE X e te) (he : ∀ whole, isTrue e X.env whole = (do let v <- whole; standAt e.pos; holding [v] (truthy v)) := by intro _; rfl) : jT X e (tB te) := ⟨V4 h.out he⟩
theorem yz (ha : jT X a tA) : jW X (.BoolOp .And [a] pos) tA := ⟨pw_and1 ha.out⟩
theorem jl (ha : jT X a tA) : jW X (.BoolOp .Or [a] pos) tA := ⟨pw_or1 ha.out⟩
theorem yP (ha : jT X a tA) (hb : jW X (.BoolOp .And (b :: rest) pos) tB') : jW X (.BoolOp .And (a :: b :: rest) pos) (tAnd tA tB') := ⟨pw_and ha.out hb.out⟩
theorem YT (ha : jT X a tA) (hb : jW X (.BoolOp .Or (b :: rest) pos) tB') : jW X (.BoolOp .Or (a :: b :: rest) pos) (tOr tA tB') := ⟨pw_or ha.out hb.out⟩
theorem jW.pt (h : jW X e tA) : jT X e tA := ⟨PW.pt h.out⟩
theorem xX (ha : jT X a tA) : jT X (.UnaryOp .Not a pos) (tNot tA) := ⟨V5 ha.out⟩
theorem vd {op} (h : jE X a te) : jE X (.BoolOp op [a] pos) te := ⟨V6 h.out⟩
theorem xY (ha : jE X a ta) (hb : jE X (.BoolOp .And (b :: rest) pos) tb) : jE X (.BoolOp .And (a :: b :: rest) pos) (Vv ta tb) := ⟨V7 ha.out hb.out⟩
theorem jm (ha : jE X a ta) : jE X (.UnaryOp .Not a pos) (Vw ta) := ⟨V8 ha.out⟩
theorem xZ (hc : jT X c tA) (ha : jE X a ta) (hb : jE X b tb) : jE X (.IfExp c a b pos) (tIf tA ta tb) := ⟨Yv hc.out ha.out hb.out⟩
theorem zh : jA X [] tNil := ⟨Jp⟩
theorem ja_c (ha : jE X e te) (hr : jA X es t) (h : zy e = false := by rfl) : jA X (e :: es) (xT te t) := ⟨pa_c ha.out hr.out h⟩
theorem zA (h : jA X es t) : jE X (.List es pos) (tLst t) := ⟨Jr h.out⟩
theorem zN {x1} (h : jA X es t) : jE X (.Tuple es x1 pos) (tTup t) := ⟨Jq h.out⟩
theorem zq (hr : jIx X r) (ha : jE X a ta) (hb : jE X b tb) (hs : Zb b) : jE X (.Subscript a b pos) (tOp r ta tb) := ⟨qD hr.out ha.out hb.out hs⟩
theorem Ze : jO X none j8 := ⟨WB⟩
theorem Zf (h : jE X e te) : jO X (some e) (VB te) := ⟨WC h.out⟩
theorem vJ {r : V -> Option Int -> Option Int -> Hp -> VK -> Prop} {lo hi : Option Expr} {tl th : TO} (hr : jSl X r) (he : jE X e te) (hl : jO X lo tl) (hu : jO X hi th) : jE X (.Subscript e (.Slice lo hi none p2) pos) (tSl r te tl th) := ⟨YJ hr.out he.out hl.out hu.out⟩
variable {CX : CXT} {k : Nat} {f C : Addr} {fd : FuncData} {ps : List Str} {sp : Sp} {dvs : List V} {ds : List Value} {E : XK} {id T : String} {rc : List V -> Hp -> VK -> Prop} {rm : V -> List V -> Hp -> VK -> Prop}
theorem VE (F : FnOk X.prog X.w X.K X.mg X.base CX k f fd ps sp) (hr : Room k X.A) (hg : Gl X x) (hm : X.mg x = some (.ref f)) (hk : PySem.W.keepIn X.K (.ref f) = true) (hb : Binds X.K fd ps ds) (hd : Vals dvs ds) (hx : zO CX X E)
    (ha : jA X (e :: es) t) (hdb : (x == ("__debug__" : Str)) = false := by decide) (h1 : zy e = false := by rfl) (h2 : es.all (fun e => !zy e) = true := by rfl) :
    jE X (.Call (.Name x p) (e :: es) [] pos) (wE sp dvs E t) := ⟨qI F hr hg hm hk hb hd hx ha.out hdb h1 h2⟩
theorem zE (hc : jCa X (.builtin id) rc) (hg : Gl X x) (hm : X.mg x = none) (hv : bootBuiltins x = some (.builtin id)) (ha : jA X (e :: es) t) (hn : x ≠ "__name__" := by decide) (hdb : (x == ("__debug__" : Str)) = false := by decide)
    (h1 : zy e = false := by rfl) (h2 : es.all (fun e => !zy e) = true := by rfl) : jE X (.Call (.Name x p) (e :: es) [] pos) (tCB rc t) := ⟨Jy hc.out hg hm hv ha.out hn hdb h1 h2⟩
theorem yI (hc : jCa X (.type T) rc) (hg : Gl X x) (hm : X.mg x = none) (hv : bootBuiltins x = some (.type T)) (ha : jA X (e :: es) t) (hn : x ≠ "__name__" := by decide) (hdb : (x == ("__debug__" : Str)) = false := by decide)
    (h1 : zy e = false := by rfl) (h2 : es.all (fun e => !zy e) = true := by rfl) : jE X (.Call (.Name x p) (e :: es) [] pos) (tCB rc t) := ⟨WI hc.out hg hm hv ha.out hn hdb h1 h2⟩
theorem YU {name : Str} (pa : PlainAttrs T) (slot : Slot T name id) (hty : typeOf (.builtin id) = pure (.type "method_descriptor")) (hm : jMt X id rm) (ho : jE X o to)
    (hbase : attributeBase o name X.env (eval o X.env) = eval o X.env := by rfl) (hline : (apos.endLine == cpos.line) = true := by rfl) : jE X (.Call (.Attribute o name apos) [] [] cpos) (tBM0 X.K T rm to) := ⟨Ju pa slot hty hm.out ho.out hbase hline⟩
theorem y3 {name : Str} (pa : PlainAttrs T) (slot : Slot T name id) (hty : typeOf (.builtin id) = pure (.type "method_descriptor")) (hm : jMt X id rm) (ho : jE X o to) (ha : jA X (e :: es) t)
    (hbase : attributeBase o name X.env (eval o X.env) = eval o X.env := by rfl)
    (hfew : ((backTo cpos (starEach (e :: es) X.env)).all (fun x => !x.1) && (backToKw cpos (keywordEach [] X.env)).all (fun x => x.1.isSome)
      && decide ((e :: es).length + ([] : List Keyword).length + (if ([] : List Keyword).isEmpty then 0 else 1) < 30)) = true := by rfl)
    (hline : (apos.endLine == cpos.line) = true := by rfl) (h1 : zy e = false := by rfl) (h2 : es.all (fun e => !zy e) = true := by rfl) :
    jE X (.Call (.Attribute o name apos) (e :: es) [] cpos) (tBM X.K T rm to t) := ⟨qF pa slot hty hm.out ho.out ha.out hbase hfew hline (zH h1) (zY h2)⟩
variable {st : Stmt} {sts : List Stmt} {s1 s2 : TS} {tg iter elt : Expr} {g : TG} {wi : TI} {tb1 : TS} {ifs : List Expr} {tt : TT}
theorem zB : jSs X [] Yw := ⟨Wl⟩
theorem zi (h1 : jS X st s1) (h2 : jSs X sts s2) : jSs X (st :: sts) (tSeq s1 s2) := ⟨Yx h1.out h2.out⟩
theorem zk (h1 : jS X st s1) : jSs X [st] s1 := ⟨Wm h1.out⟩
theorem zT (he : jE X e te) (hs : swapsWith e none pos.line X.env = pure false := by rfl) : jS X (.Expr e pos) (tDrop te) := ⟨Wn he.out hs⟩
theorem zw (he : jE X e te) : jS X (.Return (some e) pos) (tRet te) := ⟨V9 he.out⟩
theorem zK {A B : List Stmt} (hc : jT X c tA) (ha : jSs X A s1) (hb : jSs X B s2) : jS X (.If c A B pos) (tIfS tA s1 s2) := ⟨qw hc.out ha.out hb.out⟩
theorem zt {i : Nat} {pos' : Pos} (hN : X.N.Nodup) (hi : X.N[i]? = some x) (hx : Loc X.env.scope x) (he : jE X e te) (hs : swapsWith e (some (.Name x pos')) pos.line X.env = pure false := by rfl)
    (hf : X.fn x = true \/ X.env.scope.names.lookup x = some .local := by first | exact .inl rfl | exact .inr rfl | assumption) : jS X (.Assign [.Name x pos'] e pos) (tAsg te (vE i)) := ⟨Jd hN hi hx he.out hs hf⟩
theorem jn (he : jE X e te) (hg : jG X tg g) (hs : swapsWithSole [tg] e pos.line X.env = pure false := by rfl) (hw : swappedStores [tg] e X.env = pure none := by rfl) (h1 : (assignEach [tg] X.env).map (·.2) = [assign tg X.env] := by rfl) : jS X (.Assign [tg] e pos) (tAsg te g) := ⟨Jc he.out hg.out hs hw h1⟩
theorem zQ {i : Nat} (hN : X.N.Nodup) (hi : X.N[i]? = some x) (hx : Loc X.env.scope x) (hf : X.fn x = true \/ X.env.scope.names.lookup x = some .local := by first | exact .inl rfl | exact .inr rfl | assumption) : jG X (.Name x pos) (vE i) := ⟨Wo hN hi hx hf⟩
theorem WJ : jGs X [] gNil := ⟨Wp⟩
theorem vK {g : TG} {gs : TGs} (h1 : jG X e g) (h2 : jGs X es gs) (hs : (assignEach (e :: es) X.env).map (·.2) = assign e X.env :: (assignEach es X.env).map (·.2) := by rfl) : jGs X (e :: es) (Vx g gs) := ⟨Yy h1.out h2.out hs⟩
theorem Jz {k : Nat} {gs : TGs} {n : Nat} (hc : X.calm = true) (h : jGs X es gs) (hn : (assignEach es X.env).length = n := by rfl) (hst : (assignEach es X.env).findIdx? (·.1) = none := by rfl) : jG X (.Tuple es k pos) (gTup X.K n gs) := ⟨Ja hc h.out hn hst⟩
theorem vf {l : Expr} {tl : TE} (hl : jE X l tl) : jI X tg l (jY X.K tl) := ⟨Wq hl.out⟩
theorem x0 {l : Expr} {tl : TE} (hl : jE X l tl) : jI X tg l (iTup X.K tl) := ⟨Je hl.out⟩
theorem yE (hg : Gl X "range") (hm : X.mg "range" = none) (ha : jA X [a] t) (h : zy a = false := by rfl) : jI X tg (.Call (.Name "range" p) [a] [] pos) (Vy t) := ⟨ZT hg hm ha.out (zH h)⟩
theorem y8 (hp : PassesOwn (model X.prog X.w) X.A X.env X.xe) (hc : X.calm = true) (hi : jI X tg iter wi) (hg : jG X tg g) (hb : jSs X sts tb1) (hs : ∀ x, foldedSetIterable iter X.env x = pure x := by intro _; rfl) : jS X (.For tg iter sts [] pos) (tFor wi g tb1) := ⟨Jf hp hc hi.out hg.out hb.out hs⟩
theorem vL (hp : PassesOwn (model X.prog X.w) X.A X.env X.xe) (hc : jT X c tA) (hb : jSs X sts tb1) : jS X (.While c sts [] pos) (wX tA tb1) := ⟨Yz hp hc.out hb.out⟩
theorem yA : jTs X [] tYes := ⟨WE⟩
theorem WK (h : jT X c tA) : jTs X [c] tA := ⟨WF h.out⟩
theorem xP {scope : Scope} (M : List Str) (hc : X.calm = true) (hi : jI X tg iter wi) (hg : ∀ C s H ex E, jG (cxLC X scope (clOf scope X.env) M C s H ex E) tg g) (ht : ∀ C s H ex E, jTs (cxLC X scope (clOf scope X.env) M C s H ex E) ifs tt)
    (he : ∀ C s H ex E, jE (cxLC X scope (clOf scope X.env) M C s H ex E) elt te) (hs : ∀ x, foldedSetIterable iter X.env x = pure x := by intro _; rfl)
    (h1 : closureFor scope X.env = pure (clOf scope X.env) := by with_unfolding_all rfl) (h2 : scope.kind = .function := by rfl) (h3 : scope.names.all (fun y => y.2 != .cell) = true := by rfl) (h4 : scope.names.all (fun y => y.2 != .local || scope.names.lookup y.1 == some .local) = true := by rfl)
    (h5 : X.N.all (fun y => scope.names.lookup y != some .local) = true := by rfl) (h6 : scope.names.all (fun p => p.2 != .free || (((clOf scope X.env).lookup p.1).isSome && (X.env.kindOf p.1 == some .cell || X.env.kindOf p.1 == some .free))) = true := by rfl) :
    jE X (.ListComp elt [⟨tg, iter, ifs, 0⟩] scope pos) (tLC wi g tt te M.length) := ⟨WG M hc hi.out (fun C s H ex E => (hg C s H ex E).out) (fun C s H ex E => (ht C s H ex E).out) (fun C s H ex E => (he C s H ex E).out) hs h1 h2 h3 h4 h5 h6⟩
theorem vg {scope : Scope} (M : List Str) {i : Nat} {py spos : Pos} (hN : X.N.Nodup) (hi' : X.N[i]? = some y) (hy : Loc X.env.scope y) (hc : X.calm = true) (hi : jI X tg iter wi) (hg : ∀ C s H ex E, jG (cxLC X scope (clOf scope X.env) M C s H ex E) tg g)
    (ht : ∀ C s H ex E, jTs (cxLC X scope (clOf scope X.env) M C s H ex E) ifs tt) (he : ∀ C s H ex E, jE (cxLC X scope (clOf scope X.env) M C s H ex E) elt te) (hs : ∀ x, foldedSetIterable iter X.env x = pure x := by intro _; rfl)
    (hsw : swapsWith (.ListComp elt [⟨tg, iter, ifs, 0⟩] scope pos) (some (.Name y py)) spos.line X.env = pure true := by rfl)
    (hf : X.fn y = true \/ X.env.scope.names.lookup y = some .local := by first | exact .inl rfl | exact .inr rfl | assumption)
    (h1 : closureFor scope X.env = pure (clOf scope X.env) := by with_unfolding_all rfl) (h2 : scope.kind = .function := by rfl) (h3 : scope.names.all (fun y => y.2 != .cell) = true := by rfl) (h4 : scope.names.all (fun y => y.2 != .local || scope.names.lookup y.1 == some .local) = true := by rfl)
    (h5 : X.N.all (fun y => scope.names.lookup y != some .local) = true := by rfl) (h6 : scope.names.all (fun p => p.2 != .free || (((clOf scope X.env).lookup p.1).isSome && (X.env.kindOf p.1 == some .cell || X.env.kindOf p.1 == some .free))) = true := by rfl) :
    jS X (.Assign [.Name y py] (.ListComp elt [⟨tg, iter, ifs, 0⟩] scope pos) spos) (fun D σ H => tLC wi g tt te M.length σ H fun v H1 => D.nx (σ.set i (some v)) H1) :=
  ⟨WH M hN hi' hy hc hi.out (fun C s H ex E => (hg C s H ex E).out) (fun C s H ex E => (ht C s H ex E).out) (fun C s H ex E => (he C s H ex E).out) hs hsw hf h1 h2 h3 h4 h5 h6⟩
theorem yQ : jOp X (binaryOp .Add) (rI0 fun i j => .int (i + j)) := ⟨Jg⟩
theorem jo : jOp X (binaryOp .Sub) (rI0 fun i j => .int (i - j)) := ⟨Jh⟩
theorem jp : jOp X (binaryOp .Mult) (rI CMul fun i j => .int (i * j)) := ⟨Ji⟩
theorem xj : jOp X (binaryOp .FloorDiv) (rI CDiv fun i j => .int (i / j)) := ⟨Wr⟩
theorem yf : jOp X (binaryOp .Mod) (rI (fun _ j => 0 < j) fun i j => .int (i % j)) := ⟨Jj⟩
theorem xy : jOp X (binaryOp .Pow) (rI CPow fun i j => .int (i ^ j.toNat)) := ⟨Jk⟩
theorem zS : jOp X (compareOp .Eq) rEq := ⟨qz⟩
theorem YV : jOp X (compareOp .NotEq) rNe := ⟨qA⟩
theorem x8 : jOp X (compareOp .Lt) (rI0 fun i j => .bl (decide (i < j))) := ⟨qB⟩
theorem Zg : jOp X (compareOp .Gt) (rI0 fun i j => .bl (decide (j < i))) := ⟨qC⟩
theorem wM : jOp X (compareOp .In) (rIn X.K false) := ⟨ZX⟩
theorem zU : jOp X (binaryOp .Add) (fun x y H Q => ∃ i j, x = .str i /\ y = .str j /\ i.length + j.length <= sizeLine /\ Q (.str (i ++ j)) H) := ⟨jc⟩
theorem x9 : jOp X (binaryOp .Mult) (fun x y H Q => ∃ z n, x = .str z /\ y = .int n /\ MulOk z n /\ Q (.str (Txt.mul z n)) H) := ⟨jj⟩
theorem jq : jOp X (binaryOp .Add) rCat := ⟨Jw⟩
theorem zG : jIx X (rIxL X.K) := ⟨WD⟩
theorem zx : jIx X (rIxT X.K) := ⟨Js⟩
theorem jr : jIx X rIxS := ⟨Jt⟩
theorem YW : jSl X rSlS := ⟨Jx⟩
theorem yu : jMt X "list.append" Zc := ⟨ZY⟩
theorem YX : jMt X "list.pop" rPop := ⟨Jv⟩
theorem zF : jCa X (.builtin "len") (fun xs H Q => ∃ p ys, xs = [.ref p] /\ (SqL X.K H p ys \/ SqT X.K H p ys) /\ Q (.int ys.length) H) := ⟨w6⟩
theorem yd : jCa X (.builtin "isinstance") (fun xs H Q => ∃ x t T b, xs = [x, .ty T] /\ TyOf X.K H x t /\ PySem.W.kitOne X.K t (.type T) = some b /\ Q (.bl b) H) := ⟨vH⟩
theorem yB : jCa X (.type "tuple") (fun xs H Q => ∃ p ys, xs = [.ref p] /\ ((SqL X.K H p ys /\ ∀ l, H l = none -> Q (.ref l) (upd H l (.tup ys))) \/ (SqT X.K H p ys /\ Q (.ref p) H))) := ⟨wr⟩
theorem y9 : jCa X (.type "list") (fun xs H Q => ∃ p ys, xs = [.ref p] /\ (SqL X.K H p ys \/ SqT X.K H p ys) /\ ∀ l, H l = none -> Q (.ref l) (upd H l (.lst ys))) := ⟨w9⟩
end
section
variable {P : Program} {w : World} {K : PySem.W.Frag} {mg : Str -> Option Value} {base : Heap}
theorem Fun.by {x qual : Str} {st : Stmt} {f : Addr} {fd : FuncData} {N ps : List Str} {k : Nat} {sp : Sp} (F : Fun K x qual st f fd) (S : FnScope N ps (zm st)) (len : ∀ vs H Q E, sp vs H Q E -> vs.length = ps.length)
    (hbody : ∀ (cdv : Value) (A : Around) (outer : List Env) (s : Shared) (H : Hp) (vs : List V) (Q : VK) (E : XK), Room k (A.deeper (envOfC qual (zm st) s.heap.objs.size f cdv)) -> sp vs H Q E ->
      ∃ t, jSs (cxOf CX0 P w K mg base N qual (zm st) f cdv A outer s H E).nox (zD st) t /\ t { nx := fun _ H' => Q .non H', rt := Q } (z6 N vs) H) : FnOk P w K mg base CX0 (k + 1) f fd ps sp :=
  F.ok S len fun cdv A outer s H vs Q E hr h => let ⟨t, b, q⟩ := hbody cdv A outer s H vs Q E hr h; ⟨t, b.out, q⟩
end
end L2
namespace L2
open PySem
structure Mv (fs xs : List Addr) (h h' : Heap) : Prop where
  keep : ∀ b o, h.get? b = some o -> b ∉ fs -> b ∉ xs -> h'.get? b = some o
  slot : ∀ b o, h.get? b = some o -> b ∉ xs -> ∃ sl, h'.get? b = some { o with slots := sl }
  there : ∀ b o, h.get? b = some o -> ∃ o', h'.get? b = some o'
theorem Mv.refl {fs xs : List Addr} {h : Heap} : Mv fs xs h h := ⟨fun _ _ e _ _ => e, fun _ o e _ => ⟨o.slots, e⟩, fun _ o e => ⟨o, e⟩⟩
theorem Mv.trans {fs xs : List Addr} {h h1 h2 : Heap} (a : Mv fs xs h h1) (b : Mv fs xs h1 h2) : Mv fs xs h h2 :=
  ⟨fun c o e f x => b.keep c o (a.keep c o e f x) f x, fun c o e x => let ⟨_, e1⟩ := a.slot c o e x; let ⟨sl, e2⟩ := b.slot c _ e1 x; ⟨sl, e2⟩, fun c o e => let ⟨o1, e1⟩ := a.there c o e; b.there c o1 e1⟩
theorem Mv.mono {fs fs' xs xs' : List Addr} {h h1 : Heap} (a : Mv fs xs h h1) (hf : ∀ b ∈ fs, b ∈ fs') (hx : ∀ b ∈ xs, b ∈ xs') : Mv fs' xs' h h1 :=
  ⟨fun c o e f x => a.keep c o e (fun z => f (hf c z)) fun z => x (hx c z), fun c o e x => a.slot c o e fun z => x (hx c z), a.there⟩
theorem Mv.of_keeps {fs xs : List Addr} {h h' : Heap} (k : ∀ b o, h.get? b = some o -> h'.get? b = some o) : Mv fs xs h h' := ⟨fun b o e _ _ => k b o e, fun b o e _ => ⟨o.slots, k b o e⟩, fun b o e => ⟨o, k b o e⟩⟩
structure Tr (h : Heap) (e : Addr) (C : Value) (dx : Option Addr) (T : Addr) (fl : Value) : Prop where
  ex : ∃ oe vs, h.get? e = some oe /\ oe.cls = C /\ oe.dict = dx /\ oe.data = .fields vs /\ vs[1]? = some (.ref T) /\ vs[2]? = some .none
  tb : ∃ ot ts, h.get? T = some ot /\ ot.data = .fields ts /\ ts[3]? = some fl
  ne : T ≠ e
theorem yR (f : Array Value -> Array Value) (o : Obj) : (Obj.mapFields f o).dict = o.dict := by
  unfold Obj.mapFields
  split <;> rfl
theorem js {h base : Heap} {l : List Env} (hl : h.FunFrames base l) {e : Addr} {oe : Obj} {vs : Array Value} (he : h.get? e = some oe) (hd : oe.data = .fields vs) : e ∉ l.filterMap (·.frame) := fun z => by
  obtain ⟨_, o, ho, nf⟩ := hl.mem z
  rw [he] at ho
  cases ho
  exact nf vs hd
section
variable {M : Model} {A : Around} {E : Value -> Shared -> Prop} {s : Shared} {base : Heap} {env : Env} {outer : List Env} {L e T : Addr} {C : Value} {dx : Option Addr} {Q : Unit -> Shared -> Prop}
theorem xz {oe : Obj} {vs : Array Value} {head : Value} {had : Bool} (hfr : A.frames = some (env :: outer)) (hl : s.heap.FunFrames base (env :: outer)) (hf : env.frame = some L)
    (he : s.heap.get? e = some oe) (hd : oe.data = .fields vs) (hsz : 1 < vs.size) (hz2 : vs[2]? = some .none)
    (hq : ∀ h' T, s.heap.objs.size <= T -> Tr h' e oe.cls oe.dict T (rawInt L) -> Mv ((env :: outer).filterMap (·.frame)) [e] s.heap h' -> Q () { s with heap := h' }) :
    wpAny M A (do let a <- frameOf env; let pl <- entryPlaceOf L had; let b <- EntryCells.newEntry head a .none (rawInt L) .none pl; setField (.ref e) 1 b) Q E s := by
  have nf := js hl he hd
  refine wpAny_bind (wpAny_frameOf_fun hfr hl hf fun h1 s1 => wpAny_bind (wpAny_entryPlaceOf fun pl hp => ?_))
  unfold EntryCells.newEntry newFields
  refine wpAny_bind (wpAny_newObj_type ?_ (by exact hp.sizeOk5 _ _ _ _ _))
  have e1 : h1.get? e = some oe := (s1.2.1 e nf).trans he
  have ne : h1.objs.size ≠ e := Nat.ne_of_gt (Heap.lt_size e1)
  generalize ho : ({ cls := .type "traceback", dict := none, data := .fields ([head, .ref L, .none, rawInt L, .none] ++ (if pl.isEmpty then List.replicate 6 Value.none else pl)).toArray } : Obj) = ob
  have t3 : ∃ ts, ob.data = .fields ts /\ ts[3]? = some (rawInt L) := by
    subst ho
    refine ⟨_, rfl, ?_⟩
    simp
  have fr : ob.isFreed = false := by
    obtain ⟨ts, q, _⟩ := t3
    exact Obj.isFreed_of_fields q
  have e2 := Heap.get?_push_of_some (h := h1) ob e1
  refine wpAny_setField e2 hd hsz (hq _ h1.objs.size (Nat.le_of_eq s1.1.symm) ⟨?_, ?_, ne⟩ ⟨fun b o q f x => ?_, fun b o q x => ?_, fun b o q => ?_⟩)
  · exact ⟨_, _, Heap.get?_update_self _ e2 (Obj.isFreed_of_fields (Obj.data_mapFields hd _)), Obj.cls_mapFields _ _, yR _ _, Obj.data_mapFields hd _, by simp [hsz], by simp [hz2]⟩
  · obtain ⟨ts, q1, q2⟩ := t3
    exact ⟨ob, ts, (Heap.get?_update_other _ _ (Ne.symm ne)).trans (Heap.get?_push_size _ fr), q1, q2⟩
  · rw [Heap.get?_update_other _ _ (fun z => x (by simp [z]))]
    exact Heap.get?_push_of_some _ ((s1.2.1 b f).trans q)
  · obtain ⟨sl, q1⟩ := s1.2.2 b o q
    exact ⟨sl, by rw [Heap.get?_update_other _ _ (fun z => x (by simp [z]))]; exact Heap.get?_push_of_some _ q1⟩
  · obtain ⟨sl, q1⟩ := s1.2.2 b o q
    by_cases z : b = e
    · subst z
      exact ⟨_, Heap.get?_update_self _ e2 (Obj.isFreed_of_fields (Obj.data_mapFields hd _))⟩
    · exact ⟨_, by rw [Heap.get?_update_other _ _ (Ne.symm z)]; exact Heap.get?_push_of_some _ q1⟩
theorem wN {oe : Obj} {vs : Array Value} (hfr : A.frames = some (env :: outer)) (hl : s.heap.FunFrames base (env :: outer)) (hf : env.frame = some L)
    (he : s.heap.get? e = some oe) (hd : oe.data = .fields vs) (h1 : vs[1]? = some .none) (hz2 : vs[2]? = some .none)
    (hq : ∀ h' T, s.heap.objs.size <= T -> Tr h' e oe.cls oe.dict T (rawInt L) -> Mv ((env :: outer).filterMap (·.frame)) [e] s.heap h' -> Q () { s with heap := h' }) :
    wpAny M A (noteFrame (.ref e) env) Q E s := by
  unfold noteFrame
  simp only [hf]
  refine wpAny_bind (wpAny_field he hd h1 ?_)
  rw [if_neg (by decide : ¬ ((Value.none != Value.none) = true))]
  exact xz hfr hl hf he hd (Array.getElem?_eq_some_iff.mp h1).1 hz2 hq
theorem yJ {fl : Value} {v : Option Addr} (t : Tr s.heap e C dx T fl) (hq : ∀ h', Tr h' e C dx T (v.elim .none fun f => rawInt f) -> Mv [] [T] s.heap h' -> Q () { s with heap := h' }) :
    wpAny M A (setFlight (.ref e) v) Q E s := by
  obtain ⟨⟨oe, vs, he, hc, hx, hd, h1, hz2⟩, ⟨ot, ts, ht, hdt, h3⟩, ne⟩ := t
  unfold setFlight
  refine wpAny_bind (wpAny_field he hd h1 ?_)
  rw [if_pos (by simp : (Value.ref T != Value.none) = true)]
  have up := Heap.get?_update_self (Obj.mapFields (·.setIfInBounds 3 (v.elim .none fun f => rawInt f))) ht (Obj.isFreed_of_fields (Obj.data_mapFields hdt _))
  refine wpAny_setField ht hdt (Array.getElem?_eq_some_iff.mp h3).1 (hq _ ⟨⟨oe, vs, (Heap.get?_update_other _ _ ne).trans he, hc, hx, hd, h1, hz2⟩, ⟨_, _, up, Obj.data_mapFields hdt _, ?_⟩, ne⟩ ⟨fun b o q _ x => ?_, fun b o q x => ⟨o.slots, ?_⟩, fun b o q => ?_⟩)
  · simp [(Array.getElem?_eq_some_iff.mp h3).1]
  · exact (Heap.get?_update_other _ _ (fun z => x (by simp [z]))).trans q
  · exact (Heap.get?_update_other _ _ (fun z => x (by simp [z]))).trans q
  · by_cases z : b = T
    · subst z
      exact ⟨_, up⟩
    · exact ⟨o, (Heap.get?_update_other _ _ (Ne.symm z)).trans q⟩
theorem wa (hfr : A.frames = some (env :: outer)) (hl : s.heap.FunFrames base (env :: outer)) (hf : env.frame = some L) (t : Tr s.heap e C dx T .none)
    (hq : ∀ h' T', s.heap.objs.size <= T' -> Tr h' e C dx T' (rawInt L) -> Mv ((env :: outer).filterMap (·.frame)) [e, T] s.heap h' -> Q () { s with heap := h' }) :
    wpAny M A (noteFrame (.ref e) env) Q E s := by
  obtain ⟨⟨oe, vs, he, hc, hx, hd, h1, hz2⟩, ⟨ot, ts, ht, hdt, h3⟩, ne⟩ := t
  subst hc
  subst hx
  unfold noteFrame
  simp only [hf]
  refine wpAny_bind (wpAny_field he hd h1 ?_)
  rw [if_pos (by simp : (Value.ref T != Value.none) = true)]
  refine wpAny_bind (wpAny_field ht hdt h3 ?_)
  rw [if_neg (by simp [rawInt] : ¬ ((Value.none == rawInt L) = true))]
  have up := Heap.get?_update_self (Obj.mapFields (·.setIfInBounds 3 .none)) ht (Obj.isFreed_of_fields (Obj.data_mapFields hdt _))
  have k : ∀ b o, b ≠ T -> s.heap.get? b = some o -> (s.heap.update T (Obj.mapFields (·.setIfInBounds 3 .none))).get? b = some o := fun b o z q => (Heap.get?_update_other _ _ (Ne.symm z)).trans q
  refine wpAny_bind (wpAny_setField ht hdt (Array.getElem?_eq_some_iff.mp h3).1 ?_)
  refine xz (base := base) hfr (hl.of_keeps fun b o q nf => ⟨o, k b o (fun z => ?_) q, rfl⟩) hf (k e oe (Ne.symm ne) he) hd (Array.getElem?_eq_some_iff.mp h1).1 hz2 fun h' T' hs t m => hq h' T' ?_ t ⟨fun b o q f x => ?_, fun b o q x => ?_, fun b o q => ?_⟩
  · rw [z, ht] at q
    cases q
    exact nf ts hdt
  · rw [Heap.size_after_update] at hs
    exact hs
  · exact m.keep b o (k b o (fun z => x (by simp [z])) q) f fun z => x (by simp at z; simp [z])
  · exact m.slot b o (k b o (fun z => x (by simp [z])) q) fun z => x (by simp at z; simp [z])
  · by_cases z : b = T
    · subst z
      exact m.there b _ up
    · exact m.there b o (k b o z q)
end
end L2
namespace L2
open PySem PySem.Spec PyProof.Rows
theorem HOk.moved {P : Program} {w : World} {H : Hp} {h h' : Heap} {fs xs : List Addr} (x : HOk P w H h) (m : Mv fs xs h h') (hf : ∀ b ∈ fs, H b = none) (hx : ∀ b ∈ xs, H b = none) : HOk P w H h' := fun a o e =>
  (x a o e).stay (fun b u hb q => m.keep b u q (fun z => by
      have n := hf b z
      rcases hb with r | r
      · rw [r, e] at n
        cases n
      · rw [r] at n
        cases n) fun z => by
      have n := hx b z
      rcases hb with r | r
      · rw [r, e] at n
        cases n
      · rw [r] at n
        cases n) (fun _ q => q) fun _ _ q => q
def CXf (P : Program) (w : World) : CXT := fun outer H s E u s' => ∃ (e T : Addr) (C : Value) (dx : Option Addr) (H' : Hp), u = .ref e /\ s'.os = s.os /\ AllBare s'.gens /\ Un (frs outer) [] H H' s.heap s'.heap /\ HOk P w H' s'.heap /\
  Tr s'.heap e C dx T .none /\ (s.heap.objs.size <= e /\ s.heap.objs.size <= T) /\ (H' e = none /\ H' T = none) /\ E C dx H'
def Fl (h : Heap) (H : Hp) (n : Nat) (e : Addr) (C : Value) (dx : Option Addr) : Prop :=
  (∃ oe vs, h.get? e = some oe /\ oe.cls = C /\ oe.dict = dx /\ oe.data = .fields vs /\ vs[1]? = some .none /\ vs[2]? = some .none) \/ ∃ T, Tr h e C dx T .none /\ H T = none /\ n <= T
def Air (X : Cx) (pins : List (Addr × Obj)) (σ : St) (E : XK) (u : Value) (s' : Shared) : Prop := ∃ (e : Addr) (C : Value) (dx : Option Addr) (H' : Hp) (n : Nat), u = .ref e /\ Inv X pins σ H' s' /\ H' e = none /\ X.s₀.heap.objs.size <= n /\ n <= e /\ (∀ p ∈ X.pn ++ pins, p.1 < n) /\ Fl s'.heap H' n e C dx /\ E C dx H'
section
variable {P : Program} {w : World} {K : PySem.W.Frag} {mg : Str -> Option Value} {base : Heap} {N : List Str} {qual : Str} {scope : Scope} {f : Addr} {cd : Value} {A : Around} {outer : List Env} {s : Shared} {H : Hp} {E : XK}
theorem wO {pins : List (Addr × Obj)} {σ : St} {u : Value} {s' : Shared} (h : Air (cxOf (CXf P w) P w K mg base N qual scope f cd A outer s H E) pins σ E u s') : (cxOf (CXf P w) P w K mg base N qual scope f cd A outer s H E).xe u s' := by
  obtain ⟨e, C, dx, H', n, rfl, I, ne, hn, he, hp, st, hE⟩ := h
  have fin : ∀ (h2 : Heap) (T : Addr) (xs : List Addr), Tr h2 e C dx T .none -> Mv (frs (cxOf (CXf P w) P w K mg base N qual scope f cd A outer s H E).stack) xs s'.heap h2 -> (∀ b ∈ xs, H' b = none /\ s.heap.objs.size <= b) -> H' T = none -> s.heap.objs.size <= T ->
      CXf P w outer H s E (.ref e) { s' with heap := h2 } := by
    intro h2 T xs t m hx nT sT
    have nst : ∀ (b : Addr) (o : Obj), s.heap.get? b = some o -> b ∉ frs outer -> b ∉ frs (cxOf (CXf P w) P w K mg base N qual scope f cd A outer s H E).stack := fun b o q nb z => by
      rcases List.mem_cons.mp (I.stkSub b z) with r | r
      · exact absurd (show b = (cxOf (CXf P w) P w K mg base N qual scope f cd A outer s H E).env.locals from r) (Nat.ne_of_lt (Nat.lt_of_lt_of_le (Heap.lt_size q) I.ok.above))
      · exact nb r
    have nx : ∀ (b : Addr) (o : Obj), s.heap.get? b = some o -> b ∉ xs := fun b o q z => absurd (Nat.lt_of_lt_of_le (Heap.lt_size q) (hx b z).2) (Nat.lt_irrefl _)
    have B : Un (frs outer) [] H H' s.heap s'.heap := I.base
    refine ⟨e, T, C, dx, H', rfl, I.os, I.bare, ⟨fun b o q n hb hx => ?_, fun b o q n hb hx => ?_, B.free, fun b o q hx => ?_, B.tups, B.frzs, B.tbls⟩, I.hok.moved m I.stkFree fun b hb => (hx b hb).1, t, ⟨Nat.le_trans hn he, sT⟩, ⟨ne, nT⟩, hE⟩
    · exact m.keep b o (B.keep b o q n hb hx) (nst b o q hb) (nx b o q)
    · obtain ⟨sl, q1⟩ := B.slot b o q n hb hx
      obtain ⟨sl2, q2⟩ := m.slot b _ q1 (nx b o q)
      exact ⟨sl2, q2⟩
    · obtain ⟨o1, q1⟩ := B.there b o q hx
      exact m.there b o1 q1
  show wpAny (model P w) _ (leaving _ (.ref e)) _ _ s'
  unfold leaving
  rcases st with ⟨oe, vs, h1, rfl, rfl, h4, h5, h6⟩ | ⟨T0, t0, n0, s0⟩
  · refine wpAny_bind (wN I.ok.frames I.stack rfl h1 h4 h5 h6 fun h' T hs t m => yJ t fun h2 t2 m2 => ?_)
    refine fin h2 T [e, T] t2 ((m.mono (fun _ z => z) fun b z => ?_).trans (m2.mono (fun b z => nomatch z) fun b z => ?_)) (fun b hb => ?_) (I.hok.fresh hs) (Nat.le_trans I.sz hs)
    · simp at z
      simp [z]
    · simp at z
      simp [z]
    · rcases List.mem_cons.mp hb with r | hb
      · rw [r]
        exact ⟨ne, Nat.le_trans hn he⟩
      · rw [List.mem_singleton.mp hb]
        exact ⟨I.hok.fresh hs, Nat.le_trans I.sz hs⟩
  · refine wpAny_bind (wa I.ok.frames I.stack rfl t0 fun h' T hs t m => yJ t fun h2 t2 m2 => ?_)
    refine fin h2 T [e, T0, T] t2 ((m.mono (fun _ z => z) fun b z => ?_).trans (m2.mono (fun b z => nomatch z) fun b z => ?_)) (fun b hb => ?_) (I.hok.fresh hs) (Nat.le_trans I.sz hs)
    · simp at z
      rcases z with z | z <;> simp [z]
    · simp at z
      simp [z]
    · rcases List.mem_cons.mp hb with r | hb
      · rw [r]
        exact ⟨ne, Nat.le_trans hn he⟩
      · rcases List.mem_cons.mp hb with r | hb
        · rw [r]
          exact ⟨n0, Nat.le_trans hn s0⟩
        · rw [List.mem_singleton.mp hb]
          exact ⟨I.hok.fresh hs, Nat.le_trans I.sz hs⟩
theorem jt {X : Cx} {pins : List (Addr × Obj)} {σ : St} {H1 : Hp} {s1 s2 : Shared} {u : Value} {E' : XK} (hP : X.prog = P) (hw : X.w = w) (I : Inv X pins σ H1 s1) (h : CXf P w X.stack H1 s1 E' u s2) : Air X pins σ E' u s2 := by
  obtain ⟨e, T, C, dx, H', rfl, os, bare, un, hok, t, ⟨se, sT⟩, ⟨ne, nT⟩, hE⟩ := h
  have I2 : Inv X pins σ H' s2 := I.call' (ch := []) os un (by rw [hP, hw]; exact hok) bare (fun b z => absurd z (by simp))
  exact ⟨e, C, dx, H', s1.heap.objs.size, rfl, I2, ne, I.sz, se, fun p hp => Heap.lt_size (I.pin p hp).1, .inr ⟨T, t, nT, sT⟩, hE⟩
theorem yk : zO (CXf P w) (cxOf (CXf P w) P w K mg base N qual scope f cd A outer s H E) E := fun pins σ H1 s1 u s2 I h => wO (jt rfl rfl I h)
theorem ownx : PassesOwn (model P w) (cxOf (CXf P w) P w K mg base N qual scope f cd A outer s H E).A (cxOf (CXf P w) P w K mg base N qual scope f cd A outer s H E).env (cxOf (CXf P w) P w K mg base N qual scope f cd A outer s H E).xe := PassesOwn.leaving
theorem FnOk.upx {k : Nat} {fd : FuncData} {ps : List Str} {sp : Sp} {CX : CXT} (F : FnOk P w K mg base CX0 k f fd ps sp) : FnOk P w K mg base CX k f fd ps sp :=
  ⟨F.len, fun A outer s H args us vs Q E hr he hb hv hs => codeAny_mono (F.run A outer s H args us vs Q E hr he hb hv hs) fun r s' q => by
    cases r with
    | error e => exact False.elim q
    | ok fl =>
      cases fl with
      | ret u => exact q
      | next => exact False.elim q
      | brk => exact False.elim q
      | cont => exact False.elim q⟩
theorem Fun.byx {x : Str} {st : Stmt} {fd : FuncData} {ps : List Str} {k : Nat} {sp : Sp} (F : Fun K x qual st f fd) (S : FnScope N ps (zm st)) (len : ∀ vs H Q E, sp vs H Q E -> vs.length = ps.length)
    (hbody : ∀ (cdv : Value) (A : Around) (outer : List Env) (s : Shared) (H : Hp) (vs : List V) (Q : VK) (E : XK), Room k (A.deeper (envOfC qual (zm st) s.heap.objs.size f cdv)) -> sp vs H Q E ->
      ∃ t, jSs (cxOf (CXf P w) P w K mg base N qual (zm st) f cdv A outer s H E) (zD st) t /\ t { nx := fun _ H' => Q .non H', rt := Q } (z6 N vs) H) : FnOk P w K mg base (CXf P w) (k + 1) f fd ps sp := by
  obtain ⟨oc, od, kV, doc, pm, an, cdv, ct, osl, rfl, lk, hcd⟩ := F.ex
  refine j7 lk hcd S len fun A outer s H vs Q E hr hsp => ?_
  obtain ⟨t, h, q⟩ := hbody cdv A outer s H vs Q E hr hsp
  exact ⟨t, h.out, q⟩
end
end L2
namespace L2
open PySem
section
variable {M : Model} {A : Around} {E : Value -> Shared -> Prop} {env : Env} {nm q : Str} {C N : Addr} {bs bm : List Value} {hdct : Bool} {sn : List Str} {sub : List Value} {ab : Bool} {col : Option Bool} {dd : Option Addr} {k0 k1 k2 k3 k5 : Option Value} {newId : String}
theorem Zh {s : Shared} {x : Sem Value} {Q : Flow -> Shared -> Prop} (hb : bm.contains (.type "BaseException") = true) (hh : A.handled = none)
    (h : wpAny M A x (fun v s1 => ∃ e oe vs, v = .ref e /\ s1.heap.get? C = some (excClassObj nm q C N bs bm hdct sn sub ab col dd k0 k1 k2 k3 k5 newId) /\ s1.heap.get? e = some oe /\ oe.cls = .ref C /\ oe.data = .fields vs /\ vs[1]? = some .none /\ E (.ref e) s1) E s) :
    wpAny M A (raiseStmt env (some x) none) Q E s := by
  have cB : (Value.ref C :: bm).contains (.type "BaseException") = true := by rw [List.contains_cons, hb, Bool.or_true]
  unfold raiseStmt
  refine wpAny_bind (wpAny_mono h (fun v s1 h1 => ?_) fun _ _ x => x)
  obtain ⟨e, ⟨c, d0, dt, sl⟩, vs, rfl, hC, he, hc, hd, hv, hE⟩ := h1
  dsimp only at hc hd
  subst hc hd
  obtain ⟨hp, g, d, tk, os⟩ := s1
  repeat (first | (with_reducible refine wpAny_field he rfl hv ?_) | with_reducible refine wpAny_loadPart_at he ?_ | with_reducible refine wpAny_loadPart_at hC ?_ | (with_reducible refine wpAny_isSubtype_exc hC ?_; rw [cB]) | wp_step)
  exact wpAny_raiseNew_none hh hE
end
theorem WL {M : Model} {A : Around} {E : Value -> Shared -> Prop} {s : Shared} {f : Addr} {ob : Obj} {self : Value} {Q : Value × List Value -> Shared -> Prop} (h1 : s.heap.get? f = some ob) (h2 : ob.cls = .type "function") (q : Q (.ref f, [self]) s) : wpAny M A (bindSpecial (.ref f) self) Q E s := by
  unfold bindSpecial
  refine wpAny_bind (wpAny_typeOf (T := "function") ⟨ob, h1, h2⟩ ?_)
  exact wpAny_pure q
abbrev yg (rest : List Value) : Obj := { cls := .type "tuple", data := .seq rest.toArray }
abbrev yi (C t : Addr) : Obj := { cls := .ref C, data := .fields #[.ref t, .none, .none, .none, .bool false, .none] }
section
variable {prog : Program} {w : World} {A : Around} {E : Value -> Shared -> Prop} {h : Heap} {g : Array GenState} {d : Drawn} {t : Nat} {os : OsState}
variable {nm q : Str} {C N f : Addr} {bs bm bmB : List Value} {hdct : Bool} {sn : List Str} {sub : List Value} {ab : Bool} {col : Option Bool} {dd : Option Addr} {k0 k1 k2 k3 k5 : Option Value} {B Bn newId nid initId inN : String} {bmN : List Value}
theorem vM (Fn : ExcBaseFacts Bn newId inN bmN) (hBn : bmB.contains (.type Bn) = true) (F : ExcBaseFacts B nid initId bmB) (T : OwnTail h bmB bm) {mN : Str -> Option Value} {rest : List Value} {Q : Fin -> Shared -> Prop} {ob : Obj}
    (hC : h.get? C = some (excClassObj nm q C N bs bm hdct sn sub ab col dd k0 k1 k2 k3 k5 newId)) (hn : h.Ns N mN) (hi : mN "__init__" = some (.ref f)) (hf : h.get? f = some ob) (hfc : ob.cls = .type "function") (hrest : rest.length <= sizeLine)
    (hq : wpAny (model prog w) A (call (.ref f) (.ref (h.objs.size + 1) :: rest)) (fun v s' => v = .none /\ Q (.done (.ret (.ref (h.objs.size + 1)))) s') E ⟨(h.push (yg rest)).push (yi C h.objs.size), g, d, t, os⟩) :
    wpAny (model prog w) A (Builtin.«type.__call__» ⟨.ref C :: rest, []⟩) Q E ⟨h, g, d, t, os⟩ := by
  repeat (first | with_reducible refine wpAny_madeBy_exc hC ?_ | with_reducible refine wpAny_loadPart_at hC ?_ | wp_step)
  refine codeAny_call_builtin_code (Code.quiet_builtin _ Fn.quiet) (wpAny_check_new_subU Fn hBn T hC (codeAny_exc_new_subU Fn hBn F T hC ?_ hrest))
  show wpAny _ _ _ _ _ _
  have k : ∀ b o, h.get? b = some o -> ((h.push (yg rest)).push (yi C h.objs.size)).get? b = some o := fun b o e => Heap.get?_push_of_some _ (Heap.get?_push_of_some _ e)
  have C1 := k _ _ hC
  have e1 : ((h.push (yg rest)).push (yi C h.objs.size)).get? (h.objs.size + 1) = some (yi C h.objs.size) := Heap.get?_push_at (by simp only [Heap.size_push]) rfl
  have cC : (Value.ref C :: bm).contains (.ref C) = true := by simp
  unfold isInstance
  repeat (first | with_reducible refine wpAny_loadPart_at e1 ?_ | (with_reducible refine wpAny_isSubtype_exc C1 ?_; rw [cC]) | wp_step)
  show wpAny _ _ (typeLookup (.ref C) _) _ _ _
  refine wpAny_typeLookup_tail C1 (hn.keeps k) (T.keeps k) F.mroIs F.init.lookup ?_
  rw [hi]
  refine wpAny_holding (wpAny_bind (WL (k _ _ hf) hfc ?_))
  refine wpAny_bind (wpAny_mono hq (fun v s' hv => ?_) fun _ _ x => x)
  obtain ⟨rfl, hv⟩ := hv
  exact wpAny_pure (wpAny_pure hv)
theorem WM (Fn : ExcBaseFacts Bn newId inN bmN) (hBn : bmB.contains (.type Bn) = true) (F : ExcBaseFacts B nid initId bmB) (T : OwnTail h bmB bm) {mN : Str -> Option Value} {rest : List Value} {Q : Value -> Shared -> Prop} {ob : Obj}
    (hC : h.get? C = some (excClassObj nm q C N bs bm hdct sn sub ab col dd k0 k1 k2 k3 k5 newId)) (hn : h.Ns N mN) (hi : mN "__init__" = some (.ref f)) (hf : h.get? f = some ob) (hfc : ob.cls = .type "function") (hrest : rest.length <= sizeLine)
    (hq : wpAny (model prog w) (A.under (.builtin "type.__call__" ⟨.ref C :: rest, []⟩)) (call (.ref f) (.ref (h.objs.size + 1) :: rest)) (fun v s' => v = .none /\ Q (.ref (h.objs.size + 1)) s') E ⟨(h.push (yg rest)).push (yi C h.objs.size), g, d, t, os⟩) :
    wpAny (model prog w) A (call (.ref C) rest) Q E ⟨h, g, d, t, os⟩ := by
  have f1 := tc_lookup
  have f2 := tc_bind (.ref C)
  have hT : (⟨h, g, d, t, os⟩ : Shared).TypeIs (.ref C) "type" := ⟨_, hC, rfl⟩
  refine wpAny_call (codeAny_of_tree ?_)
  show wpAny _ _ (callAny (.ref C) ⟨rest, []⟩) _ _ _
  repeat (any_goals (first | assumption | (with_reducible refine wpAny_loadPart_at hC ?_) | wp_step))
  refine ⟨rfl, codeAny_call_builtin_at (Code.quiet_builtin _ (by decide +kernel)) entry_typeCall (wpAny_check_type_call_sub hC ?_)⟩
  exact vM Fn hBn F T hC hn hi hf hfc hrest hq
theorem Zi (F : ExcBaseFacts B nid initId bmB) (T : OwnTail h bmB bm) {e t0 : Addr} {oe : Obj} {vs : Array Value} {rest : List Value} {Q : Value -> Shared -> Prop}
    (hC : h.get? C = some (excClassObj nm q C N bs bm hdct sn sub ab col dd k0 k1 k2 k3 k5 newId)) (he : h.get? e = some oe) (hc : oe.cls = .ref C) (hd : oe.data = .fields vs) (h0 : vs[0]? = some (.ref t0)) (hrest : rest.length <= sizeLine)
    (hq : Q .none ⟨(h.push (yg rest)).update e (Obj.mapFields (·.setIfInBounds 0 (.ref h.objs.size))), g, d, t, os⟩) :
    wpAny (model prog w) A (call (.builtin initId) (.ref e :: rest)) Q E ⟨h, g, d, t, os⟩ := by
  refine wpAny_call (codeAny_call_builtin F.init.plain F.initEntry (wpAny_check_init_subU F T hC he hc ?_))
  unfold Builtin.«BaseException.__init__»
  dsimp only
  rw [if_neg (by simp : ¬ ((!List.isEmpty ([] : List (Str × Value))) = true))]
  unfold newTuple Builtin.BaseException.bexcPut
  have e1 := Heap.get?_push_of_some (h := h) (yg rest) he
  refine wpAny_bind (wpAny_newObj_type ?_ (by show rest.toArray.size <= sizeLine; rw [List.size_toArray]; exact hrest))
  refine wpAny_bind (wpAny_bind (wpAny_field e1 hd h0 (wpAny_bind (wpAny_setField e1 hd (Array.getElem?_eq_some_iff.mp h0).1 ?_))))
  exact wpAny_letGo (wpAny_pure hq)
end
end L2
namespace L2
open PySem PySem.W PySem.Calls PyProof.Rows Builtin Builtin.ObjectAttr
def bmV : List Value := [.type "ValueError", .type "Exception", .type "BaseException", .type "object"]
theorem YY (self : Value) : refuseLoop self "__setattr__" bmV = pure () := by kernel_rfl
def wP : List Value -> Bool
  | [] => false
  | v :: r => (v :: r) == bmV || (match v with
    | .ref _ => wP r
    | _ => false)
theorem xI (self : Value) : ∀ {l : List Value}, wP l = true -> refuseLoop self "__setattr__" l = pure ()
  | [], e => by cases e
  | v :: r, e => by
    unfold wP at e
    rcases Bool.or_eq_true_iff.mp e with q | q
    · rw [beq_iff_eq.mp q]
      exact YY self
    · split at q
      · rw [refuseLoop_ref]
        exact xI self q
      · cases q
theorem wb : ∀ {l : List Value}, wP l = true -> l.contains (.type "object") = true /\ l.isEmpty = false
  | [], e => by cases e
  | v :: r, e => by
    unfold wP at e
    rcases Bool.or_eq_true_iff.mp e with q | q
    · rw [beq_iff_eq.mp q]
      exact ⟨by decide, rfl⟩
    · split at q
      · exact ⟨by rw [List.contains_cons, (wb q).1, Bool.or_true], rfl⟩
      · cases q
def xA (K : Frag) (C : Addr) : Bool := (clsIn K C).any fun cd => wP cd.mro
section
variable {prog : Program} {w : World} {A : Around} {E : Value -> Shared -> Prop} {K : Frag} {C e : Addr} {s : Shared} {ox : Obj} {od : Option Obj} {name : Str} {R : Result -> Shared -> Prop}
theorem WN {tk : Tok} {v : Value} (X : K.In s.heap) (I : InstAt s.heap e ox C od) (hp : xA K C = true) (ht : takerIn K C name = some none)
    (h : ∀ b, wpAny (model prog w) A.in1 (storeInOwnDict (.ref e) (.ref C) (.str name tk) name v b) (fun fin s' => match fin with | .done f => R (.ok f) s' | .again c' => c'.quiet = true /\ codeAny (model prog w) A c' R s') (fun u s' => R (.error u) s') s) :
    codeAny (model prog w) A (.call (.builtin "object.__setattr__") ⟨[.ref e, .str name tk, v], []⟩) R s := by
  have SF := PySem.F.store_object
  obtain ⟨cd, hc, ho⟩ := any_some hp
  have hm : Looks (model prog w) s.heap (mroOf (.ref C)) cd.mro := (looks_clsIn X hc).andThen .now
  have sub : Looks (model prog w) s.heap (isInstance (.ref e) (.type "object")) true := I.type.andThen (looks_mroIn X (by unfold mroIn; rw [hc, Option.bind_some, if_neg (by rw [(wb ho).2]; decide), (wb ho).1]))
  obtain ⟨attr, ha, hr⟩ := Option.bind_eq_some_iff.mp ht
  have tk3 : Looks (model prog w) s.heap (storeTaker? attr) none := by
    cases attr with
    | none => exact .now
    | some a =>
      obtain ⟨b, hb, hn⟩ := Option.map_eq_some_iff.mp hr
      refine (looks_takesIn X hb).andThen ?_
      cases b
      · exact .now
      · cases hn
  refine codeAny_call_builtin SF.slot.plain SF.entry (@check_slot (model prog w) _ _ s "object.__setattr__" "object" "__setattr__" (.ref e) [.str name tk, v] [] _ SF.kind SF.split sub (SF.args (.ref e) (.str name tk) v) ?_)
  rw [osa_eq, refuse_eq]
  refine wpAny_bind (wpAny_bind (I.type.here (wpAny_bind (hm.here ?_))))
  rw [xI _ ho]
  exact wpAny_pure (wpAny_bind (I.type.here (wpAny_bind ((looks_findIn X ha).here (wpAny_bind (tk3.here (h _)))))))
theorem JA {oe : Obj} {vs : Array Value} {v : Value} {Q : Unit -> Shared -> Prop} (X : K.In s.heap) (he : s.heap.get? e = some oe) (hc : oe.cls = .ref C) (hx : oe.dict = none) (hd : oe.data = .fields vs)
    (hs : findIn K (.ref C) "__setattr__" = some (some (.builtin "object.__setattr__"))) (hp : xA K C = true) (ht : takerIn K C name = some none) (hh : (clsIn K C).any (·.hasDict) = true)
    (h : ∀ h', h'.Ns1 s.heap.objs.size (fun y => if y = name then some v else none) -> h'.get? e = some { oe with dict := some s.heap.objs.size } -> (∀ b o, b ≠ e -> s.heap.get? b = some o -> h'.get? b = some o) -> Q () { s with heap := h', toks := s.toks + 2 }) :
    wpAny (model prog w) A (setAttr (.ref e) name v) Q E s := by
  have J : InstAt s.heap e oe C none := ⟨he, hc, by unfold notCls; rw [hd], by rw [hx]; trivial⟩
  refine set_plain X J hs (WN (s := { s with toks := s.toks + 1 }) X J hp ht fun b => ?_)
  obtain ⟨cd, hcd, hdd⟩ := any_some hh
  obtain ⟨oc, odi, oda, osl⟩ := oe
  dsimp only at hc hx hd
  subst hc hx hd
  refine wpAny_bind (wpAny_pure (wpAny_bind (wpAny_bind (wpAny_loadPart he (wpAny_bind (Looks.here (s := { s with toks := s.toks + 1 }) (looks_clsIn X hcd) ?_))))))
  rw [hdd]
  have e1 := Heap.get?_push_of_some (h := s.heap) PySem.W.emptyDict he
  have ne : s.heap.objs.size ≠ e := Nat.ne_of_gt (Heap.lt_size he)
  have d1 : (s.heap.push PySem.W.emptyDict).get? s.heap.objs.size = some PySem.W.emptyDict := Heap.get?_push_size _ rfl
  have d2 : ((s.heap.push PySem.W.emptyDict).update e fun o => { o with dict := some s.heap.objs.size }).get? s.heap.objs.size = some PySem.W.emptyDict := (Heap.get?_update_other _ _ (Ne.symm ne)).trans d1
  have e2 := Heap.get?_update_self (fun o => { o with dict := some s.heap.objs.size }) e1 rfl
  have n2 : ((s.heap.push PySem.W.emptyDict).update e fun o => { o with dict := some s.heap.objs.size }).Ns s.heap.objs.size (fun _ => none) := ⟨PySem.W.emptyDict, #[], _, d2, rfl, (fun z hz => absurd hz (by simp)), fun _ => rfl⟩
  show wpAny _ _ (alloc PySem.W.emptyDict >>= _) _ _ _
  refine wpAny_bind (wpAny_alloc (wpAny_bind (wpAny_update e1 ?_)))
  refine wpAny_pure (a := some s.heap.objs.size) (wpAny_bind (wpAny_pure (wpAny_bind ?_)))
  refine wpAny_nsSet1 (Heap.Ns1.of_empty n2) fun h' hn hsb => ?_
  obtain ⟨oD, esD, epD, hoD, hdD, hcD⟩ := hn.count (PySem.Within.cons name v PySem.Within.nil)
  refine wpAny_bind (wpAny_lookBehind hoD (by rw [hdD]; exact pastItsLine_dict (Nat.le_trans hcD (by show 1 <= sizeLine + 1; omega))) (wpAny_pure ?_))
  refine h h' hn ((hsb.2 _ (Ne.symm ne)).trans e2) fun b o nb q => ?_
  rw [hsb.2 b (Nat.ne_of_lt (Heap.lt_size q)), Heap.get?_update_other _ _ (Ne.symm nb)]
  exact Heap.get?_push_of_some _ q
theorem xg_slot : Slot "ValueError" "__getattribute__" "BaseException.__getattribute__" := PySem.F.attr_ValueError.ga
theorem JB {v : Value} {expr : Bool} {Q : Value -> Shared -> Prop} (X : K.In s.heap) (I : InstAt s.heap e ox C od) (hga : findIn K (.ref C) "__getattribute__" = some (some (.builtin "BaseException.__getattribute__"))) (hk : findIn K (.ref C) "__getattr__" = some none)
    (hb : subIn K (.ref C) (.type "BaseException") = some true) (hf : findObj K C od name = some (.value v)) (hh : handedIn v = true) (h : Q v { s with toks := s.toks + 1 }) : wpAny (model prog w) A (getAttr (.ref e) name expr) Q E s := by
  have ty := I.type (M := model prog w)
  have fd := looks_find (M := model prog w) X I hf
  refine wpAny_bind (wpAny_mkText (wpAny_holding (wpAny_bind (ty _ _ _ _ (fun _ _ q => q) (wpAny_bind (looks_findIn X hga _ _ _ _ (fun _ _ q => q) ?_))))))
  dsimp only
  rw [show (onTheHeap (Value.ref C) && Value.builtin "BaseException.__getattribute__" == Value.builtin "object.__getattribute__") = false from by rw [show (Value.builtin "BaseException.__getattribute__" == Value.builtin "object.__getattribute__") = false from by decide +kernel, Bool.and_false], if_neg (by decide : ¬ (false = true))]
  refine wpAny_bind ((looks_hook (mc := .ref C) X (by rw [if_pos (show onTheHeap (.ref C) = true from rfl)]; exact hk)) _ _ _ _ (fun _ _ q => q) (wpAny_bind (wpAny_attempt (wpAny_holding ?_))))
  unfold callGetattribute
  rw [show (expr && onTheHeap (Value.builtin "BaseException.__getattribute__")) = false from Bool.and_false _, if_neg (by decide : ¬ (false = true))]
  unfold boundAndCalled
  rw [xg_slot.bind]
  refine wpAny_bind (wpAny_pure (wpAny_call (codeAny_call_builtin xg_slot.plain PySem.F.entry_bexc_ga ?_)))
  refine @check_slot (model prog w) _ _ { s with toks := s.toks + 1 } "BaseException.__getattribute__" "BaseException" "__getattribute__" (.ref e) [.str name s.toks] [] _ (by decide +kernel) (by decide +kernel) (ty.andThen (looks_subIn X hb)) (PySem.F.args_bexc_ga (.ref e) (.str name s.toks)) ?_
  refine wpAny_bind (wpAny_pure (wpAny_bind (wpAny_pure (wpAny_bind (ty _ _ _ _ (fun _ _ q => q) (wpAny_bind (fd _ _ _ _ (fun _ _ q => q) ?_)))))))
  refine wpAny_pure ?_
  show wpAny _ _ (handedOut v) _ _ _
  rw [handedOut_of hh]
  exact wpAny_pure h
end
end L2
namespace L2
open PySem PySem.Spec PyProof.Rows
def XO (e C : Addr) (dx : Option Addr) : HO := .ext fun h => ∃ oe vs t0, h.get? e = some oe /\ oe.cls = .ref C /\ oe.dict = dx /\ oe.data = .fields vs /\ vs[0]? = some (.ref t0) /\ vs[1]? = some .none /\ vs[2]? = some .none
theorem XO.ok {P : Program} {w : World} {H : Hp} {h : Heap} {e C : Addr} {dx : Option Addr} (p : ∃ oe vs t0, h.get? e = some oe /\ oe.cls = .ref C /\ oe.dict = dx /\ oe.data = .fields vs /\ vs[0]? = some (.ref t0) /\ vs[1]? = some .none /\ vs[2]? = some .none) : ObjOk P w H h e (XO e C dx) :=
  ⟨p, let ⟨oe, _, _, q, _⟩ := p; ⟨oe, q⟩, fun _ _ ⟨oe, vs, t0, a, r⟩ k => ⟨oe, vs, t0, k oe a, r⟩⟩
theorem XO.get {P : Program} {w : World} {H : Hp} {h : Heap} {e C : Addr} {dx : Option Addr} (x : HOk P w H h) (q : H e = some (XO e C dx)) : ∃ oe vs t0, h.get? e = some oe /\ oe.cls = .ref C /\ oe.dict = dx /\ oe.data = .fields vs /\ vs[0]? = some (.ref t0) /\ vs[1]? = some .none /\ vs[2]? = some .none :=
  (show ObjOk P w H h e (.ext _) from x e _ q).1
def XD (d : Addr) (fs : List (Str × V)) : HO := .ext fun h => ∃ mA, h.Ns1 d mA /\ (∀ f, RelO (fs.lookup f) (mA f)) /\ PySem.Within mA (fs.map (·.1)) /\ fs.length <= 1000
theorem XD.ok {P : Program} {w : World} {H : Hp} {h : Heap} {d : Addr} {fs : List (Str × V)} (p : ∃ mA, h.Ns1 d mA /\ (∀ f, RelO (fs.lookup f) (mA f)) /\ PySem.Within mA (fs.map (·.1)) /\ fs.length <= 1000) : ObjOk P w H h d (XD d fs) :=
  ⟨p, let ⟨_, ⟨o, _, _, q, _⟩, _⟩ := p; ⟨o, q⟩, fun _ _ ⟨mA, n, r⟩ k => ⟨mA, n.at k, r⟩⟩
theorem XD.get {P : Program} {w : World} {H : Hp} {h : Heap} {d : Addr} {fs : List (Str × V)} (x : HOk P w H h) (q : H d = some (XD d fs)) : ∃ mA, h.Ns1 d mA /\ (∀ f, RelO (fs.lookup f) (mA f)) /\ PySem.Within mA (fs.map (·.1)) /\ fs.length <= 1000 :=
  (show ObjOk P w H h d (.ext _) from x d _ q).1
def xIn (K : PySem.W.Frag) (C f : Addr) : Bool := match K.lookup C with
  | some ⟨.type "type", _, .cls cd, sl⟩ => (match cd.mro, sl.toList with
    | .ref C' :: bm, [_, _, _, _, some (.builtin n), _] => C' == C && n == "ValueError.__new__" && !cd.hasDel && PySem.W.tailIn K bmV bm && PySem.W.nsOkIn K cd.ns && PySem.W.nsIn K cd.ns "__init__" == some (some (.ref f)) && bm.contains (.type "BaseException")
    | _, _ => false)
  | _ => false
structure XCl (K : PySem.W.Frag) (C f : Addr) : Prop where
  cls : xIn K C f = true
  fn : PySem.W.typeIn K (.ref f) = some (.type "function")
  kp : PySem.W.keepIn K (.ref C) = true
  over : xA K C = true
  sa : PySem.W.findIn K (.ref C) "__setattr__" = some (some (.builtin "object.__setattr__"))
  hd : (PySem.W.clsIn K C).any (·.hasDict) = true
  ga : PySem.W.findIn K (.ref C) "__getattribute__" = some (some (.builtin "BaseException.__getattribute__"))
  ha : PySem.W.findIn K (.ref C) "__getattr__" = some none
  sb : PySem.W.subIn K (.ref C) (.type "BaseException") = some true
theorem WO {K : PySem.W.Frag} {h : Heap} {N : Addr} {mg : Str -> Option Value} {n : Str} {v : Value} (X : K.In h) (G : h.Ns N mg) (e : PySem.W.nsIn K N n = some (some v)) : mg n = some v := by
  obtain ⟨o, es, ep, ho, hd, _, hf⟩ := G
  unfold PySem.W.nsIn at e
  split at e
  · rename_i c d es' n' sl q
    have := X _ _ q
    rw [ho] at this
    cases this
    cases hd
    split at e
    · rename_i en he
      cases e
      rw [<- hf]
      unfold nsFind findBy
      rw [<- Array.find?_toList, he]
      rfl
    · split at e <;> cases e
  · cases e
theorem XCl.at {K : PySem.W.Frag} {C f : Addr} (c : XCl K C f) {h : Heap} (X : K.In h) : ∃ nm q N bs bm hdct sn sub ab col dd k0 k1 k2 k3 k5 mN, h.get? C = some (excClassObj nm q C N bs bm hdct sn sub ab col dd k0 k1 k2 k3 k5 "ValueError.__new__") /\
    OwnTail h bmV bm /\ h.Ns N mN /\ mN "__init__" = some (.ref f) /\ bm.contains (.type "BaseException") = true := by
  have q := c.cls
  unfold xIn at q
  split at q
  · rename_i dd cd sl ho
    split at q
    · rename_i C' bm k0 k1 k2 k3 n k5 hm hs
      simp only [Bool.and_eq_true, beq_iff_eq, Bool.not_eq_true'] at q
      obtain ⟨⟨⟨⟨⟨⟨rfl, rfl⟩, hdel⟩, ht⟩, hok⟩, hi⟩, hb⟩ := q
      obtain ⟨nm, bs, mro, ns, qn, hd, sn, sub, ab, col, del⟩ := cd
      dsimp only at hm hdel hok hi
      subst hm hdel
      have es : sl = #[k0, k1, k2, k3, some (.builtin "ValueError.__new__"), k5] := by
        obtain ⟨l⟩ := sl
        simp only at hs
        rw [hs]
      subst es
      have nN := PySem.Heap.Ns.of_isNs (PySem.W.isNs_of_in X hok)
      exact ⟨nm, qn, ns, bs, bm, hd, sn, sub, ab, col, dd, k0, k1, k2, k3, k5, _, X _ _ ho, PySem.W.tail_of_in X ht, nN, WO X nN hi, hb⟩
    · cases q
  · cases q
def drp (H : Hp) (e : Addr) : Hp := fun b => if b = e then none else H b
theorem wc {H : Hp} {e : Addr} : drp H e e = none := if_pos rfl
theorem xa {H : Hp} {e b : Addr} (h : b ≠ e) : drp H e b = H b := if_neg h
theorem Inv.drop {X : Cx} {pins : List (Addr × Obj)} {σ : St} {H : Hp} {s : Shared} {e : Addr} {φ : Heap -> Prop} (I : Inv X pins σ H s) (he : H e = some (.ext φ)) : Inv X pins σ (drp H e) s := by
  have no : ∀ b, H b = none -> drp H e b = none := fun b h => by
    by_cases q : b = e
    · rw [q]
      exact wc
    · rw [xa q]
      exact h
  have nx : ∀ (b : Addr) (o : HO), H b = some o -> (∀ ψ, o ≠ .ext ψ) -> drp H e b = some o := fun b o h n => by
    have q : b ≠ e := fun z => by
      rw [z, he] at h
      cases h
      exact n _ rfl
    rw [xa q]
    exact h
  refine ⟨I.ok, I.os, I.bare, ⟨I.base.keep, I.base.slot, fun b o q n x => no b (I.base.free b o q n x), I.base.there, fun b xs q => nx _ _ (I.base.tups b xs q) (by intro ψ z; cases z), fun b o u q => nx _ _ (I.base.frzs b o u q) (by intro ψ z; cases z), fun b ps q => ?_⟩, I.loc, I.cell, no _ I.free, fun x c q => no _ (I.freeC x c q), fun p hp => ?_, fun a o q => ?_, I.len⟩
  · obtain ⟨m, r⟩ := I.base.tbls b ps q
    exact ⟨m, nx _ _ r (by intro ψ z; cases z)⟩
  · obtain ⟨a, b, c⟩ := I.pin p hp
    exact ⟨a, no _ b, c⟩
  · have na : a ≠ e := fun z => by
      rw [z, wc] at q
      cases q
    rw [xa na] at q
    exact (I.hok a o q).stay (fun _ _ _ z => z) (fun b z => nx b _ z (by intro ψ y; cases y)) fun b xs z => nx b _ z (by intro ψ y; cases y)
def wd (X : Cx) (E : XK) : Prop := ∀ (pins : List (Addr × Obj)) (σ : St) (u : Value) (s' : Shared), Air X pins σ E u s' -> X.xe u s'
theorem yK {P : Program} {w : World} {K : PySem.W.Frag} {mg : Str -> Option Value} {base : Heap} {N : List Str} {qual : Str} {scope : Scope} {f : Addr} {cd : Value} {A : Around} {outer : List Env} {s : Shared} {H : Hp} {E : XK} :
    wd (cxOf (CXf P w) P w K mg base N qual scope f cd A outer s H E) E := fun _ _ _ _ h => wO h
def ju (C : Addr) (sp : Sp) (E : XK) (t : TA) : TS := fun _ σ H => t σ H fun vs H1 => vs.length <= sizeLine /\ ∀ e, H1 e = none -> sp (.ref e :: vs) (upd H1 e (XO e C none)) (fun v H2 => v = .non /\ ∃ dx, H2 e = some (XO e C dx) /\ E (.ref C) dx (drp H2 e)) E0
section
variable {X : Cx} {k : Nat} {f C : Addr} {fd : FuncData} {ps : List Str} {sp : Sp} {E : XK} {x : Str} {np cpos pos : Pos} {a : Expr} {as : List Expr} {t : TA}
theorem YZ (M : XCl X.K C f) (F : FnOk X.prog X.w X.K X.mg X.base CX0 k f fd ps sp) (hr : Room (k + 1) X.A) (hg : Gl X x) (hm : X.mg x = some (.ref C)) (hb : Binds X.K fd ps []) (hx : wd X E)
    (ha : PA X (a :: as) t) (hdb : (x == ("__debug__" : Str)) = false := by decide) (h1 : zy a = false := by rfl) (h2 : as.all (fun e => !zy e) = true := by rfl) :
    PS X (.Raise (some (.Call (.Name x np) (a :: as) [] cpos)) none pos) (ju C sp E t) := by
  intro pins s σ H D I h
  obtain ⟨nm, q, N, bs, bm, hdct, sn, sub, ab, col, dd, k0, k1, k2, k3, k5, mN, hC0, T0, n0, i0, hB⟩ := M.at I.mod.kin
  rw [arm_exec_Raise]
  simp only [evalOpt, Option.map]
  refine wpAny_bind (wpAny_standAt (Zh (C := C) (nm := nm) (q := q) (N := N) (bs := bs) (hdct := hdct) (sn := sn) (sub := sub) (ab := ab) (col := col) (dd := dd) (k0 := k0) (k1 := k1) (k2 := k2) (k3 := k3) (k5 := k5) (newId := "ValueError.__new__") hB hr.hd (wpAny_bind ?_)))
  refine wpAny_Call_Name_kw (yy I hg hm ?_ hdb)
  refine PySem.W.callWith_K (h₀ := X.base) I.ok.mod.kin M.kp (thn (ha cpos pins s σ H _ I h) fun us s1 ⟨vs, H1, I1, r, hl, q1⟩ => ⟨I1.kIn, ?_⟩) (zH h1) (zY h2)
  obtain ⟨hh, g, d, tk, os⟩ := s1
  have kb : ∀ b o, X.base.get? b = some o -> hh.get? b = some o := I1.bk
  have e0 : H1 (hh.objs.size + 1) = none := I1.hok.fresh (Nat.le_succ _)
  obtain ⟨of, hof, hofc⟩ := Option.map_eq_some_iff.mp M.fn
  have hof' : hh.get? f = some of := I1.kIn _ _ hof
  refine WM PySem.F.excBase_ValueError (by decide +kernel) PySem.F.excBase_ValueError (T0.keeps kb) (kb _ _ hC0) (n0.keeps kb) i0 hof' hofc (show us.length <= sizeLine by rw [<- r.length]; exact hl) ?_
  have ex : ((hh.push (yg us)).push (yi C hh.objs.size)).get? (hh.objs.size + 1) = some (yi C hh.objs.size) := Heap.get?_push_at (by simp only [Heap.size_push]) rfl
  have I2 : Inv X pins σ (upd H1 (hh.objs.size + 1) (XO (hh.objs.size + 1) C none)) ⟨(hh.push (yg us)).push (yi C hh.objs.size), g, d, tk, os⟩ :=
    I1.laid (a := hh.objs.size + 1) (o := XO (hh.objs.size + 1) C none) (t' := tk) (fun b u q => Heap.get?_push_of_some _ (Heap.get?_push_of_some _ q)) (Nat.le_succ _) (XO.ok ⟨yi C hh.objs.size, _, hh.objs.size, ex, rfl, rfl, rfl, rfl, rfl, rfl⟩)
  have hq := q1 _ e0
  have r2 : Vals (V.ref (hh.objs.size + 1) :: vs) (Value.ref (hh.objs.size + 1) :: us) := .cons rfl r
  have hlen : (Value.ref (hh.objs.size + 1) :: us).length = ps.length := by rw [<- r2.length]; exact F.len _ _ _ _ hq
  have bd := hb ⟨(hh.push (yg us)).push (yi C hh.objs.size), g, d, tk, os⟩ (Value.ref (hh.objs.size + 1) :: us) I2.kIn (by rw [List.append_nil]; exact hlen)
  rw [List.append_nil] at bd
  refine wpAny_call (codeAny_mono (F.run _ X.stack _ _ ⟨Value.ref (hh.objs.size + 1) :: us, []⟩ (Value.ref (hh.objs.size + 1) :: us) _ _ E0 (hr.make C us []) (I2.env0.make C us []) bd r2 hq) fun r s' hq' => ?_)
  cases r with
  | error u => exact False.elim hq'
  | ok fl =>
    cases fl with
    | ret u =>
      obtain ⟨v, H', I3, rv, ev, dx, hH, hE⟩ := I2.after hq'
      subst ev
      obtain ⟨oe, ws, t0, g1, g2, g3, g4, g5, g6⟩ := XO.get I3.hok hH
      exact ⟨rv, wpAny_bind (wpAny_standAt (wpAny_pure ⟨_, oe, ws, rfl, I3.bk _ _ hC0, g1, g2, g4, g6.1, hx pins σ _ s' ⟨_, .ref C, dx, drp H' (hh.objs.size + 1), hh.objs.size, rfl, I3.drop hH, wc, I1.sz, Nat.le_succ _, fun p hp => Heap.lt_size (I1.pin p hp).1, .inl ⟨oe, ws, g1, g2, g3, g4, g6⟩, hE⟩⟩))⟩
    | next => exact False.elim hq'
    | brk => exact False.elim hq'
    | cont => exact False.elim hq'
end
structure XBase (K : PySem.W.Frag) (R : Addr) : Prop where
  sp : PySem.W.specialIn K (.ref R) "__getattribute__" = some (some (.builtin "type.__getattribute__"))
  rd : PySem.W.readsIn K R (.type "type") = true
  fi : PySem.W.findCls K (.ref R) (.type "type") "__init__" = some (.val (.builtin "ValueError.__init__"))
def JC (C : Addr) (t : TA) : TE := fun σ H Q => t σ H fun vs H1 => ∃ e rest dx, vs = .ref e :: rest /\ rest.length <= sizeLine /\ H1 e = some (XO e C dx) /\ Q .non H1
theorem JD {H : Hp} {e : Addr} {o : HO} (h : H e = some o) : upd H e o = H := by
  funext b
  unfold upd
  split
  · rename_i q
    rw [q, h]
  · rfl
section
variable {X : Cx} {f C R : Addr} {x m : Str} {np apos pos pos' : Pos} {a o e value : Expr} {as : List Expr} {t : TA} {ta tv te : TE}
theorem we {pl : Sem Bool} (M : XCl X.K C f) (B : XBase X.K R) (hg : Gl X x) (hm : X.mg x = some (.ref R)) (ha : PA X (a :: as) t) (hdb : (x == ("__debug__" : Str)) = false := by decide) (h1 : zy a = false := by rfl) (h2 : as.all (fun e => !zy e) = true := by rfl)
    (ht : eval (.Call (.Attribute (.Name x np) "__init__" apos) (a :: as) [] pos) X.env = (do
      let ov <- eval (.Name x np) X.env
      standAt apos.atName
      let (f, first) <- holding [ov] (getMethod ov "__init__" pl)
      callWith pos f first (backTo pos (starEach (a :: as) X.env)) (backToKw pos (keywordEach [] X.env))) := by rfl) :
    PE X (.Call (.Attribute (.Name x np) "__init__" apos) (a :: as) [] pos) (JC C t) := by
  intro pins s σ H Q I h
  refine PySem.W.methodCall_KW (pl := pl) (yy I hg hm ?_ hdb) ht
  refine PySem.W.method_cls I.kIn B.sp (PySem.W.cls_value I.kIn B.rd B.fi (by decide +kernel) ?_)
  have I0 : Inv X pins σ H { s with toks := s.toks + 1 } := I.tok _
  refine PyProof.Rows.callWith_builtin1 (thn (ha pos pins _ σ H _ I0 h) fun us s1 ⟨vs, H1, I1, r, e, rest, dx, ev, hl, hH, q⟩ => ?_) (zH h1) (zY h2)
  subst ev
  obtain ⟨ue, ur, rfl, re, rr⟩ : ∃ ue ur, us = ue :: ur /\ RelV (.ref e) ue /\ Vals rest ur := by
    cases r with
    | cons p q => exact ⟨_, _, rfl, p, q⟩
  obtain rfl : ue = Value.ref e := re
  obtain ⟨oe, ws, t0, g1, g2, g3, g4, g5, g6⟩ := XO.get I1.hok hH
  obtain ⟨nm, q', N, bs, bm, hdct, sn, sub, ab, col, dd, k0, k1, k2, k3, k5, mN, hC, T, _, _, _⟩ := M.at I1.kIn
  obtain ⟨hh, g, d, tk, os⟩ := s1
  refine Zi PySem.F.excBase_ValueError T hC g1 g2 g4 g5 (by rw [<- rr.length]; exact hl) ?_
  have e1 := Heap.get?_push_of_some (h := hh) (yg ur) g1
  have up := Heap.get?_update_self (Obj.mapFields (·.setIfInBounds 0 (.ref hh.objs.size))) e1 (Obj.isFreed_of_fields (Obj.data_mapFields g4 _))
  have sz : 0 < ws.size := (Array.getElem?_eq_some_iff.mp g5).1
  have I2 := I1.write (x := e) (e := e) (o := XO e C dx) (h' := (hh.push (yg ur)).update e (Obj.mapFields (·.setIfInBounds 0 (.ref hh.objs.size)))) (t' := tk) (by rw [hH]; exact True.intro) (.inl rfl)
    (fun b u nb q => (Heap.get?_update_other _ _ (Ne.symm nb)).trans (Heap.get?_push_of_some _ q)) ⟨_, up⟩
    (XO.ok ⟨_, _, hh.objs.size, up, (Obj.cls_mapFields _ _).trans g2, (yR _ _).trans g3, Obj.data_mapFields g4 _, by simp [sz], by rw [Array.getElem?_setIfInBounds_ne (by decide)]; exact g6.1, by rw [Array.getElem?_setIfInBounds_ne (by decide)]; exact g6.2⟩)
  rw [JD hH] at I2
  exact ⟨.non, H1, I2, rfl, q⟩
def qJ (K : PySem.W.Frag) (C : Addr) (ta tv : TE) (m : Str) : TS := fun D σ H => tv σ H fun y H1 => ta σ H1 fun x H2 => ∃ e, x = .ref e /\ H2 e = some (XO e C none) /\ PySem.W.takerIn K C m = some none /\ ∀ d, H2 d = none -> d ≠ e -> D.nx σ (upd (upd H2 d (XD d [(m, y)])) e (XO e C (some d)))
theorem vh (M : XCl X.K C f) (ha : PE X o ta) (hv : PE X value tv) (hs : swapsWith value (some (.Attribute o m pos')) pos.line X.env = pure false := by rfl) : PS X (.Assign [.Attribute o m pos'] value pos) (qJ X.K C ta tv m) := by
  intro pins s σ H D I h
  refine plainObj_wpAny_Assign_Attribute (thn (hv pins s σ H _ I h) fun u s1 ⟨y, H1, I1, ry, q⟩ => thn (ha pins s1 σ H1 _ I1 q) fun ov s2 ⟨x, H2, I2, rx, e, ex, hH, hk, q2⟩ => ?_) hs
  subst ex
  obtain rfl : ov = Value.ref e := rx
  obtain ⟨oe, ws, t0, g1, g2, g3, g4, g5, g6⟩ := XO.get I2.hok hH
  refine JA I2.kIn g1 g2 g3 g4 M.sa M.over hk M.hd fun h' hn he kp => ?_
  have nd : s2.heap.objs.size ≠ e := Nat.ne_of_gt (Heap.lt_size g1)
  have fd : H2 s2.heap.objs.size = none := I2.hok.fresh (Nat.le_refl _)
  have ns : ∀ (b : Addr) (u : HO), H2 b = some u -> (∀ ψ, u ≠ .ext ψ) -> upd (upd H2 s2.heap.objs.size (XD s2.heap.objs.size [(m, y)])) e (XO e C (some s2.heap.objs.size)) b = some u := fun b u q nx => by
    have n1 : b ≠ e := fun z => by
      rw [z, hH] at q
      cases q
      exact nx _ rfl
    rw [zn n1, zn (zo q fd)]
    exact q
  have ne' : ∀ b, H2 b = none -> b ≠ e := fun b q z => by
    rw [z, hH] at q
    cases q
  refine ⟨σ, _, I2.un (H' := upd (upd H2 s2.heap.objs.size (XD s2.heap.objs.size [(m, y)])) e (XO e C (some s2.heap.objs.size))) (h' := h') (t' := s2.toks + 2) ⟨fun b o q n _ _ => kp b o (ne' b n) q, fun b o q n _ _ => ⟨o.slots, kp b o (ne' b n) q⟩, fun b o q n _ => ?_, fun b o q _ => ?_, fun b xs q => ns b _ q (by intro ψ z; cases z), fun b o u q => ns b _ q (by intro ψ z; cases z), fun b ps q => ⟨#[], by rw [ns b _ q (by intro ψ z; cases z)]; simp⟩⟩ fun b u q => ?_, q2 _ fd nd⟩
  · rw [zn (ne' b n), zn (Nat.ne_of_lt (Heap.lt_size q))]
    exact n
  · by_cases z : b = e
    · rw [z]
      exact ⟨_, he⟩
    · exact ⟨o, kp b o z q⟩
  · by_cases z : b = e
    · subst z
      rw [zg] at q
      cases q
      exact XO.ok ⟨_, ws, t0, he, g2, rfl, g4, g5, g6⟩
    · rw [zn z] at q
      by_cases z2 : b = s2.heap.objs.size
      · subst z2
        rw [zg] at q
        cases q
        refine XD.ok ⟨_, hn, fun f => ?_, fun f hf => ?_, show 1 <= 1000 by decide⟩
        · rw [List.lookup_cons]
          by_cases w : f = m
          · rw [if_pos w, w, beq_self_eq_true]
            exact ry
          · rw [if_neg w, beq_eq_false_iff_ne.mpr w]
            exact True.intro
        · by_cases w : f = m
          · rw [w]
            exact List.mem_cons_self
          · exact absurd (if_neg w) hf
      · rw [zn z2] at q
        refine (I2.hok b u q).stay (fun c v hc r => kp c v (fun w => ?_) r) (fun c r => ns c _ r (by intro ψ z; cases z)) fun c xs r => ns c _ r (by intro ψ z; cases z)
        rcases hc with hc | hc
        · exact z (hc.symm.trans w)
        · rw [w, hH] at hc
          cases hc
end
end L2
namespace L2
open PySem PySem.Spec PyProof.Rows
section
variable {X : Cx} {pins : List (Addr × Obj)} {σ : St} {H : Hp} {s : Shared} {h' : Heap} {xs : List Addr}
theorem Inv.moved (I : Inv X pins σ H s) (m : Mv (frs X.stack) xs s.heap h')
    (hx : ∀ b ∈ xs, H b = none /\ (b ∈ X.ex \/ X.s₀.heap.objs.size <= b) /\ b ≠ X.env.locals /\ (∀ x c, X.env.cells.lookup x = some c -> c ≠ b) /\ ∀ p ∈ X.pn ++ pins, p.1 ≠ b) : Inv X pins σ H { s with heap := h' } :=
  I.call (g' := s.gens) (d' := s.drawn) (t' := s.toks) (ch := xs) ⟨fun b o q _ f x => m.keep b o q f x, fun b o q _ _ x => m.slot b o q x, fun _ _ _ n _ => n, fun b o q _ => m.there b o q, fun _ _ q => q, fun _ _ _ q => q, fun _ ps q => ⟨#[], by rw [q]; simp⟩⟩
    (I.hok.moved m I.stkFree fun b hb => (hx b hb).1) I.bare fun b hb => (hx b hb).2
theorem Inv.apart (I : Inv X pins σ H s) {b : Addr} {o : Obj} {vs : Array Value} (q : s.heap.get? b = some o) (d : o.data = .fields vs) : b ≠ X.env.locals /\ ∀ x c, X.env.cells.lookup x = some c -> c ≠ b := by
  refine ⟨fun z => ?_, fun x c e z => ?_⟩
  · obtain ⟨m, ⟨o', es, ep, ho, hd, _⟩, _⟩ := I.loc
    rw [z, ho] at q
    cases q
    rw [hd] at d
    cases d
  · obtain ⟨v, o', ho, hd⟩ := I.cell x c e
    rw [z, q] at ho
    cases ho
    rw [d] at hd
    cases hd
abbrev Cx.inEx (X : Cx) (u : Value) (p : List (Addr × Obj)) : Cx := { X with A := X.A.mark (some u), calm := false, pn := p ++ X.pn, xe := fun _ _ => False }
theorem Inv.inEx (I : Inv X pins σ H s) (u : Value) {p : List (Addr × Obj)} (hp : ∀ q ∈ p, s.heap.get? q.1 = some q.2 /\ H q.1 = none /\ q.1 ≠ X.env.locals /\ q.1 ∉ X.fs /\ ∀ v, q.2.data ≠ .cell v) : Inv (X.inEx u p) pins σ H s :=
  ⟨⟨I.ok.mod, I.ok.kind, I.ok.glob, I.ok.blt, I.ok.above, I.ok.inj, I.ok.has, I.ok.cab, (fun z => nomatch z), I.ok.frames, I.ok.stk, I.ok.exf, I.ok.bs, I.ok.bsz, I.ok.noex, I.ok.exfs, I.ok.funs, I.ok.frf⟩, I.os, I.bare, I.base, I.loc, I.cell, I.free, I.freeC, fun q hq => by
    have hq' : q ∈ (p ++ X.pn) ++ pins := hq
    rw [List.append_assoc] at hq'
    rcases List.mem_append.mp hq' with z | z
    · exact hp q z
    · exact I.pin q z, I.hok, I.len⟩
theorem Inv.outEx {u : Value} {p : List (Addr × Obj)} (ok : X.Ok) (I : Inv (X.inEx u p) pins σ H s) : Inv X pins σ H s :=
  ⟨ok, I.os, I.bare, I.base, I.loc, I.cell, I.free, I.freeC, fun q hq => I.pin q (by
    show q ∈ (p ++ X.pn) ++ pins
    rw [List.append_assoc]
    exact List.mem_append_right _ hq), I.hok, I.len⟩
theorem yY {A : Around} {E : Value -> Shared -> Prop} {i : Nat} {n : Str} {pos : Pos} {Q : Unit -> Shared -> Prop} (I : Inv X pins σ H s) (hN : X.N.Nodup) (hi : X.N[i]? = some n) (hl : X.env.scope.names.lookup n = some .local)
    (h : ∀ s', Inv X pins (σ.set i none) H s' -> Q () s') : wpAny (model X.prog X.w) A (do bindName X.env n .none; unbindBehindTheSuite X.env n pos) Q E s := by
  obtain ⟨m, hn, hlk⟩ := id I.loc
  have iσ : i < σ.length := by rw [I.len]; exact (List.getElem?_eq_some_iff.mp hi).1
  refine wpAny_nameGoes_keeps (env := X.env) hl hn (by rw [I.ok.kind]; rfl) fun h' v hn' hs => h _ ?_
  have nl : ∀ (b : Addr) (o : Obj), X.s₀.heap.get? b = some o -> b ≠ X.env.locals := fun b o q => Nat.ne_of_lt (Nat.lt_of_lt_of_le (Heap.lt_size q) I.ok.above)
  refine ⟨I.ok, I.os, I.bare, ⟨fun b o q n hb hx => (hs.2 b (nl b o q)).trans (I.base.keep b o q n hb hx), fun b o q n hb hx => ?_, I.base.free, fun b o q hx => ?_, I.base.tups, I.base.frzs, I.base.tbls⟩, ⟨_, hn', fun j y v' e1 e2 e3 => ?_⟩, fun y c q => ?_, I.free, I.freeC, fun p hp => ?_, fun b u q => ?_, by rw [List.length_set]; exact I.len⟩
  · obtain ⟨sl, q1⟩ := I.base.slot b o q n hb hx
    exact ⟨sl, (hs.2 b (nl b o q)).trans q1⟩
  · obtain ⟨o1, q1⟩ := I.base.there b o q hx
    exact ⟨o1, (hs.2 b (nl b o q)).trans q1⟩
  · have hj : j ≠ i := fun z => by
      rw [z, List.getElem?_set_self iσ] at e2
      cases e2
    rw [List.getElem?_set_ne (Ne.symm hj)] at e2
    obtain ⟨u, r, q⟩ := hlk j y v' e1 e2 e3
    refine ⟨u, r, ?_⟩
    rcases q with ⟨k, e⟩ | ⟨k, c, e, z⟩
    · have ny : y ≠ n := fun z => hj (yD hN e1 (z ▸ hi))
      exact .inl ⟨k, by simp [ny, e]⟩
    · exact .inr ⟨k, c, e, z.sameBut hs (I.cne y c e)⟩
  · obtain ⟨w, z⟩ := I.cell y c q
    exact ⟨w, z.sameBut hs (I.cne y c q)⟩
  · obtain ⟨a, b, c, d⟩ := I.pin p hp
    exact ⟨(hs.2 p.1 c).trans a, b, c, d⟩
  · refine (I.hok b u q).stay (fun c v hc r => (hs.2 c fun z => ?_).trans r) (fun _ r => r) fun _ _ r => r
    rcases hc with hc | hc
    · rw [<- hc, z, I.free] at q
      cases q
    · rw [z, I.free] at hc
      cases hc
end
abbrev Ends.behind (D : Ends) (i : Nat) : Ends := { nx := fun σ H => D.nx (σ.set i none) H, rt := D.rt, bk := fun σ H => D.bk (σ.set i none) H, ct := fun σ H => D.ct (σ.set i none) H }
section
variable {X : Cx} {Ch : Addr} {x n : Str} {i : Nat} {np hpos tpos : Pos} {b0 : Stmt} {suite : List Stmt} {th : Addr -> Obj -> TS}
variable {k : Nat} {f : Addr} {fd : FuncData} {ps : List Str} {sp : Sp} {y : Str} {p cpos epos : Pos} {a : Expr} {as : List Expr} {t : TA}
end
end L2
namespace L2
open PySem PySem.Spec PyProof.Rows
section
variable {X : Cx} {pins : List (Addr × Obj)} {σ : St} {H : Hp} {s : Shared} {h' : Heap}
theorem Inv.turns {t' : Nat} {ch : List Addr} (I : Inv X pins σ H s) (k : ∀ b o, b ∉ ch -> s.heap.get? b = some o -> h'.get? b = some o) (hf : ∀ b ∈ ch, FpOk X pins H b) : Inv X pins σ H { s with heap := h', toks := t' } := by
  have nit : ∀ b u, H b = some u -> b ∉ ch := fun b u e z => by rw [(hf b z).1] at e; cases e
  refine I.call (g' := s.gens) (d' := s.drawn) (t' := t') (ch := ch) ⟨fun b o q _ _ x => k b o x q, fun b o q _ _ x => ⟨o.slots, k b o x q⟩, fun _ _ _ n _ => n, fun b o q x => ⟨o, k b o x q⟩, fun _ _ q => q, fun _ _ _ q => q, fun _ ps q => ⟨#[], by rw [q]; simp⟩⟩
    (fun b u e => (I.hok b u e).stay (fun c v hc q => k c v ?_ q) (fun _ q => q) fun _ _ q => q) I.bare fun b hb => ?_
  · rcases hc with z | z
    · rw [z]; exact nit b u e
    · exact nit c _ z
  · obtain ⟨f0, f1, f2, f3, f4, f5⟩ := hf b hb
    exact ⟨f3, f1, f4, f5⟩
end
section
variable {X : Cx} {elts : List Expr} {k : Nat} {tpos : Pos}
end
end L2
namespace L2
open PySem PySem.Spec PyProof.Rows
def Itv (K : PySem.W.Frag) (a : Addr) (n : Nat) : It :=
  ⟨fun i H => i < n /\ ∃ xs x, SqL K H a xs /\ xs[n - 1 - i]? = some x, fun i H x H' => H' = H /\ ∀ xs, SqL K H a xs -> xs[n - 1 - i]? = some x, fun i _ => n <= i⟩
theorem Y0 {P : Program} {w : World} {K : PySem.W.Frag} {tg : Expr} (a it : Addr) (n : Nat) : Turn P w K tg (Itv K a n) [it] it (fun i h => i <= n /\ h.IsRevIter it a ((n : Int) - 1 - (i : Nat))) where
  mem := by simp
  obj := fun i h st b hb => by
    have e : b = it := by simpa using hb
    subst e
    obtain ⟨_, o, e, c, d⟩ := st
    exact ⟨o, e, fun v z => by rw [d] at z; cases z⟩
  keep := fun i h h' st k => ⟨st.1, st.2.at fun o e => k it (by simp) o e⟩
  item := by
    intro X hP hw hK hc i pins s σ H E I hf st hg
    subst hP hw hK
    obtain ⟨hi, xs, x, hq, hx⟩ := hg
    obtain ⟨its, rv, p, hz⟩ := I.list hq
    obtain ⟨u, hu, ru⟩ := rv.get hx
    obtain ⟨f0, f1, f2, f3, f4, f5⟩ := hf it (by simp)
    obtain ⟨_, st2⟩ := st
    have e1 : (n : Int) - 1 - (i : Nat) = ((n - 1 - i : Nat) : Int) := by omega
    rw [e1] at st2
    refine wpAny_pyNext_rev_item st2 p.isList (x := u) (by simpa using hu) fun h' st' sb => ?_
    have I1 : Inv X pins σ H { s with heap := h' } := I.turned (t' := s.toks) (fun b o hb e => (sb.2 b hb).trans e) f0 f1 f3 f4 f5
    obtain ⟨o, e, c, d⟩ := id st'
    refine ⟨u, rfl, wz (s := { s with heap := h' }) e c d (by decide) ⟨x, H, I1, ru, ⟨rfl, fun ys hy => by rw [I.list_inj hy hq]; exact hx⟩, ⟨hi, ?_⟩, fun b hb => (hf b hb).1⟩⟩
    have e2 : (n : Int) - 1 - ((i + 1 : Nat) : Int) = ((n - 1 - i : Nat) : Int) - 1 := by omega
    rw [e2]
    exact st'
  done := by
    intro X hP hw hK hc i pins s σ H E I hf st hg
    subst hP hw hK
    obtain ⟨f0, f1, f2, f3, f4, f5⟩ := hf it (by simp)
    obtain ⟨h1, st2⟩ := st
    have h2 : n <= i := hg
    have e1 : (n : Int) - 1 - (i : Nat) = -1 := by omega
    rw [e1] at st2
    exact wpAny_pyNext_rev_end (I.ok.hd hc) st2 fun h' eb => ⟨rfl, I.turned (t' := s.toks) (fun b o hb e => eb b o hb e) f0 f1 f3 f4 f5⟩
  self := fun _ _ _ _ _ st h => wpAny_pyIter_revIter st.2 h
section
variable {X : Cx} {tg : Expr}
def iRev (K : PySem.W.Frag) (ta : TA) : TI := fun σ H R => ta σ H fun vs H1 => ∃ a xs, vs = [.ref a] /\ SqL K H1 a xs /\ R (Itv K a xs.length) H1
theorem JE {a : Expr} {ta : TA} {p pos : Pos} (hg : Gl X "reversed") (hm : X.mg "reversed" = none) (ha : PA X [a] ta) (hs : starEach [a] X.env = [(false, eval a X.env)] := by rfl) : PI X tg (.Call (.Name "reversed" p) [a] [] pos) (iRev X.K ta) := by
  intro pins s σ H R I h
  refine Call_ (yN I hg hm boot_reversed (PyProof.Rows.callWith_type1 (thn (ha pos pins s σ H _ I h) fun us s1 ⟨vs, H1, I1, r1, q1⟩ => ?_) hs rfl))
  obtain ⟨l, xs, e, hq, q⟩ := q1
  subst e
  obtain ⟨u, rfl, rx⟩ := wB r1
  cases rx
  obtain ⟨its, rv, pl, hz⟩ := I1.list hq
  have hl := rv.length
  refine call_reversed_list pl.isList ?_
  have hr : (s1.heap.push (revObj l ((its.toArray.size : Int) - 1))).IsRevIter s1.heap.objs.size l ((its.toArray.size : Int) - 1) := ⟨_, Heap.get?_push_size _ rfl, rfl, rfl⟩
  refine wpAny_pyIter_revIter (s := { s1 with heap := s1.heap.push (revObj l ((its.toArray.size : Int) - 1)) }) hr ?_
  refine ⟨s1.heap.objs.size, [s1.heap.objs.size], _, _, H1, rfl, I1.kept (t' := s1.toks) fun b o e => Heap.get?_push_of_some _ e, Y0 l _ xs.length, ⟨Nat.zero_le _, ?_⟩, fun b hb => ?_, q⟩
  · have e : (xs.length : Int) - 1 - ((0 : Nat) : Int) = (its.toArray.size : Int) - 1 := by simp [hl]
    rw [e]
    exact hr
  have e : b = s1.heap.objs.size := by simpa using hb
  subst e
  exact I1.fpOk (Nat.le_refl _) (I1.hok.fresh (Nat.le_refl _))
theorem JF {a : Expr} {t : TA} {p pos : Pos} (hg : Gl X "reversed") (hm : X.mg "reversed" = none) (ha : jA X [a] t) (h : zy a = false := by rfl) : jI X tg (.Call (.Name "reversed" p) [a] [] pos) (iRev X.K t) := ⟨JE hg hm ha.out (zH h)⟩
end
theorem WP {K : PySem.W.Frag} {a : Addr} {xs : List V} {g : TG} {tb : TS} {D : Ends} {σ : St} {H : Hp} (Pv : Nat -> St -> Hp -> Prop) (h0 : Pv 0 σ H) (hl : ∀ i σ H, i <= xs.length -> Pv i σ H -> SqL K H a xs)
    (hs : ∀ i x σ H, xs.reverse[i]? = some x -> Pv i σ H -> g x σ H fun σ2 H2 => tb { D with nx := Pv (i + 1), ct := Pv (i + 1), bk := D.nx } σ2 H2) (hd : ∀ σ H, Pv xs.length σ H -> D.nx σ H) :
    ∃ W : Nat -> Nat -> St -> Hp -> Prop, (∃ m, W 0 m σ H) /\ ∀ i m σ H, W i m σ H ->
      ((Itv K a xs.length).stop i H /\ D.nx σ H) \/ ((Itv K a xs.length).go i H /\ ∃ N : St -> Hp -> Prop, (∀ σ' H', N σ' H' -> ∃ m', m' < m /\ W (i + 1) m' σ' H') /\ ∀ x H', (Itv K a xs.length).yld i H x H' -> g x σ H' fun σ2 H2 => tb { D with nx := N, ct := N, bk := D.nx } σ2 H2) := by
  refine ⟨fun i m σ H => m = xs.length - i /\ i <= xs.length /\ Pv i σ H, ⟨xs.length, by simp, Nat.zero_le _, h0⟩, ?_⟩
  rintro i m σ H ⟨rfl, hi, p⟩
  have q := hl i σ H hi p
  by_cases hlt : i < xs.length
  · refine .inr ⟨⟨hlt, xs, xs[xs.length - 1 - i], q, by rw [List.getElem?_eq_getElem]⟩, Pv (i + 1), fun σ' H' p' => ⟨xs.length - (i + 1), by omega, rfl, hlt, p'⟩, fun x H' y => ?_⟩
    obtain ⟨e, y⟩ := y
    subst e
    refine hs i x σ _ ?_ p
    rw [List.getElem?_reverse hlt]
    exact y xs q
  · have e : i = xs.length := by omega
    subst e
    exact .inl ⟨Nat.le_refl _, hd σ H p⟩
section
variable {g : TG} {tt : TT} {te : TE} {Q : VK} {σ : St} {H : Hp}
theorem Y1 {K : PySem.W.Frag} {a : Addr} {xs : List V} (Pv : Nat -> St -> List V -> Hp -> Prop) (h0 : Pv 0 σ [] H) (hl : ∀ i τ ys H, i <= xs.length -> Pv i τ ys H -> SqT K H a xs)
    (hs : ∀ i x τ ys H, xs[i]? = some x -> Pv i τ ys H -> g x τ H fun τ2 H2 => tt τ2 H2 fun b H3 => if b = true then te τ2 H3 fun y H4 => ys.length < sizeLine /\ Pv (i + 1) τ2 (ys ++ [y]) H4 else Pv (i + 1) τ2 ys H3)
    (hd : ∀ τ ys H, Pv xs.length τ ys H -> ∀ p, H p = none -> Q (.ref p) (upd H p (.lst ys))) : ∃ W, (∃ m, W 0 m σ [] H) /\ lcBy (Itt K a) g tt te Q W := by
  refine ⟨fun i m τ ys H => m = xs.length - i /\ i <= xs.length /\ Pv i τ ys H, ⟨xs.length, by simp, Nat.zero_le _, h0⟩, ?_⟩
  rintro i m τ ys H ⟨rfl, hi, p⟩
  have q := hl i τ ys H hi p
  by_cases hlt : i < xs.length
  · refine .inr ⟨⟨xs, xs[i], q, by simp [hlt]⟩, Pv (i + 1), fun τ' ys' H' p' => ⟨xs.length - (i + 1), by omega, rfl, hlt, p'⟩, fun x H' y => ?_⟩
    obtain ⟨e, y⟩ := y
    subst e
    exact hs i x τ ys _ (y xs q) p
  · have e : i = xs.length := by omega
    subst e
    exact .inl ⟨⟨xs, q, Nat.le_refl _⟩, hd τ ys H p⟩
end
theorem old {H : Hp} {p q : Addr} {o u : HO} (hp : H p = none) (h : H q = some u) : upd H p o q = some u := by rw [zn (zo h hp)]; exact h
theorem Same.new {H H1 : Hp} {p : Addr} {o : HO} (s : Same H H1) (hp : H1 p = none) : Same H (upd H1 p o) := fun b u q => old hp (s b u q)
theorem Same.put {H H1 : Hp} {p : Addr} {o : HO} (s : Same H H1) (hp : H p = none) : Same H (upd H1 p o) := fun b u q => by rw [zn (zo q hp)]; exact s b u q
end L2
namespace L2
open PySem PySem.Spec PyProof.Rows
theorem Y2 {x : V} (h : yp x = true) : eqV x x = true := by
  cases x <;> first
    | rfl
    | (show ((_ : Bool) == _) = true; simp)
    | (show ((_ : Int) == _) = true; simp)
    | (show ((_ : Str) == _) = true; simp)
    | (cases h)
section
variable {X : Cx}
end
section
variable {X : Cx}
def Zj : V -> List V -> Hp -> VK -> Prop := fun x vs H Q => ∃ l xs k kk y, x = .ref l /\ vs = [.int kk, y] /\ kk = ((k : Nat) : Int) /\ H l = some (.lst xs) /\ xs.length < sizeLine /\ k <= xs.length /\ Q .non (upd H l (.lst (xs.take k ++ y :: xs.drop k)))
theorem Z4 : MtM X "list.insert" Zj := by
  intro pins s σ H x vs v us Q I rx rv h
  obtain ⟨l, xs, k, kk, y, rfl, rfl, hkk, hH, hz, hk, q⟩ := h
  cases rx
  obtain ⟨u, u', rfl, ru, ru'⟩ := rv.two
  obtain ⟨t, rfl⟩ := ru
  obtain ⟨z, its, n, r, hl, e⟩ := I.lstM hH
  have sl : sizeLine = 16777216 := by unfold sizeLine; rfl
  have hz2 : its.toArray.size <= sizeLine := by rw [List.size_toArray]; omega
  have hf : Builtin.List.listFitsIndex kk = true := by
    unfold Builtin.List.listFitsIndex
    simp
    omega
  have h0 : ¬(!Builtin.List.listFitsIndex kk) = true := by rw [hf]; decide
  have g := PySem.AutoSeq1.list_insert_list_int_val_1 l its.toArray n kk t u' h0 hz2
  refine call_meets F.slot_list_insert ⟨_, e, rfl⟩ F.entry_list_insert (F.args_list_insert_3 _ _ _) g ⟨e, ?_⟩
  refine ⟨.non, _, I.lset (its' := its.take k ++ u' :: its.drop k) hH e ?_ ((r.take k).append (.cons ru' (r.drop k))) ?_, rfl, q⟩
  · have e1 : (if kk < 0 then (kk + ((its.toArray.size : Nat) : Int)).toNat else min kk.toNat its.toArray.size) = k := by
      rw [if_neg (by omega), List.size_toArray]
      omega
    show (its.toArray.extract 0 (if kk < 0 then (kk + ((its.toArray.size : Nat) : Int)).toNat else min kk.toNat its.toArray.size)).push u' ++ its.toArray.extract (if kk < 0 then (kk + ((its.toArray.size : Nat) : Int)).toNat else min kk.toNat its.toArray.size) = _
    rw [e1]
    apply Array.toList_inj.mp
    simp [Array.toList_extract, List.extract, List.take_of_length_le]
  · rw [List.length_append, List.length_cons, List.length_take, List.length_drop]
    omega
theorem Z5 : jMt X "list.insert" Zj := ⟨Z4⟩
end
end L2
namespace L2
open PySem PySem.Spec PyProof.Rows Builtin Builtin.Str
section
variable {X : Cx}
theorem xk : ∀ {zs : List Str} {us : List Value}, Vals (zs.map V.str) us -> ∃ l : List (Str × Tok), us = strValues l /\ l.map (·.1) = zs
  | [], _, .nil => ⟨[], rfl, rfl⟩
  | z :: zs, _, .cons ⟨t, e⟩ r => by
    obtain ⟨l, rfl, h⟩ := xk r
    exact ⟨(z, t) :: l, by rw [e]; rfl, by rw [List.map_cons, h]⟩
theorem vN (sep : Str) : ∀ (zs : List Str) (a : Nat), zs.foldl (· + ·.length + sep.length) a = a + ((zs.map (·.length)).sum + zs.length * sep.length)
  | [], a => by simp
  | z :: zs, a => by
    rw [List.foldl_cons, vN sep zs]
    simp only [List.map_cons, List.sum_cons, List.length_cons, Nat.add_mul, Nat.one_mul]
    omega
def wide (sep : Str) (zs : List Str) : Nat := (zs.map (·.length)).sum + zs.length * sep.length
def VF (K : PySem.W.Frag) : V -> List V -> Hp -> VK -> Prop := fun x vs H Q => ∃ sep p zs, x = .str sep /\ vs = [.ref p] /\ SqL K H p (zs.map V.str) /\ wide sep zs <= sizeLine /\ Q (.str (Str.join sep zs)) H
theorem WQ : MtR X "str.join" (VF X.K) := by
  intro pins s σ H x vs v us Q I rx rv h
  obtain ⟨sep, p, zs, rfl, rfl, hq, hw, q⟩ := h
  obtain ⟨t, rfl⟩ := rx
  obtain ⟨u, rfl, ru⟩ := rv.one
  cases ru
  obtain ⟨its, r, pl, hz⟩ := I.list hq
  obtain ⟨l, rfl, hl⟩ := xk r
  have big : tooLong ((l.map (·.1)).toArray.foldl (· + ·.length + sep.length) 0) = false := by
    rw [hl, List.foldl_toArray, vN]
    unfold tooLong
    rw [decide_eq_false_iff_not]
    unfold wide at hw
    omega
  have hg := size_glued sep zs
  have hle : (glued sep zs).length <= sizeLine := by
    rw [hg]
    unfold wide at hw
    have : (zs.length - 1) * sep.length <= zs.length * sep.length := Nat.mul_le_mul_right _ (Nat.sub_le _ _)
    omega
  refine call_meets F.slot_str_join (typeIs_str _ _ _) F.entry_str_join (F.args_str_join_2 _ _) (meets_str_join_list sep t p l big) ⟨pl.isList, ?_⟩
  rw [<- StrLaws.glued_eq_join] at q
  match l, hl with
  | [], hl => exact ⟨by rw [hl]; exact hle, .str _, H, I.tok _, ⟨_, rfl⟩, by rw [hl]; exact q⟩
  | [(z, tz)], hl =>
    have e : glued sep zs = z := by
      rw [<- hl]
      rfl
    rw [e] at q
    exact ⟨.str z, H, I, ⟨tz, rfl⟩, q⟩
  | a :: b :: r, hl => exact ⟨by rw [hl]; exact hle, .str _, H, I.tok _, ⟨_, rfl⟩, by rw [hl]; exact q⟩
theorem WR : jMt X "str.join" (VF X.K) := ⟨WQ⟩
def rEqE (K : PySem.W.Frag) (neg : Bool) : R2 := fun x y H Q => ∃ p p' xs, x = .ref p /\ y = .ref p' /\ SqL K H p xs /\ SqL K H p' [] /\ Q (.bl (if neg then !xs.isEmpty else xs.isEmpty)) H
theorem JG (hu : X.A.units < cLine) : OpR X (compareOp .Eq) (rEqE X.K false) := by
  intro pins s σ H x y v u Q I rx ry h
  obtain ⟨p, p', xs, rfl, rfl, h1, h2, q⟩ := h
  cases rx
  cases ry
  obtain ⟨its, r, pl, _⟩ := I.list h1
  obtain ⟨its', r', pl', _⟩ := I.list h2
  cases r'
  cases r with
  | nil => exact SeqAt.eq_listAt (e := fun _ => true) pl.isList pl'.isList rfl hu (fun j h => absurd h (Nat.not_lt_zero _)) ⟨.bl true, H, I, rfl, q⟩
  | cons a b => exact SeqAt.eq_list_lengthsAt pl.isList pl'.isList rfl hu ⟨.bl false, H, I, rfl, q⟩
theorem JH (hu : X.A.units < cLine) : OpR X (compareOp .NotEq) (rEqE X.K true) := by
  intro pins s σ H x y v u Q I rx ry h
  obtain ⟨p, p', xs, rfl, rfl, h1, h2, q⟩ := h
  cases rx
  cases ry
  obtain ⟨its, r, pl, _⟩ := I.list h1
  obtain ⟨its', r', pl', _⟩ := I.list h2
  cases r'
  cases r with
  | nil => exact SeqAt.RcNeAt.lists (e := fun _ => true) pl.isList pl'.isList rfl hu (fun j h => absurd h (Nat.not_lt_zero _)) _ _ _ _ ⟨.bl false, H, I, rfl, q⟩
  | cons a b => exact SeqAt.RcNeAt.lists_lengths pl.isList pl'.isList rfl hu _ _ _ _ ⟨.bl true, H, I, rfl, q⟩
theorem JI {k : Nat} (hr : Room k X.A) : jOp X (compareOp .Eq) (rEqE X.K false) := ⟨JG hr.units0⟩
theorem wf {k : Nat} (hr : Room k X.A) : jOp X (compareOp .NotEq) (rEqE X.K true) := ⟨JH hr.units0⟩
end
end L2
namespace L2
open PySem PySem.Spec PyProof.Rows
def Sq (k : Bool) (h : Heap) (l : Addr) (xs : Array Value) : Prop := match k with
  | true => h.IsList l xs
  | false => h.IsTuple l xs
def SqI (k : Bool) (h : Heap) (j l : Addr) (n : Nat) : Prop := match k with
  | true => h.IsListIter j l n
  | false => h.IsTupleIter j l n
def SqN (k : Bool) : String := if k then "list_iterator" else "tuple_iterator"
theorem Sq.at {k : Bool} {h h' : Heap} {l : Addr} {xs : Array Value} (x : Sq k h l xs) (e : ∀ o, h.get? l = some o -> h'.get? l = some o) : Sq k h' l xs := by
  cases k <;> obtain ⟨o, ho, r⟩ := x <;> exact ⟨o, e _ ho, r⟩
theorem SqI.at {k : Bool} {h h' : Heap} {j l : Addr} {n : Nat} (x : SqI k h j l n) (e : ∀ o, h.get? j = some o -> h'.get? j = some o) : SqI k h' j l n := by
  cases k <;> obtain ⟨o, ho, r⟩ := x <;> exact ⟨o, e _ ho, r⟩
theorem SqI.ex {k : Bool} {h : Heap} {j l : Addr} {n : Nat} (x : SqI k h j l n) : ∃ o, h.get? j = some o /\ o.cls = .type (SqN k) /\ o.data = .fields #[.ref l, .int n 0] := by
  cases k <;> exact x
theorem SqI.of {k : Bool} {h : Heap} {j l : Addr} {n : Nat} (x : ∃ o, h.get? j = some o /\ o.cls = .type (SqN k) /\ o.data = .fields #[.ref l, .int n 0]) : SqI k h j l n := by
  cases k <;> exact x
section
variable {P : Program} {w : World} {A : Around} {E : Value -> Shared -> Prop} {s : Shared}
theorem Y3 {j l : Addr} {n : Nat} {xs : Array Value} {x : Value} {Q : Value -> Shared -> Prop} (hj : s.heap.IsTupleIter j l n) (hl : s.heap.IsTuple l xs) (hx : xs[n]? = some x)
    (q : ∀ h', h'.IsTupleIter j l (n + 1) -> Heap.SameBut j s.heap h' -> Q x { s with heap := h' }) : wpAny (model P w) A (Builtin.SmallTypes.nextOf (.ref j)) Q E s := by
  have ⟨oj, hoj, cj, dj⟩ := hj
  have ⟨ol, hol, _, m, dl⟩ := hl
  unfold Builtin.SmallTypes.nextOf
  refine wpAny_bind (wpAny_callSpecial?_slot hj.typeIs F.slot_tuple_iterator_next (wpAny_call_entry F.slot_tuple_iterator_next hj.typeIs F.entry_tuple_iterator_next ?_ (F.args_tuple_iterator_next_1 (.ref j))))
  refine wpAny_bind (m := field (.ref j) 0) (wpAny_field hoj dj (x := .ref l) rfl ?_)
  have nn : ¬ ((Value.ref l == Value.none) = true) := Bool.false_ne_true
  show wpAny _ _ (ite ((Value.ref l == Value.none) = true) _ _) _ _ _
  rw [if_neg nn]
  refine wpAny_bind (m := field (.ref j) 1) (wpAny_field hoj dj (x := .int n 0) rfl ?_)
  refine wpAny_bind (m := seqItems? (.ref l)) (wpAny_seqItems hol dl ?_)
  simp only [Int.toNat_natCast, hx]
  refine wpAny_bind (wpAny_setField hoj dj (by simp) (wpAny_pure ⟨x, rfl, wpAny_pure (q _ ⟨_, Heap.get?_update_self _ hoj (Obj.isFreed_of_fields (Obj.data_mapFields dj _)), (Obj.cls_mapFields ..).trans cj, ?_⟩ (Heap.SameBut.update ..))⟩))
  rw [Obj.data_mapFields dj]
  simp [rawInt]
theorem WS {j l : Addr} {n : Nat} {xs : Array Value} {Q : Value -> Shared -> Prop} (hA : A.handled = none) (hj : s.heap.IsTupleIter j l n) (hl : s.heap.IsTuple l xs) (hx : xs[n]? = none)
    (q : ∀ h' e, Heap.ExtBut j s.heap h' -> (∃ o, h'.get? e = some o /\ o.cls = .type "StopIteration") -> E (.ref e) { s with heap := h' }) : wpAny (model P w) A (Builtin.SmallTypes.nextOf (.ref j)) Q E s := by
  have ⟨oj, hoj, cj, dj⟩ := hj
  have ⟨ol, hol, _, m, dl⟩ := hl
  unfold Builtin.SmallTypes.nextOf
  refine wpAny_bind (wpAny_callSpecial?_slot hj.typeIs F.slot_tuple_iterator_next (wpAny_call_entry F.slot_tuple_iterator_next hj.typeIs F.entry_tuple_iterator_next ?_ (F.args_tuple_iterator_next_1 (.ref j))))
  refine wpAny_bind (m := field (.ref j) 0) (wpAny_field hoj dj (x := .ref l) rfl ?_)
  have nn : ¬ ((Value.ref l == Value.none) = true) := Bool.false_ne_true
  show wpAny _ _ (ite ((Value.ref l == Value.none) = true) _ _) _ _ _
  rw [if_neg nn]
  refine wpAny_bind (m := field (.ref j) 1) (wpAny_field hoj dj (x := .int n 0) rfl ?_)
  refine wpAny_bind (m := seqItems? (.ref l)) (wpAny_seqItems hol dl ?_)
  simp only [Int.toNat_natCast, hx]
  refine wpAny_bind (wpAny_rule (wpAny_bind (wpAny_setField hoj dj (by simp) ?_)))
  refine wpAny_bind (m := newExc (.type "StopIteration") []) ?_
  unfold newExc newTuple
  refine wpAny_bind (wpAny_newObj_type (wpAny_bind (m := firstArgMember _ _) (wpAny_of_eq (a := Value.none) (by first | rfl | (simp only [firstArgMember]; rfl)) (wpAny_newObj_type ?_ (by size_fits)))) (by size_fits))
  unfold raiseNew
  refine wpAny_bind (wpAny_handled ?_)
  rw [show A.in1.handled = none from hA]
  exact wpAny_bind (wpAny_pure (wpAny_throw (q _ _ (((Heap.SameBut.update ..).extBut.push _).push _) ⟨_, Heap.get?_push_size _ rfl, rfl⟩)))
theorem yZ {k : Bool} {j l : Addr} {n : Nat} {xs : Array Value} {x : Value} {Q : Value -> Shared -> Prop} (hj : SqI k s.heap j l n) (hl : Sq k s.heap l xs) (hx : xs[n]? = some x)
    (q : ∀ h', SqI k h' j l (n + 1) -> Heap.SameBut j s.heap h' -> Q x { s with heap := h' }) : wpAny (model P w) A (Builtin.SmallTypes.nextOf (.ref j)) Q E s := by
  cases k with
  | true => exact wpAny_nextOf_list_item hj hl hx q
  | false => exact Y3 hj hl hx q
theorem vi {k : Bool} {j l : Addr} {n : Nat} {xs : Array Value} {Q : Value -> Shared -> Prop} (hA : A.handled = none) (hj : SqI k s.heap j l n) (hl : Sq k s.heap l xs) (hx : xs[n]? = none)
    (q : ∀ h' e, Heap.ExtBut j s.heap h' -> (∃ o, h'.get? e = some o /\ o.cls = .type "StopIteration") -> E (.ref e) { s with heap := h' }) : wpAny (model P w) A (Builtin.SmallTypes.nextOf (.ref j)) Q E s := by
  cases k with
  | true => exact wpAny_nextOf_list_end hA hj hl hx q
  | false => exact WS hA hj hl hx q
theorem Zk {k : Bool} {l : Addr} {xs : Array Value} {Q : Value -> Shared -> Prop} (hl : Sq k s.heap l xs) (q : Q (.ref s.heap.objs.size) { s with heap := s.heap.push { cls := .type (SqN k), data := .fields #[.ref l, .int 0 0] } }) :
    wpAny (model P w) A (pyIter (.ref l)) Q E s := by
  cases k with
  | true => exact wpAny_pyIter_list hl q
  | false => exact wpAny_pyIter_tuple hl q
end
abbrev za (k : Bool) (h : Heap) (l : Addr) : Heap := h.push { cls := .type (SqN k), data := .fields #[.ref l, .int 0 0] }
abbrev zb (k m : Bool) (h : Heap) (l r : Addr) : Heap := za m (za k h l) r
abbrev zc (k m : Bool) (h : Heap) (l r : Addr) : Heap := (zb k m h l r).push { cls := .type "tuple", data := .seq #[.ref h.objs.size, .ref (za k h l).objs.size] }
abbrev zd (k m : Bool) (h : Heap) (l r : Addr) : Heap := (zc k m h l r).push { cls := .type "tuple", data := .seq #[.none, .none] }
abbrev ze (k m : Bool) (h : Heap) (l r : Addr) : Heap := (zd k m h l r).push { cls := .type "zip", data := .fields #[.none, .bool false, .bool false, .ref (zb k m h l r).objs.size, .ref (zc k m h l r).objs.size] }
theorem Y4 (k m : Bool) (l r : Addr) (xs ys : Array Value) : Meets (Builtin.«zip.__new__» ⟨[.type "zip", .ref l, .ref r], []⟩)
    (fun _ R s => Sq k s.heap l xs /\ Sq m s.heap r ys /\ R (.ok (.ret (.ref (zd k m s.heap l r).objs.size))) { s with heap := ze k m s.heap l r }) :=
  .of_wp fun prog w A R s h => by
    obtain ⟨hp, g, d, tk, os⟩ := s
    obtain ⟨h1, h2, h⟩ := h
    have hs := sub_zip
    have q1 : Sq k (Shared.heap ⟨hp, g, d, tk, os⟩) l xs := h1
    have q2 : Sq m (Shared.heap ⟨za k hp l, g, d, tk, os⟩) r ys := h2.at fun o e => Heap.get?_push_of_some _ e
    wp_walk using Zk q1, Zk q2
    exact ⟨_, rfl, h⟩
structure ZS (k m : Bool) (h : Heap) (B l r : Nat) (n : Nat) (f g : Value) : Prop where
  z : h.get? (B + 4) = some { cls := .type "zip", data := .fields #[f, g, .bool false, .ref (B + 2), .ref (B + 3)] }
  ti : IsPair h (B + 2) (.ref B) (.ref (B + 1))
  to : ∃ a b, IsPair h (B + 3) a b
  i : SqI k h B l n
  j : SqI m h (B + 1) r n
theorem ZS.at {k m : Bool} {h h' : Heap} {B l r : Nat} {n : Nat} {f g : Value} (x : ZS k m h B l r n f g) (e : ∀ (b : Nat) o, B <= b -> b <= B + 4 -> h.get? b = some o -> h'.get? b = some o) : ZS k m h' B l r n f g where
  z := e _ _ (by omega) (by omega) x.z
  ti := e _ _ (by omega) (by omega) x.ti
  to := let ⟨a, b, y⟩ := x.to; ⟨a, b, e _ _ (by omega) (by omega) y⟩
  i := x.i.at fun o => e _ o (by omega) (by omega)
  j := x.j.at fun o => e _ o (by omega) (by omega)
def KeptZ (B : Nat) (h h' : Heap) : Prop := ∀ (c : Nat) o, (c < B \/ B + 4 < c) -> h.get? c = some o -> h'.get? c = some o
section
variable {P : Program} {w : World} {A : Around} {E : Value -> Shared -> Prop} {s : Shared} {k m : Bool} {B l r : Nat} {n : Nat} {xs ys : Array Value} {x y f g : Value}
theorem Y5 {Q : Value -> Shared -> Prop} (hl : Sq k s.heap l xs) (hr : Sq m s.heap r ys)
    (q : ∀ h', ZS k m h' s.heap.objs.size l r 0 .none (.bool false) -> h'.objs.size = s.heap.objs.size + 5 -> (∀ c o, s.heap.get? c = some o -> h'.get? c = some o) -> Q (.ref (s.heap.objs.size + 4)) { s with heap := h' }) :
    wpAny (model P w) A (call (.type "zip") [.ref l, .ref r]) Q E s := by
  apply callType_new F.called_zip (by decide) (F.typeCall_zip_2 _ _) (F.newCall_zip_2 _ _) (fun obj => F.args_object_init_3 obj _ _) F.entry_zip_new (Y4 k m l r xs ys)
  refine ⟨hl, hr, ?_⟩
  have s1 : (za k s.heap l).objs.size = s.heap.objs.size + 1 := Heap.size_push ..
  have s2 : (zb k m s.heap l r).objs.size = s.heap.objs.size + 2 := by rw [Heap.size_push, s1]
  have s3 : (zc k m s.heap l r).objs.size = s.heap.objs.size + 3 := by rw [Heap.size_push, s2]
  have s4 : (zd k m s.heap l r).objs.size = s.heap.objs.size + 4 := by rw [Heap.size_push, s3]
  have s5 : (ze k m s.heap l r).objs.size = s.heap.objs.size + 5 := by rw [Heap.size_push, s4]
  have up : ∀ {c o}, (zd k m s.heap l r).get? c = some o -> (ze k m s.heap l r).get? c = some o := fun e => Heap.get?_push_of_some _ e
  have p5 : (ze k m s.heap l r).get? (zd k m s.heap l r).objs.size = some _ := Heap.get?_push_size _ rfl
  have p4 : (ze k m s.heap l r).get? (zc k m s.heap l r).objs.size = some _ := up (Heap.get?_push_size _ rfl)
  have p3 : (ze k m s.heap l r).get? (zb k m s.heap l r).objs.size = some _ := up (Heap.get?_push_of_some _ (Heap.get?_push_size _ rfl))
  have p2 : (ze k m s.heap l r).get? (za k s.heap l).objs.size = some _ := up (Heap.get?_push_of_some _ (Heap.get?_push_of_some _ (Heap.get?_push_size _ rfl)))
  have p1 : (ze k m s.heap l r).get? s.heap.objs.size = some _ := up (Heap.get?_push_of_some _ (Heap.get?_push_of_some _ (Heap.get?_push_of_some _ (Heap.get?_push_size _ rfl))))
  rw [s4, s2, s3] at p5
  rw [s3] at p4
  rw [s2, s1] at p3
  rw [s1] at p2
  show _ /\ _
  rw [s4]
  exact ⟨⟨_, p5, rfl⟩, q _ ⟨p5, p3, ⟨_, _, p4⟩, .of ⟨_, p1, rfl, rfl⟩, .of ⟨_, p2, rfl, rfl⟩⟩ s5 fun c o e => up (Heap.get?_push_of_some _ (Heap.get?_push_of_some _ (Heap.get?_push_of_some _ (Heap.get?_push_of_some _ e))))⟩
theorem Y6 {Q : Value -> Shared -> Prop} (Z : ZS k m s.heap B l r n .none g) (hl : Sq k s.heap l xs) (hr : Sq m s.heap r ys) (ll : l < B) (rl : r < B) (hx : xs[n]? = some x) (hy : ys[n]? = some y)
    (q : ∀ h', ZS k m h' B l r (n + 1) (rawInt s.heap.objs.size) (.bool false) -> IsPair h' s.heap.objs.size x y -> h'.objs.size = s.heap.objs.size + 1 -> KeptZ B s.heap h' -> Q (.ref s.heap.objs.size) { s with heap := h' }) :
    wpAny (model P w) A (Builtin.«zip.__next__» ⟨[.ref (B + 4)], []⟩) (fun fin s' => ∃ v, fin = .done (.ret v) /\ Q v s') E s := by
  obtain ⟨a, b, hto⟩ := Z.to
  refine wpAny_bind (m := field (.ref (B + 4)) 2) (wpAny_field Z.z rfl (x := .bool false) rfl ?_)
  refine wpAny_bind (m := field (.ref (B + 4)) 3) (wpAny_field Z.z rfl (x := .ref (B + 2)) rfl (wpAny_bind (wpAny_seqItems Z.ti rfl ?_)))
  refine wpAny_bind (m := Builtin.SmallTypes.ownedTupleIsFree (.ref (B + 4))) ?_
  unfold Builtin.SmallTypes.ownedTupleIsFree
  refine wpAny_bind (wpAny_field Z.z rfl (x := .none) rfl (wpAny_pure ?_))
  rw [if_pos rfl]
  refine wpAny_bind (wpAny_rule (wpAny_bind (wpAny_field Z.z rfl (x := .ref (B + 3)) rfl (wpAny_bind (wpAny_setField_rec Z.z (by simp) fun h1 z1 u1 => wpAny_bind ?_)))))
  replace z1 : h1.get? (B + 4) = some { cls := .type "zip", data := .fields #[.ellipsis, g, .bool false, .ref (B + 2), .ref (B + 3)] } := z1
  have k1 : ∀ (c : Nat) o, c ≠ B + 4 -> s.heap.get? c = some o -> h1.get? c = some o := fun c o n e => (u1.2 c n).trans e
  simp only [List.zipIdx_cons, List.zipIdx_nil, List.forIn_cons, List.forIn_nil]
  refine wpAny_bind (wpAny_bind (wpAny_onRaise (wpAny_bind (m := Builtin.SmallTypes.nextOf (.ref B)) ?_)))
  refine yZ (Z.i.at fun o => k1 _ o (by omega)) (hl.at fun o => k1 _ o (by omega)) hx fun h2 i2 u2 => wpAny_pure ?_
  have k2 : ∀ (c : Nat) o, c ≠ B -> h1.get? c = some o -> h2.get? c = some o := fun c o n e => (u2.2 c n).trans e
  have to2 : IsPair h2 (B + 3) a b := k2 _ _ (by omega) (k1 _ _ (by omega) hto)
  refine wpAny_bind (wpAny_seqItems to2 rfl (wpAny_bind (wpAny_updateSeq_pair to2 fun h3 to3 u3 => ?_)))
  replace to3 : IsPair h3 (B + 3) x b := to3
  have k3 : ∀ (c : Nat) o, c ≠ B + 3 -> h2.get? c = some o -> h3.get? c = some o := fun c o n e => (u3.2 c n).trans e
  refine wpAny_bind (wpAny_letGo (wpAny_pure (wpAny_bind (wpAny_bind (wpAny_onRaise (wpAny_bind (m := Builtin.SmallTypes.nextOf (.ref (B + 1))) ?_))))))
  refine yZ (Z.j.at fun o e => k3 _ o (by omega) (k2 _ o (by omega) (k1 _ o (by omega) e))) (hr.at fun o e => k3 _ o (by omega) (k2 _ o (by omega) (k1 _ o (by omega) e))) hy fun h4 i4 u4 => wpAny_pure ?_
  have k4 : ∀ (c : Nat) o, c ≠ B + 1 -> h3.get? c = some o -> h4.get? c = some o := fun c o n e => (u4.2 c n).trans e
  have to4 : IsPair h4 (B + 3) x b := k4 _ _ (by omega) to3
  refine wpAny_bind (wpAny_seqItems to4 rfl (wpAny_bind (wpAny_updateSeq_pair to4 fun h5 to5 u5 => ?_)))
  replace to5 : IsPair h5 (B + 3) x y := to5
  have k5 : ∀ (c : Nat) o, c ≠ B + 3 -> h4.get? c = some o -> h5.get? c = some o := fun c o n e => (u5.2 c n).trans e
  refine wpAny_bind (wpAny_letGo (wpAny_pure (wpAny_pure (wpAny_bind (wpAny_seqItems to5 rfl (wpAny_bind (wpAny_newTuple ?_)))))))
  have sz : h5.objs.size = s.heap.objs.size := by rw [u5.1, u4.1, u3.1, u2.1, u1.1]
  have z5 : h5.get? (B + 4) = some { cls := .type "zip", data := .fields #[.ellipsis, g, .bool false, .ref (B + 2), .ref (B + 3)] } := k5 _ _ (by omega) (k4 _ _ (by omega) (k3 _ _ (by omega) (k2 _ _ (by omega) z1)))
  have lt4 : B + 4 < h5.objs.size := Heap.lt_size z5
  refine wpAny_bind (m := Builtin.SmallTypes.ownedTupleHandOut (.ref (B + 4)) (.ref h5.objs.size)) ?_
  unfold Builtin.SmallTypes.ownedTupleHandOut
  refine wpAny_bind (wpAny_setField_rec (Heap.get?_push_of_some { cls := .type "tuple", data := .seq #[x, y] } z5) (by simp) fun h7 z7 u7 => ?_)
  refine wpAny_setField_rec z7 (by simp) fun h8 z8 u8 => wpAny_pure ⟨.ref h5.objs.size, rfl, ?_⟩
  have k8 : ∀ (c : Nat) o, c ≠ B + 4 -> h5.get? c = some o -> h8.get? c = some o := fun c o n e => (u8.2 c n).trans ((u7.2 c n).trans (Heap.get?_push_of_some _ e))
  have p8 : IsPair h8 h5.objs.size x y := (u8.2 _ (Nat.ne_of_gt lt4)).trans ((u7.2 _ (Nat.ne_of_gt lt4)).trans (Heap.get?_push_size _ rfl))
  have s8 : h8.objs.size = h5.objs.size + 1 := by rw [u8.1, u7.1, Heap.size_push]
  rw [sz] at p8 s8 ⊢
  refine q h8 ⟨?_, k8 _ _ (by omega) (k5 _ _ (by omega) (k4 _ _ (by omega) (k3 _ _ (by omega) (k2 _ _ (by omega) (k1 _ _ (by omega) Z.ti))))), ⟨x, y, k8 _ _ (by omega) to5⟩,
    i2.at fun o e => k8 _ _ (by omega) (k5 _ _ (by omega) (k4 _ _ (by omega) (k3 _ _ (by omega) e))), i4.at fun o e => k8 _ _ (by omega) (k5 _ _ (by omega) e)⟩ p8 s8
    fun c o hc e => k8 _ _ (by omega) (k5 _ _ (by omega) (k4 _ _ (by omega) (k3 _ _ (by omega) (k2 _ _ (by omega) (k1 _ _ (by omega) e)))))
  rw [<- sz]
  exact z8
theorem Y7 {a : Addr} {o : Obj} {Q : Option Obj -> Shared -> Prop} (ho : s.heap.get? a = some o) (h : Q (some o) s) : wpAny (model P w) A (loadIfAlive a) Q E s := fun Γ p _ => by
  unfold loadIfAlive
  rw [Sem.wp_loadIfAlive, ho]
  simpa using h
theorem vO {Q : Bool -> Shared -> Prop} {T : Nat} {ot : Obj} {c : Bool} (hz : s.heap.get? (B + 4) = some { cls := .type "zip", data := .fields #[rawInt T, .bool c, .bool false, .ref (B + 2), .ref (B + 3)] }) (hT : s.heap.get? T = some ot)
    (q : ∀ h1, h1.get? (B + 4) = some { cls := .type "zip", data := .fields #[rawInt T, .bool true, .bool false, .ref (B + 2), .ref (B + 3)] } -> h1.objs.size = s.heap.objs.size -> (∀ (d : Nat) o, d ≠ B + 4 -> s.heap.get? d = some o -> h1.get? d = some o) -> Q false { s with heap := h1 }) :
    wpAny (model P w) A (Builtin.SmallTypes.ownedTupleIsFree (.ref (B + 4))) Q E s := by
  unfold Builtin.SmallTypes.ownedTupleIsFree
  refine wpAny_bind (wpAny_field hz rfl (x := rawInt T) rfl ?_)
  refine wpAny_bind (m := loadIfAlive ((T : Int).toNat)) (Y7 (o := ot) (by rw [Int.toNat_natCast]; exact hT) ?_)
  rw [if_neg (by simp)]
  refine wpAny_bind (wpAny_field hz rfl (x := .bool c) rfl ?_)
  cases c with
  | true =>
    rw [if_neg (by decide)]
    exact wpAny_pure (q _ hz rfl fun d o _ e => e)
  | false =>
    rw [if_pos (by decide)]
    exact wpAny_bind (wpAny_setField_rec hz (by simp) fun h1 z1 u1 => wpAny_pure (q h1 z1 u1.1 fun d o n e => (u1.2 d n).trans e))
theorem Y8 {Q : Value -> Shared -> Prop} {T : Nat} {ot : Obj} {c : Bool} (Z : ZS k m s.heap B l r n (rawInt T) (.bool c)) (hT : s.heap.get? T = some ot) (hl : Sq k s.heap l xs) (hr : Sq m s.heap r ys) (ll : l < B) (rl : r < B) (hx : xs[n]? = some x) (hy : ys[n]? = some y)
    (q : ∀ h', ZS k m h' B l r (n + 1) (rawInt T) (.bool true) -> IsPair h' s.heap.objs.size x y -> h'.objs.size = s.heap.objs.size + 1 -> KeptZ B s.heap h' -> Q (.ref s.heap.objs.size) { s with heap := h' }) :
    wpAny (model P w) A (Builtin.«zip.__next__» ⟨[.ref (B + 4)], []⟩) (fun fin s' => ∃ v, fin = .done (.ret v) /\ Q v s') E s := by
  obtain ⟨a, b, hto⟩ := Z.to
  refine wpAny_bind (m := field (.ref (B + 4)) 2) (wpAny_field Z.z rfl (x := .bool false) rfl ?_)
  refine wpAny_bind (m := field (.ref (B + 4)) 3) (wpAny_field Z.z rfl (x := .ref (B + 2)) rfl (wpAny_bind (wpAny_seqItems Z.ti rfl ?_)))
  refine wpAny_bind (m := Builtin.SmallTypes.ownedTupleIsFree (.ref (B + 4))) (vO Z.z hT fun h1 z1 s1 k1 => ?_)
  rw [if_neg Bool.false_ne_true]
  refine wpAny_bind ?_
  rw [<- Array.forIn_toList]
  simp only [List.forIn_cons, List.forIn_nil]
  refine wpAny_bind (wpAny_bind (wpAny_holding (wpAny_bind (m := Builtin.SmallTypes.nextOf (.ref B)) ?_)))
  refine yZ (Z.i.at fun o => k1 _ o (by omega)) (hl.at fun o => k1 _ o (by omega)) hx fun h2 i2 u2 => wpAny_pure (wpAny_pure ?_)
  have k2 : ∀ (c : Nat) o, c ≠ B -> h1.get? c = some o -> h2.get? c = some o := fun c o n e => (u2.2 c n).trans e
  refine wpAny_bind (wpAny_bind (wpAny_holding (wpAny_bind (m := Builtin.SmallTypes.nextOf (.ref (B + 1))) ?_)))
  refine yZ (Z.j.at fun o e => k2 _ o (by omega) (k1 _ o (by omega) e)) (hr.at fun o e => k2 _ o (by omega) (k1 _ o (by omega) e)) hy fun h4 i4 u4 => wpAny_pure (wpAny_pure (wpAny_pure ?_))
  have k4 : ∀ (c : Nat) o, c ≠ B + 1 -> h2.get? c = some o -> h4.get? c = some o := fun c o n e => (u4.2 c n).trans e
  have sz : h4.objs.size = s.heap.objs.size := by rw [u4.1, u2.1]; exact s1
  refine wpAny_bind (wpAny_newTuple (hsz := by show 2 <= sizeLine; decide) (wpAny_pure ⟨.ref h4.objs.size, rfl, ?_⟩))
  have p5 : IsPair (h4.push { cls := .type "tuple", data := .seq #[x, y] }) h4.objs.size x y := Heap.get?_push_size _ rfl
  have s5 : (h4.push { cls := .type "tuple", data := .seq #[x, y] }).objs.size = h4.objs.size + 1 := Heap.size_push ..
  rw [sz] at p5 s5 ⊢
  have k5 : ∀ (c : Nat) o, h4.get? c = some o -> (h4.push { cls := .type "tuple", data := .seq #[x, y] }).get? c = some o := fun c o e => Heap.get?_push_of_some _ e
  exact q _ ⟨k5 _ _ (k4 _ _ (by omega) (k2 _ _ (by omega) z1)), k5 _ _ (k4 _ _ (by omega) (k2 _ _ (by omega) (k1 _ _ (by omega) Z.ti))), ⟨a, b, k5 _ _ (k4 _ _ (by omega) (k2 _ _ (by omega) (k1 _ _ (by omega) hto)))⟩,
    i2.at fun o e => k5 _ _ (k4 _ _ (by omega) e), i4.at fun o e => k5 _ _ e⟩ p5 s5 fun c o hc e => k5 _ _ (k4 _ _ (by omega) (k2 _ _ (by omega) (k1 _ _ (by omega) e)))
theorem WT {Q : PySem.Fin -> Shared -> Prop} (hA : A.handled = none) (Z : ZS k m s.heap B l r n .none g) (hl : Sq k s.heap l xs) (hr : Sq m s.heap r ys) (ll : l < B) (rl : r < B) (hx : xs[n]? = none \/ ys[n]? = none)
    (q : ∀ h' e, KeptZ B s.heap h' -> (∃ o, h'.get? e = some o /\ o.cls = .type "StopIteration") -> E (.ref e) { s with heap := h' }) : wpAny (model P w) A (Builtin.«zip.__next__» ⟨[.ref (B + 4)], []⟩) Q E s := by
  obtain ⟨a, b, hto⟩ := Z.to
  refine wpAny_bind (m := field (.ref (B + 4)) 2) (wpAny_field Z.z rfl (x := .bool false) rfl ?_)
  refine wpAny_bind (m := field (.ref (B + 4)) 3) (wpAny_field Z.z rfl (x := .ref (B + 2)) rfl (wpAny_bind (wpAny_seqItems Z.ti rfl ?_)))
  refine wpAny_bind (m := Builtin.SmallTypes.ownedTupleIsFree (.ref (B + 4))) ?_
  unfold Builtin.SmallTypes.ownedTupleIsFree
  refine wpAny_bind (wpAny_field Z.z rfl (x := .none) rfl (wpAny_pure ?_))
  rw [if_pos rfl]
  refine wpAny_bind (wpAny_rule (wpAny_bind (wpAny_field Z.z rfl (x := .ref (B + 3)) rfl (wpAny_bind (wpAny_setField_rec Z.z (by simp) fun h1 z1 u1 => wpAny_bind ?_)))))
  replace z1 : h1.get? (B + 4) = some { cls := .type "zip", data := .fields #[.ellipsis, g, .bool false, .ref (B + 2), .ref (B + 3)] } := z1
  have k1 : ∀ (c : Nat) o, c ≠ B + 4 -> s.heap.get? c = some o -> h1.get? c = some o := fun c o n e => (u1.2 c n).trans e
  have nz : ∀ {h : Heap} {e : Nat} {v : Value} {o : Obj}, h.get? (B + 4) = some { cls := .type "zip", data := .fields #[v, g, .bool false, .ref (B + 2), .ref (B + 3)] } -> h.get? e = some o -> o.cls = .type "StopIteration" -> e ≠ B + 4 := fun h1 h2 h3 e => by
    rw [e, h1] at h2
    cases h2
    simp at h3
  simp only [List.zipIdx_cons, List.zipIdx_nil, List.forIn_cons, List.forIn_nil]
  refine wpAny_bind (wpAny_bind (wpAny_onRaise (wpAny_bind (m := Builtin.SmallTypes.nextOf (.ref B)) ?_)))
  cases e1 : xs[n]? with
  | none =>
    refine vi hA (Z.i.at fun o => k1 _ o (by omega)) (hl.at fun o => k1 _ o (by omega)) e1 fun h2 e u2 he => ?_
    obtain ⟨oe, he, ce⟩ := he
    have k2 : ∀ (c : Nat) o, c ≠ B -> h1.get? c = some o -> h2.get? c = some o := fun c o n e => u2 c o n e
    have z2 := k2 _ _ (show B + 4 ≠ B by omega) z1
    refine wpAny_setField_rec z2 (by simp) fun h3 z3 u3 => q h3 e (fun c o hc x => (u3.2 c (show (c : Nat) ≠ B + 4 by omega)).trans (k2 _ _ (by omega) (k1 _ _ (by omega) x))) ⟨oe, (u3.2 e (nz z2 he ce)).trans he, ce⟩
  | some x =>
    have hy : ys[n]? = none := hx.resolve_left (by rw [e1]; simp)
    refine yZ (Z.i.at fun o => k1 _ o (by omega)) (hl.at fun o => k1 _ o (by omega)) e1 fun h2 i2 u2 => wpAny_pure ?_
    have k2 : ∀ (c : Nat) o, c ≠ B -> h1.get? c = some o -> h2.get? c = some o := fun c o n e => (u2.2 c n).trans e
    have to2 : IsPair h2 (B + 3) a b := k2 _ _ (by omega) (k1 _ _ (by omega) hto)
    refine wpAny_bind (wpAny_seqItems to2 rfl (wpAny_bind (wpAny_updateSeq_pair to2 fun h3 to3 u3 => ?_)))
    have k3 : ∀ (c : Nat) o, c ≠ B + 3 -> h2.get? c = some o -> h3.get? c = some o := fun c o n e => (u3.2 c n).trans e
    refine wpAny_bind (wpAny_letGo (wpAny_pure (wpAny_bind (wpAny_bind (wpAny_onRaise (wpAny_bind (m := Builtin.SmallTypes.nextOf (.ref (B + 1))) ?_))))))
    refine vi hA (Z.j.at fun o e => k3 _ o (by omega) (k2 _ o (by omega) (k1 _ o (by omega) e))) (hr.at fun o e => k3 _ o (by omega) (k2 _ o (by omega) (k1 _ o (by omega) e))) hy fun h4 e u4 he => ?_
    obtain ⟨oe, he, ce⟩ := he
    have k4 : ∀ (c : Nat) o, c ≠ B + 1 -> h3.get? c = some o -> h4.get? c = some o := fun c o n e => u4 c o n e
    have z4 := k4 _ _ (show B + 4 ≠ B + 1 by omega) (k3 _ _ (by omega) (k2 _ _ (by omega) z1))
    refine wpAny_setField_rec z4 (by simp) fun h5 z5 u5 => q h5 e (fun c o hc x => (u5.2 c (show (c : Nat) ≠ B + 4 by omega)).trans (k4 _ _ (by omega) (k3 _ _ (by omega) (k2 _ _ (by omega) (k1 _ _ (by omega) x))))) ⟨oe, (u5.2 e (nz z4 he ce)).trans he, ce⟩
theorem vj {Q : PySem.Fin -> Shared -> Prop} {T : Nat} {ot : Obj} {c : Bool} (hA : A.handled = none) (Z : ZS k m s.heap B l r n (rawInt T) (.bool c)) (hT : s.heap.get? T = some ot) (hl : Sq k s.heap l xs) (hr : Sq m s.heap r ys) (ll : l < B) (rl : r < B) (hx : xs[n]? = none \/ ys[n]? = none)
    (q : ∀ h' e, KeptZ B s.heap h' -> (∃ o, h'.get? e = some o /\ o.cls = .type "StopIteration") -> E (.ref e) { s with heap := h' }) : wpAny (model P w) A (Builtin.«zip.__next__» ⟨[.ref (B + 4)], []⟩) Q E s := by
  refine wpAny_bind (m := field (.ref (B + 4)) 2) (wpAny_field Z.z rfl (x := .bool false) rfl ?_)
  refine wpAny_bind (m := field (.ref (B + 4)) 3) (wpAny_field Z.z rfl (x := .ref (B + 2)) rfl (wpAny_bind (wpAny_seqItems Z.ti rfl ?_)))
  refine wpAny_bind (m := Builtin.SmallTypes.ownedTupleIsFree (.ref (B + 4))) (vO Z.z hT fun h1 z1 s1 k1 => ?_)
  rw [if_neg Bool.false_ne_true]
  refine wpAny_bind ?_
  rw [<- Array.forIn_toList]
  simp only [List.forIn_cons, List.forIn_nil]
  refine wpAny_bind (wpAny_bind (wpAny_holding (wpAny_bind (m := Builtin.SmallTypes.nextOf (.ref B)) ?_)))
  cases e1 : xs[n]? with
  | none => exact vi hA (Z.i.at fun o => k1 _ o (by omega)) (hl.at fun o => k1 _ o (by omega)) e1 fun h2 e u2 he => q h2 e (fun c o hc x => u2 _ _ (show (c : Nat) ≠ B by omega) (k1 _ _ (by omega) x)) he
  | some x =>
    have hy : ys[n]? = none := hx.resolve_left (by rw [e1]; simp)
    refine yZ (Z.i.at fun o => k1 _ o (by omega)) (hl.at fun o => k1 _ o (by omega)) e1 fun h2 i2 u2 => wpAny_pure (wpAny_pure ?_)
    have k2 : ∀ (c : Nat) o, c ≠ B -> h1.get? c = some o -> h2.get? c = some o := fun c o n e => (u2.2 c n).trans e
    refine wpAny_bind (wpAny_bind (wpAny_holding (wpAny_bind (m := Builtin.SmallTypes.nextOf (.ref (B + 1))) ?_)))
    exact vi hA (Z.j.at fun o e => k2 _ o (by omega) (k1 _ o (by omega) e)) (hr.at fun o e => k2 _ o (by omega) (k1 _ o (by omega) e)) hy fun h4 e u4 he => q h4 e (fun c o hc x => u4 _ _ (show (c : Nat) ≠ B + 1 by omega) (k2 _ _ (by omega) (k1 _ _ (by omega) x))) he
end
end L2
namespace L2
open PySem PySem.Spec PyProof.Rows
def ZF (B : Nat) (h : Heap) (f g : Value) : Prop := f = .none \/ ∃ (T : Nat) (c : Bool) (o : Obj), f = rawInt T /\ g = .bool c /\ h.get? T = some o /\ B + 5 < T
section
variable {P : Program} {w : World} {A : Around} {E : Value -> Shared -> Prop} {s : Shared} {k m : Bool} {B l r : Nat} {n : Nat} {xs ys : Array Value} {x y f g : Value}
theorem Y9 {Q : Option Value -> Shared -> Prop} (Z : ZS k m s.heap B l r n f g) (hf : ZF B s.heap f g) (hl : Sq k s.heap l xs) (hr : Sq m s.heap r ys) (ll : l < B) (rl : r < B) (hx : xs[n]? = some x) (hy : ys[n]? = some y)
    (q : ∀ h' (T : Nat) (c : Bool), ZS k m h' B l r (n + 1) (rawInt T) (.bool c) -> (T = s.heap.objs.size \/ B + 5 < T /\ ∃ o, s.heap.get? T = some o) -> IsPair h' s.heap.objs.size x y -> h'.objs.size = s.heap.objs.size + 1 -> KeptZ B s.heap h' -> Q (some (.ref s.heap.objs.size)) { s with heap := h' }) :
    wpAny (model P w) A (pyNext (.ref (B + 4))) Q E s := by
  have ty : s.TypeIs (.ref (B + 4)) "zip" := ⟨_, Z.z, rfl⟩
  unfold pyNext
  refine wpAny_bind (wpAny_attempt (wpAny_callSpecial?_slot ty F.slot_zip_next (wpAny_call_entry F.slot_zip_next ty F.entry_zip_next ?_ (F.args_zip_next_1 (.ref (B + 4))))))
  rcases hf with rfl | ⟨T, c, o, rfl, rfl, hT, lT⟩
  · exact Y6 Z hl hr ll rl hx hy fun h' z p sz kz => wpAny_pure (q h' _ _ z (.inl rfl) p sz kz)
  · exact Y8 Z hT hl hr ll rl hx hy fun h' z p sz kz => wpAny_pure (q h' _ _ z (.inr ⟨lT, o, hT⟩) p sz kz)
theorem Xb {Q : Option Value -> Shared -> Prop} (hA : A.handled = none) (Z : ZS k m s.heap B l r n f g) (hf : ZF B s.heap f g) (hl : Sq k s.heap l xs) (hr : Sq m s.heap r ys) (ll : l < B) (rl : r < B) (hx : xs[n]? = none \/ ys[n]? = none)
    (q : ∀ h', KeptZ B s.heap h' -> Q none { s with heap := h' }) : wpAny (model P w) A (pyNext (.ref (B + 4))) Q E s := by
  have ty : s.TypeIs (.ref (B + 4)) "zip" := ⟨_, Z.z, rfl⟩
  unfold pyNext
  refine wpAny_bind (wpAny_attempt (wpAny_callSpecial?_slot ty F.slot_zip_next (wpAny_call_entry F.slot_zip_next ty F.entry_zip_next ?_ (F.args_zip_next_1 (.ref (B + 4))))))
  have fin : ∀ h' e, KeptZ B s.heap h' -> (∃ o, h'.get? e = some o /\ o.cls = .type "StopIteration") -> wpAny (model P w) A (do
      if <- isInstance (.ref e) (.type "StopIteration") then pure none else throw (.ref e)) Q E { s with heap := h' } := by
    intro h' e kz ⟨o, ho, hc⟩
    exact wpAny_bind (wpAny_isInstance (T := "StopIteration") (b := true) ⟨o, ho, hc⟩ isSubtype_stop (wpAny_pure (q _ kz)))
  rcases hf with rfl | ⟨T, c, o, rfl, rfl, hT, lT⟩
  · exact WT hA Z hl hr ll rl hx fun h' e kz he => fin h' e kz he
  · exact vj hA Z hT hl hr ll rl hx fun h' e kz he => fin h' e kz he
end
structure ZL (k m : Bool) (h0 h : Heap) (B l r n : Nat) (xs ys acc : Array Value) (c : Nat) (f g : Value) : Prop where
  zs : ZS k m h B l r n f g
  zf : ZF B h f g
  hl : Sq k h l xs
  hr : Sq m h r ys
  sz : h.objs.size = B + 6 + n
  lst : h.get? (B + 5) = some { cls := .type "list", data := .seq acc c }
  asz : acc.size = n
  par : ∀ i x y, i < n -> xs[i]? = some x -> ys[i]? = some y -> acc[i]? = some (.ref (B + 6 + i)) /\ IsPair h (B + 6 + i) x y
  old : ∀ (b : Nat) o, b < B -> h0.get? b = some o -> h.get? b = some o
section
variable {P : Program} {w : World} {A : Around} {R : Result -> Shared -> Prop} {h0 : Heap} {k m : Bool} {B l r N : Nat} {xs ys : Array Value} {res : Value}
end
end L2
namespace L2
open PySem PySem.Spec PyProof.Rows
section
variable {P : Program} {w : World} {A : Around} {E : Value -> Shared -> Prop} {s : Shared} {k m : Bool} {B l r N : Nat} {xs ys : Array Value}
end
theorem Inv.sq {X : Cx} {pins : List (Addr × Obj)} {σ : St} {H : Hp} {s : Shared} {a : Addr} {xs : List V} (I : Inv X pins σ H s) (h : SqL X.K H a xs \/ SqT X.K H a xs) : ∃ (k : Bool) (its : List Value), Vals xs its /\ Sq k s.heap a its.toArray /\ xs.length <= sizeLine /\ (a : Nat) < s.heap.objs.size := by
  rcases h with h | h
  · obtain ⟨its, r, p, z⟩ := I.list h
    have ⟨o, n, e, _⟩ := p
    exact ⟨true, its, r, p.isList, z, Heap.lt_size e⟩
  · obtain ⟨its, r, p, z⟩ := I.tuple h
    have ⟨o, e, _⟩ := p
    exact ⟨false, its, r, p, z, Heap.lt_size e⟩
section
variable {X : Cx} {a b : Expr} {ta : TA} {p1 p2 pos1 pos2 : Pos}
end
end L2
namespace L2
open PySem PySem.Spec PyProof.Rows
def SqK (k : Bool) (K : PySem.W.Frag) (H : Hp) (a : Addr) (xs : List V) : Prop := match k with
  | true => SqL K H a xs
  | false => SqT K H a xs
theorem KeptZ.of {B : Nat} {h h' : Heap} (z : KeptZ B h h') : ∀ (b : Nat) o, b ∉ [B, B + 1, B + 2, B + 3, B + 4] -> h.get? b = some o -> h'.get? b = some o := fun b o n e => z b o (by simp only [List.mem_cons, List.not_mem_nil, or_false, not_or] at n; omega) e
section
variable {X : Cx} {elts : List Expr} {n : Nat} {tpos : Pos}
end
end L2
namespace L2
open PySem PySem.Spec PyProof.Rows
end L2
namespace L2
open PySem PySem.Spec PyProof.Rows
section
variable (P : Program) (w : World)
end
section
variable {P : Program} {w : World} {H H' : Hp} {h h' : Heap} {a : Addr} {o : HO}
end
section
variable {P : Program} {w : World} {H : Hp} {h h' : Heap} {x e : Addr} {o' : HO}
end
section
variable {fs fs' ex ex' : List Addr} {H H1 H2 : Hp} {h h1 h2 h' : Heap} {a x e : Addr} {o : HO}
end
end L2
namespace L2
open PySem PySem.Spec PyProof.Rows
section
variable {X : Cx} {pins : List (Addr × Obj)} {σ : List (Option V)} {H H' : Hp} {s : Shared} {h' : Heap}
end
end L2
namespace L2
open PySem PySem.Spec PyProof.Rows
section
variable {X : Cx}
variable {a b : Expr} {ta tb : TE} {pos : Pos}
variable {tA tB' : TT} {rest : List Expr}
end
end L2
namespace L2
open PySem PySem.Spec PyProof.Rows
section
variable {X : Cx} {pins : List (Addr × Obj)} {σ : St} {H : Hp} {s : Shared} {a : Addr} {xs ys : List V}
end
section
variable {X : Cx} {pins : List (Addr × Obj)} {σ : St} {H : Hp} {s : Shared} {E : Value -> Shared -> Prop}
end
section
variable {X : Cx} {st : Stmt} {rest : List Stmt} {t u : TS} {e : Expr} {te : TE} {pos : Pos}
end
section
variable {X : Cx} {pos : Pos}
end
section
variable {X : Cx} {pos : Pos}
end
end L2
namespace L2
open PySem PySem.Spec PyProof.Rows
section
variable {X : Cx} {tg : Expr}
end
end L2
namespace L2
open PySem PySem.Spec PyProof.Rows
section
variable {X : Cx} {a b c : Expr} {ta tb tc : TE} {pos : Pos}
end
section
variable {X : Cx} {a b c : Expr} {ta tb tc : TE} {pos : Pos}
end
end L2
namespace L2
open PySem PySem.Spec PyProof.Rows
section
variable {prog : Program} {w : World} {A : Around} {E : Value -> Shared -> Prop} {s : Shared} {K : PySem.W.Frag} {x dx C f : Addr} {mA : Str -> Option Value} {name : Str} {v : Value}
end
section
variable {P : Program} {w : World} {H H' : Hp} {h h' : Heap} {a C dx : Addr} {fs fs' : List (Str × V)}
end
section
variable {X : Cx} {pins : List (Addr × Obj)} {σ : St} {H : Hp} {s : Shared} {a C dx : Addr} {fs : List (Str × V)} {f : Str} {v : V} {A : Around} {E : Value -> Shared -> Prop}
end
section
variable {X : Cx} {o e value : Expr} {f : Str} {pos pos' tpos : Pos} {ta tv : TE}
end
section
variable {X : Cx} {pins : List (Addr × Obj)} {σ : St} {H : Hp} {s : Shared} {A : Around} {E : Value -> Shared -> Prop} {Q : Value -> Shared -> Prop} {c : Value} {b : Bool}
end
end L2
namespace L2
open PySem PySem.Spec PyProof.Rows
section
variable {X : Cx} {e : Expr} {es : List Expr} {te : TE} {t : TA} {pos : Pos}
end
section
variable {X : Cx} {pins : List (Addr × Obj)} {σ : St} {H : Hp} {s s' : Shared}
end
section
variable {X : Cx} {CX : CXT} {k : Nat} {f C : Addr} {fd : FuncData} {ps : List Str} {sp : Sp} {dvs : List V} {ds : List Value} {E : XK} {x m : Str} {p pos apos : Pos} {e o : Expr} {es : List Expr} {ta : TE} {t : TA}
end
section
variable {X : Cx} {CX : CXT} {k : Nat} {f C : Addr} {fd : FuncData} {ps ks : List Str} {sp : Sp} {E : XK} {x m : Str} {p pos apos kpos : Pos} {e o : Expr} {es : List Expr} {kws : List Keyword} {te ta : TE} {t tk : TA} {nm : Option Str}
variable {g : List Value -> List Value -> List Value} {gV : List V -> List V -> List V}
end
end L2
namespace L2
open PySem PySem.Spec PyProof.Rows
section
variable {X : Cx} {x : Str} {p pos : Pos} {e : Expr} {es : List Expr} {t : TA} {id T : String} {r : List V -> Hp -> VK -> Prop}
end
end L2
namespace L2
open PySem PySem.Spec PyProof.Rows
section
variable {κ : Type} [DecidableEq κ]
def valV (kvs : List (κ × V)) (k : κ) : Option V := (kvs.find? fun kv => decide (kv.1 = k)).map (·.2)
def putK (kvs : List (κ × V)) (k : κ) (v : V) : List (κ × V) :=
  if (kvs.any fun kv => decide (kv.1 = k)) = true then kvs.map (fun kv => if kv.1 = k then (kv.1, v) else kv) else kvs ++ [(k, v)]
def VG (kvs : List (κ × V)) (k : κ) : List (κ × V) := kvs.filter fun kv => decide (kv.1 ≠ k)
theorem zV {p : κ × V} {r : List (κ × V)} {k : κ} (e : p.1 = k) : valV (p :: r) k = some p.2 := by simp [valV, List.find?_cons, e]
theorem zW {p : κ × V} {r : List (κ × V)} {k : κ} (e : ¬ p.1 = k) : valV (p :: r) k = valV r k := by simp [valV, List.find?_cons, e]
theorem xl (k : κ) : ∀ kvs : List (κ × V), (kvs.any fun kv => decide (kv.1 = k)) = (valV kvs k).isSome
  | [] => rfl
  | p :: r => by
    rw [List.any_cons]
    by_cases e : p.1 = k
    · simp only [zV e, decide_eq_true e, Bool.true_or, Option.isSome_some]
    · rw [zW e, decide_eq_false e, Bool.false_or]; exact xl k r
theorem vP (k j : κ) (y : V) : ∀ kvs : List (κ × V), valV (kvs.map fun kv => if kv.1 = k then (kv.1, y) else kv) j = (valV kvs j).map fun x => if j = k then y else x
  | [] => rfl
  | p :: r => by
    have ih := vP k j y r
    rw [List.map_cons]
    by_cases h : p.1 = k
    · rw [if_pos h]
      by_cases e : p.1 = j
      · rw [zV (p := (p.1, y)) e, zV e, Option.map_some, if_pos (e.symm.trans h)]
      · rw [zW (p := (p.1, y)) e, zW e, ih]
    · rw [if_neg h]
      by_cases e : p.1 = j
      · rw [zV (p := p) e, zV e, Option.map_some, if_neg (fun z => h (e.trans z))]
      · rw [zW (p := p) e, zW e, ih]
theorem wQ (k j : κ) (y : V) : ∀ kvs : List (κ × V), valV kvs k = none -> valV (kvs ++ [(k, y)]) j = if j = k then some y else valV kvs j
  | [], _ => by
    by_cases e : k = j
    · rw [if_pos e.symm]; exact zV (p := (k, y)) e
    · rw [if_neg (fun z => e z.symm)]; exact zW (p := (k, y)) e
  | p :: r, hn => by
    rw [List.cons_append]
    have hk : ¬ p.1 = k := fun z => by rw [zV z] at hn; cases hn
    rw [zW hk] at hn
    have ih := wQ k j y r hn
    by_cases e : p.1 = j
    · rw [zV e, zV e, if_neg (fun z => hk (e.trans z))]
    · rw [zW e, zW e, ih]
theorem xn (kvs : List (κ × V)) (k j : κ) (y : V) : valV (putK kvs k y) j = if j = k then some y else valV kvs j := by
  unfold putK
  by_cases a : (kvs.any fun kv => decide (kv.1 = k)) = true
  · rw [if_pos a, vP]
    rw [xl] at a
    by_cases e : j = k
    · obtain ⟨x, hx⟩ := Option.isSome_iff_exists.mp a
      rw [if_pos e, e, hx, Option.map_some, if_pos rfl]
    · rw [if_neg e]
      cases valV kvs j with
      | none => rfl
      | some x => rw [Option.map_some, if_neg e]
  · rw [if_neg a]
    refine wQ k j y kvs ?_
    rw [xl] at a
    cases q : valV kvs k with
    | none => rfl
    | some x => rw [q] at a; exact (a rfl).elim
theorem xJ (kvs : List (κ × V)) (k : κ) (v : V) : (putK kvs k v).length <= kvs.length + 1 := by
  unfold putK
  split
  · rw [List.length_map]; omega
  · rw [List.length_append, List.length_cons, List.length_nil]; omega
theorem RelO.isSome_eq {o : Option V} {u : Option Value} (r : RelO o u) : o.isSome = u.isSome := by
  cases o with
  | none => cases u with
    | none => rfl
    | some _ => exact (show False from r).elim
  | some _ => cases u with
    | none => exact (show False from r).elim
    | some _ => rfl
theorem RelO.getD {o : Option V} {u : Option Value} {d : V} {d' : Value} (r : RelO o u) (rd : RelV d d') : RelV (o.getD d) (u.getD d') := by
  cases o with
  | none => cases u with
    | none => exact rd
    | some _ => exact (show False from r).elim
  | some _ => cases u with
    | none => exact (show False from r).elim
    | some _ => exact r
theorem KV.val {kvs : List (κ × V)} {vs : List (κ × Value)} (r : KV kvs vs) (k : κ) : RelO (valV kvs k) (valueAt vs k) := by
  unfold KV at r
  induction r with
  | nil => exact True.intro
  | @cons p q ps qs h t ih =>
    obtain ⟨h1, h2⟩ := h
    by_cases e : p.1 = k
    · have e' : q.1 = k := h1.symm.trans e
      have b : valueAt (q :: qs) k = some q.2 := by simp [valueAt, List.find?_cons, e']
      rw [zV e, b]; exact h2
    · have e' : ¬ q.1 = k := fun z => e (h1.trans z)
      have b : valueAt (q :: qs) k = valueAt qs k := by simp [valueAt, List.find?_cons, e']
      rw [zW e, b]; exact ih
theorem KV.any {kvs : List (κ × V)} {vs : List (κ × Value)} (r : KV kvs vs) (k : κ) : (kvs.any fun kv => decide (kv.1 = k)) = vs.any fun kv => decide (kv.1 = k) := by
  unfold KV at r
  induction r with
  | nil => rfl
  | cons h t ih => rw [List.any_cons, List.any_cons, ih, h.1]
theorem KV.repl {kvs : List (κ × V)} {vs : List (κ × Value)} (r : KV kvs vs) (k : κ) {y : V} {u : Value} (ry : RelV y u) :
    KV (kvs.map fun kv => if kv.1 = k then (kv.1, y) else kv) (vs.map fun kv => if kv.1 = k then (kv.1, u) else kv) := by
  unfold KV at r ⊢
  induction r with
  | nil => exact .nil
  | @cons p q ps qs h t ih =>
    rw [List.map_cons, List.map_cons]
    refine .cons ?_ ih
    obtain ⟨h1, h2⟩ := h
    by_cases e : p.1 = k
    · rw [if_pos e, if_pos (h1.symm.trans e)]; exact ⟨h1, ry⟩
    · rw [if_neg e, if_neg (fun z => e (h1.trans z))]; exact ⟨h1, h2⟩
theorem KV.put {kvs : List (κ × V)} {vs : List (κ × Value)} (r : KV kvs vs) (k : κ) {y : V} {u : Value} (ry : RelV y u) : KV (putK kvs k y) (stored vs k u) := by
  unfold putK stored
  rw [r.any k]
  by_cases e : (vs.any fun kv => decide (kv.1 = k)) = true
  · rw [if_pos e, if_pos e]; exact r.repl k ry
  · rw [if_neg e, if_neg e]; exact Paired.snoc r ⟨rfl, ry⟩
theorem KV.drop {kvs : List (κ × V)} {vs : List (κ × Value)} (r : KV kvs vs) (k : κ) : KV (VG kvs k) (without vs k) := by
  unfold KV at r ⊢
  unfold VG without
  induction r with
  | nil => exact .nil
  | @cons p q ps qs h t ih =>
    obtain ⟨h1, h2⟩ := h
    rw [List.filter_cons, List.filter_cons]
    by_cases e : p.1 = k
    · have a : ¬ decide (p.1 ≠ k) = true := by simp [e]
      have b : ¬ decide (q.1 ≠ k) = true := by simp [h1.symm.trans e]
      rw [if_neg a, if_neg b]; exact ih
    · have e' : ¬ q.1 = k := fun z => e (h1.trans z)
      have a : decide (p.1 ≠ k) = true := by simp [e]
      have b : decide (q.1 ≠ k) = true := by simp [e']
      rw [if_pos a, if_pos b]; exact .cons ⟨h1, h2⟩ ih
theorem KV.keys {kvs : List (κ × V)} {vs : List (κ × Value)} (r : KV kvs vs) : kvs.map (·.1) = vs.map (·.1) := by
  unfold KV at r
  induction r with
  | nil => rfl
  | cons h t ih => rw [List.map_cons, List.map_cons, ih, h.1]
theorem KV.length {kvs : List (κ × V)} {vs : List (κ × Value)} (r : KV kvs vs) : kvs.length = vs.length := Paired.length r
end
theorem Zl {P : Program} {w : World} {k : Key} {u : Value} (r : RelV (kV k) u) : (zR P w).is k u = true := by
  cases k with
  | inl i => obtain ⟨t, e⟩ := (show ∃ t, u = Value.int i t from r); subst e; exact vD P w i t
  | inr x => obtain ⟨t, e⟩ := (show ∃ t, u = Value.str x t from r); subst e; exact xF P w x t
theorem wR {P : Program} {w : World} : ∀ {ks : List Key} {us : List Value}, Vals (ks.map kV) us -> ItemsAre (zR P w) ks us
  | [], _, r => by rw [List.map_nil] at r; cases r; exact .nil
  | k :: ks, _, r => by
    rw [List.map_cons] at r
    cases r with
    | cons h t => exact .cons (Zl h) (wR t)
abbrev KT (H : Hp) : List (List Key × V) -> List (List Key × Addr × Value) -> Prop := Paired fun p q => p.1 = q.1 /\ H q.2.1 = some (.tup (p.1.map kV)) /\ RelV p.2 q.2.2
theorem KT.val {H : Hp} {kvs : List (List Key × V)} {xs : List (List Key × Addr × Value)} (r : KT H kvs xs) (k : List Key) : RelO (valV kvs k) ((atKey xs k).map (·.2)) := by
  induction r with
  | nil => exact True.intro
  | @cons p q ps qs h t ih =>
    obtain ⟨h1, _, h2⟩ := h
    by_cases e : p.1 = k
    · have e' : q.1 = k := h1.symm.trans e
      have b : atKey (q :: qs) k = some q.2 := by simp [atKey, List.find?_cons, e']
      rw [zV e, b]; exact h2
    · have e' : ¬ q.1 = k := fun z => e (h1.trans z)
      have b : atKey (q :: qs) k = atKey qs k := by simp [atKey, List.find?_cons, e']
      rw [zW e, b]; exact ih
theorem KT.repl {H : Hp} {kvs : List (List Key × V)} {xs : List (List Key × Addr × Value)} (r : KT H kvs xs) (k : List Key) {y : V} {u : Value} (ry : RelV y u) :
    KT H (kvs.map fun kv => if kv.1 = k then (kv.1, y) else kv) (xs.map (putAt k u)) := by
  induction r with
  | nil => exact .nil
  | @cons p q ps qs h t ih =>
    rw [List.map_cons, List.map_cons]
    refine .cons ?_ ih
    obtain ⟨h1, h2, h3⟩ := h
    unfold putAt
    by_cases e : p.1 = k
    · rw [if_pos e, if_pos (h1.symm.trans e)]; exact ⟨h1, h2, ry⟩
    · rw [if_neg e, if_neg (fun z => e (h1.trans z))]; exact ⟨h1, h2, h3⟩
theorem KT.put {H : Hp} {kvs : List (List Key × V)} {xs : List (List Key × Addr × Value)} (r : KT H kvs xs) (k : List Key) {b : Addr} {y : V} {u : Value} (hb : H b = some (.tup (k.map kV))) (ry : RelV y u) :
    KT H (putK kvs k y) (storedH xs k b u) := by
  have e : (kvs.any fun kv => decide (kv.1 = k)) = (atKey xs k).isSome := by
    rw [xl, (r.val k).isSome_eq, Option.isSome_map]
  unfold putK storedH
  rw [e]
  by_cases q : (atKey xs k).isSome = true
  · rw [if_pos q, if_pos q]; exact r.repl k ry
  · rw [if_neg q, if_neg q]; exact Paired.snoc r ⟨rfl, hb, ry⟩
theorem KT.keeps {H H' : Hp} {kvs : List (List Key × V)} {xs : List (List Key × Addr × Value)} (r : KT H kvs xs) (ht : ∀ b ys, H b = some (.tup ys) -> H' b = some (.tup ys)) : KT H' kvs xs :=
  Paired.mapP r fun _ _ z => ⟨z.1, ht _ _ z.2.1, z.2.2⟩
section
variable {P : Program} {w : World} {H : Hp} {h : Heap} {a : Addr}
theorem VH {u : HO} (ok : HOk P w H h) (e : Rd H a u) : ObjOk P w H h a u := e.ok ok
theorem Zm {kvs : List (Key × V)} (ok : HOk P w H h) (e : Rd H a (.dK kvs)) : kvs.length <= sizeLine /\ (a == sysModules) = false /\ ∃ vs, KV kvs vs /\ h.DictOf (zR P w) a vs :=
  show ObjOk P w H h a (.dK kvs) from VH ok e
theorem qK {kvs : List (Key × V)} (ok : HOk P w H h) (e : H a = some (.dK kvs)) : kvs.length <= sizeLine /\ (a == sysModules) = false /\ ∃ vs, KV kvs vs /\ h.DictOf (zR P w) a vs := Zm ok (.inl e)
theorem vk {ks : List Key} (ok : HOk P w H h) (e : H a = some (.tup (ks.map kV))) : (tupleKind (zR P w)).is h ks a := by
  obtain ⟨_, its, r, o, h1, h2, _, n, h3⟩ := (show ObjOk P w H h a (.tup (ks.map kV)) from ok a _ e)
  exact ⟨o, its.toArray, n, h1, h2, h3, by simpa using wR r⟩
theorem Zn {kvs : List (List Key × V)} (ok : HOk P w H h) (e : Rd H a (.dT kvs)) : kvs.length <= sizeLine /\ (a == sysModules) = false /\
    ∃ xs, KT H kvs xs /\ h.DictOfH (tupleKind (zR P w)) a xs := by
  obtain ⟨z, y, xs, r, o, es, ep, h1, h2, h3, h4, h5⟩ := (show ObjOk P w H h a (.dT kvs) from VH ok e)
  refine ⟨z, y, xs, r, o, es, ep, h1, h2, h3, h4, fun x hx => ?_, h5⟩
  have all : ∀ {l : List (List Key × V)} {m : List (List Key × Addr × Value)}, KT H l m -> ∀ x ∈ m, (tupleKind (zR P w)).is h x.1 x.2.1 := by
    intro l m q
    induction q with
    | nil => intro x hx; exact nomatch hx
    | @cons p q ps qs hq t ih =>
      intro x hx
      rcases List.mem_cons.mp hx with e | hx
      · subst e
        exact vk ok (by rw [<- hq.1]; exact hq.2.1)
      · exact ih x hx
  exact all r x hx
theorem qL {kvs : List (List Key × V)} (ok : HOk P w H h) (e : H a = some (.dT kvs)) : kvs.length <= sizeLine /\ (a == sysModules) = false /\
    ∃ xs, KT H kvs xs /\ h.DictOfH (tupleKind (zR P w)) a xs := Zn ok (.inl e)
end
def DGet (H : Hp) (a : Addr) (y : V) (r : Option V) : Prop :=
  (∃ kvs k, Rd H a (.dK kvs) /\ y = kV k /\ r = valV kvs k) \/ ∃ kvs k b, Rd H a (.dT kvs) /\ y = .ref b /\ H b = some (.tup (k.map kV)) /\ r = valV kvs k
def DPut (H : Hp) (a : Addr) (y v : V) (H' : Hp) : Prop :=
  (∃ kvs k, H a = some (.dK kvs) /\ y = kV k /\ kvs.length < sizeLine /\ H' = upd H a (.dK (putK kvs k v))) \/
  ∃ kvs k b, H a = some (.dT kvs) /\ y = .ref b /\ H b = some (.tup (k.map kV)) /\ kvs.length < sizeLine /\ H' = upd H a (.dT (putK kvs k v))
theorem DGet.k {H : Hp} {a : Addr} {kvs : List (Key × V)} {k : Key} (e : H a = some (.dK kvs)) : DGet H a (kV k) (valV kvs k) := .inl ⟨kvs, k, .inl e, rfl, rfl⟩
theorem DGet.t {H : Hp} {a b : Addr} {kvs : List (List Key × V)} {k : List Key} (e : H a = some (.dT kvs)) (eb : H b = some (.tup (k.map kV))) : DGet H a (.ref b) (valV kvs k) := .inr ⟨kvs, k, b, .inl e, rfl, eb, rfl⟩
theorem DPut.k {H : Hp} {a : Addr} {kvs : List (Key × V)} {k : Key} {v : V} (e : H a = some (.dK kvs)) (hl : kvs.length < sizeLine) : DPut H a (kV k) v (upd H a (.dK (putK kvs k v))) := .inl ⟨kvs, k, e, rfl, hl, rfl⟩
theorem DPut.t {H : Hp} {a b : Addr} {kvs : List (List Key × V)} {k : List Key} {v : V} (e : H a = some (.dT kvs)) (eb : H b = some (.tup (k.map kV))) (hl : kvs.length < sizeLine) :
    DPut H a (.ref b) v (upd H a (.dT (putK kvs k v))) := .inr ⟨kvs, k, b, e, rfl, eb, hl, rfl⟩
section
variable {X : Cx} {pins : List (Addr × Obj)} {σ : St} {H : Hp} {s : Shared} {a : Addr} {y v : V} {u r : Value} {o : Option V} {A : Around} {E : Value -> Shared -> Prop}
theorem Inv.big (I : Inv X pins σ H s) : sysModules < s.heap.objs.size := by
  have h : mainGlobals < s.heap.objs.size := (I.mod.glob.keeps I.bk).lt
  exact Nat.lt_trans (by decide) h
theorem Z6 {Q : Value -> Shared -> Prop} (hu : A.units + 1 < cLine) (I : Inv X pins σ H s) (g : DGet H a y (some v)) (ry : RelV y u) (h : ∀ w' s', Inv X pins σ H s' -> RelV v w' -> Q w' s') :
    wpAny (model X.prog X.w) A (getItem (.ref a) u) Q E s := by
  rcases g with ⟨kvs, k, e, ey, l⟩ | ⟨kvs, k, b, e, ey, eb, l⟩
  · subst ey
    obtain ⟨z, hd, vs, rel, dd⟩ := Zm I.hok e
    obtain ⟨w', hw, rw'⟩ := RelO.some_of (v := v) (o := valueAt vs k) (by rw [l]; exact rel.val k)
    exact wpAny_getItem_of (Zl ry) dd.mapOf hw (h w' _ (I.tok _) rw')
  · subst ey
    cases (show u = Value.ref b from ry)
    obtain ⟨z, hd, xs, rel, dd⟩ := Zn I.hok e
    obtain ⟨w', hw, rw'⟩ := RelO.some_of (v := v) (o := (atKey xs k).map (·.2)) (by rw [l]; exact rel.val k)
    obtain ⟨p, hp, hp2⟩ := Option.map_eq_some_iff.mp hw
    refine wpAny_getItem_heap (tupleKind_room_in1 hu) (vk I.hok eb) dd hp ?_
    rw [hp2]
    exact h w' _ (I.tok _) rw'
theorem WU {Q : Value -> Shared -> Prop} (hu : A.units + 1 < cLine) (I : Inv X pins σ H s) (g : DGet H a y o) (ry : RelV y u) (h : ∀ s', Inv X pins σ H s' -> Q (.bool (!o.isSome)) s') :
    wpAny (model X.prog X.w) A (compareOp .NotIn u (.ref a)) Q E s := by
  rcases g with ⟨kvs, k, e, ey, l⟩ | ⟨kvs, k, b, e, ey, eb, l⟩
  · subst ey
    obtain ⟨z, hd, vs, rel, dd⟩ := Zm I.hok e
    refine wpAny_notIn_of (Zl ry) hd dd.mapOf ?_
    rw [<- (rel.val k).isSome_eq, <- l]
    exact h _ (I.tok _)
  · subst ey
    cases (show u = Value.ref b from ry)
    obtain ⟨z, hd, xs, rel, dd⟩ := Zn I.hok e
    refine wpAny_notIn_heap (tupleKind_room_in1 hu) (vk I.hok eb) hd dd ?_
    have q := (rel.val k).isSome_eq
    rw [Option.isSome_map] at q
    rw [<- q, <- l]
    exact h _ (I.tok _)
theorem Zo {h' : Heap} {t' : Nat} {ob : HO} (I : Inv X pins σ H s) (mu : Mut (H a)) (hs : Heap.SameBut a s.heap h') (he : ∃ q, h'.get? a = some q) (new : ObjOk X.prog X.w (upd H a ob) h' a ob) :
    Inv X pins σ (upd H a ob) { s with heap := h', toks := t' } :=
  I.write (x := a) (e := a) mu (.inl rfl) (fun b q hb z => (hs.2 b hb).trans z) he new
theorem JJ {P : Program} {w : World} {H' : Hp} {h' : Heap} {kvs : List (Key × V)} {vs : List (Key × Value)} (z : kvs.length <= sizeLine) (hd : (a == sysModules) = false) (rel : KV kvs vs) (dd : h'.DictOf (zR P w) a vs) :
    ObjOk P w H' h' a (.dK kvs) := ⟨z, hd, vs, rel, dd⟩
theorem Z7 {H' : Hp} {Q : Unit -> Shared -> Prop} (hu : A.units + 1 < cLine) (I : Inv X pins σ H s) (g : DPut H a y v H') (ry : RelV y u) (rv : RelV v r) (h : ∀ s', Inv X pins σ H' s' -> Q () s') :
    wpAny (model X.prog X.w) A (setItem (.ref a) u r) Q E s := by
  rcases g with ⟨kvs, k, e, ey, l, eH⟩ | ⟨kvs, k, b, e, ey, eb, l, eH⟩
  · subst ey eH
    obtain ⟨z, hd, vs, rel, dd⟩ := qK I.hok e
    have hz : vs.length <= sizeLine := by rw [<- rel.length]; exact z
    have hl : (putK kvs k v).length <= sizeLine := by have := xJ kvs k v; omega
    refine wpAny_setItem_pairs (hsz := hz) (Zl ry) dd fun h' dd' hs => h _ ?_
    have he : ∃ q, h'.get? a = some q := let ⟨q, _, _, hq, _⟩ := dd'; ⟨q, hq⟩
    exact Zo I (by rw [e]; exact True.intro) hs he (JJ hl hd (rel.put k rv) dd')
  · subst ey eH
    cases (show u = Value.ref b from ry)
    obtain ⟨z, hd, xs, rel, dd⟩ := qL I.hok e
    have hz : xs.length <= sizeLine := by rw [<- Paired.length rel]; exact z
    have hl : (putK kvs k v).length <= sizeLine := by have := xJ kvs k v; omega
    refine wpAny_setItem_heap (hsz := hz) (tupleKind_room_in1 hu) (vk I.hok eb) dd fun h' dd' hs => h _ ?_
    obtain ⟨q, es, ep, hq, h2, h3, h4, _, h5⟩ := dd'
    refine Zo I (by rw [e]; exact True.intro) hs ⟨q, hq⟩ ⟨hl, hd, _, (rel.put k eb rv).keeps fun c ys ec => ?_, q, es, ep, hq, h2, h3, h4, h5⟩
    rw [zn (zM ec e (fun z => nomatch z))]
    exact ec
end
section
variable {X : Cx} {pins : List (Addr × Obj)} {σ : St} {H : Hp} {s : Shared} {a : Addr} {kvs : List (Key × V)} {k : Key} {u : Value} {A : Around} {E : Value -> Shared -> Prop}
end
def NoSl (i : Expr) : Prop := ∀ ov iv, subscripted i false ov iv = operate [ov, iv] (getItem ov iv)
theorem WV {prog : Program} {w : World} {A : Around} {E : Value -> Shared -> Prop} {s : Shared} {env : Env} {value slice : Expr} {pos : Pos} {T id : String} {Q : Value -> Shared -> Prop}
    (hl : typeLookup (.type T) "__getitem__" = pure (some (.builtin id))) (hs : NoSl slice)
    (h : wpAny (model prog w) A (eval value env) (fun o s₁ => wpAny (model prog w) A (eval slice env) (fun i s₂ => s₂.TypeIs o T /\ wpAny (model prog w) A (getItem o i) Q E s₂) E s₁) E s) :
    wpAny (model prog w) A (eval (.Subscript value slice pos) env) Q E s := by
  refine Subscript_ (wpAny_mono h (fun o s₁ h₁ => wpAny_mono h₁ (fun i s₂ h₂ => ?_) fun _ _ x => x) fun _ _ x => x)
  obtain ⟨hT, h₂⟩ := h₂
  unfold subscriptTail
  refine wpAny_bind ?_
  rw [getitemInPython_of_ne hT.not_modules]
  refine wpAny_bind (wpAny_specialOf hT hl ?_)
  have fin : wpAny (model prog w) A (subscripted slice false o i) (fun r s₃ => wpAny (model prog w) A (letTemporaryGo value o r >>= fun _ => pure r) Q E s₃) E s₂ := by
    rw [hs o i]
    exact wpAny_operating (wpAny_mono h₂ (fun r s₃ h₃ => wpAny_bind (wpAny_letTemporaryGo (wpAny_pure h₃))) fun _ _ x => x)
  first
    | exact wpAny_pure (wpAny_bind fin)
    | exact wpAny_bind (wpAny_pure (wpAny_bind fin))
    | exact wpAny_bind fin
theorem vQ {X : Cx} {pins : List (Addr × Obj)} {σ : St} {H : Hp} {s : Shared} {a : Addr} {y : V} {o : Option V} (I : Inv X pins σ H s) (g : DGet H a y o) : s.TypeIs (.ref a) "dict" := by
  rcases g with ⟨kvs, k, e, _, _⟩ | ⟨kvs, k, b, e, _, _, _⟩
  · obtain ⟨_, _, vs, _, dd⟩ := Zm I.hok e
    exact dd.typeIs
  · obtain ⟨_, _, xs, _, dd⟩ := Zn I.hok e
    exact dd.typeIs
def VI (td ty : TE) : TE := fun σ H Q => td σ H fun x H1 => ty σ H1 fun y H2 => ∃ a v, x = .ref a /\ DGet H2 a y (some v) /\ Q v H2
def Zp (ty td : TE) : TE := fun σ H Q => ty σ H fun y H1 => td σ H1 fun x H2 => ∃ a o, x = .ref a /\ DGet H2 a y o /\ Q (.bl (!o.isSome)) H2
def VJ (td ty tv : TE) : TS := fun D σ H => tv σ H fun v H1 => td σ H1 fun x H2 => ty σ H2 fun y H3 => ∃ a H4, x = .ref a /\ DPut H3 a y v H4 /\ D.nx σ H4
section
variable {X : Cx} {o i e value : Expr} {pos pos' tpos : Pos} {td ty tv : TE}
theorem WW (hu : X.A.units + 1 < cLine) (ho : PE X o td) (hi : PE X i ty) (hs : NoSl i) : PE X (.Subscript o i pos) (VI td ty) := by
  intro pins s σ H Q I h
  refine WV PySem.F.slot_dict_getitem.lookup hs (thn (ho pins s σ H _ I h) fun u s1 ⟨x, H1, I1, rx, q1⟩ => thn (hi pins s1 σ H1 _ I1 q1) fun iv s2 ⟨y, H2, I2, ry, a, v, ex, g, q2⟩ => ?_)
  subst ex
  obtain rfl : u = Value.ref a := rx
  exact ⟨vQ I2 g, Z6 hu I2 g ry fun w' s3 I3 rw' => ⟨v, H2, I3, rw', q2⟩⟩
theorem Z8 (hu : X.A.units + 1 < cLine) (hi : PE X i ty) (ho : PE X o td) : PC X .NotIn i o (Zp ty td) := by
  intro pins s σ H Q I h
  refine thn (hi pins s σ H _ I h) fun iv s1 ⟨y, H1, I1, ry, q1⟩ => thn (ho pins s1 σ H1 _ I1 q1) fun u s2 ⟨x, H2, I2, rx, a, ov, ex, g, q2⟩ => ?_
  subst ex
  obtain rfl : u = Value.ref a := rx
  exact WU hu I2 g ry fun s3 I3 => ⟨.bl (!ov.isSome), H2, I3, rfl, q2⟩
theorem WX (hu : X.A.units + 1 < cLine) (ho : PE X o td) (hi : PE X i ty) (hv : PE X value tv) (hs : swapsWith value (some (.Subscript o i pos')) pos.line X.env = pure false) :
    PS X (.Assign [.Subscript o i pos'] value pos) (VJ td ty tv) := by
  intro pins s σ H D I h
  refine wpAny_Assign_Subscript (thn (hv pins s σ H _ I h) fun r s1 ⟨v, H1, I1, rv, q1⟩ => thn (ho pins s1 σ H1 _ I1 q1) fun u s2 ⟨x, H2, I2, rx, q2⟩ => thn (hi pins s2 σ H2 _ I2 q2) fun iv s3 ⟨y, H3, I3, ry, a, H4, ex, g, q3⟩ => ?_) hs
  subst ex
  obtain rfl : u = Value.ref a := rx
  exact Z7 hu I3 g ry rv fun s4 I4 => ⟨σ, H4, I4, q3⟩
end
theorem Xd {P : Program} {w : World} {H : Hp} (h : Heap) (hb : sysModules < h.objs.size) : ObjOk P w H (h.push { cls := .type "dict", data := .dict #[] }) h.objs.size (.dK []) :=
  ⟨Nat.zero_le _, beq_eq_false_iff_ne.mpr (Ne.symm (Nat.ne_of_lt hb)), [], .nil, Heap.DictOf.new h⟩
def Xe : TE := fun _ H Q => ∀ p, H p = none -> Q (.ref p) (upd H p (.dK []))
section
variable {X : Cx} {pos : Pos}
theorem Xf : PE X (.Dict [] [] pos) Xe := fun pins s σ H Q I h =>
  wpAny_Dict_empty ⟨.ref s.heap.objs.size, _, I.laid (a := s.heap.objs.size) (o := .dK []) (t' := s.toks) (fun _ _ q => Heap.get?_push_of_some _ q) (Nat.le_refl _) (Xd s.heap I.big), rfl, h _ (I.hok.fresh (Nat.le_refl _))⟩
end
structure M1 (X : Cx) (o : Expr) (m : Str) (apos : Pos) (e : Expr) (cpos : Pos) : Prop where
  base : attributeBase o m X.env (eval o X.env) = eval o X.env
  few : ((backTo cpos (starEach [e] X.env)).all (fun x => !x.1) && (backToKw cpos (keywordEach [] X.env)).all (fun x => x.1.isSome)
    && decide (([e] : List Expr).length + ([] : List Keyword).length + (if ([] : List Keyword).isEmpty then 0 else 1) < 30)) = true
  line : (apos.endLine == cpos.line) = true
  trees : backTo cpos (starEach [e] X.env) = [(false, eval e X.env)]
structure M2 (X : Cx) (o : Expr) (m : Str) (apos : Pos) (e f : Expr) (cpos : Pos) : Prop where
  base : attributeBase o m X.env (eval o X.env) = eval o X.env
  few : ((backTo cpos (starEach [e, f] X.env)).all (fun x => !x.1) && (backToKw cpos (keywordEach [] X.env)).all (fun x => x.1.isSome)
    && decide (([e, f] : List Expr).length + ([] : List Keyword).length + (if ([] : List Keyword).isEmpty then 0 else 1) < 30)) = true
  line : (apos.endLine == cpos.line) = true
  trees : backTo cpos (starEach [e, f] X.env) = [(false, eval e X.env), (false, eval f X.env)]
section
variable {X : Cx} {pins : List (Addr × Obj)} {σ : St} {H : Hp} {s : Shared} {a : Addr} {y d : V} {u r : Value} {o : Option V} {A : Around} {E : Value -> Shared -> Prop}
end
section
variable {X : Cx} {o e f : Expr} {apos cpos : Pos} {td ty tx : TE}
end
section
variable {X : Cx} {pins : List (Addr × Obj)} {σ : St} {H : Hp} {s : Shared} {a : Addr} {kvs : List (Key × V)} {A : Around} {E : Value -> Shared -> Prop}
end
section
variable {X : Cx} {pins : List (Addr × Obj)} {σ : St} {H : Hp} {s : Shared} {a : Addr} {y : V} {u : Value} {A : Around} {E : Value -> Shared -> Prop}
end
end L2
namespace Att
open PySem PySem.W PySem.Calls PyProof.Rows
section
variable {prog : Program} {w : World} {A : Around} {E : Value -> Shared -> Prop} {s : Shared} {K : Frag}
end
end Att
namespace L2
open PySem PySem.Spec PyProof.Rows
end L2
namespace L2
open PySem PySem.Spec PyProof.Rows
end L2
namespace L2
open PySem PySem.Spec PyProof.Rows
section
variable {P : Program} {w : World} {K : PySem.W.Frag} {mg : Str -> Option Value} {base : Heap}
end
section
variable {X : Cx}
end
section
variable {κ : Type} [DecidableEq κ]
end
end L2
namespace L2
open PySem PySem.Spec PyProof.Rows
section
variable {X : Cx} {pos : Pos}
theorem wg : jE X (.Dict [] [] pos) Xe := ⟨Xf⟩
end
theorem SqK.l {K : PySem.W.Frag} {H : Hp} {a : Addr} {xs : List V} (h : H a = some (.lst xs)) : SqK true K H a xs := SqL.of h
theorem SqK.t {K : PySem.W.Frag} {H : Hp} {a : Addr} {xs : List V} (h : H a = some (.tup xs)) : SqK false K H a xs := SqT.of h
end L2
namespace L2
open PySem PySem.Spec PyProof.Rows
section
variable {X : Cx} {pins : List (Addr × Obj)} {σ : St} {H : Hp} {s : Shared} {h' : Heap}
end
section
variable {X : Cx}
theorem vm {o i value : Expr} {td ty tv : TE} {pos pos' : Pos} {k : Nat} (hr : Room k X.A) (ho : jE X o td) (hi : jE X i ty) (hv : jE X value tv) (hs : swapsWith value (some (.Subscript o i pos')) pos.line X.env = pure false := by rfl) :
    jS X (.Assign [.Subscript o i pos'] value pos) (VJ td ty tv) := ⟨WX (by have := hr.units; omega) ho.out hi.out hv.out hs⟩
theorem KV.get {kvs : List (Key × V)} {ws : List (Key × Value)} (r : KV kvs ws) {j : Nat} {k : Key} {x : Value} (h : ws[j]? = some (k, x)) : ∃ y, kvs[j]? = some (k, y) /\ RelV y x := by
  unfold KV at r
  induction r generalizing j with
  | nil => simp at h
  | @cons p q ps qs hh t ih =>
    cases j with
    | zero =>
      simp at h
      subst h
      obtain ⟨p1, p2⟩ := p
      have e : p1 = k := hh.1
      subst e
      exact ⟨p2, rfl, hh.2⟩
    | succ j =>
      obtain ⟨y, h1, h2⟩ := ih (j := j) (by simpa using h)
      exact ⟨y, by simpa using h1, h2⟩
end
end L2
namespace L2
open PySem PySem.Spec PyProof.Rows
structure Ca (P : Program) (w : World) (K : PySem.W.Frag) (mg : Str -> Option Value) (base : Heap) (CX : CXT) (k : Nat) (x : Str) (ps : List Str) (sp : Sp) : Prop where
  ex : ∃ f fd, FnOk P w K mg base CX k f fd ps sp /\ Binds K fd ps [] /\ PySem.W.keepIn K (.ref f) = true /\ mg x = some (.ref f)
structure Me (P : Program) (w : World) (K : PySem.W.Frag) (mg : Str -> Option Value) (base : Heap) (CX : CXT) (k : Nat) (C : Addr) (m : Str) (ps : List Str) (sp : Sp) : Prop where
  ex : ∃ f fd, FnOk P w K mg base CX k f fd ps sp /\ Binds K fd ps [] /\ Meth K C m f
structure Ma (P : Program) (w : World) (K : PySem.W.Frag) (mg : Str -> Option Value) (base : Heap) (CX : CXT) (k : Nat) (x : Str) (C : Addr) (ps : List Str) (sp : Sp) : Prop where
  ex : ∃ f fd, Mk K C f /\ FnOk P w K mg base CX k f fd ps sp /\ Binds K fd ps [] /\ mg x = some (.ref C)
structure Xa (P : Program) (w : World) (K : PySem.W.Frag) (mg : Str -> Option Value) (base : Heap) (k : Nat) (x : Str) (C : Addr) (ps : List Str) (sp : Sp) : Prop where
  ex : ∃ f fd, XCl K C f /\ FnOk P w K mg base CX0 k f fd ps sp /\ Binds K fd ps [] /\ mg x = some (.ref C)
section
variable {P : Program} {w : World} {K : PySem.W.Frag} {mg : Str -> Option Value} {base : Heap} {CX : CXT} {k j : Nat} {x m : Str} {C : Addr} {ps : List Str} {sp sp' : Sp}
theorem Ca.mono (h : Ca P w K mg base CX j x ps sp) (l : j <= k) : Ca P w K mg base CX k x ps sp := let ⟨f, fd, a, r⟩ := h.ex; ⟨f, fd, a.mono l, r⟩
theorem Me.mono (h : Me P w K mg base CX j C m ps sp) (l : j <= k) : Me P w K mg base CX k C m ps sp := let ⟨f, fd, a, r⟩ := h.ex; ⟨f, fd, a.mono l, r⟩
theorem Ca.upx (h : Ca P w K mg base CX0 k x ps sp) : Ca P w K mg base CX k x ps sp := let ⟨f, fd, a, r⟩ := h.ex; ⟨f, fd, a.upx, r⟩
theorem Me.upx (h : Me P w K mg base CX0 k C m ps sp) : Me P w K mg base CX k C m ps sp := let ⟨f, fd, a, r⟩ := h.ex; ⟨f, fd, a.upx, r⟩
end
section
variable {X : Cx} {CX : CXT} {k i : Nat} {C : Addr} {ps : List Str} {sp : Sp} {E : XK} {x m n f : Str} {p pos apos cpos np pos' epos hpos tpos : Pos} {e o a value : Expr} {es as : List Expr} {ta te tv to t1 t2 : TE} {t : TA}
theorem zC (F : Ca X.prog X.w X.K X.mg X.base CX k x ps sp) (hr : Room k X.A) (hg : Gl X x) (hx : zO CX X E) (ha : jA X (e :: es) t) (hdb : (x == ("__debug__" : Str)) = false := by decide) (h1 : zy e = false := by rfl) (h2 : es.all (fun e => !zy e) = true := by rfl) :
    jE X (.Call (.Name x p) (e :: es) [] pos) (wE sp [] E t) := let ⟨_, _, G, b, kp, mg⟩ := F.ex; VE G hr hg mg kp b .nil hx ha hdb h1 h2
theorem vR {pl : Sem Bool} (he : jE X o ta) (c : Cls X.K C) (F : Me X.prog X.w X.K X.mg X.base CX k C m ps sp) (hr : Room k X.A) (hx : zO CX X E) (ha : jA X (e :: es) t) (h1 : zy e = false := by rfl) (h2 : es.all (fun e => !zy e) = true := by rfl)
    (ht : eval (.Call (.Attribute o m apos) (e :: es) [] pos) X.env = (do
      let ov <- eval o X.env
      standAt apos.atName
      let (f, first) <- holding [ov] (getMethod ov m pl)
      callWith pos f first (backTo pos (starEach (e :: es) X.env)) (backToKw pos (keywordEach [] X.env))) := by rfl) :
    jE X (.Call (.Attribute o m apos) (e :: es) [] pos) (j6 C m sp [] E ta t) := let ⟨_, _, G, b, mt⟩ := F.ex; ⟨Wz he.out c mt G hr b .nil hx ha.out (zH h1) (zY h2) ht⟩
theorem JK {pl : Sem Bool} (he : jE X o ta) (c : Cls X.K C) (F : Me X.prog X.w X.K X.mg X.base CX k C m ps sp) (hr : Room k X.A) (hx : zO CX X E)
    (ht : eval (.Call (.Attribute o m apos) [] [] pos) X.env = (do
      let ov <- eval o X.env
      standAt apos.atName
      let (f, first) <- holding [ov] (getMethod ov m pl)
      callWith pos f first (backTo pos (starEach [] X.env)) (backToKw pos (keywordEach [] X.env))) := by rfl) :
    jE X (.Call (.Attribute o m apos) [] [] pos) (j6 C m sp [] E ta tNil) := let ⟨_, _, G, b, mt⟩ := F.ex; ⟨YG he.out c mt G hr b .nil hx ht⟩
theorem qM (F : Ma X.prog X.w X.K X.mg X.base CX k x C ps sp) (hr : Room (k + 1) X.A) (hg : Gl X x) (hx : zO CX X E) (ha : jA X (e :: es) t) (hdb : (x == ("__debug__" : Str)) = false := by decide) (h1 : zy e = false := by rfl) (h2 : es.all (fun e => !zy e) = true := by rfl) :
    jE X (.Call (.Name x p) (e :: es) [] pos) (VA C sp [] E t) := let ⟨_, _, M, G, b, mg⟩ := F.ex; ⟨WA M G hr hg mg b .nil hx ha.out hdb (zH h1) (zY h2)⟩
theorem yL (he : jE X e ta) (hb : attributeBase e f X.env (eval e X.env) = eval e X.env := by rfl) : jE X (.Attribute e f pos) (tFld X.K ta f) := ⟨Jn he.out hb⟩
theorem yw (ha : jE X o ta) (hv : jE X value tv) (hs : swapsWith value (some (.Attribute o f pos')) pos.line X.env = pure false := by rfl) : jS X (.Assign [.Attribute o f pos'] value pos) (sFld X.K ta tv f) := ⟨Jo ha.out hv.out hs⟩
theorem yS (F : Xa X.prog X.w X.K X.mg X.base k x C ps sp) (hr : Room (k + 1) X.A) (hg : Gl X x) (hx : wd X E) (ha : jA X (a :: as) t) (hdb : (x == ("__debug__" : Str)) = false := by decide) (h1 : zy a = false := by rfl) (h2 : as.all (fun e => !zy e) = true := by rfl) :
    jS X (.Raise (some (.Call (.Name x np) (a :: as) [] cpos)) none pos) (ju C sp E t) := let ⟨_, _, M, G, b, mg⟩ := F.ex; ⟨YZ M G hr hg mg b hx ha.out hdb h1 h2⟩
theorem JL {j pos'} (ha : jE X a ta) : jT X (.Compare a [.Is] [.Constant .none j pos'] pos) (tB (tIsN ta)) := ⟨Yu (V3 ha.out)⟩
end
theorem FnOk.no {P : Program} {w : World} {K : PySem.W.Frag} {mg : Str -> Option Value} {base : Heap} {CX : CXT} {k : Nat} {f : Addr} {fd : FuncData} {ps : List Str} : FnOk P w K mg base CX k f fd ps (fun _ _ _ _ => False) :=
  ⟨fun _ _ _ _ h => h.elim, fun _ _ _ _ _ _ _ _ _ _ _ _ _ h => h.elim⟩
end L2
namespace L2
open PySem PySem.Spec PySem.Calls PyProof.Rows
section
variable {P : Program} {w : World} {A : Around} {E : Value -> Shared -> Prop} {s : Shared} {K : PySem.W.Frag}
end
section
variable {X : Cx} {e C : Addr} {oe : Obj} {ex : Expr} {te : TE} {name : Str} {pos : Pos} {f : Addr}
def VL (C e : Addr) (oe : Obj) (te : TE) (name : Str) : TE := fun σ H Q => te σ H fun x H1 => x = .ref e /\ oe.cls = .ref C /\ (∃ vs, oe.data = .fields vs) /\ ∃ d fs v, oe.dict = some d /\ H1 d = some (XD d fs) /\ fs.lookup name = some v /\ Q v H1
theorem WY (hp : (e, oe) ∈ X.pn) (M : XCl X.K C f) (hn : PySem.W.findIn X.K (.ref C) name = some none) (hh : PySem.W.hasDictIn X.K C = true) (he : PE X ex te) (hb : attributeBase ex name X.env (eval ex X.env) = eval ex X.env) :
    PE X (.Attribute ex name pos) (VL C e oe te name) := by
  intro pins s σ H Q I h
  refine j5 hb (thn (he pins s σ H _ I h) fun u s1 g => ?_)
  obtain ⟨x, H1, I1, rx, rfl, hc, ⟨vs, hd⟩, d, fs, v, h1, h2, h3, q⟩ := g
  obtain rfl : u = Value.ref e := rx
  obtain ⟨mA, ns, r, _⟩ := XD.get I1.hok h2
  obtain ⟨u', hu, ru⟩ := RelO.some_of (v := v) (o := mA name) (by rw [<- h3]; exact r name)
  obtain ⟨od, ho, hl⟩ := wC ns
  have J : PySem.W.InstAt s1.heap e oe C (some od) := ⟨(I1.pin (e, oe) (List.mem_append_left _ hp)).1, hc, by unfold PySem.W.notCls; rw [hd], by rw [h1]; exact ho⟩
  exact JB I1.kIn J M.ga M.ha M.sb (PySem.W.findObj_own hh hn rfl (by rw [hl, hu])) (wD ru) ⟨v, H1, I1.tok _, ru, q⟩
theorem vn (hp : (e, oe) ∈ X.pn) (M : XCl X.K C f) (hn : PySem.W.findIn X.K (.ref C) name = some none) (hh : PySem.W.hasDictIn X.K C = true) (he : jE X ex te) (hb : attributeBase ex name X.env (eval ex X.env) = eval ex X.env := by rfl) :
    jE X (.Attribute ex name pos) (VL C e oe te name) := ⟨WY hp M hn hh he.out hb⟩
end
section
variable {X : Cx} {Ch : Addr} {x n : Str} {i k : Nat} {np hpos tpos : Pos} {b0 : Stmt} {suite : List Stmt} {th : Addr -> Obj -> TS} {ps : List Str} {sp : Sp} {y : Str} {p cpos epos : Pos} {a : Expr} {as : List Expr} {t : TA}
end
end L2
namespace L2
open PySem PySem.Spec PyProof.Rows
section
variable {P : Program} {w : World} {A : Around} {E : Value -> Shared -> Prop}
theorem qN {j l : Addr} {xs : Array Value} (ne : l ≠ j) : ∀ (k i : Nat) (s : Shared) (Q : List Value -> Shared -> Prop), s.heap.IsListIter j l i -> s.heap.IsList l xs -> i + k <= xs.size ->
    (∀ h', h'.IsListIter j l (i + k) -> Heap.SameBut j s.heap h' -> Q ((xs.toList.drop i).take k) { s with heap := h' }) -> wpAny (model P w) A (draw (.ref j) k) Q E s
  | 0, i, s, Q, hj, _, _, q => wpAny_pure (by simpa using q s.heap hj (Heap.SameBut.refl ..))
  | k + 1, i, s, Q, hj, hl, le, q => by
    have lt : i < xs.size := by omega
    refine wpAny_bind (m := pyNext (.ref j)) (wpAny_pyNext_list_item hj hl (Array.getElem?_eq_getElem lt) fun h1 j1 u1 => ?_)
    refine wpAny_bind (wpAny_holding (qN ne k (i + 1) _ _ j1 (hl.extBut u1.extBut ne) (by omega) fun h2 j2 u2 => wpAny_pure ?_))
    have e : xs.toList.drop i = xs[i] :: xs.toList.drop (i + 1) := by simp [List.drop_eq_getElem_cons, lt]
    have r := q h2 (by rw [show i + (k + 1) = i + 1 + k by omega]; exact j2) (u1.trans u2)
    rw [e, List.take_succ_cons] at r
    exact r
end
section
variable {X : Cx} {pos : Pos}
end
end L2
namespace L2
open PySem
theorem zX : sizeLine = 16777216 := by decide
theorem itD {c A B : Prop} [Decidable c] (e : c) (h : A) : if decide c = true then A else B := by
  rw [if_pos (decide_eq_true e)]; exact h
theorem itDN {c A B : Prop} [Decidable c] (e : ¬ c) (h : B) : if decide c = true then A else B := by
  rw [if_neg (by rw [decide_eq_false e]; decide)]; exact h
theorem jw {u : Value} {x : V} (h : absV u = some x) : RelV x u := by
  cases u <;> first
    | (cases h; rfl)
    | (cases h; exact ⟨_, rfl⟩)
    | (cases h)
theorem xK : ∀ {us : List Value} {xs : List V}, us.map absV = xs.map some -> Vals xs us
  | [], [], _ => .nil
  | [], _ :: _, h => by cases h
  | _ :: _, [], h => by cases h
  | u :: us, x :: xs, h => by
    rw [List.map_cons, List.map_cons] at h
    injection h with h1 h2
    exact .cons (jw h1) (xK h2)
def FnIn (K : PySem.W.Frag) (x qual : Str) (st : Stmt) (f : Addr) : Prop := ∃ (oc : Value) (od : Option Addr) (kV doc pm : Value) (an : Option Addr) (cdv ct : Value) (osl : Array (Option Value)), K.lookup f = some ⟨oc, od, .func (PySem.W.fnOf x qual (zI st) (zD st) (zm st) .none kV doc pm an cdv ct), osl⟩ /\ PySem.W.codeIn K cdv qual = true /\ PySem.W.keepIn K (.ref f) = true
theorem FnIn.fn {K : PySem.W.Frag} {x qual : Str} {st : Stmt} {f : Addr} (h : FnIn K x qual st f) : ∃ fd, Fun K x qual st f fd /\ PySem.W.keepIn K (.ref f) = true := by
  obtain ⟨_, _, _, _, _, _, _, _, _, l, c, k⟩ := h
  exact ⟨_, YR l c k, k⟩
def DfIn (K : PySem.W.Frag) (x : Str) (st : Stmt) : Prop := ∃ f, PySem.W.nsIn K mainGlobals x = some (some (.ref f)) /\ FnIn K x x st f
def MeIn (K : PySem.W.Frag) (C : Addr) (x qual : Str) (st : Stmt) : Prop := ∃ f, PySem.W.findIn K (.ref C) x = some (some (.ref f)) /\ PySem.W.isFn K (.ref f) = true /\ FnIn K x qual st f
def TpIn (K : PySem.W.Frag) (x : Str) (l : List Str) : Prop := ∃ (a : Addr) (d : Option Addr) (it : Array Value) (n : Nat) (sl : Array (Option Value)), PySem.W.nsIn K mainGlobals x = some (some (.ref a)) /\ K.lookup a = some ⟨.type "tuple", d, .seq it n, sl⟩ /\ it.toList.map absV = l.map fun x => some (.str x)
theorem TpIn.sq {K : PySem.W.Frag} {x : Str} {l : List Str} (h : TpIn K x l) (hl : l.length <= 100) : ∃ a, PySem.W.nsIn K mainGlobals x = some (some (.ref a)) /\ ∀ H : Hp, SqT K H a (l.map V.str) := by
  obtain ⟨a, d, it, n, sl, h1, h2, h3⟩ := h
  refine ⟨a, h1, fun H => .inr ⟨_, it, n, h2, rfl, rfl, ?_, xK (by rw [h3, List.map_map]; rfl)⟩⟩
  have e := congrArg List.length h3
  rw [List.length_map, List.length_map, Array.length_toList] at e
  have sl := zX
  omega
theorem MeIn.me {P : Program} {w : World} {K : PySem.W.Frag} {mg : Str -> Option Value} {base : Heap} {CX : CXT} {k : Nat} {C : Addr} {x qual : Str} {st : Stmt} {ps : List Str} {sp : Sp} (h : MeIn K C x qual st) (hb : ∀ (kV doc pm : Value) (an : Option Addr) (cdv ct : Value) (us : List Value), us.length = ps.length -> bindArgs (PySem.W.fnOf x qual (zI st) (zD st) (zm st) .none kV doc pm an cdv ct) ⟨us, []⟩ = pure (ps.zip us))
    (ok : ∀ f fd, Fun K x qual st f fd -> FnOk P w K mg base CX k f fd ps sp) : Me P w K mg base CX k C x ps sp := by
  obtain ⟨f, a, n, g⟩ := h
  obtain ⟨fd, F, kp⟩ := g.fn
  exact ⟨f, fd, ok f fd F, F.binds hb, a, n, kp⟩
theorem MeIn.ma {P : Program} {w : World} {K : PySem.W.Frag} {mg : Str -> Option Value} {base : Heap} {CX : CXT} {k : Nat} {C : Addr} {x qual : Str} {st : Stmt} {ps : List Str} {sp : Sp} (h : MeIn K C "__init__" qual st) (hb : ∀ (kV doc pm : Value) (an : Option Addr) (cdv ct : Value) (us : List Value), us.length = ps.length -> bindArgs (PySem.W.fnOf "__init__" qual (zI st) (zD st) (zm st) .none kV doc pm an cdv ct) ⟨us, []⟩ = pure (ps.zip us))
    (mk : PySem.W.makesIn K C = true) (kp : PySem.W.keepIn K (.ref C) = true) (hm : mg x = some (.ref C)) (ok : ∀ f fd, Fun K "__init__" qual st f fd -> FnOk P w K mg base CX k f fd ps sp) : Ma P w K mg base CX k x C ps sp := by
  obtain ⟨f, a, n, g⟩ := h
  obtain ⟨fd, F, _⟩ := g.fn
  exact ⟨f, fd, ⟨mk, a, n, kp⟩, ok f fd F, F.binds hb, hm⟩
theorem DfIn.ca {P : Program} {w : World} {K : PySem.W.Frag} {mg : Str -> Option Value} {base h : Heap} {CX : CXT} {k : Nat} {x : Str} {st : Stmt} {ps : List Str} {sp : Sp} (X : K.In h) (G : h.Ns mainGlobals mg) (d : DfIn K x st) (hb : ∀ (kV doc pm : Value) (an : Option Addr) (cdv ct : Value) (us : List Value), us.length = ps.length -> bindArgs (PySem.W.fnOf x x (zI st) (zD st) (zm st) .none kV doc pm an cdv ct) ⟨us, []⟩ = pure (ps.zip us))
    (ok : ∀ f fd, Fun K x x st f fd -> FnOk P w K mg base CX k f fd ps sp) : Ca P w K mg base CX k x ps sp := by
  obtain ⟨f, a, g⟩ := d
  obtain ⟨fd, F, kp⟩ := g.fn
  exact ⟨f, fd, ok f fd F, F.binds hb, kp, PySem.W.mg_of X G a⟩
theorem DfIn.mk {K : PySem.W.Frag} {x : Str} {st : Stmt} {f : Addr} {oc : Value} {od : Option Addr} {kV doc pm : Value} {an : Option Addr} {cdv ct : Value} {osl : Array (Option Value)} (a : PySem.W.nsIn K mainGlobals x = some (some (.ref f))) (l : K.lookup f = some ⟨oc, od, .func (PySem.W.fnOf x x (zI st) (zD st) (zm st) .none kV doc pm an cdv ct), osl⟩) (c : PySem.W.codeIn K cdv x = true) (k : PySem.W.keepIn K (.ref f) = true) : DfIn K x st := ⟨f, a, oc, od, kV, doc, pm, an, cdv, ct, osl, l, c, k⟩
theorem MeIn.mk {K : PySem.W.Frag} {C : Addr} {x qual : Str} {st : Stmt} {f : Addr} {oc : Value} {od : Option Addr} {kV doc pm : Value} {an : Option Addr} {cdv ct : Value} {osl : Array (Option Value)} (a : PySem.W.findIn K (.ref C) x = some (some (.ref f))) (l : K.lookup f = some ⟨oc, od, .func (PySem.W.fnOf x qual (zI st) (zD st) (zm st) .none kV doc pm an cdv ct), osl⟩) (c : PySem.W.codeIn K cdv qual = true) (k : PySem.W.keepIn K (.ref f) = true) (n : PySem.W.isFn K (.ref f) = true) : MeIn K C x qual st := ⟨f, a, n, oc, od, kV, doc, pm, an, cdv, ct, osl, l, c, k⟩
theorem TpIn.mk {K : PySem.W.Frag} {x : Str} {l : List Str} {b : Addr} {d : Option Addr} {it : Array Value} {n : Nat} {sl : Array (Option Value)} (a : PySem.W.nsIn K mainGlobals x = some (some (.ref b))) (k : K.lookup b = some ⟨.type "tuple", d, .seq it n, sl⟩) (v : it.toList.map absV = l.map fun x => some (.str x)) : TpIn K x l := ⟨b, d, it, n, sl, a, k, v⟩
theorem GlIn.mk {K : PySem.W.Frag} {x : Str} {z : Str} {v : Value} {t : Tok} (a : PySem.W.nsIn K mainGlobals x = some (some v)) (e : v = .str z t) : ∃ t, PySem.W.nsIn K mainGlobals x = some (some (.str z t)) := ⟨t, by rw [a, e]⟩
theorem GiIn.mk {K : PySem.W.Frag} {x : Str} {i : Int} {v : Value} {t : Tok} (a : PySem.W.nsIn K mainGlobals x = some (some v)) (e : v = .int i t) : ∃ t, PySem.W.nsIn K mainGlobals x = some (some (.int i t)) := ⟨t, by rw [a, e]⟩
theorem XcIn.mk {K : PySem.W.Frag} {C f : Addr} (a : PySem.W.findIn K (.ref C) "__init__" = some (some (.ref f))) (b : xIn K C f = true) (c : PySem.W.typeIn K (.ref f) = some (.type "function")) : ∃ f, PySem.W.findIn K (.ref C) "__init__" = some (some (.ref f)) /\ xIn K C f = true /\ PySem.W.typeIn K (.ref f) = some (.type "function") := ⟨f, a, b, c⟩
structure OwnIn (K : PySem.W.Frag) (x : Str) (C : Addr) : Prop where
  n : PySem.W.nsIn K mainGlobals x = some (some (.ref C))
  pg : PySem.W.plainGet K C Str.empty = true
  hd : PySem.W.hasDictIn K C = true
  po : PySem.W.plainOver K C = true
  sa : PySem.W.findIn K (.ref C) "__setattr__" = some (some (.builtin "object.__setattr__"))
  mks : PySem.W.makesIn K C = true
  kp : PySem.W.keepIn K (.ref C) = true
theorem OwnIn.cls {K : PySem.W.Frag} {x : Str} {C : Addr} (o : OwnIn K x C) : Cls K C := ⟨o.pg, o.hd, o.po, o.sa⟩
end L2
namespace L2
open PySem PySem.Spec PyProof.Rows
section
variable {X : Cx} {pos : Pos}
theorem WZ (K : PySem.W.Frag) (h : X.K = K := by rfl) : jIx X (rIxT K) := h ▸ zx
theorem vS (K : PySem.W.Frag) (h : X.K = K := by rfl) : jCa X (.type "list") (fun xs H Q => ∃ p ys, xs = [.ref p] /\ (SqL K H p ys \/ SqT K H p ys) /\ ∀ l, H l = none -> Q (.ref l) (upd H l (.lst ys))) := h ▸ y9
theorem Zq (K : PySem.W.Frag) {e : Expr} {ta : TE} {f : Str} (he : jE X e ta) (h : X.K = K := by rfl) (hb : attributeBase e f X.env (eval e X.env) = eval e X.env := by rfl) : jE X (.Attribute e f pos) (tFld K ta f) := h ▸ yL he hb
end
end L2
namespace K11
open PySem
def sg (c : Nat) : Str := ⟨#[c]⟩
theorem wj (a : Array Nat) : ∀ (k : Nat) (acc : Array Nat), ((List.replicate k a).foldl (· ++ ·) acc).size = acc.size + k * a.size
  | 0, acc => by simp
  | k + 1, acc => by
    rw [List.replicate_succ, List.foldl_cons, wj a k, Array.size_append, Nat.add_mul]
    omega
theorem W0 {z : Str} {n : Int} (hz : z.length = 1) : (Txt.mul z n).length <= n.toNat := by
  unfold Txt.mul
  split
  · simp [Str.empty, Str.length]
  · rename_i h
    split
    · rw [hz]; omega
    · show ((List.replicate n.toNat z.cps).foldl (· ++ ·) #[]).size <= n.toNat
      have e : z.cps.size = 1 := hz
      rw [wj, e]
      simp
theorem JM {z : Str} {n : Int} (hz : z.length = 1) (h0 : 0 <= n) (h1 : n <= 1000) : MulOk z n := by
  have hs : sizeLine = 16777216 := by decide
  refine ⟨?_, fun a b => ?_, fun a b => ?_⟩
  · have e1 : decide (n < -(2 ^ 63 : Int)) = false := decide_eq_false (by omega)
    have e2 : decide (n ≥ 2 ^ 63) = false := decide_eq_false (by omega)
    rw [e1, e2]; rfl
  · rw [hz]
    have : (1 : Int) <= (2 ^ 63 - 1) / n := Int.le_ediv_of_mul_le (by omega) (by omega)
    intro c
    have c' : (1 : Int) > (2 ^ 63 - 1) / n := c
    omega
  · rw [hz]
    unfold Builtin.Str.tooLong
    exact decide_eq_false (by rw [hs]; omega)
end K11
namespace K11
open PySem PySem.Spec PyProof.Rows Builtin Builtin.Str
abbrev cl (z : Str) : List Nat := z.cps.toList
theorem yT (z : Str) : (cl z).length = z.length := by simp [Str.length]
theorem yc (x y : Str) : cl (x ++ y) = cl x ++ cl y := by
  show (x.cps ++ y.cps).toList = _
  simp
theorem vo {sep x y : Str} {r : List Str} : cl (Str.join sep (x :: y :: r)) = cl x ++ (cl sep ++ cl (Str.join sep (y :: r))) := by
  show cl (x ++ sep ++ Str.join sep (y :: r)) = _
  rw [yc, yc, List.append_assoc]
end K11
namespace GN
open PySem L2
def top (i : Nat) : Stmt := PySem.Challenge.pw_reusewise_k38_runs_refused.main.body.getD i (.Pass ⟨0, 0, 0, 0⟩)
abbrev sUnk : Stmt := yj (top 4) 0
abbrev sMis : Stmt := yj (top 5) 0
abbrev vp : Stmt := yj (top 11) 0
abbrev jx : Stmt := top 13
abbrev yU : Stmt := top 15
abbrev sIn : Stmt := top 16
abbrev jy : Stmt := top 17
abbrev jz : Stmt := top 18
abbrev yo : Stmt := top 19
abbrev jB : Stmt := top 20
abbrev Zr : Stmt := top 22
abbrev sRes : Stmt := top 23
abbrev sRun : Stmt := top 25
abbrev sBy : Stmt := top 26
abbrev jC : Stmt := top 27
abbrev jD : Stmt := yj (top 32) 0
abbrev jF : Stmt := yj (top 32) 1
abbrev sGo : Stmt := yj (top 32) 2
abbrev Xg : Stmt := yj (top 32) 3
abbrev sLet : Stmt := yj (top 32) 6
abbrev vq : Stmt := yj (top 32) 7
abbrev sOut : Stmt := yj (top 32) 8
abbrev Xh : Stmt := top 34
abbrev sNm : Stmt := top 35
abbrev Xi : Stmt := top 36
abbrev sDue : Stmt := top 44
abbrev sLaw : Stmt := top 45
abbrev sOne : Stmt := top 37
abbrev sGot : Stmt := top 38
abbrev Xj : Stmt := top 39
abbrev xB : Stmt := top 40
abbrev sOdd : Stmt := top 41
abbrev jH : Stmt := top 42
abbrev jJ : Stmt := top 43
end GN
namespace L2
open PySem
section
variable {X : Cx} {o i : Expr} {to ti : TE} {pos : Pos}
theorem vv (ho : jE X o to) (hi : jE X i ti) (ha : ∀ v, assign (.Subscript o i pos) X.env v = (do
      let ov <- holding [v] (eval o X.env)
      let iv <- holding [v, ov] (eval i X.env)
      standAt pos
      holding [v, ov, iv] (setItem ov iv v)
      release [v, ov, iv] []) := by intro _; rfl) : jG X (.Subscript o i pos) (gSub to ti VC) := ⟨Jb ho.out hi.out YK ha⟩
end
end L2
namespace GN
open PySem L2 K11
theorem same_new {H : Hp} {p : Addr} (h : H p = none) (o : HO) : Same H (upd H p o) := fun b u q => by rw [zn (zo q h)]; exact q
def LIM : Nat := 4611686018427387904
def Sta (K : PySem.W.Frag) (H : Hp) (st : Addr) (B : Nat) : Prop := ∃ (a : Addr) (ns : List Int) (k : Nat), H st = some (.lst [.ref a, .int (k : Nat)]) /\ (a = st -> ∀ H', SqL K H' a (ns.map V.int)) /\ SqL K H a (ns.map V.int) /\ k <= B
structure Kp (st : Addr) (H H' : Hp) : Prop where
  k : ∀ b u, b ≠ st -> H b = some u -> H' b = some u
  s : ∀ a k, H st = some (.lst [.ref a, .int k]) -> ∃ k', H' st = some (.lst [.ref a, .int k'])
theorem Kp.refl {st : Addr} {H : Hp} : Kp st H H := ⟨fun _ _ _ h => h, fun _ k h => ⟨k, h⟩⟩
theorem Kp.trans {st : Addr} {H H1 H2 : Hp} (a : Kp st H H1) (b : Kp st H1 H2) : Kp st H H2 := ⟨fun c u n h => b.k c u n (a.k c u n h), fun x k h => let ⟨k', h'⟩ := a.s x k h; b.s x k' h'⟩
theorem Kp.of {st : Addr} {H H1 : Hp} (a : Same H H1) : Kp st H H1 := ⟨fun c u _ h => a c u h, fun _ k h => ⟨k, a _ _ h⟩⟩
theorem Kp.new {st p : Addr} {H H1 : Hp} {o : HO} (a : Kp st H H1) (h : H1 p = none) : Kp st H (upd H1 p o) := a.trans (.of (same_new h o))
theorem Kp.put {st p : Addr} {H H1 : Hp} {o : HO} (a : Kp st H H1) (h : H p = none) : Kp st H (upd H1 p o) := ⟨fun b u n q => by rw [zn (zo q h)]; exact a.k b u n q, fun x k q => by
  obtain ⟨k', h'⟩ := a.s x k q
  exact ⟨k', by rw [zn (zo q h)]; exact h'⟩⟩
theorem Kp.seq {K : PySem.W.Frag} {st a : Addr} {H H' : Hp} {xs : List V} (e : Kp st H H') (n : a ≠ st) (h : SqL K H a xs) : SqL K H' a xs := by
  rcases h with (h | ⟨o, h⟩) | h
  · exact .inl (.inl (e.k _ _ n h))
  · exact .inl (.inr ⟨o, e.k _ _ n h⟩)
  · exact .inr h
theorem Kp.free {st p : Addr} {H H' : Hp} (e : Kp st H H') (n : p ≠ st) (h : H' p = none) : H p = none := by
  cases q : H p with
  | none => rfl
  | some o =>
    rw [e.k p o n q] at h
    cases h
section
variable {K : PySem.W.Frag} {H H' : Hp} {st : Addr} {B B' : Nat}
theorem Sta.ex (h : Sta K H st B) : ∃ o, H st = some o := let ⟨_, _, _, e, _⟩ := h; ⟨_, e⟩
theorem Sta.mono (h : Sta K H st B) (l : B <= B') : Sta K H st B' := let ⟨a, ns, k, h1, h2, h3, h4⟩ := h; ⟨a, ns, k, h1, h2, h3, Nat.le_trans h4 l⟩
theorem Sta.same (h : Sta K H st B) (s : Same H H') : Sta K H' st B := let ⟨a, ns, k, h1, h2, h3, h4⟩ := h; ⟨a, ns, k, s _ _ h1, h2, s.seq h3, h4⟩
theorem Sta.new (h : Sta K H st B) {p : Addr} (hp : H p = none) (o : HO) : Sta K (upd H p o) st B := h.same (same_new hp o)
theorem Sta.ne {p : Addr} (h : Sta K H st B) (hp : H p = none) : p ≠ st := fun e => by
  obtain ⟨o, q⟩ := h.ex
  rw [e, q] at hp
  cases hp
theorem Sta.neW {p : Addr} {x : Str} {xs : List V} (h : Sta K H st B) (hp : H p = some (.lst (.str x :: xs))) : p ≠ st := fun e => by
  obtain ⟨a, ns, k, h1, _⟩ := h
  rw [e, h1] at hp
  simp at hp
theorem Sta.put {H2 : Hp} {p : Addr} {o : HO} (S0 : Sta K H st B) (hp : H p = none) (k : Kp st H H2) (S2 : Sta K H2 st B') : Sta K (upd H2 p o) st B' := by
  obtain ⟨a, ns, i, h1, h2, h3, _⟩ := S0
  obtain ⟨a', ns', i', g1, g2, g3, g4⟩ := S2
  obtain ⟨k', h'⟩ := k.s a _ h1
  rw [g1] at h'
  have ea : a' = a := by
    have := congrArg (fun o => match o with | some (HO.lst (V.ref x :: _)) => x | _ => 0) h'
    exact this
  subst ea
  have g1' : upd H2 p o st = some (.lst [.ref a', .int ((i' : Nat) : Int)]) := by rw [zn (zo h1 hp)]; exact g1
  have key : a' ≠ p -> Sta K (upd H2 p o) st B' := fun n => by
    refine ⟨a', ns', i', g1', g2, ?_, g4⟩
    rcases g3 with (g | ⟨o, g⟩) | g
    · exact .inl (.inl (by rw [zn n]; exact g))
    · exact .inl (.inr ⟨o, by rw [zn n]; exact g⟩)
    · exact .inr g
  rcases h3 with (h | ⟨_, h⟩) | h
  · exact key (zo h hp)
  · exact key (zo h hp)
  · exact ⟨a', ns, i', g1', fun _ _ => .inr h, .inr h, g4⟩
def Tups (H H' : Hp) : Prop := ∀ p xs, H p = some (.tup xs) -> H' p = some (.tup xs)
theorem Tups.of (s : Same H H') : Tups H H' := fun p xs h => s p _ h
theorem Tups.trans {H2 : Hp} (a : Tups H H') (b : Tups H' H2) : Tups H H2 := fun p xs h => b p xs (a p xs h)
theorem Kp.tups (k : Kp st H H') (h : Sta K H st B) : Tups H H' := fun p xs q => k.k p _ (fun e => by
  obtain ⟨_, _, _, h1, _⟩ := h
  rw [e, h1] at q
  cases q) q
end
def xb (K : PySem.W.Frag) : Sp := fun vs H Q _ => ∃ (st : Addr) (m : Int) (B : Nat), vs = [.ref st, .int m] /\ Sta K H st B /\ B < LIM /\ 0 < m /\ ∀ (H' : Hp) (r : Int), Kp st H H' -> Sta K H' st (B + 1) -> 0 <= r -> r < m -> Q (.int r) H'
def LET : Str := "abcdefghijklmnopqrstuvwxyz"
theorem JN : cl LET = (List.range 26).map (97 + ·) := by decide +kernel
def lt (i : Nat) : Str := sg (97 + i)
theorem JO {i : Nat} (h : i < 26) : atI LET.cps.toList (i : Int) = some (97 + i) := by
  refine zp ?_
  show (cl LET)[i]? = _
  rw [JN, List.getElem?_map, List.getElem?_range h]
  rfl
theorem vw {m : Int} (h0 : 0 <= m) (h : m < 26) : atI LET.cps.toList m = some (97 + m.toNat) := by
  have e := JO (i := m.toNat) (by omega)
  rw [Int.toNat_of_nonneg h0] at e
  exact e
theorem vx : LET.length = 26 := by decide +kernel
def core (k : Nat) : Str := lt (k / 2 % 26) ++ ("z" : Str) ++ lt (k / 52 % 26)
def ys (k : Nat) : Str := Txt.mul "y" ((k % 2 : Nat) : Int)
def nm (z : Str) (b : Bool) (k : Nat) : Str := if b = true then core k ++ z ++ ys k else ys k ++ z ++ core k
theorem W1 (k : Nat) : cl (core k) = [97 + k / 2 % 26, 122, 97 + k / 52 % 26] := by
  unfold core
  rw [yc, yc]
  rfl
theorem wk (k : Nat) : (core k).length = 3 := by rw [<- yT, W1]; rfl
theorem jK (k : Nat) : (ys k).length <= 1 := by
  have h := W0 (z := "y") (n := ((k % 2 : Nat) : Int)) rfl
  unfold ys
  omega
theorem zZ (a b : Str) : (a ++ b).length = a.length + b.length := by rw [<- yT, yc, List.length_append, yT, yT]
theorem Xk {z : Str} {b : Bool} {k : Nat} (h : z.length <= 6) : (nm z b k).length <= 10 := by
  have h1 := wk k
  have h2 := jK k
  unfold nm
  split
  · rw [zZ, zZ]; omega
  · rw [zZ, zZ]; omega
def spNm : Sp := fun vs H Q _ => ∃ (p : Addr) (z : Str) (b : Bool) (xs : List V) (k : Nat), vs = [.ref p, .int (k : Nat)] /\ H p = some (.lst (.str z :: .bl b :: xs)) /\ z.length <= 6 /\ Q (.str (nm z b k)) H
section
variable {P : Program} {w : World} {K : PySem.W.Frag} {mg : Str -> Option Value} {base : Heap} {f : Addr} {fd : FuncData}
theorem scDraw : FnScope ["_law_state", "_law_many", "_law_k", "_law_cell"] ["_law_state", "_law_many"] (zm Xh) := ⟨rfl, rfl, rfl, by decide +kernel, rfl, by decide +kernel, by decide +kernel⟩
theorem W2 (F : Fun K "_law_draw" "_law_draw" Xh f fd) (m_len : mg "len" = none) : FnOk P w K mg base CX0 1 f fd ["_law_state", "_law_many"] (xb K) := by
  refine F.by scDraw (fun vs H Q E h => ?_) (fun cdv A outer s H vs Q E hr h => ?_)
  · obtain ⟨st, m, B, rfl, _⟩ := h
    rfl
  obtain ⟨st, m, B, rfl, ⟨a, ns, k, hst, hne, hS, hk⟩, hB, hm, q⟩ := h
  refine ⟨_,
    (zi (zt (i := 2) scDraw.nd rfl (Or.inl rfl) (zq zG (jv 0) zj (fun _ _ => rfl)))
    (zi (jn (zz yQ (jv 2) zj) (vv (jv 0) zj))
    (zi (zK (zr x8 (jv 2) (zE zF rfl m_len PySem.boot_len (ja_c (zq zG (jv 0) zj (fun _ _ => rfl)) zh)) (zv _))
      (zk (zw (zz yf (zq zG (zq zG (jv 0) zj (fun _ _ => rfl)) (jv 2) (fun _ _ => rfl)) (jv 1)))) zB)
    (zi (zt (i := 3) scDraw.nd rfl (Or.inl rfl) (zz yQ (zz jp (jv 2) zj) zj))
    (zi (zK (zr Zg (zE zF rfl m_len PySem.boot_len (ja_c (zq zG (jv 0) zj (fun _ _ => rfl)) zh)) zj (zv _))
      (zk (zt (i := 3) scDraw.nd rfl (Or.inl rfl) (zz yQ (jv 3) (zz jp (zq zG (zq zG (jv 0) zj (fun _ _ => rfl)) (zz yf (zz jp (jv 2) zj) (zE zF rfl m_len PySem.boot_len (ja_c (zq zG (jv 0) zj (fun _ _ => rfl)) zh))) (fun _ _ => rfl)) (zz yQ zj (jv 2)))))) zB)
    (zk (zw (zz yf (zz yf (jv 3) zj) (jv 1))))))))), ?_⟩
  refine ⟨_, rfl, st, _, _, _, rfl, rfl, SqL.of hst, zp (j := 1) rfl, ?_⟩
  refine ⟨_, rfl, _, _, rfl, rfl, _, rfl, st, _, 1, 1, rfl, rfl, hst, rfl, ?_⟩
  have kp : Kp st H (upd H st (.lst [.ref a, .int ((k + 1 : Nat) : Int)])) := ⟨fun b u n h => by rw [zn n]; exact h, fun x y h => by
    rw [hst] at h
    cases h
    exact ⟨_, zg⟩⟩
  have hst1 := zg (H := H) (a := st) (o := .lst [.ref a, .int ((k + 1 : Nat) : Int)])
  have hS1 : SqL K (upd H st (.lst [.ref a, .int ((k + 1 : Nat) : Int)])) a (ns.map V.int) := by
    by_cases e : a = st
    · exact hne e _
    · exact kp.seq e hS
  have fin : ∀ r : Int, 0 <= r -> r < m -> Q (.int r) (upd H st (.lst [.ref a, .int ((k + 1 : Nat) : Int)])) := fun r h0 h1 => q _ r kp ⟨a, ns, k + 1, hst1, hne, hS1, by omega⟩ h0 h1
  show (tSeq _ _ : TS) _ _ (upd H st (.lst [.ref a, .int ((k + 1 : Nat) : Int)]))
  generalize upd H st (.lst [.ref a, .int ((k + 1 : Nat) : Int)]) = H1 at *
  have ix0 : atI [V.ref a, V.int ((k + 1 : Nat) : Int)] 0 = some (.ref a) := zp (j := 0) rfl
  have mm : ∀ x : Int, 0 <= x % m /\ x % m < m := fun x => ⟨Int.emod_nonneg x (by omega), Int.emod_lt_of_pos x hm⟩
  refine ⟨_, rfl, _, rfl, st, _, _, _, rfl, rfl, SqL.of hst1, ix0, _, _, rfl, .inl hS1, _, _, rfl, rfl, _, rfl, ?_⟩
  rw [List.length_map]
  refine ite2 (fun c => ?_) (fun c => ?_)
  · rw [decide_eq_true_eq] at c
    have hi : k < ns.length := by omega
    have hx : (ns.map V.int)[k]? = some (.int ns[k]) := by rw [List.getElem?_map, List.getElem?_eq_getElem hi]; rfl
    exact ⟨_, rfl, st, _, _, _, rfl, rfl, SqL.of hst1, ix0, _, rfl, a, _, _, _, rfl, rfl, hS1, zp hx, _, rfl, _, _, rfl, rfl, hm, fin _ (mm _).1 (mm _).2⟩
  · refine ⟨_, rfl, _, _, rfl, rfl, .inr ⟨by decide, by decide⟩, _, _, rfl, rfl, ?_⟩
    have tail : ∀ (c : Int) (D : Ends), D.rt = Q -> (tRet (tOp (rI (fun _ j => 0 < j) fun i j => V.int (i % j)) (tOp (rI (fun _ j => 0 < j) fun i j => V.int (i % j)) (tVar 3) (tC (.int 2147483629))) (tVar 1)) : TS) D [some (.ref st), some (.int m), some (.int (k : Nat)), some (.int c)] H1 := fun c D e => by
      refine ⟨_, rfl, _, _, rfl, rfl, (by show (0 : Int) < _; decide), _, rfl, _, _, rfl, rfl, hm, ?_⟩
      rw [e]
      exact fin _ (mm _).1 (mm _).2
    refine ⟨_, rfl, st, _, _, _, rfl, rfl, SqL.of hst1, ix0, _, _, rfl, .inl hS1, _, _, rfl, rfl, _, rfl, ?_⟩
    rw [List.length_map]
    refine ite2 (fun c2 => ?_) (fun c2 => tail _ _ rfl)
    rw [decide_eq_true_eq] at c2
    have hl : (0 : Int) < (ns.length : Nat) := by omega
    have c0 := Int.emod_nonneg ((k : Nat) * 7 : Int) (show ((ns.length : Nat) : Int) ≠ 0 by omega)
    have c1 := Int.emod_lt_of_pos ((k : Nat) * 7 : Int) hl
    have hi : (((k : Nat) * 7 : Int) % (ns.length : Nat)).toNat < ns.length := by omega
    have hx : (ns.map V.int)[(((k : Nat) * 7 : Int) % (ns.length : Nat)).toNat]? = some (.int ns[(((k : Nat) * 7 : Int) % (ns.length : Nat)).toNat]) := by rw [List.getElem?_map, List.getElem?_eq_getElem hi]; rfl
    have hx2 : atI (ns.map V.int) (((k : Nat) * 7 : Int) % (ns.length : Nat)) = some (.int ns[(((k : Nat) * 7 : Int) % (ns.length : Nat)).toNat]) := by
      have e := zp hx
      rw [Int.toNat_of_nonneg c0] at e
      exact e
    refine ⟨_, rfl, _, rfl, st, _, _, _, rfl, rfl, SqL.of hst1, ix0, _, rfl, _, _, rfl, rfl, .inr ⟨by decide, by decide⟩, _, rfl, st, _, _, _, rfl, rfl, SqL.of hst1, ix0, _, _, rfl, .inl hS1, _, _, rfl, rfl, (by rw [List.length_map]; exact hl), ?_⟩
    refine ⟨a, _, _, _, rfl, rfl, hS1, (by rw [List.length_map]; exact hx2), _, rfl, _, _, rfl, rfl, _, _, rfl, rfl, .inr ⟨by show -(2 ^ 64) < (48271 + (k : Nat) : Int); omega, by show (48271 + (k : Nat) : Int) < 2 ^ 64; unfold LIM at hB; omega⟩, _, _, rfl, rfl, tail _ _ rfl⟩
theorem scNm : FnScope ["_law_world", "_law_k", "_law_letters", "_law_core"] ["_law_world", "_law_k"] (zm sNm) := ⟨rfl, rfl, rfl, by decide +kernel, rfl, by decide +kernel, by decide +kernel⟩
theorem qO (F : Fun K "_law_name" "_law_name" sNm f fd) : FnOk P w K mg base CX0 1 f fd ["_law_world", "_law_k"] spNm := by
  refine F.by scNm (fun vs H Q E h => ?_) (fun cdv A outer s H vs Q E hr h => ?_)
  · obtain ⟨p, z, b, xs, k, rfl, _⟩ := h
    rfl
  obtain ⟨p, z, b, xs, k, rfl, hp, hz, q⟩ := h
  refine ⟨_,
    (zi (zt (i := 2) scNm.nd rfl (Or.inl rfl) zu)
    (zi (zt (i := 3) scNm.nd rfl (Or.inl rfl) (zz zU (zz zU (zq jr (jv 2) (zz yf (zz xj (jv 1) zj) zj) (fun _ _ => rfl)) zu) (zq jr (jv 2) (zz yf (zz xj (jv 1) zj) zj) (fun _ _ => rfl))))
    (zi (zK (yn (zq zG (jv 0) zj (fun _ _ => rfl)))
      (zk (zw (zz zU (zz zU (jv 3) (zq zG (jv 0) zj (fun _ _ => rfl))) (zz x9 zu (zz yf (jv 1) zj))))) zB)
    (zk (zw (zz zU (zz zU (zz x9 zu (zz yf (jv 1) zj)) (zq zG (jv 0) zj (fun _ _ => rfl))) (jv 3))))))), ?_⟩
  have sl := zX
  have e1 : ((k : Nat) : Int) / 2 % 26 = ((k / 2 % 26 : Nat) : Int) := by omega
  have e2 : ((k : Nat) : Int) / 52 % 26 = ((k / 52 % 26 : Nat) : Int) := by omega
  have e3 : ((k : Nat) : Int) % 2 = ((k % 2 : Nat) : Int) := by omega
  have cl3 := wk k
  have yl := jK k
  have ec : (⟨#[97 + (((k : Nat) : Int) / 2 % 26).toNat]⟩ : Str) ++ ("z" : Str) ++ (⟨#[97 + (((k : Nat) : Int) / 52 % 26).toNat]⟩ : Str) = core k := by
    rw [e1, e2]
    rfl
  suffices rest : ∀ c3 : Str, c3 = core k -> (tSeq _ _ : TS) { nx := fun _ H' => Q .non H', rt := Q } [some (.ref p), some (.int (k : Nat)), some (.str LET), some (.str c3)] H by
    exact ⟨_, rfl, _, rfl, _, _, rfl, rfl, ⟨by decide, by decide⟩, _, _, rfl, rfl, (by show (0 : Int) < _; decide), LET, _, _, rfl, rfl, by rw [vx]; decide, vw (by omega) (by omega), _, _, rfl, rfl, by show 1 + 1 <= sizeLine; decide, _, rfl, _, rfl, _, _, rfl, rfl, ⟨by decide, by decide⟩, _, _, rfl, rfl, (by show (0 : Int) < _; decide), LET, _, _, rfl, rfl, by rw [vx]; decide, vw (by omega) (by omega), _, _, rfl, rfl, by show 2 + 1 <= sizeLine; decide, rest _ ec⟩
  rintro _ rfl
  have mo : MulOk "y" (((k % 2 : Nat) : Int)) := JM rfl (by omega) (by omega)
  refine ⟨_, rfl, p, _, _, _, rfl, rfl, SqL.of hp, zp (j := 1) rfl, _, rfl, ?_⟩
  unfold nm at q
  cases b with
  | true =>
    rw [if_pos rfl] at q
    refine iteT ?_
    refine ⟨_, rfl, _, rfl, p, _, _, _, rfl, rfl, SqL.of hp, zp (j := 0) rfl, _, _, rfl, rfl, by omega, _, rfl, _, _, rfl, rfl, (by show (0 : Int) < _; decide), _, _, rfl, rfl, by rw [e3]; exact mo, ?_⟩
    rw [e3]
    exact ⟨_, _, rfl, rfl, by rw [zZ]; show (core k).length + z.length + (ys k).length <= _; omega, q⟩
  | false =>
    rw [if_neg (by decide)] at q
    refine iteF ?_
    refine ⟨_, rfl, _, _, rfl, rfl, (by show (0 : Int) < _; decide), _, _, rfl, rfl, by rw [e3]; exact mo, ?_⟩
    rw [e3]
    refine ⟨_, rfl, p, _, _, _, rfl, rfl, SqL.of hp, zp (j := 0) rfl, _, _, rfl, rfl, by show (ys k).length + z.length <= _; omega, _, rfl, _, _, rfl, rfl, by show (Txt.mul "y" (((k % 2 : Nat) : Int)) ++ z).length + (core k).length <= _; rw [zZ]; show (ys k).length + z.length + (core k).length <= _; omega, q⟩
end
end GN
namespace L2
open PySem PySem.Spec PyProof.Rows
def BMn (mg : Str -> Option Value) (h : Heap) : Prop := ∃ bm ob, mg "__builtins__" = some (.ref bm) /\ bm ≠ builtinsNs /\ h.get? bm = some ob /\ ob.cls = .type "module" /\ ob.dict = some builtinsNs /\ ob.data = .plain
theorem BMn.at {mg : Str -> Option Value} {h : Heap} {P : Addr} {ps : Array Value} (B : BMn mg h) (g : h.Ns mainGlobals mg) (hP : h.get? P = some { cls := .none, data := .fields ps }) : h.BuiltinsAt mg P /\ mainGlobals ≠ P := by
  obtain ⟨bm, ob, b1, b2, b3, b4, b5, b6⟩ := B
  refine ⟨⟨bm, ob, b1, b2, fun q => ?_, fun q => ?_, b3, b4, b5, b6⟩, fun q => ?_⟩
  · obtain ⟨o, es, ep, e, hd, _⟩ := g
    rw [q, e] at b3; cases b3; rw [hd] at b6; cases b6
  · rw [q, hP] at b3; cases b3; cases b4
  · obtain ⟨o, es, ep, e, hd, _⟩ := g
    rw [q, hP] at e; cases e; cases hd
theorem BMn.keeps {mg : Str -> Option Value} {h h' : Heap} (B : BMn mg h) (k : ∀ b o, h.get? b = some o -> h'.get? b = some o) : BMn mg h' :=
  let ⟨bm, ob, b1, b2, b3, r⟩ := B; ⟨bm, ob, b1, b2, k _ _ b3, r⟩
theorem Z9 {P : Program} {w : World} {K : PySem.W.Frag} {mg mb : Str -> Option Value} {CX : CXT} {k : Nat} {fa a T : Addr} {fd : FuncData} {x : Str} {sp : Sp} {s₁ : Shared} {vs : List Value} {ns : List Int}
    (KX : K.In s₁.heap) (hT : s₁.heap.get? T = some { cls := .none, data := .fields #[] }) (hTK : K.lookup T = none) (hTc : isCodeTable s₁.heap T) (hns : s₁.heap.Ns mainGlobals mg) (hb : s₁.heap.Ns builtinsNs mb) (hbb : ∀ x : Str, x ≠ "__name__" -> mb x = bootBuiltins x) (hlim : s₁.heap.NoLimit) (hBM : BMn mg s₁.heap) (hg : s₁.gens = #[])
    (ha : s₁.heap.get? a = some { cls := .type "list", data := .seq vs.toArray }) (hi : IntsAre vs ns) (hl : ns.length <= sizeLine) (hr : Room k callerA)
    (F : ∀ base : Heap, K.In base -> base.Ns mainGlobals mg -> BMn mg base -> FnOk P w K mg base CX k fa fd [x] sp) (hbind : ∀ (s : Shared) (u : Value), BindsTo s fd ⟨[u], []⟩ [(x, u)])
    (hsp : ∀ H : Hp, H T = some (.tbl #[]) -> SqL K H a (ns.map V.int) -> sp [.ref a] H (fun v _ => v = .bl true) fun _ _ _ => False)
    (hCX : ∀ H e s', CX [] H s₁ (fun _ _ _ => False) e s' -> False) :
    codeAny (model P w) callerA (.call (.ref fa) ⟨[.ref a], []⟩) (fun r s' => r = .ok (.ret (.bool true)) /\ OldK s₁.heap s'.heap /\ s'.os = s₁.os /\ AllBare s'.gens) s₁ := by
  have rv := wK hi
  have lenV := hi.length
  have nTa : a ≠ T := fun e => by rw [e, hT] at ha; cases ha
  have core : ∀ H : Hp, (∀ b, H b = none \/ (∃ o xs, H b = some (.frz o (.lst xs))) \/ (b = T /\ H b = some (.tbl #[]))) -> H T = some (.tbl #[]) -> SqL K H a (ns.map V.int) -> HOk P w H s₁.heap -> (∀ b, H b ≠ none -> b = a \/ b = T) -> (H a ≠ none -> K.lookup a = none) ->
      codeAny (model P w) callerA (.call (.ref fa) ⟨[.ref a], []⟩) (fun r s' => r = .ok (.ret (.bool true)) /\ OldK s₁.heap s'.heap /\ s'.os = s₁.os /\ AllBare s'.gens) s₁ := by
    intro H hO hHT hS hok hA hK
    have base_of : ∀ {b : Addr} {o : Obj}, s₁.heap.get? b = some o -> H b = none -> (hidT s₁.heap H).get? b = some o := fun e n => Ys e n
    have noA : ∀ {b : Addr} {o : Obj} {es : Array DictEntry} {ep : Nat}, s₁.heap.get? b = some o -> o.data = .dict es ep -> H b = none := fun {b o es ep} e d => by
      cases q : H b with
      | none => rfl
      | some u =>
        rcases hA b (by rw [q]; simp) with e' | e'
        · subst e'
          rw [ha] at e; cases e
          have d' : Data.seq vs.toArray _ = Data.dict es ep := d
          cases d'
        · subst e'
          rw [hT] at e; cases e
          have d' : Data.fields #[] = Data.dict es ep := d
          cases d'
    have nsK : ∀ {b : Addr} {m : Str -> Option Value}, s₁.heap.Ns b m -> (hidT s₁.heap H).Ns b m := fun {b m} ⟨o, es, ep, e, d, r⟩ => ⟨o, es, ep, base_of e (noA e d), d, r⟩
    have hBb : BMn mg (hidT s₁.heap H) := by
      obtain ⟨bm, ob, b1, b2, b3, b4, b5, b6⟩ := hBM
      refine ⟨bm, ob, b1, b2, base_of b3 ?_, b4, b5, b6⟩
      cases q : H bm with
      | none => rfl
      | some u =>
        rcases hA bm (by rw [q]; simp) with e' | e'
        · subst e'
          rw [ha] at b3; cases b3; cases b6
        · subst e'
          rw [hT] at b3; cases b3; cases b6
    have hKb : K.In (hidT s₁.heap H) := fun b o e => base_of (KX b o e) (by
      cases q : H b with
      | none => rfl
      | some u =>
        rcases hA b (by rw [q]; simp) with e' | e'
        · subst e'
          rw [hK (by rw [q]; simp)] at e; cases e
        · subst e'
          rw [hTK] at e; cases e)
    have hM : Mod K mg (hidT s₁.heap H) := ⟨hKb, nsK hns, ⟨mb, nsK hb, hbb⟩, let ⟨mc, h1, h2⟩ := hlim; ⟨mc, nsK h1, h2⟩⟩
    have e0 : Env0 P w K mg (hidT s₁.heap H) callerA [] s₁ H := ⟨rfl, hM, fun b o e => Wh e, Nat.le_of_eq (ZQ _ _), trivial, fun b hb => absurd (show b ∈ ([] : List Addr) from hb) (by simp), hok, .of_eq hg⟩
    refine codeAny_mono ((F _ hKb (nsK hns) hBb).run callerA [] s₁ H ⟨[.ref a], []⟩ [.ref a] [.ref a] _ _ hr e0 (hbind s₁ (.ref a)) (.cons rfl .nil) (hsp H hHT hS)) fun r s' h => ?_
    cases r with
    | error e => exact (hCX H e s' h).elim
    | ok fl =>
      cases fl with
      | next => exact False.elim h
      | brk => exact False.elim h
      | cont => exact False.elim h
      | ret u =>
        obtain ⟨v, H', os, bare, un, hok', r', q⟩ := h
        have q' : v = .bl true := q
        subst q'
        obtain rfl : u = Value.bool true := r'
        refine ⟨rfl, ⟨fun b o e => ?_, fun b o e => un.there b o e (by simp)⟩, os, bare⟩
        cases q : H b with
        | none => exact .inl (un.keep b o e q (by intro z; exact absurd (show b ∈ ([] : List Addr) from z) (by simp)) (by simp))
        | some u =>
          rcases hO b with z | ⟨ob, xs, z⟩ | ⟨rfl, z⟩
          · rw [q] at z; cases z
          · have z2 := un.frzs b ob _ z
            obtain ⟨e1, _⟩ := hok b _ z
            obtain ⟨e2, _⟩ := hok' b _ z2
            rw [e] at e1; cases e1
            exact .inl e2
          · obtain ⟨more, z2⟩ := un.tbls b _ z
            have e2 : s'.heap.get? b = some { cls := .none, data := .fields (#[] ++ more) } := hok' b _ z2
            rw [hT] at e; cases e
            exact .inr (.inl ⟨hTc, rfl, #[], more, rfl, e2⟩)
  cases hk : K.lookup a with
  | some o =>
    have e := KX a o hk
    rw [ha] at e
    cases e
    refine core (fun b => if b = T then some (.tbl #[]) else none) (fun b => ?_) (if_pos rfl) (.inr ⟨_, vs.toArray, _, hk, rfl, rfl, rfl, by rw [List.size_toArray, lenV]; exact hl, by simpa using rv⟩) (fun b u z => ?_) (fun b z => ?_) fun z => absurd (if_neg nTa) z
    · by_cases hb : b = T
      · exact .inr (.inr ⟨hb, if_pos hb⟩)
      · exact .inl (if_neg hb)
    · by_cases hb : b = T
      · have z' := (if_pos hb).symm.trans z
        cases z'
        subst hb
        exact hT
      · have z' := (if_neg hb).symm.trans z
        cases z'
    · by_cases hb : b = T
      · exact .inr hb
      · exact absurd (if_neg hb) z
  | none =>
    refine core (fun b => if b = T then some (.tbl #[]) else if b = a then some (.frz { cls := .type "list", data := .seq vs.toArray } (.lst (ns.map V.int))) else none) (fun b => ?_) (if_pos rfl) (.inl (.inr ⟨{ cls := .type "list", data := .seq vs.toArray }, (if_neg nTa).trans (if_pos rfl)⟩)) (fun b u z => ?_) (fun b z => ?_) fun _ => hk
    · by_cases hb : b = T
      · exact .inr (.inr ⟨hb, if_pos hb⟩)
      · by_cases hb2 : b = a
        · exact .inr (.inl ⟨_, _, (if_neg hb).trans (if_pos hb2)⟩)
        · exact .inl ((if_neg hb).trans (if_neg hb2))
    · by_cases hb : b = T
      · have z' := (if_pos hb).symm.trans z
        cases z'
        subst hb
        exact hT
      · by_cases hb2 : b = a
        · have z' : some (HO.frz { cls := .type "list", data := .seq vs.toArray } (.lst (ns.map V.int))) = some u := ((if_neg hb).trans (if_pos hb2)).symm.trans z
          cases z'
          subst hb2
          exact ⟨ha, by rw [List.length_map]; exact hl, vs, _, rv, ha⟩
        · have z' : none = some u := ((if_neg hb).trans (if_neg hb2)).symm.trans z
          cases z'
    · by_cases hb : b = T
      · exact .inr hb
      · by_cases hb2 : b = a
        · exact .inl hb2
        · exact absurd ((if_neg hb).trans (if_neg hb2)) z
def spTopT (K : PySem.W.Frag) (T : Addr) : Sp := fun vs H Q _ => ∃ (a : Addr) (ns : List Int), vs = [.ref a] /\ SqL K H a (ns.map V.int) /\ ns.length <= 63 /\ H T = some (.tbl #[]) /\ ∀ H', Q (.bl true) H'
theorem W3 {l : PySem.W.OpenLaw} {w : World} {K : PySem.W.Frag} {h : Heap} {mg : Str -> Option Value} {fa T : Addr} {st : Stmt} {k : Nat} (d : DfIn K "law" st) (X : K.In h) (G : h.Ns mainGlobals mg) (hfa : mg "law" = some (.ref fa))
    (hb : ∀ (kV doc pm : Value) (an : Option Addr) (cdv ct : Value) (s : Shared) (u : Value), BindsTo s (PySem.W.fnOf "law" "law" (zI st) (zD st) (zm st) .none kV doc pm an cdv ct) ⟨[u], []⟩ [("_law_script", u)])
    (ok : ∀ (base : Heap) (fd : FuncData), BMn mg base -> Fun K "law" "law" st fa fd -> FnOk l.prog w K mg base CX0 k fa fd ["_law_script"] (spTopT K T)) :
    ∃ fd : FuncData, (∀ (s : Shared) (u : Value), BindsTo s fd ⟨[u], []⟩ [("_law_script", u)]) /\ ∀ base : Heap, K.In base -> base.Ns mainGlobals mg -> BMn mg base -> FnOk l.prog w K mg base CX0 k fa fd ["_law_script"] (spTopT K T) := by
  obtain ⟨fl, al, oc, od, kV, doc, pm, an, cdv, ct, osl, lk, cc, kk⟩ := d
  have e : fl = fa := by
    have := PySem.W.mg_of X G al
    rw [hfa] at this
    injection this with this
    injection this with this
    exact this.symm
  subst e
  exact ⟨_, fun s v => hb _ _ _ _ _ _ s v, fun base _ _ B => ok base _ B (YR (st := st) lk cc kk)⟩
theorem walkT {l : PySem.W.OpenLaw} {q : Program} {loose : List Str} {XP : (Str -> Option Value) -> Heap -> Prop} {d : DefRec} {K : Params -> PySem.W.Frag} {as : List Addr} {e : ∀ p, as = (K p).map (·.1)} {T c : Addr} {k : Nat} (hn : l.most = some 63) (hr : Room k callerA) (hdf : d.params.defaults = []) (hnm : d.name = "law")
    (hc : ∀ p, PySem.W.codeHdIn (K p) c T = true) (hTK : ∀ p, (K p).lookup T = none)
    (F : ∀ (w : World) (mg : Str -> Option Value) (fa : Addr) (h : Heap), (K w.params).In h -> h.Ns mainGlobals mg -> mg "law" = some (.ref fa) -> ∃ fd : FuncData, (∀ (s : Shared) (u : Value), BindsTo s fd ⟨[u], []⟩ [("_law_script", u)]) /\ ∀ base : Heap, (K w.params).In base -> base.Ns mainGlobals mg -> BMn mg base -> FnOk l.prog w (K w.params) mg base CX0 k fa fd ["_law_script"] (spTopT (K w.params) T)) :
    PySem.W.WalkO q loose XP (PySem.W.kmHook K as e [T]).says l.row.toRowW d [] (fun f vs => PySem.call f vs) := by
  refine Att.attach_call hn hdf fun w s₀ s₁ mg mb fa o pm cd doc a vs ns G Y ho hd hcd hmg hobj hints hlen hg => ?_
  have KX := PySem.W.km_in_of Y
  have hT := PySem.W.km_tabs_of Y T (by simp)
  obtain ⟨fd, hb, hF⟩ := F w mg fa _ KX G.T.g (by rw [hnm] at hmg; exact hmg)
  obtain ⟨o1, vs1, _, _, _, _, _, _, _, c1, c2, c3, c4, _⟩ := PySem.W.codeHd_of_K KX (hc w.params)
  exact Z9 KX hT (hTK w.params) ⟨c, o1, vs1, c1, c2, c3, c4⟩ G.T.g G.T.b G.T.builtins G.T.nolimit G.T.bmain hg hobj hints (Nat.le_trans hlen (by decide)) hr hF hb (fun H hO hS => ⟨a, ns, rfl, hS, hlen, hO, fun _ => rfl⟩) fun _ _ _ z => z
end L2
namespace L2
open PySem PySem.Spec PyProof.Rows
def FunO (f : Addr) (fd : FuncData) : HO := .ext fun h => h.get? f = some { cls := .type "function", data := .func fd }
def CodO (c : Addr) (qual : Str) : HO := .ext fun h => h.CodeRec (.ref c) qual
theorem Xl {P : Program} {w : World} {H : Hp} {h : Heap} {f : Addr} {fd : FuncData} (e : h.get? f = some { cls := .type "function", data := .func fd }) : ObjOk P w H h f (FunO f fd) :=
  ⟨e, ⟨_, e⟩, fun _ _ p k => k _ p⟩
theorem JP {P : Program} {w : World} {H : Hp} {h : Heap} {c : Addr} {qual : Str} (e : h.CodeRec (.ref c) qual) : ObjOk P w H h c (CodO c qual) :=
  ⟨e, (let ⟨_, oc, _, _, q, e, _⟩ := e; by cases q; exact ⟨oc, e⟩), fun _ _ ⟨d, oc, vs, t, q, e, r⟩ k => by cases q; exact ⟨c, oc, vs, t, rfl, k _ e, r⟩⟩
abbrev lamF (mg : Str -> Option Value) (qual : Str) (params : Arguments) (body : Expr) (scope : Scope) (c : Addr) (ctv : Value) : FuncData := PySem.W.kla_fn "<lambda>" qual params body scope [] ((mg "__name__").getD .none) (.ref c) ctv
def tLam (mg : Str -> Option Value) (T : Addr) (qual : Str) (params : Arguments) (body : Expr) (scope : Scope) (pos : Pos) : TE := fun _ H Q => ∃ ps, H T = some (.tbl ps) /\ TriplesOk ps.toList /\
  ((codeAmong pos ps.toList = none /\ ∀ (c f : Addr) (ctv : Value), H c = none -> H f = none -> f ≠ c -> Q (.ref f) (upd (upd (upd H T (.tbl (ps ++ #[rawInt pos.line, rawInt pos.col, .ref c]))) c (CodO c qual)) f (FunO f (lamF mg qual params body scope c ctv)))) \/
   (∃ c, codeAmong pos ps.toList = some (.ref c) /\ ∀ (f : Addr) (ctv : Value), H f = none -> Q (.ref f) (upd H f (FunO f (lamF mg qual params body scope c ctv)))))
theorem JQ {X : Cx} {c T : Addr} {params : Arguments} {body : Expr} {scope : Scope} {pos : Pos} {qual : Str} (hB : BMn X.mg X.base) (hcode : X.env.code = .ref c) (hc : PySem.W.codeHdIn X.K c T = true) (hq : X.env.qual ++ "<lambda>" = qual)
    (hdef : defaultsOf params X.env = ([], [])) (hcl : closureFor scope X.env = pure []) : PE X (.Lambda params body scope pos) (tLam X.mg T qual params body scope pos) := by
  intro pins s σ H Q I h
  refine PySem.W.kla_eval hdef ?_
  rw [hq]
  obtain ⟨ps, hT, tr, h⟩ := h
  have gT : s.heap.get? T = some { cls := .none, data := .fields ps } := I.hok T _ hT
  have hg := I.mod.glob.keeps I.bk
  obtain ⟨bAt, hgP⟩ := (hB.keeps I.bk).at hg gT
  rcases h with ⟨nf, h⟩ | ⟨c', hit, h⟩
  · refine PySem.W.kla_makeFunction (mg := X.mg) hcl I.ok.glob hg hcode (PySem.W.codeHd_of_K I.kIn hc) gT tr nf hgP bAt fun c' ctv h' tk ext ge lt rec tab => ?_
    have hc0 : H c' = none := I.hok.fresh ge
    have hf0 : H h'.objs.size = none := I.hok.fresh (Nat.le_trans ge (Nat.le_of_lt lt))
    have nfc : h'.objs.size ≠ c' := Nat.ne_of_gt lt
    have ncT : T ≠ c' := zo hT hc0
    have nfT : T ≠ h'.objs.size := zo hT hf0
    have elsewhere : ∀ b, b ≠ T -> b ≠ c' -> b ≠ h'.objs.size -> upd (upd (upd H T (.tbl (ps ++ #[rawInt pos.line, rawInt pos.col, .ref c']))) c' (CodO c' qual)) h'.objs.size (FunO h'.objs.size (lamF X.mg qual params body scope c' ctv)) b = H b := fun b h1 h2 h3 => by rw [zn h3, zn h2, zn h1]
    have hU : ∀ b u, H b = some u -> b ≠ T -> upd (upd (upd H T (.tbl (ps ++ #[rawInt pos.line, rawInt pos.col, .ref c']))) c' (CodO c' qual)) h'.objs.size (FunO h'.objs.size (lamF X.mg qual params body scope c' ctv)) b = some u := fun b u e n => by
      rw [elsewhere b n (zo e hc0) (zo e hf0)]; exact e
    have hTb : upd (upd (upd H T (.tbl (ps ++ #[rawInt pos.line, rawInt pos.col, .ref c']))) c' (CodO c' qual)) h'.objs.size (FunO h'.objs.size (lamF X.mg qual params body scope c' ctv)) T = some (.tbl (ps ++ #[rawInt pos.line, rawInt pos.col, .ref c'])) := by
      rw [zn nfT, zn ncT]; exact zg
    have keep : ∀ b o, b ≠ T -> s.heap.get? b = some o -> (h'.push (PySem.W.kla_obj "<lambda>" qual params body scope [] ((X.mg "__name__").getD .none) c' ctv)).get? b = some o := fun b o n e => Heap.get?_push_of_some _ (ext b o n e)
    have neT : ∀ b, H b = none -> b ≠ T := fun b e n => by rw [n, hT] at e; cases e
    refine ⟨.ref h'.objs.size, _, I.un (t' := tk) (H' := upd (upd (upd H T (.tbl (ps ++ #[rawInt pos.line, rawInt pos.col, .ref c']))) c' (CodO c' qual)) h'.objs.size (FunO h'.objs.size (lamF X.mg qual params body scope c' ctv))) ⟨fun b o e n _ _ => keep b o (neT b n) e, fun b o e n _ _ => ⟨o.slots, keep b o (neT b n) e⟩, fun b o e n _ => ?_, fun b o e _ => ?_, fun b xs e => hU b _ e (fun z => by rw [z, hT] at e; cases e), fun b o xs e => hU b _ e (fun z => by rw [z, hT] at e; cases e), fun b qs e => ?_⟩ ?_, rfl, h c' _ ctv hc0 hf0 nfc⟩
    · have l := Heap.lt_size e
      rw [elsewhere b (neT b n) (Nat.ne_of_lt (Nat.lt_of_lt_of_le l ge)) (Nat.ne_of_lt (Nat.lt_trans (Nat.lt_of_lt_of_le l ge) lt))]
      exact n
    · by_cases z : b = T
      · rw [z]; exact ⟨_, Heap.get?_push_of_some _ tab⟩
      · exact ⟨o, keep b o z e⟩
    · by_cases z : b = T
      · subst z
        rw [hT] at e; cases e
        exact ⟨_, hTb⟩
      · exact ⟨#[], by rw [hU b _ e z]; simp⟩
    · intro b u e
      by_cases z1 : b = h'.objs.size
      · subst z1
        rw [zg] at e; cases e
        exact Xl (Heap.get?_push_size _ rfl)
      rw [zn z1] at e
      by_cases z2 : b = c'
      · subst z2
        rw [zg] at e; cases e
        obtain ⟨d, oc, vs, t, q, e, r⟩ := rec
        exact JP ⟨d, oc, vs, t, q, Heap.get?_push_of_some _ e, r⟩
      rw [zn z2] at e
      by_cases z3 : b = T
      · subst z3
        rw [zg] at e; cases e
        exact Heap.get?_push_of_some _ tab
      rw [zn z3] at e
      refine (I.hok b u e).stay (fun d v hd q => keep d v ?_ q) (fun d q => hU d _ q fun z => by rw [z, hT] at q; cases q) fun d xs q => hU d _ q fun z => by rw [z, hT] at q; cases q
      rcases hd with rfl | hd
      · exact z3
      · intro z
        rw [z, hT] at hd; cases hd
  · refine PySem.W.kla_makeFunctionHit (mg := X.mg) hcl I.ok.glob hg hcode (PySem.W.codeHd_of_K I.kIn hc) gT tr hit bAt fun ctv h' tk kp sz => ?_
    have hf0 : H h'.objs.size = none := I.hok.fresh sz
    exact ⟨.ref h'.objs.size, _, I.laid (t' := tk) (o := FunO h'.objs.size (lamF X.mg qual params body scope c' ctv)) (fun b u e => Heap.get?_push_of_some _ (kp b u e)) sz (Xl (Heap.get?_push_size _ rfl)), rfl, h _ ctv hf0⟩
theorem JR {X : Cx} {c T : Addr} {params : Arguments} {body : Expr} {scope : Scope} {pos : Pos} {qual : Str} (hB : BMn X.mg X.base) (hcode : X.env.code = .ref c) (hc : PySem.W.codeHdIn X.K c T = true) (hq : X.env.qual ++ "<lambda>" = qual)
    (hdef : defaultsOf params X.env = ([], []) := by rfl) (hcl : closureFor scope X.env = pure [] := by rfl) : jE X (.Lambda params body scope pos) (tLam X.mg T qual params body scope pos) := ⟨JQ hB hcode hc hq hdef hcl⟩
theorem JS {CX : CXT} {P : Program} {w : World} {K : PySem.W.Frag} {mg : Str -> Option Value} {base : Heap} {k : Nat} {f c : Addr} {name qual : Str} {params : Arguments} {body : Expr} {scope : Scope} {pm ct : Value}
    {N ps : List Str} {sp : Sp} (here : ∀ vs H Q E, sp vs H Q E -> H f = some (FunO f (PySem.W.kla_fn name qual params body scope [] pm (.ref c) ct)) /\ H c = some (CodO c qual)) (S : FnScope N ps scope)
    (len : ∀ vs H Q E, sp vs H Q E -> vs.length = ps.length)
    (hbody : ∀ (A : Around) (outer : List Env) (s : Shared) (H : Hp) (vs : List V) (Q : VK) (E : XK), Room k (A.deeper (envOfC qual scope s.heap.objs.size f (.ref c))) -> sp vs H Q E ->
      ∃ t, PE (cxOf CX P w K mg base N qual scope f (.ref c) A outer s H E) body t /\ t (z6 N vs) H Q) :
    FnOk P w K mg base CX (k + 1) f (PySem.W.kla_fn name qual params body scope [] pm (.ref c) ct) ps sp := by
  refine ⟨len, fun A outer s H args us vs Q E hr e0 hb r hsp => ?_⟩
  have hl := len _ _ _ _ hsp
  have lim : s.heap.NoLimit := e0.mod.nolimit.keeps fun b o e => (e0.bs b o e).1
  have hkind : ∀ y ∈ ps.zip us, scope.names.lookup y.1 = some .local \/ (scope.names.lookup y.1 = some .cell /\ ((cellsFrom (s.heap.objs.size + 1) scope.names []).lookup y.1).isSome = true) := fun ⟨n, v⟩ hy => by
    rcases S.par n (List.of_mem_zip hy).1 with q | q
    · exact .inl q
    · exact .inr ⟨q, PySem.W.cellsFrom_some _ _ _ (.inl q)⟩
  obtain ⟨hf, hc⟩ := here _ _ _ _ hsp
  have of := (e0.hok f _ hf).1
  have oc := (e0.hok c _ hc).1
  refine PySem.W.kla_callFunE hr.depth of rfl S.co S.gen rfl oc (hb _ _ _ _ ?_)
  refine wpAny_newFunctionEnv_cells S.kind hkind fun env he s1 x => ?_
  subst he
  refine ⟨lim.keeps x.toInCall.keep, PySem.W.kla_codeExpr ?_⟩
  obtain ⟨t, ht, hq⟩ := hbody A outer s H vs Q E (hr.deeper _) hsp
  have I : Inv (cxOf CX P w K mg base N qual scope f (.ref c) A outer s H E) [] (z6 N vs) H s1 := xx S hr.hd e0 hl r x
  refine wpAny_mono (ht [] s1 (z6 N vs) H _ I hq) (fun u s' hs => ?_) fun e s' hs => hs
  obtain ⟨v, H', J, rv, q⟩ := hs
  exact ⟨v, H', J.os, J.bare, J.base, J.hok, rv, q⟩
def Xm (fo : Addr -> Value -> FuncData) (sp : Addr -> Addr -> Value -> Sp) (E : XK) (i : Nat) (t : TA) : TE := fun σ H Q => ∃ f, σ[i]? = some (some (.ref f)) /\ ∃ c ct, H f = some (FunO f (fo c ct)) /\ t σ H fun vs H1 => H1 f = some (FunO f (fo c ct)) /\ sp f c ct vs H1 Q E
theorem Xn {X : Cx} {CX : CXT} {k : Nat} {fo : Addr -> Value -> FuncData} {ps : List Str} {sp : Addr -> Addr -> Value -> Sp} {E : XK} {i : Nat} {x : Str} {p pos : Pos} {e : Expr} {es : List Expr} {t : TA}
    (F : ∀ f c ct, FnOk X.prog X.w X.K X.mg X.base CX k f (fo c ct) ps (sp f c ct)) (hr : Room k X.A) (hn : PE X (.Name x p) (tVar i)) (hb : ∀ c ct, Binds X.K (fo c ct) ps []) (hx : zO CX X E) (ha : PA X (e :: es) t)
    (he : starEach (e :: es) X.env = (false, eval e X.env) :: starEach es X.env) (hpl : (backTo pos (starEach es X.env)).any (·.1) = false) :
    PE X (.Call (.Name x p) (e :: es) [] pos) (Xm fo sp E i t) := by
  intro pins s σ H Q I h
  obtain ⟨f, hf, c, ct, hF, h⟩ := h
  refine wpAny_Call_Name_kw (thn (hn pins s σ H (fun v H1 => v = .ref f /\ H1 = H) I ⟨_, hf, rfl, rfl⟩) fun u s0 ⟨v, H0, I0, r0, e1, e2⟩ => ?_)
  subst e1; subst e2
  cases r0
  refine PySem.W.callWith_F ⟨_, _, _, _, (I0.hok f _ hF).1⟩ (thn (ha pos pins s0 σ H0 _ I0 h) fun us s1 ⟨vs, H1, I1, r, hF1, q⟩ => ⟨⟨_, _, _, _, (I1.hok f _ hF1).1⟩, ?_⟩) he hpl
  exact wZ (F f c ct) hr (hb c ct) .nil hx I1 r (by rw [List.append_nil]; exact q)
theorem Xo {X : Cx} {CX : CXT} {k : Nat} {fo : Addr -> Value -> FuncData} {ps : List Str} {sp : Addr -> Addr -> Value -> Sp} {E : XK} {i : Nat} {x : Str} {p pos : Pos} {e : Expr} {es : List Expr} {t : TA}
    (F : ∀ f c ct, FnOk X.prog X.w X.K X.mg X.base CX k f (fo c ct) ps (sp f c ct)) (hr : Room k X.A) (hn : jE X (.Name x p) (tVar i)) (hb : ∀ c ct, Binds X.K (fo c ct) ps []) (hx : zO CX X E) (ha : jA X (e :: es) t) (h1 : zy e = false := by rfl) (h2 : es.all (fun e => !zy e) = true := by rfl) :
    jE X (.Call (.Name x p) (e :: es) [] pos) (Xm fo sp E i t) := ⟨Xn F hr hn.out hb hx ha.out (zH h1) (zY h2)⟩
structure CaD (P : Program) (w : World) (K : PySem.W.Frag) (mg : Str -> Option Value) (base : Heap) (CX : CXT) (k : Nat) (x : Str) (ps : List Str) (dvs : List V) (sp : Sp) : Prop where
  ex : ∃ f fd, FnOk P w K mg base CX k f fd ps sp /\ Binds K fd ps [] /\ (∃ ds, Binds K fd ps ds /\ Vals dvs ds) /\ PySem.W.keepIn K (.ref f) = true /\ mg x = some (.ref f)
section
variable {X : Cx} {CX : CXT} {k : Nat} {x : Str} {ps : List Str} {sp : Sp} {dvs : List V} {E : XK} {p pos : Pos} {e : Expr} {es : List Expr} {t : TA}
theorem JT (F : CaD X.prog X.w X.K X.mg X.base CX k x ps dvs sp) (hr : Room k X.A) (hg : Gl X x) (hx : zO CX X E) (ha : jA X (e :: es) t) (hdb : (x == ("__debug__" : Str)) = false := by decide) (h1 : zy e = false := by rfl) (h2 : es.all (fun e => !zy e) = true := by rfl) :
    jE X (.Call (.Name x p) (e :: es) [] pos) (wE sp dvs E t) := let ⟨_, _, G, _, ⟨_, b, r⟩, kp, mg⟩ := F.ex; VE G hr hg mg kp b r hx ha hdb h1 h2
end
def DdIn (K : PySem.W.Frag) (x : Str) (st : Stmt) (c D : Addr) : Prop := ∃ f, PySem.W.nsIn K mainGlobals x = some (some (.ref f)) /\ ∃ (oc : Value) (od : Option Addr) (kV doc pm : Value) (an : Option Addr) (ct : Value) (osl : Array (Option Value)), K.lookup f = some ⟨oc, od, .func (PySem.W.fnOf x x (zI st) (zD st) (zm st) (.ref D) kV doc pm an (.ref c) ct), osl⟩ /\ PySem.W.codeIn K (.ref c) x = true /\ PySem.W.keepIn K (.ref f) = true
theorem DdIn.mk {K : PySem.W.Frag} {x : Str} {st : Stmt} {f c D : Addr} {oc : Value} {od : Option Addr} {kV doc pm : Value} {an : Option Addr} {ct : Value} {osl : Array (Option Value)} (a : PySem.W.nsIn K mainGlobals x = some (some (.ref f))) (l : K.lookup f = some ⟨oc, od, .func (PySem.W.fnOf x x (zI st) (zD st) (zm st) (.ref D) kV doc pm an (.ref c) ct), osl⟩) (cc : PySem.W.codeIn K (.ref c) x = true) (k : PySem.W.keepIn K (.ref f) = true) : DdIn K x st c D := ⟨f, a, oc, od, kV, doc, pm, an, ct, osl, l, cc, k⟩
structure FunD (K : PySem.W.Frag) (x : Str) (st : Stmt) (c D f : Addr) (fd : FuncData) : Prop where
  ex : ∃ (oc : Value) (od : Option Addr) (kV doc pm : Value) (an : Option Addr) (ct : Value) (osl : Array (Option Value)), fd = PySem.W.fnOf x x (zI st) (zD st) (zm st) (.ref D) kV doc pm an (.ref c) ct /\ K.lookup f = some ⟨oc, od, .func fd, osl⟩ /\ PySem.W.codeIn K (.ref c) x = true
theorem FunD.by {P : Program} {w : World} {K : PySem.W.Frag} {mg : Str -> Option Value} {base : Heap} {x : Str} {st : Stmt} {f c D : Addr} {fd : FuncData} {N ps : List Str} {k : Nat} {sp : Sp} (F : FunD K x st c D f fd) (S : FnScope N ps (zm st)) (len : ∀ vs H Q E, sp vs H Q E -> vs.length = ps.length)
    (hbody : ∀ (A : Around) (outer : List Env) (s : Shared) (H : Hp) (vs : List V) (Q : VK) (E : XK), Room k (A.deeper (envOfC x (zm st) s.heap.objs.size f (.ref c))) -> sp vs H Q E ->
      ∃ t, jSs (cxOf CX0 P w K mg base N x (zm st) f (.ref c) A outer s H E).nox (zD st) t /\ t { nx := fun _ H' => Q .non H', rt := Q } (z6 N vs) H) : FnOk P w K mg base CX0 (k + 1) f fd ps sp := by
  obtain ⟨oc, od, kV, doc, pm, an, ct, osl, rfl, lk, hcd⟩ := F.ex
  refine j7 lk hcd S len fun A outer s H vs Q E hr hsp => ?_
  obtain ⟨t, h, q⟩ := hbody A outer s H vs Q E hr hsp
  exact ⟨t, h.out.nox, q⟩
def DtIn (K : PySem.W.Frag) (D : Addr) (i : Int) : Prop := ∃ (d : Option Addr) (t : Tok) (n : Nat) (sl : Array (Option Value)), K.lookup D = some ⟨.type "tuple", d, .seq #[.int i t] n, sl⟩
theorem DtIn.mk {K : PySem.W.Frag} {D : Addr} {i : Int} {d : Option Addr} {t : Tok} {n : Nat} {sl : Array (Option Value)} (a : K.lookup D = some ⟨.type "tuple", d, .seq #[.int i t] n, sl⟩) : DtIn K D i := ⟨d, t, n, sl, a⟩
theorem DdIn.ca {P : Program} {w : World} {K : PySem.W.Frag} {mg : Str -> Option Value} {base h : Heap} {k : Nat} {x : Str} {st : Stmt} {c D : Addr} {ps : List Str} {dvs : List V} {sp : Sp} (X : K.In h) (G : h.Ns mainGlobals mg) (d : DdIn K x st c D)
    (hb : ∀ (kV doc pm : Value) (an : Option Addr) (ct : Value), Binds K (PySem.W.fnOf x x (zI st) (zD st) (zm st) (.ref D) kV doc pm an (.ref c) ct) ps [])
    (hd : ∀ (kV doc pm : Value) (an : Option Addr) (ct : Value), ∃ ds, Binds K (PySem.W.fnOf x x (zI st) (zD st) (zm st) (.ref D) kV doc pm an (.ref c) ct) ps ds /\ Vals dvs ds)
    (ok : ∀ f fd, FunD K x st c D f fd -> FnOk P w K mg base CX0 k f fd ps sp) : CaD P w K mg base CX0 k x ps dvs sp := by
  obtain ⟨f, a, oc, od, kV, doc, pm, an, ct, osl, l, cc, kp⟩ := d
  exact ⟨f, _, ok f _ ⟨oc, od, kV, doc, pm, an, ct, osl, rfl, l, cc⟩, hb kV doc pm an ct, hd kV doc pm an ct, kp, PySem.W.mg_of X G a⟩
end L2
namespace L2
open PySem PySem.Spec PyProof.Rows
theorem Ya : typeLookup (.type "tuple") "__reversed__" = pure none := by rw [typeLookup_type, builtinLookup_eq_fast]; kernel_rfl
theorem rev_slot_next : Slot "reversed" "__next__" "reversed.__next__" :=
  .of (owner := "reversed") (n := "__next__") (by rw [typeLookup_type, builtinLookup_eq_fast]; kernel_rfl) (by decide +kernel) (by decide +kernel) (by decide +kernel)
    (by first | exact .inl (by decide +kernel) | exact .inr (by decide +kernel)) (by rw [isSubtype_type]; kernel_rfl)
theorem yV : entryFor table "reversed.__next__" = some Builtin.«reversed.__next__» := entryFor_of_tree (by kernel_rfl)
section
variable {prog : Program} {w : World} {A : Around} {E : Value -> Shared -> Prop} {s : Shared}
theorem xc {l : Addr} {items : Array Value} {Q₁ : Value -> Shared -> Prop} (hl : IsTup s.heap l items) (hz : items.size <= sizeLine)
    (h : ∀ tk, Q₁ (.ref s.heap.objs.size) { s with heap := s.heap.push { cls := .type "reversed", data := .fields #[.ref l, rawInt ((items.size : Int) - 1)] }, toks := tk }) :
    codeAny (model prog w) A (.call (.builtin "reversed.__new__") ⟨[.type "reversed", .ref l], []⟩) (wants Q₁ E) s := by
  refine codeAny_of_tree ?_
  show wpAny _ A.in1 (do checkBuiltinCall "reversed.__new__" ⟨[.type "reversed", .ref l], []⟩; again (.builtin "reversed.__new__" ⟨[.type "reversed", .ref l], []⟩)) _ _ s
  refine wpAny_bind (wpAny_of_eq (F.newCall_reversed_1 _) (wpAny_pure ⟨plainId_quiet F.plain_reversed_new _, codeAny_builtin F.entry_reversed_new ?_⟩))
  rw [Around.under_plainId F.plain_reversed_new _]
  unfold Builtin.«reversed.__new__»
  refine wpAny_bind (wpAny_of_eq (newClass_reversed _) ?_)
  try dsimp only
  refine wpAny_bind (wpAny_of_eq (a := ()) (by first | rfl | kernel_rfl) ?_)
  refine wpAny_bind (wpAny_of_eq (a := ()) (by first | rfl | kernel_rfl) ?_)
  try dsimp only
  refine wpAny_bind (wpAny_specialOf hl.typeIs Ya ?_)
  try dsimp only
  refine wpAny_bind ?_
  wp_delta
  refine wpAny_bind (wpAny_isInstance (T := "tuple") (b := false) hl.typeIs (by rw [isSubtype_type]; kernel_rfl) ?_)
  refine wpAny_ite_split (fun hab => absurd hab (by decide)) (fun _ => ?_)
  try dsimp only
  refine wpAny_bind (wpAny_specialOf hl.typeIs slot_tuple_getitem.lookup ?_)
  try dsimp only
  rw [if_pos (by decide)]
  refine wpAny_pure ?_
  rw [if_neg (by decide)]
  have hn := y7
  refine wpAny_bind (len_tuple hl (by omega) ?_)
  refine wpAny_bind (wpAny_of_eq (a := some ((items.size : Nat) : Int)) (by first | rfl | kernel_rfl) ?_)
  try dsimp only
  refine wpAny_bind ?_
  show wpAny _ _ (newObj (.type "reversed") (.fields [Value.ref l, rawInt (((items.size : Nat) : Int) - 1)].toArray)) _ _ _
  refine wpAny_newObj_type ?_
  exact wpAny_pure (h _)
theorem xf : Slot "reversed" "__init__" "object.__init__" :=
  .of (owner := "object") (n := "__init__") (by rw [typeLookup_type, builtinLookup_eq_fast]; kernel_rfl) (by decide +kernel) (by decide +kernel) (by decide +kernel)
    (by first | exact .inl (by decide +kernel) | exact .inr (by decide +kernel)) (by rw [isSubtype_type]; kernel_rfl)
theorem called_reversed : TypeCalled "reversed" "reversed.__new__" "object.__init__" :=
  ⟨by decide +kernel, by decide +kernel, ⟨_, _, F.mro_reversed⟩, F.made_reversed, by decide +kernel, F.sub_reversed_self, xf⟩
def IsRevT (h : Heap) (a l : Addr) (i : Int) : Prop := ∃ o, h.get? a = some o /\ o.cls = .type "reversed" /\ o.data = .fields #[.ref l, rawInt i]
theorem IsRevT.typeIs {a l : Addr} {i : Int} (x : IsRevT s.heap a l i) : s.TypeIs (.ref a) "reversed" := let ⟨o, ho, hc, _⟩ := x; ⟨o, ho, hc⟩
theorem IsRevT.at {h h' : Heap} {a l : Addr} {i : Int} (x : IsRevT h a l i) (e : ∀ o, h.get? a = some o -> h'.get? a = some o) : IsRevT h' a l i := let ⟨o, ho, r⟩ := x; ⟨o, e _ ho, r⟩
theorem y2 {l : Addr} {items : Array Value} {Q : Value -> Shared -> Prop} (hl : IsTup s.heap l items) (hz : items.size <= sizeLine)
    (h : ∀ tk, Q (.ref s.heap.objs.size) { s with heap := s.heap.push { cls := .type "reversed", data := .fields #[.ref l, rawInt ((items.size : Int) - 1)] }, toks := tk }) :
    wpAny (model prog w) A (call (.type "reversed") [.ref l]) Q E s := by
  refine callType_codes (Q₁ := fun obj s₁ => s₁.TypeIs obj "reversed" /\ Q obj s₁) called_reversed (F.typeCall_reversed_1 _) F.entry_object_init
    (xc hl hz fun tk => ⟨⟨_, Heap.get?_push_size _ rfl, rfl⟩, h tk⟩) fun obj s₁ h₁ => ?_
  exact ⟨h₁.1, F.args_object_init_2 obj _, object_init_meets called_reversed.init.lookup called_reversed.made (by decide) prog w A.in1 _ s₁ ⟨h₁.1, rfl, h₁.2⟩⟩
theorem wS : Manifest.owners.lookup (String.ofList ['d', 'e', 's', 'r', 'e', 'v', 'e', 'r'].reverse) = some Manifest.sig_reversed := by kernel_rfl
theorem y4 (a : Value) : argsOk "reversed.__next__" ⟨[a], []⟩ := by
  unfold argsOk; rw [signature?_of (id := "reversed.__next__") (n := ['_', '_', 't', 'x', 'e', 'n', '_', '_']) (o := ['d', 'e', 's', 'r', 'e', 'v', 'e', 'r']) (by kernel_rfl) wS]; kernel_rfl
theorem Yb {it l : Addr} {i : Nat} {items : Array Value} {x : Value} {Q : Option Value -> Shared -> Prop} (hit : IsRevT s.heap it l (i : Int)) (hl : IsTup s.heap l items) (hz : items.size <= sizeLine) (hx : items[i]? = some x)
    (hQ : ∀ h' tk, IsRevT h' it l ((i : Int) - 1) -> Heap.SameBut it s.heap h' -> Q (some x) { s with heap := h', toks := tk }) : wpAny (model prog w) A (pyNext (.ref it)) Q E s := by
  obtain ⟨o, ho, hc, hd⟩ := id hit
  unfold pyNext
  refine wpAny_bind (wpAny_attempt (wpAny_callSpecial?_slot (name := Str.ofString "__next__") hit.typeIs rev_slot_next
    (wpAny_call_entry rev_slot_next hit.typeIs yV ?_ (y4 _))))
  unfold Builtin.«reversed.__next__»
  refine wpAny_bind (wpAny_of_eq (a := (Value.ref it, [])) rfl ?_)
  try dsimp only
  refine wpAny_bind (wpAny_field ho hd (x := .ref l) rfl ?_)
  refine wpAny_bind (wpAny_field ho hd (x := rawInt (i : Int)) rfl ?_)
  show wpAny _ _ (if (i : Int) < 0 then _ else _) _ _ s
  rw [if_neg (by omega)]
  refine wpAny_bind (wpAny_specialOf hl.typeIs slot_tuple_getitem.lookup ?_)
  try dsimp only
  rw [if_neg (by decide)]
  refine wpAny_bind (wpAny_mkInt ?_)
  have hn := y7
  have hi : i < items.size := by
    rcases Nat.lt_or_ge i items.size with c | c
    · exact c
    · rw [Array.getElem?_eq_none c] at hx; cases hx
  refine wpAny_bind (wpAny_attempt (getItem_tuple (j := i) hl (by omega) (by omega) (by unfold seqIndex?; simp; omega) hx ?_))
  try dsimp only
  refine wpAny_bind (wpAny_field ho hd (x := rawInt (i : Int)) rfl ?_)
  show wpAny _ _ (setField (.ref it) 1 (rawInt ((i : Int) - 1)) >>= fun _ => ret x) _ _ _
  refine wpAny_bind (wpAny_setField ho hd (by simp) ?_)
  first
  | refine wpAny_pure ⟨x, rfl, wpAny_pure (hQ _ _ ?_ (Heap.SameBut.update ..))⟩
  | refine wpAny_bind (wpAny_pure (wpAny_pure ⟨x, rfl, wpAny_pure (hQ _ _ ?_ (Heap.SameBut.update ..))⟩))
  exact ⟨_, Heap.get?_update_self _ ho (Obj.isFreed_of_fields (Obj.data_mapFields hd _)), (Obj.cls_mapFields ..).trans hc, by
    rw [Obj.data_mapFields hd]; simp⟩
theorem Xp {it l : Addr} {Q : Option Value -> Shared -> Prop} (hh : A.handled = none) (hit : IsRevT s.heap it l (-1))
    (hQ : ∀ h', Heap.ExtBut it s.heap h' -> Q none { s with heap := h' }) : wpAny (model prog w) A (pyNext (.ref it)) Q E s := by
  obtain ⟨o, ho, hc, hd⟩ := id hit
  unfold pyNext
  refine wpAny_bind (wpAny_attempt (wpAny_callSpecial?_slot (name := Str.ofString "__next__") hit.typeIs rev_slot_next
    (wpAny_call_entry rev_slot_next hit.typeIs yV ?_ (y4 _))))
  unfold Builtin.«reversed.__next__»
  refine wpAny_bind (wpAny_of_eq (a := (Value.ref it, [])) rfl ?_)
  try dsimp only
  refine wpAny_bind (wpAny_field ho hd (x := .ref l) rfl ?_)
  refine wpAny_bind (wpAny_field ho hd (x := rawInt (-1)) rfl ?_)
  show wpAny _ _ (if (-1 : Int) < 0 then _ else _) _ _ s
  rw [if_pos (by decide)]
  refine wpAny_bind (wpAny_rule ?_)
  refine wpAny_bind ?_
  wp_delta
  refine wpAny_bind (wpAny_setField ho hd (by simp) ?_)
  refine wpAny_setField (Heap.get?_update_self _ ho (Obj.isFreed_of_fields (Obj.data_mapFields hd _))) (Obj.data_mapFields hd _) (by simp) ?_
  show wpAny _ _ (Builtin.SmallTypes.stopIteration >>= _) _ _ _
  refine wpAny_bind ?_
  unfold Builtin.SmallTypes.stopIteration
  refine wpAny_bind ?_
  simp only [newExc, newTuple]
  refine wpAny_bind (wpAny_newObj_type ?_ (by size_fits))
  refine wpAny_bind (m := firstArgMember _ _) (wpAny_of_eq (a := Value.none) (by first | rfl | (simp only [firstArgMember]; rfl)) ?_)
  refine wpAny_newObj_type ?_ (by size_fits)
  simp only [raiseNew]
  refine wpAny_bind (wpAny_handled ?_)
  first | rw [show A.in1.handled = none from hh] | rw [hh]
  refine wpAny_bind (wpAny_pure (wpAny_throw ?_))
  refine wpAny_bind (wpAny_isInstance (T := "StopIteration") (b := true) ⟨_, Heap.get?_push_size _ rfl, rfl⟩ isSubtype_stop ?_)
  exact wpAny_pure (hQ _ fun b o hb e => Heap.get?_push_of_some _ (Heap.get?_push_of_some _ ((Heap.get?_update_other _ _ (Ne.symm hb)).trans ((Heap.get?_update_other _ _ (Ne.symm hb)).trans e))))
theorem y6 : Slot "reversed" "__iter__" "reversed.__iter__" :=
  .of (owner := "reversed") (n := "__iter__") (by rw [typeLookup_type, builtinLookup_eq_fast]; kernel_rfl) (by decide +kernel) (by decide +kernel) (by decide +kernel)
    (by first | exact .inl (by decide +kernel) | exact .inr (by decide +kernel)) (by rw [isSubtype_type]; kernel_rfl)
theorem wt (a : Value) : argsOk "reversed.__iter__" ⟨[a], []⟩ := by
  unfold argsOk; rw [signature?_of (id := "reversed.__iter__") (n := ['_', '_', 'r', 'e', 't', 'i', '_', '_']) (o := ['d', 'e', 's', 'r', 'e', 'v', 'e', 'r']) (by kernel_rfl) wS]; kernel_rfl
theorem wm : entryFor table "reversed.__iter__" = some Builtin.«dict_keyiterator.__iter__» :=
  entryFor_alias (id' := "dict_keyiterator.__iter__") (by kernel_rfl) (by first | rfl | decide +kernel | (unfold String.splitOn; simp +decide [String.splitOnAux])) (by decide +kernel) (by kernel_rfl)
theorem wT {it l : Addr} {i : Int} {Q : Value -> Shared -> Prop} (hit : IsRevT s.heap it l i) (h : Q (.ref it) s) : wpAny (model prog w) A (pyIter (.ref it)) Q E s := by
  refine wpAny_pyIter_slot hit.typeIs y6 (wpAny_call_entry y6 hit.typeIs wm ?_ (wt _))
  show wpAny _ _ (ret (.ref it)) _ _ s
  exact wpAny_pure ⟨_, rfl, "reversed", _, hit.typeIs, rev_slot_next.lookup, h⟩
end
def ItvT (K : PySem.W.Frag) (a : Addr) (n : Nat) : It :=
  ⟨fun i H => i < n /\ ∃ xs x, SqT K H a xs /\ xs[n - 1 - i]? = some x, fun i H x H' => H' = H /\ ∀ xs, SqT K H a xs -> xs[n - 1 - i]? = some x, fun i _ => n <= i⟩
theorem Yc {P : Program} {w : World} {K : PySem.W.Frag} {tg : Expr} (a it : Addr) (n : Nat) : Turn P w K tg (ItvT K a n) [it] it (fun i h => i <= n /\ IsRevT h it a ((n : Int) - 1 - (i : Nat))) where
  mem := by simp
  obj := fun i h st b hb => by
    have e : b = it := by simpa using hb
    subst e
    obtain ⟨_, o, e, c, d⟩ := st
    exact ⟨o, e, fun v z => by rw [d] at z; cases z⟩
  keep := fun i h h' st k => ⟨st.1, st.2.at fun o e => k it (by simp) o e⟩
  item := by
    intro X hP hw hK hc i pins s σ H E I hf st hg
    subst hP hw hK
    obtain ⟨hi, xs, x, hq, hx⟩ := hg
    obtain ⟨its, rv, p, hz⟩ := I.tuple hq
    obtain ⟨u, hu, ru⟩ := rv.get hx
    have hl := rv.length
    obtain ⟨f0, f1, f2, f3, f4, f5⟩ := hf it (by simp)
    obtain ⟨_, st2⟩ := st
    have e1 : (n : Int) - 1 - (i : Nat) = ((n - 1 - i : Nat) : Int) := by omega
    rw [e1] at st2
    refine Yb st2 p (by rw [List.size_toArray]; omega) (x := u) (by simpa using hu) fun h' tk st' sb => ?_
    have I1 : Inv X pins σ H { s with heap := h', toks := tk } := I.turned (t' := tk) (fun b o hb e => (sb.2 b hb).trans e) f0 f1 f3 f4 f5
    obtain ⟨o, e, c, d⟩ := id st'
    refine ⟨u, rfl, wz (s := { s with heap := h', toks := tk }) e c d (by decide) ⟨x, H, I1, ru, ⟨rfl, fun ys hy => by rw [I.tuple_inj hy hq]; exact hx⟩, ⟨hi, ?_⟩, fun b hb => (hf b hb).1⟩⟩
    have e2 : (n : Int) - 1 - ((i + 1 : Nat) : Int) = ((n - 1 - i : Nat) : Int) - 1 := by omega
    rw [e2]
    exact st'
  done := by
    intro X hP hw hK hc i pins s σ H E I hf st hg
    subst hP hw hK
    obtain ⟨f0, f1, f2, f3, f4, f5⟩ := hf it (by simp)
    obtain ⟨h1, st2⟩ := st
    have h2 : n <= i := hg
    have e1 : (n : Int) - 1 - (i : Nat) = -1 := by omega
    rw [e1] at st2
    exact Xp (I.ok.hd hc) st2 fun h' eb => ⟨rfl, I.turned (t' := s.toks) (fun b o hb e => eb b o hb e) f0 f1 f3 f4 f5⟩
  self := fun _ _ _ _ _ st h => wT st.2 h
section
variable {X : Cx} {tg : Expr}
def VM (K : PySem.W.Frag) (ta : TA) : TI := fun σ H R => ta σ H fun vs H1 => ∃ a xs, vs = [.ref a] /\ SqT K H1 a xs /\ R (ItvT K a xs.length) H1
theorem W4 {a : Expr} {ta : TA} {p pos : Pos} (hg : Gl X "reversed") (hm : X.mg "reversed" = none) (ha : PA X [a] ta) (hs : starEach [a] X.env = [(false, eval a X.env)] := by rfl) : PI X tg (.Call (.Name "reversed" p) [a] [] pos) (VM X.K ta) := by
  intro pins s σ H R I h
  refine Call_ (yN I hg hm boot_reversed (PyProof.Rows.callWith_type1 (thn (ha pos pins s σ H _ I h) fun us s1 ⟨vs, H1, I1, r1, q1⟩ => ?_) hs rfl))
  obtain ⟨l, xs, e, hq, q⟩ := q1
  subst e
  obtain ⟨u, rfl, rx⟩ := wB r1
  cases rx
  obtain ⟨its, rv, pl, hz⟩ := I1.tuple hq
  have hl := rv.length
  refine y2 pl (by rw [List.size_toArray]; omega) fun tk => ?_
  have hr : IsRevT (s1.heap.push { cls := .type "reversed", data := .fields #[.ref l, rawInt ((its.toArray.size : Int) - 1)] }) s1.heap.objs.size l ((its.toArray.size : Int) - 1) := ⟨_, Heap.get?_push_size _ rfl, rfl, rfl⟩
  refine wT (s := { s1 with heap := s1.heap.push { cls := .type "reversed", data := .fields #[.ref l, rawInt ((its.toArray.size : Int) - 1)] }, toks := tk }) hr ?_
  refine ⟨s1.heap.objs.size, [s1.heap.objs.size], _, _, H1, rfl, I1.kept (t' := tk) fun b o e => Heap.get?_push_of_some _ e, Yc l _ xs.length, ⟨Nat.zero_le _, ?_⟩, fun b hb => ?_, q⟩
  · have e : (xs.length : Int) - 1 - ((0 : Nat) : Int) = (its.toArray.size : Int) - 1 := by simp [hl]
    rw [e]
    exact hr
  have e : b = s1.heap.objs.size := by simpa using hb
  subst e
  exact I1.fpOk (Nat.le_refl _) (I1.hok.fresh (Nat.le_refl _))
theorem W5 {a : Expr} {t : TA} {p pos : Pos} (hg : Gl X "reversed") (hm : X.mg "reversed" = none) (ha : jA X [a] t) (h : zy a = false := by rfl) : jI X tg (.Call (.Name "reversed" p) [a] [] pos) (VM X.K t) := ⟨W4 hg hm ha.out (zH h)⟩
end
theorem Xq {K : PySem.W.Frag} {a : Addr} {xs : List V} {g : TG} {tb : TS} {D : Ends} {σ : St} {H : Hp} (Pv : Nat -> St -> Hp -> Prop) (h0 : Pv 0 σ H) (hl : ∀ i σ H, i <= xs.length -> Pv i σ H -> SqT K H a xs)
    (hs : ∀ i x σ H, xs.reverse[i]? = some x -> Pv i σ H -> g x σ H fun σ2 H2 => tb { D with nx := Pv (i + 1), ct := Pv (i + 1), bk := D.nx } σ2 H2) (hd : ∀ σ H, Pv xs.length σ H -> D.nx σ H) :
    ∃ W : Nat -> Nat -> St -> Hp -> Prop, (∃ m, W 0 m σ H) /\ ∀ i m σ H, W i m σ H ->
      ((ItvT K a xs.length).stop i H /\ D.nx σ H) \/ ((ItvT K a xs.length).go i H /\ ∃ N : St -> Hp -> Prop, (∀ σ' H', N σ' H' -> ∃ m', m' < m /\ W (i + 1) m' σ' H') /\ ∀ x H', (ItvT K a xs.length).yld i H x H' -> g x σ H' fun σ2 H2 => tb { D with nx := N, ct := N, bk := D.nx } σ2 H2) := by
  refine ⟨fun i m σ H => m = xs.length - i /\ i <= xs.length /\ Pv i σ H, ⟨xs.length, by simp, Nat.zero_le _, h0⟩, ?_⟩
  rintro i m σ H ⟨rfl, hi, p⟩
  have q := hl i σ H hi p
  by_cases hlt : i < xs.length
  · refine .inr ⟨⟨hlt, xs, xs[xs.length - 1 - i], q, by rw [List.getElem?_eq_getElem]⟩, Pv (i + 1), fun σ' H' p' => ⟨xs.length - (i + 1), by omega, rfl, hlt, p'⟩, fun x H' y => ?_⟩
    obtain ⟨e, y⟩ := y
    subst e
    refine hs i x σ _ ?_ p
    rw [List.getElem?_reverse hlt]
    exact y xs q
  · have e : i = xs.length := by omega
    subst e
    exact .inl ⟨Nat.le_refl _, hd σ H p⟩
end L2
namespace GN
open PySem L2 K11
inductive PtL (H : Hp) : List V -> List V -> Prop
  | nil : PtL H [] []
  | num {i : Int} {vs xs : List V} : PtL H vs xs -> PtL H (.int i :: vs) (.int i :: xs)
  | shp {p q : Addr} {t : Str} {us vs xs ys : List V} : H p = some (.tup [.str t, .ref q]) -> H q = some (.tup us) -> us.length <= 9 -> PtL H us xs -> PtL H vs ys -> PtL H (.ref p :: vs) (.str t :: (xs ++ ys))
theorem PtL.keep {H H' : Hp} {vs xs : List V} (t : Tups H H') (h : PtL H vs xs) : PtL H' vs xs := by
  induction h with
  | nil => exact .nil
  | num _ ih => exact .num ih
  | shp a b c _ _ ih1 ih2 => exact .shp (t _ _ a) (t _ _ b) c ih1 ih2
theorem PtL.app {H : Hp} {us vs xs ys : List V} (h : PtL H us xs) (g : PtL H vs ys) : PtL H (us ++ vs) (xs ++ ys) := by
  induction h with
  | nil => exact g
  | num _ ih => exact .num ih
  | shp a b c d _ _ ih2 =>
    rw [List.cons_append, List.cons_append, List.append_assoc]
    exact .shp a b c d ih2
def At : V -> Prop
  | .int _ => True
  | .str _ => True
  | _ => False
theorem PtL.at {H : Hp} {vs xs : List V} (h : PtL H vs xs) : ∀ x ∈ xs, At x := by
  induction h with
  | nil => intro x hx; cases hx
  | num _ ih =>
    intro x hx
    rcases List.mem_cons.mp hx with rfl | hx
    · trivial
    · exact ih x hx
  | shp _ _ _ _ _ ih1 ih2 =>
    intro x hx
    rcases List.mem_cons.mp hx with rfl | hx
    · trivial
    · rcases List.mem_append.mp hx with hx | hx
      · exact ih1 x hx
      · exact ih2 x hx
theorem PtL.len {H : Hp} {vs xs : List V} (h : PtL H vs xs) : vs.length <= xs.length := by
  induction h with
  | nil => exact Nat.le_refl _
  | num _ ih => simp; exact ih
  | shp _ _ _ _ _ _ ih2 => simp; omega
def lamX : Expr := match zD yo with
  | [.Return (some (.Call _ [_, _, l] _ _)) _] => l
  | _ => .Constant .none 0 ⟨0, 0, 0, 0⟩
def lamP : Arguments := match lamX with
  | .Lambda a _ _ _ => a
  | _ => zI yo
def lamB : Expr := match lamX with
  | .Lambda _ b _ _ => b
  | e => e
def lamS : Scope := match lamX with
  | .Lambda _ _ s _ => s
  | _ => zm yo
def lamPos : Pos := match lamX with
  | .Lambda _ _ _ p => p
  | _ => ⟨0, 0, 0, 0⟩
def lamQ : Str := ("parts_of" : Str) ++ (".<locals>." : Str) ++ ("<lambda>" : Str)
abbrev xo (mg : Str -> Option Value) (c : Addr) (ct : Value) : FuncData := lamF mg lamQ lamP lamB lamS c ct
def spId (mg : Str -> Option Value) (f c : Addr) (ct : Value) : Sp := fun vs H Q _ => ∃ v, vs = [v] /\ H f = some (FunO f (xo mg c ct)) /\ H c = some (CodO c lamQ) /\ Q v H
theorem qP : FnScope ["shape_value"] ["shape_value"] lamS := ⟨rfl, rfl, rfl, by decide +kernel, rfl, by decide +kernel, by decide +kernel⟩
theorem W6 : ∃ p, lamB = .Name "shape_value" p := ⟨_, rfl⟩
def spWhole : Sp := fun vs H Q _ => ∃ v, vs = [v] /\ ((∃ i, v = .int i /\ Q (.bl true) H) \/ (∃ p xs, v = .ref p /\ H p = some (.tup xs) /\ Q (.bl false) H))
def Zs (mg : Str -> Option Value) : Sp := fun vs H Q _ => ∃ (v : V) (m : Nat) (f c : Addr) (ct : Value) (full : List V), vs = [v, .int (m : Nat), .ref f] /\ m <= 300 /\ H f = some (FunO f (xo mg c ct)) /\ H c = some (CodO c lamQ) /\ PtL H [v] full /\
  ∀ (H' : Hp) (l : Addr), Same H H' -> H l = none -> H' l = some (.lst (full.take m)) -> Q (.ref l) H'
def Tb (T : Addr) (H : Hp) : Prop := ∃ ps, H T = some (.tbl ps) /\ (ps = #[] \/ ∃ c, ps = #[rawInt lamPos.line, rawInt lamPos.col, .ref c] /\ H c = some (CodO c lamQ))
def KT (T : Addr) (H H' : Hp) : Prop := ∀ b u, b ≠ T -> H b = some u -> H' b = some u
theorem KT.trans {T : Addr} {H H1 H2 : Hp} (a : KT T H H1) (b : KT T H1 H2) : KT T H H2 := fun c u n h => b c u n (a c u n h)
theorem KT.of {T : Addr} {H H1 : Hp} (s : Same H H1) : KT T H H1 := fun c u _ h => s c u h
theorem KT.put {T p : Addr} {H H1 : Hp} {o : HO} (a : KT T H H1) (h : H p = none) : KT T H (upd H1 p o) := fun b u n q => by rw [zn (zo q h)]; exact a b u n q
theorem Tb.tbl {T : Addr} {H : Hp} (h : Tb T H) : ∃ ps, H T = some (.tbl ps) := let ⟨ps, e, _⟩ := h; ⟨ps, e⟩
theorem Tb.same {T : Addr} {H H' : Hp} (h : Tb T H) (s : Same H H') : Tb T H' := by
  obtain ⟨ps, e, h⟩ := h
  refine ⟨ps, s _ _ e, ?_⟩
  rcases h with h | ⟨c, h, g⟩
  · exact .inl h
  · exact .inr ⟨c, h, s _ _ g⟩
theorem Tb.put {T p : Addr} {H : Hp} {xs : List V} {o : HO} (h : Tb T H) (hp : H p = some (.lst xs)) : Tb T (upd H p o) := by
  obtain ⟨ps, e, h⟩ := h
  refine ⟨ps, by rw [zn (zM e hp (by intro z; cases z))]; exact e, ?_⟩
  rcases h with h | ⟨c, h, g⟩
  · exact .inl h
  · exact .inr ⟨c, h, by rw [zn (zM g hp (by unfold CodO; intro z; cases z))]; exact g⟩
theorem KT.tups {T : Addr} {H H' : Hp} (k : KT T H H') (h : Tb T H) : Tups H H' := fun p xs q => k p _ (let ⟨_, e⟩ := h.tbl; zM q e (by intro z; cases z)) q
theorem KT.lst {T : Addr} {H H' : Hp} (k : KT T H H') (h : Tb T H) {p : Addr} {xs : List V} (q : H p = some (.lst xs)) : H' p = some (.lst xs) := k p _ (let ⟨_, e⟩ := h.tbl; zM q e (by intro z; cases z)) q
def Zt (T : Addr) : Sp := fun vs H Q _ => ∃ (v : V) (m : Nat) (full : List V), vs = [v, .int (m : Nat)] /\ m <= 300 /\ Tb T H /\ PtL H [v] full /\ ∀ (H' : Hp) (l : Addr), KT T H H' -> Tb T H' -> H l = none -> H' l = some (.lst (full.take m)) -> Q (.ref l) H'
section
variable {P : Program} {w : World} {K : PySem.W.Frag} {mg : Str -> Option Value} {base : Heap} {f : Addr} {fd : FuncData}
theorem JU (f c : Addr) (ct : Value) : FnOk P w K mg base CX0 1 f (xo mg c ct) ["shape_value"] (spId mg f c ct) := by
  refine JS (k := 0) (N := ["shape_value"]) (fun vs H Q E h => ?_) qP (fun vs H Q E h => ?_) (fun A outer s H vs Q E hr h => ?_)
  · obtain ⟨v, rfl, h1, h2, _⟩ := h
    exact ⟨h1, h2⟩
  · obtain ⟨v, rfl, _⟩ := h
    rfl
  · obtain ⟨v, rfl, h1, h2, q⟩ := h
    obtain ⟨p, e⟩ := W6
    rw [e]
    exact ⟨tVar 0, pv 0, v, rfl, q⟩
theorem JV (c : Addr) (ct : Value) : Binds K (xo mg c ct) ["shape_value"] [] := .all fun us hl => match us, hl with | [_], _ => rfl
theorem scWhole : FnScope ["thing"] ["thing"] (zm yU) := ⟨rfl, rfl, rfl, by decide +kernel, rfl, by decide +kernel, by decide +kernel⟩
theorem ok_whole (F : Fun K "is_whole" "is_whole" yU f fd) (m_isinstance : mg "isinstance" = none) (m_int : mg "int" = none) (m_bool : mg "bool" = none) : FnOk P w K mg base CX0 1 f fd ["thing"] spWhole := by
  refine F.by scWhole (fun vs H Q E h => ?_) (fun cdv A outer s H vs Q E hr h => ?_)
  · obtain ⟨v, rfl, _⟩ := h
    rfl
  obtain ⟨v, rfl, h⟩ := h
  refine ⟨_,
    (zk (zw (xY (zE yd rfl m_isinstance PyProof.Rows.boot_isinstance (ja_c (jv 0) (ja_c (yr (v := .ty "int") rfl m_int PyProof.Rows.boot_int rfl) zh))) (vd (jm (zE yd rfl m_isinstance PyProof.Rows.boot_isinstance (ja_c (jv 0) (ja_c (yr (v := .ty "bool") rfl m_bool PyProof.Rows.boot_bool rfl) zh)))))))), ?_⟩
  rcases h with ⟨i, rfl, q⟩ | ⟨p, xs, rfl, hp, q⟩
  · exact ⟨_, rfl, _, _, _, _, rfl, .int _, rfl, _, rfl, iteT ⟨_, rfl, _, _, _, _, rfl, .int _, rfl, _, rfl, q⟩⟩
  · exact ⟨_, rfl, _, _, _, _, rfl, .tup hp, rfl, _, rfl, iteF q⟩
theorem scFirst : FnScope ["value", "most", "shape_of", "told", "left", "one", "pair", "part"] ["value", "most", "shape_of"] (zm jB) := ⟨rfl, rfl, rfl, by decide +kernel, rfl, by decide +kernel, by decide +kernel⟩
theorem Yd {told xs full : List V} {m : Nat} (e : told ++ xs = full) (h : told.length <= m) (d : xs = [] \/ told.length = m) : told = full.take m := by
  subst e
  rcases d with rfl | d
  · rw [List.append_nil, List.take_of_length_le h]
  · rw [<- d, List.take_left]
theorem Xs (F : Fun K "first_parts" "first_parts" jB f fd) (GW : Ca P w K mg base CX0 1 "is_whole" ["thing"] spWhole) (m_len : mg "len" = none) (m_reversed : mg "reversed" = none) : FnOk P w K mg base CX0 2 f fd ["value", "most", "shape_of"] (Zs mg) := by
  refine F.by scFirst (fun vs H Q E h => ?_) (fun cdv A outer s H vs Q E hr h => ?_)
  · obtain ⟨v, m, f, c, ct, full, rfl, _⟩ := h
    rfl
  obtain ⟨v, m, fl, c, ct, full, rfl, hm, hf, hc, hP, q⟩ := h
  refine ⟨_,
    (zi (zt (i := 3) scFirst.nd rfl (Or.inl rfl) (zA zh))
    (zi (zt (i := 4) scFirst.nd rfl (Or.inl rfl) (zA (ja_c (jv 0) zh)))
    (zi (vL PassesOwn.never (jW.pt (yP (zr Zg (zE zF rfl m_len PySem.boot_len (ja_c (jv 4) zh)) zj (zv _)) (yz (zr x8 (zE zF rfl m_len PySem.boot_len (ja_c (jv 3) zh)) (jv 1) (zv _)))))
      (zi (zt (i := 5) scFirst.nd rfl (Or.inl rfl) (YU PySem.F.plainAttrs_list PySem.F.slot_list_pop PySem.F.type_list_pop YX (jv 4)))
      (zk (zK (yn (zC GW hr rfl zJ (ja_c (jv 5) zh)))
        (zk (zT (y3 PySem.F.plainAttrs_list PySem.F.slot_list_append PySem.F.type_list_append yu (jv 3) (ja_c (jv 5) zh))))
        (zi (zt (i := 6) scFirst.nd rfl (Or.inl rfl) (Xo (fo := xo mg) (sp := spId mg) (fun f c ct => JU f c ct) hr (jv 2) (fun c ct => JV c ct) zJ (ja_c (jv 5) zh)))
        (zi (zT (y3 PySem.F.plainAttrs_list PySem.F.slot_list_append PySem.F.type_list_append yu (jv 3) (ja_c (zq zx (jv 6) zj (fun _ _ => rfl)) zh)))
        (zk (y8 PassesOwn.never rfl (W5 rfl m_reversed (ja_c (zq zx (jv 6) zj (fun _ _ => rfl)) zh)) (zQ (i := 7) scFirst.nd rfl (Or.inl rfl))
          (zk (zT (y3 PySem.F.plainAttrs_list PySem.F.slot_list_append PySem.F.type_list_append yu (jv 4) (ja_c (jv 7) zh))))))))))))
    (zk (zw (jv 3)))))), ?_⟩
  have sl := zX
  refine ⟨by show 0 <= sizeLine; decide, fun lt h1 => ⟨_, rfl, by show 1 <= sizeLine; decide, fun lf h2 => ?_⟩⟩
  have s1 := same_new (o := .lst []) h1
  have flf : H lf = none := s1.free h2
  have s2 := s1.new (o := .lst [v]) h2
  have ntf : lt ≠ lf := zo (zg (H := H) (a := lt) (o := .lst [])) h2
  have hP2 := hP.keep (.of s2)
  refine ⟨fun k σ H' => ∃ (told ls xs : List V) (x y z : Option V), k = m - told.length /\ σ = [some v, some (.int (m : Nat)), some (.ref fl), some (.ref lt), some (.ref lf), x, y, z] /\ Same H H' /\ H' lt = some (.lst told) /\ H' lf = some (.lst ls) /\ PtL H' ls.reverse xs /\ told ++ xs = full /\ told.length <= m /\ ls.length <= 1 + 9 * told.length,
    ⟨_, [], [v], full, none, none, none, rfl, rfl, s2, old h2 zg, zg, hP2, rfl, Nat.zero_le _, by simp⟩, ?_⟩
  rintro k σ H3 ⟨told, ls, xs, x, y, z, rfl, rfl, sm, ht, hl, hx, e, hlen, hls⟩
  refine ⟨_, rfl, _, _, rfl, .inl (SqL.of hl), _, _, rfl, rfl, _, rfl, ?_⟩
  have fin : (xs = [] \/ told.length = m) -> Q (.ref lt) H3 := fun d => q _ lt sm h1 (by rw [ht, Yd e hlen d])
  refine ite2 (fun c1 => ?_) (fun c1 => ?_)
  · rw [decide_eq_true_eq] at c1
    have c1 : 0 < ls.length := by omega
    refine ⟨_, rfl, _, _, rfl, .inl (SqL.of ht), _, rfl, _, _, rfl, rfl, _, rfl, ?_⟩
    by_cases c2 : told.length < m
    · rw [decide_eq_true (show ((told.length : Nat) : Int) < (m : Nat) by omega)]
      refine iteT ⟨_, fun _ _ h => h, ?_⟩
      obtain ⟨ls', one, rfl⟩ : ∃ ls' one, ls = ls' ++ [one] := ⟨ls.dropLast, ls.getLast (by intro z; rw [z] at c1; simp at c1), (List.dropLast_concat_getLast _).symm⟩
      refine ⟨_, rfl, .inl ⟨rfl, _, SqL.of hl⟩, lf, _, one, rfl, rfl, hl, by simp, ?_⟩
      rw [List.dropLast_concat]
      rw [List.reverse_append, List.reverse_singleton] at hx
      rw [List.length_append] at hls
      have hls : ls'.length <= 9 * told.length := by simp at hls; omega
      have t4 : Tups H3 (upd H3 lf (.lst ls')) := fun b xs z => by rw [zn (zM z hl (by intro z; cases z))]; exact z
      have s4 := sm.put (o := .lst ls') flf
      have ht4 : upd H3 lf (.lst ls') lt = some (.lst told) := by rw [zn ntf]; exact ht
      have hl4 := zg (H := H3) (a := lf) (o := .lst ls')
      replace hx := hx.keep t4
      clear fin
      generalize upd H3 lf (.lst ls') = H4 at *
      cases hx with
      | @num i vs xs2 hx =>
        refine ⟨_, rfl, _, rfl, .inl ⟨i, rfl, _, rfl, iteT ?_⟩⟩
        refine ⟨_, rfl, .inl ⟨rfl, _, SqL.of ht4⟩, _, rfl, lt, _, _, rfl, rfl, ht4, by omega, ?_⟩
        have t5 : Tups H4 (upd H4 lt (.lst (told ++ [.int i]))) := fun b xs z => by rw [zn (zM z ht4 (by intro z; cases z))]; exact z
        refine ⟨m - (told ++ [V.int i]).length, by rw [List.length_append]; show m - (told.length + 1) < _; omega, told ++ [.int i], ls', xs2, _, _, _, rfl, rfl, s4.put h1, zg, by rw [zn ntf.symm]; exact hl4, hx.keep t5, by rw [<- e]; simp, by rw [List.length_append]; show told.length + 1 <= m; omega, by rw [List.length_append]; show _ <= 1 + 9 * (told.length + 1); omega⟩
      | @shp p pq t us vs ys zs hp hq hu hus hx =>
        refine ⟨_, rfl, _, rfl, .inr ⟨p, _, rfl, hp, _, rfl, iteF ?_⟩⟩
        refine ⟨fl, rfl, c, ct, s4 _ _ hf, _, rfl, s4 _ _ hf, _, rfl, s4 _ _ hf, s4 _ _ hc, ?_⟩
        refine ⟨_, rfl, .inl ⟨rfl, _, SqL.of ht4⟩, _, rfl, p, _, _, _, rfl, rfl, SqT.of hp, zp (j := 0) rfl, lt, _, _, rfl, rfl, ht4, by omega, ?_⟩
        have t5 : Tups H4 (upd H4 lt (.lst (told ++ [.str t]))) := fun b xs z => by rw [zn (zM z ht4 (by intro z; cases z))]; exact z
        have s5 := s4.put (o := .lst (told ++ [.str t])) h1
        have ht5 := zg (H := H4) (a := lt) (o := .lst (told ++ [.str t]))
        have hl5 : upd H4 lt (.lst (told ++ [.str t])) lf = some (.lst ls') := by rw [zn ntf.symm]; exact hl4
        replace hp := t5 _ _ hp
        replace hq := t5 _ _ hq
        replace hus := hus.keep t5
        replace hx := hx.keep t5
        generalize upd H4 lt (.lst (told ++ [.str t])) = H5 at *
        refine ⟨_, rfl, p, _, _, _, rfl, rfl, SqT.of hp, zp (j := 1) rfl, pq, us, rfl, SqT.of hq, Xq (xs := us) (fun i σ H' => ∃ x, σ = [some v, some (.int (m : Nat)), some (.ref fl), some (.ref lt), some (.ref lf), some (.ref p), some (.ref p), x] /\ Same H H' /\ Tups H5 H' /\ H' lt = some (.lst (told ++ [.str t])) /\ H' lf = some (.lst (ls' ++ us.reverse.take i))) ⟨_, rfl, s5, fun _ _ h => h, ht5, by simpa using hl5⟩ (fun i σ H' _ h => SqT.of (h.choose_spec.2.2.1 _ _ hq)) ?_ ?_⟩
        · rintro i y σ H6 hy ⟨x, rfl, s6, t6, ht6, hl6⟩
          have hi : i < us.reverse.length := (List.getElem?_eq_some_iff.mp hy).1
          rw [List.length_reverse] at hi
          refine ⟨_, rfl, .inl ⟨rfl, _, SqL.of hl6⟩, _, rfl, lf, _, _, rfl, rfl, hl6, by rw [List.length_append, List.length_take]; omega, ?_⟩
          refine ⟨_, rfl, s6.put flf, t6.trans (fun b xs z => by rw [zn (zM z hl6 (by intro z; cases z))]; exact z), by rw [zn ntf]; exact ht6, ?_⟩
          rw [zg, List.append_assoc, List.take_succ, hy]
          rfl
        · rintro σ H6 ⟨x, rfl, s6, t6, ht6, hl6⟩
          rw [List.take_of_length_le (by simp)] at hl6
          refine ⟨m - (told ++ [V.str t]).length, by rw [List.length_append]; show m - (told.length + 1) < _; omega, told ++ [.str t], ls' ++ us.reverse, ys ++ zs, _, _, _, rfl, rfl, s6, ht6, hl6, ?_, by rw [<- e]; simp, by rw [List.length_append]; show told.length + 1 <= m; omega, by rw [List.length_append, List.length_append, List.length_reverse]; show _ <= 1 + 9 * (told.length + 1); omega⟩
          rw [List.reverse_append, List.reverse_reverse]
          exact (hus.app hx).keep t6
    · rw [decide_eq_false (show ¬ ((told.length : Nat) : Int) < (m : Nat) by omega)]
      exact iteF ⟨_, rfl, fin (.inr (by omega))⟩
  · rw [decide_eq_true_eq] at c1
    have e0 : ls = [] := List.length_eq_zero_iff.mp (by omega)
    subst e0
    cases hx
    exact iteF ⟨_, rfl, fin (.inl rfl)⟩
theorem Ye {c D : Addr} (dt : DtIn K D 100) (kV doc pm : Value) (an : Option Addr) (ct : Value) : Binds K (PySem.W.fnOf "parts_of" "parts_of" (zI yo) (zD yo) (zm yo) (.ref D) kV doc pm an (.ref c) ct) ["value", "most"] [] := fun s us X hl => by
  obtain ⟨d, t, n, sl, lk⟩ := dt
  have hl' : us.length = 2 := by simp at hl; omega
  match us, hl' with
  | [_, _], _ => exact PySem.W.binds_K X rfl lk rfl rfl rfl
theorem Yf {c D : Addr} (dt : DtIn K D 100) (kV doc pm : Value) (an : Option Addr) (ct : Value) : ∃ ds, Binds K (PySem.W.fnOf "parts_of" "parts_of" (zI yo) (zD yo) (zm yo) (.ref D) kV doc pm an (.ref c) ct) ["value", "most"] ds /\ Vals [.int 100] ds := by
  obtain ⟨d, t, n, sl, lk⟩ := dt
  refine ⟨[.int 100 t], fun s us X hl => ?_, .cons ⟨_, rfl⟩ .nil⟩
  have hl' : us.length = 1 := by simp at hl; omega
  match us, hl' with
  | [_], _ => exact PySem.W.binds_K X rfl lk rfl rfl rfl
theorem W7 : FnScope ["value", "most"] ["value", "most"] (zm yo) := ⟨rfl, rfl, rfl, by decide +kernel, rfl, by decide +kernel, by decide +kernel⟩
theorem Xt {c D T : Addr} (F : FunD K "parts_of" yo c D f fd) (hB : BMn mg base) (hc : PySem.W.codeHdIn K c T = true) (GF : Ca P w K mg base CX0 2 "first_parts" ["value", "most", "shape_of"] (Zs mg)) : FnOk P w K mg base CX0 3 f fd ["value", "most"] (Zt T) := by
  refine F.by W7 (fun vs H Q E h => ?_) (fun A outer s H vs Q E hr h => ?_)
  · obtain ⟨v, m, full, rfl, _⟩ := h
    rfl
  obtain ⟨v, m, full, rfl, hm, hT, hP, q⟩ := h
  refine ⟨_,
    (zk (zw (zC GF hr rfl zJ (ja_c (jv 0) (ja_c (jv 1) (ja_c (JR (params := lamP) (body := lamB) (scope := lamS) (pos := lamPos) (T := T) (qual := lamQ) hB rfl hc rfl) zh)))))), ?_⟩
  obtain ⟨ps, hT1, hT2⟩ := hT
  refine ⟨_, rfl, _, rfl, ps, hT1, ?_⟩
  rcases hT2 with rfl | ⟨c', rfl, hc'⟩
  · refine ⟨trivial, .inl ⟨rfl, fun c' fl ct h1 h2 h3 => ?_⟩⟩
    have n1 : T ≠ c' := zo hT1 h1
    have n2 : T ≠ fl := zo hT1 h2
    have kt : KT T H (upd (upd (upd H T (.tbl (#[] ++ #[rawInt lamPos.line, rawInt lamPos.col, .ref c']))) c' (CodO c' lamQ)) fl (FunO fl (xo mg c' ct))) := fun b u n e => by rw [zn (zo e h2), zn (zo e h1), zn n]; exact e
    have e1 : upd (upd (upd H T (.tbl (#[] ++ #[rawInt lamPos.line, rawInt lamPos.col, .ref c']))) c' (CodO c' lamQ)) fl (FunO fl (xo mg c' ct)) T = some (.tbl #[rawInt lamPos.line, rawInt lamPos.col, .ref c']) := by rw [zn n2, zn n1]; exact zg
    have e2 : upd (upd (upd H T (.tbl (#[] ++ #[rawInt lamPos.line, rawInt lamPos.col, .ref c']))) c' (CodO c' lamQ)) fl (FunO fl (xo mg c' ct)) c' = some (CodO c' lamQ) := by rw [zn h3.symm]; exact zg
    refine ⟨v, m, fl, c', ct, full, rfl, hm, zg, e2, hP.keep (fun p xs e => kt p _ (zM e hT1 (by intro z; cases z)) e), fun H' l s' hl e => q H' l (kt.trans (.of s')) ((Tb.same ⟨_, e1, .inr ⟨c', rfl, e2⟩⟩ s')) ?_ e⟩
    cases hz : H l with
    | none => rfl
    | some u =>
      by_cases z : l = T
      · subst z
        exact absurd (e1.symm.trans hl) (by intro y; cases y)
      · exact absurd ((kt l u z hz).symm.trans hl) (by intro y; cases y)
  · refine ⟨trivial, .inr ⟨c', ?_, fun fl ct h2 => ?_⟩⟩
    · show (if ((lamPos.line : Nat) : Int) == _ && _ then _ else _) = _
      rw [if_pos (by simp)]
    have s1 := same_new (o := FunO fl (xo mg c' ct)) h2
    refine ⟨v, m, fl, c', ct, full, rfl, hm, zg, s1 _ _ hc', hP.keep (.of s1), fun H' l s' hl e => q H' l (.of (s1.trans s')) (Tb.same ⟨_, hT1, .inr ⟨c', rfl, hc'⟩⟩ (s1.trans s')) (s1.free hl) e⟩
end
end GN
namespace L2
open PySem PySem.Spec PyProof.Rows
theorem wu : entryFor table "proto.unchain" = some Builtin.«proto.unchain» := entryFor_of_fast (by kernel_rfl)
theorem W8 {a b : Addr} (h : a ≠ b) : (Value.ref a != Value.ref b) = true := by
  rw [bne_iff_ne]
  intro e
  injection e with e
  exact h e
section
variable {prog : Program} {w : World} {A : Around} {s : Shared} {E : Value -> Shared -> Prop}
theorem Yg {it l eh : Addr} {i : Nat} {items} {oe : Obj} {ve : Array Value} {Q : Option Value -> Shared -> Prop} (hh : A.handled = some (.ref eh)) (he : s.heap.get? eh = some oe) (hde : oe.data = .fields ve) (h2 : ve[2]? = some .none) (hne : eh ≠ it)
    (hit : s.heap.IsListIter it l i) (hl : s.heap.IsList l items) (hx : items[i]? = none)
    (hQ : ∀ h', Heap.ExtBut it s.heap h' -> Q none { s with heap := h' }) : wpAny (model prog w) A (pyNext (.ref it)) Q E s := by
  obtain ⟨o, ho, hc, hd⟩ := id hit
  obtain ⟨ol, hol, _, nl, hdl⟩ := hl
  unfold pyNext
  refine wpAny_bind (wpAny_attempt (wpAny_callSpecial?_slot (name := Str.ofString "__next__") hit.typeIs slot_listiter_next
    (wpAny_call_entry slot_listiter_next hit.typeIs entry_listiter_next ?_ (args_listiter_next _))))
  show wpAny _ _ (field (.ref it) 0 >>= _) _ _ s
  refine wpAny_bind (wpAny_field ho hd (x := .ref l) rfl ?_)
  show wpAny _ _ (if (Value.ref l == Value.none) = true then _ else _) _ _ s
  rw [if_neg (show ¬ ((Value.ref l == Value.none) = true) from Bool.false_ne_true)]
  show wpAny _ _ (field (.ref it) 1 >>= _) _ _ s
  refine wpAny_bind (wpAny_field ho hd (x := .int i 0) rfl ?_)
  show wpAny _ _ (seqItems? (.ref l) >>= _) _ _ s
  refine wpAny_bind (wpAny_seqItems hol hdl ?_)
  simp only [Int.toNat_natCast, hx]
  refine wpAny_bind (wpAny_rule (wpAny_bind (wpAny_setField ho hd (by simp) ?_)))
  show wpAny _ _ (newExc (.type "StopIteration") [] >>= _) _ _ _
  refine wpAny_bind ?_
  simp only [newExc, newTuple]
  refine wpAny_bind (wpAny_newObj_type ?_ (by size_fits))
  refine wpAny_bind (m := firstArgMember _ _) (wpAny_of_eq (a := Value.none) (by first | rfl | (simp only [firstArgMember]; rfl)) ?_)
  refine wpAny_newObj_type ?_ (by size_fits)
  simp only [raiseNew]
  refine wpAny_bind (wpAny_handled ?_)
  rw [show A.in1.handled = some (.ref eh) from hh]
  generalize hG : (s.heap.update it (Obj.mapFields fun x => x.setIfInBounds 0 Value.none)).push { cls := .type "tuple", data := .seq #[] } = G
  have kG : ∀ b o, b ≠ it -> s.heap.get? b = some o -> G.get? b = some o := fun b o n e => by
    rw [<- hG]
    exact Heap.get?_push_of_some _ ((Heap.SameBut.update ..).extBut b o n e)
  have eG := kG eh oe hne he
  have la : eh ≠ G.objs.size := Nat.ne_of_lt (Heap.lt_size eG)
  show wpAny _ _ (if (Value.ref eh != Value.ref G.objs.size) = true then _ else _) _ _ _
  rw [if_pos (W8 la)]
  refine wpAny_bind (wpAny_holding (wpAny_runValue (codeAny_builtin wu ?_)))
  show wpAny _ _ (field (.ref eh) 2 >>= _) _ _ _
  refine wpAny_bind (wpAny_field (Heap.get?_push_of_some _ eG) hde (x := .none) h2 ?_)
  show wpAny _ _ (if (Value.none == Value.none) = true then _ else _) _ _ _
  rw [if_pos (show (Value.none == Value.none) = true from rfl)]
  refine wpAny_bind (wpAny_pure (wpAny_pure ?_))
  show wpAny (model prog w) A.in1 (updateField G.objs.size 2 (.ref eh) >>= fun _ => throw (.ref G.objs.size)) _ _ _
  refine wpAny_bind ?_
  simp only [updateField]
  refine wpAny_bind (wpAny_load (Heap.get?_push_size _ rfl) ?_)
  show wpAny _ _ (if 2 < _ then _ else _) _ _ _
  rw [if_pos (by rw [Array.size_append]; show 2 < 6 + _; omega)]
  refine wpAny_update (Heap.get?_push_size _ rfl) (wpAny_throw ?_)
  refine wpAny_bind (wpAny_isInstance (T := "StopIteration") (b := true) ⟨_, Heap.get?_update_self _ (Heap.get?_push_size _ rfl) rfl, rfl⟩ isSubtype_stop ?_)
  exact wpAny_pure (hQ _ fun b o n e => (Heap.SameBut.update ..).extBut b o (Nat.ne_of_lt (Heap.lt_size (kG b o n e))) (Heap.get?_push_of_some _ (kG b o n e)))
end
def HandP (X : Cx) : Prop := ∃ (eh : Addr) (oe : Obj) (ve : Array Value), X.A.handled = some (.ref eh) /\ X.s₀.heap.get? eh = some oe /\ X.H₀ eh = none /\ eh ∉ X.fs /\ eh ∉ X.ex /\ oe.data = .fields ve /\ ve[2]? = some .none
theorem HandP.now {X : Cx} {pins : List (Addr × Obj)} {σ : St} {H : Hp} {s : Shared} (h : HandP X) (I : Inv X pins σ H s) : ∃ (eh : Addr) (oe : Obj) (ve : Array Value), X.A.handled = some (.ref eh) /\ s.heap.get? eh = some oe /\ H eh = none /\ eh ∉ X.fs /\ eh < X.s₀.heap.objs.size /\ eh ∉ X.ex /\ oe.data = .fields ve /\ ve[2]? = some .none := by
  obtain ⟨eh, oe, ve, a1, a2, a3, a4, a5, a6, a7⟩ := h
  exact ⟨eh, oe, ve, a1, I.base.keep eh oe a2 a3 a4 a5, I.base.free eh oe a2 a3 a5, a4, Heap.lt_size a2, a5, a6, a7⟩
theorem HandP.lc {X : Cx} {pins : List (Addr × Obj)} {σ : St} {H : Hp} {s : Shared} {scope : Scope} {cl : List (Str × Addr)} {M : List Str} {C : Addr} {fp : List Addr} {E : Value -> Shared -> Prop} (h : HandP X) (I : Inv X pins σ H s) (hf : ∀ b ∈ fp, FpOk X pins H b) : HandP (cxLC X scope cl M C s H fp E) := by
  obtain ⟨eh, oe, ve, a1, a2, a3, a4, a5, a6, a7, a8⟩ := h.now I
  refine ⟨eh, oe, ve, a1, a2, a3, fun z => ?_, fun z => ?_, a7, a8⟩
  · rcases List.mem_cons.mp (I.stkSub eh z) with q | q
    · exact (I.apart a2 a7).1 q
    · exact a4 q
  · rcases (hf eh z).2.2.2.1 with q | q
    · exact a6 q
    · exact absurd (Nat.lt_of_lt_of_le a5 q) (Nat.lt_irrefl _)
structure TurnC (Cn : Cx -> Prop) (P : Program) (w : World) (K : PySem.W.Frag) (tg : Expr) (J : It) (fp : List Addr) (it : Addr) (tn : Nat -> Heap -> Prop) : Prop where
  mem : it ∈ fp
  obj : ∀ i h, tn i h -> ∀ b ∈ fp, ∃ o, h.get? b = some o /\ ∀ v, o.data ≠ .cell v
  keep : ∀ i h h', tn i h -> (∀ b ∈ fp, ∀ o, h.get? b = some o -> h'.get? b = some o) -> tn i h'
  item : ∀ (X : Cx), X.prog = P -> X.w = w -> X.K = K -> Cn X -> ∀ (i : Nat) (pins : List (Addr × Obj)) (s : Shared) (σ : St) (H : Hp) (E : Value -> Shared -> Prop), Inv X pins σ H s -> (∀ b ∈ fp, FpOk X pins H b) -> tn i s.heap -> J.go i H ->
    wpAny (model P w) X.A (pyNext (.ref it)) (fun r s1 => ∃ u, r = some u /\
      wpAny (model P w) X.A (letOwnedTupleGo tg (.ref it) u) (fun _ s2 => ∃ x H', Inv X pins σ H' s2 /\ RelV x u /\ J.yld i H x H' /\ tn (i + 1) s2.heap /\ ∀ b ∈ fp, H' b = none) E s1) E s
  done : ∀ (X : Cx), X.prog = P -> X.w = w -> X.K = K -> Cn X -> ∀ (i : Nat) (pins : List (Addr × Obj)) (s : Shared) (σ : St) (H : Hp) (E : Value -> Shared -> Prop), Inv X pins σ H s -> (∀ b ∈ fp, FpOk X pins H b) -> tn i s.heap -> J.stop i H ->
    wpAny (model P w) X.A (pyNext (.ref it)) (fun r s1 => r = none /\ Inv X pins σ H s1) E s
  self : ∀ (A : Around) (i : Nat) (s : Shared) (Q : Value -> Shared -> Prop) (E : Value -> Shared -> Prop), tn i s.heap -> Q (.ref it) s -> wpAny (model P w) A (pyIter (.ref it)) Q E s
theorem jL {P : Program} {w : World} {K : PySem.W.Frag} {tg : Expr} (a it : Addr) : TurnC HandP P w K tg (Itl K a) [it] it (fun i h => h.IsListIter it a i) where
  mem := by simp
  obj := fun i h st b hb => by
    have e : b = it := by simpa using hb
    subst e
    obtain ⟨o, e, c, d⟩ := st
    exact ⟨o, e, fun v z => by rw [d] at z; cases z⟩
  keep := fun i h h' st k => st.at fun o e => k it (by simp) o e
  item := by
    intro X hP hw hK hc i pins s σ H E I hf st hg
    subst hP hw hK
    obtain ⟨xs, x, hq, hx⟩ := hg
    obtain ⟨its, rv, p, hz⟩ := I.list hq
    obtain ⟨u, hu, ru⟩ := rv.get hx
    obtain ⟨f0, f1, f2, f3, f4, f5⟩ := hf it (by simp)
    refine wpAny_pyNext_list_item st p.isList (x := u) (by simpa using hu) fun h' st' sb => ?_
    have I1 : Inv X pins σ H { s with heap := h' } := I.turned (t' := s.toks) (fun b o hb e => (sb.2 b hb).trans e) f0 f1 f3 f4 f5
    obtain ⟨o, e, c, d⟩ := id st'
    exact ⟨u, rfl, wz (s := { s with heap := h' }) e c d (by decide) ⟨x, H, I1, ru, ⟨rfl, fun ys hy => by rw [I.list_inj hy hq]; exact hx⟩, st', fun b hb => (hf b hb).1⟩⟩
  done := by
    intro X hP hw hK hc i pins s σ H E I hf st hg
    subst hP hw hK
    obtain ⟨xs, hq, hx⟩ := hg
    obtain ⟨its, rv, p, hz⟩ := I.list hq
    obtain ⟨f0, f1, f2, f3, f4, f5⟩ := hf it (by simp)
    have hl := rv.length
    obtain ⟨eh, oe, ve, a1, a2, a3, a4, a5, a6, a7, a8⟩ := hc.now I
    have hne : eh ≠ it := fun z => by
      rcases f3 with q | q
      · exact a6 (z ▸ q)
      · exact absurd (Nat.lt_of_lt_of_le a5 (z ▸ q)) (Nat.lt_irrefl _)
    exact Yg a1 a2 a7 a8 hne st p.isList (by simp; omega) fun h' eb => ⟨rfl, I.turned (t' := s.toks) (fun b o hb e => eb b o hb e) f0 f1 f3 f4 f5⟩
  self := fun _ _ _ _ _ st h => wpAny_pyIter_listiter st h
end L2
namespace L2
open PySem PySem.Spec PyProof.Rows
def PIEH (X : Cx) (pins : List (Addr × Obj)) (σ : St) (tg : Expr) (R : It -> Hp -> Prop) (itv : Value) (s2 : Shared) : Prop :=
  ∃ (it : Addr) (fp : List Addr) (tn : Nat -> Heap -> Prop) (J : It) (H' : Hp), itv = .ref it /\ Inv X pins σ H' s2 /\ TurnC HandP X.prog X.w X.K tg J fp it tn /\ tn 0 s2.heap /\ (∀ b ∈ fp, FpOk X pins H' b) /\ R J H'
def PIH (X : Cx) (tg iter : Expr) (wi : TI) : Prop :=
  ∀ (pins : List (Addr × Obj)) (s : Shared) (σ : St) (H : Hp) (R : It -> Hp -> Prop), Inv X pins σ H s -> wi σ H R ->
    wpAny (model X.prog X.w) X.A (eval iter X.env) (fun v s1 => wpAny (model X.prog X.w) X.A (pyIter v) (PIEH X pins σ tg R) X.xe s1) X.xe s
theorem Xu {X : Cx} {tg l : Expr} {tl : TE} (hl : PE X l tl) : PIH X tg l (jY X.K tl) := by
  intro pins s σ H R I h
  refine thn (hl pins s σ H _ I h) fun v s1 ⟨x, H1, I1, r1, q1⟩ => ?_
  obtain ⟨a, e, ⟨xs, hq⟩, q⟩ := q1
  subst e
  cases r1
  obtain ⟨its, rv, p, hz⟩ := I1.list hq
  refine wpAny_pyIter_list p.isList ?_
  refine ⟨s1.heap.objs.size, [s1.heap.objs.size], _, _, H1, rfl, I1.kept (t' := s1.toks) fun b o e => Heap.get?_push_of_some _ e, jL a _, ⟨_, Heap.get?_push_size _ rfl, rfl, rfl⟩, fun b hb => ?_, q⟩
  have e : b = s1.heap.objs.size := by simpa using hb
  subst e
  exact I1.fpOk (Nat.le_refl _) (I1.hok.fresh (Nat.le_refl _))
section
variable {X : Cx} {scope : Scope} {cl : List (Str × Addr)} {S : List Nat} {pins : List (Addr × Obj)} {σ : St} {H : Hp} {s : Shared} {ex : List Addr} {M : List Str} {C : Addr}
theorem Xv {tg elt iter : Expr} {ifs : List Expr} {pos : Pos} {g : TG} {tt : TT} {te : TE} {J : It} {fp : List Addr} {it : Addr} {tn : Nat -> Heap -> Prop} {Q : VK} {E : Value -> Shared -> Prop} {R : Value -> Addr -> Result -> Shared -> Prop}
    {W : Nat -> Nat -> St -> List V -> Hp -> Prop} {m0 : Nat} (L : LcOk X scope cl S) (hc : HandP X) (I : Inv X pins σ H s) (T : TurnC HandP X.prog X.w X.K tg J fp it tn) (st : tn 0 s.heap) (hf : ∀ b ∈ fp, FpOk X pins H b)
    (hg : ∀ C s H ex E, PG (cxLC X scope cl M C s H ex E) tg g) (ht : ∀ C s H ex E, PTs (cxLC X scope cl M C s H ex E) ifs tt) (he : ∀ C s H ex E, PE (cxLC X scope cl M C s H ex E) elt te)
    (w0 : W 0 m0 (yO S σ ++ List.replicate M.length none) [] H) (turn : lcBy J g tt te Q W)
    (hR : ∀ D C s' H' ys m, Inv X pins σ (upd H' D (.lst ys)) s' -> FpOk X pins (upd H' D (.lst ys)) C -> s'.heap.Ns C m -> Q (.ref D) (upd H' D (.lst ys)) -> R (.ref D) C (.ok .next) s') :
    wpAny (model X.prog X.w) X.A (newList []) (fun acc s₃ => wpAny (model X.prog X.w) X.A (newFunctionEnv scope X.env.globals cl [] X.env.qual none .none (some X.env)) (fun cenv s₄ =>
      codeAny (model X.prog X.w) X.A (.compStart (.ListComp elt [⟨tg, iter, ifs, 0⟩] scope pos) 0 (.ref it) acc { cenv with scope := relabel scope X.env }) (R acc cenv.locals) s₄) E s₃) E s := by
  refine wpAny_newObj_type (wpAny_newFunctionEnv L.nocell (by intro y hy; simp at hy) (fun h₁ hns₁ hsb₁ => ?_) L.kind)
  dsimp only at hns₁ hsb₁ ⊢
  generalize hG : s.heap.push { cls := .type "list", dict := none, data := .seq ([] : List Value).toArray } = G at hns₁ hsb₁ ⊢
  have hC : G.objs.size = s.heap.objs.size + 1 := by rw [<- hG, Heap.size_push]
  have hDC : s.heap.objs.size ≠ G.objs.size := by rw [hC]; exact Nat.ne_of_lt (Nat.lt_succ_self _)
  have hCle : s.heap.objs.size <= G.objs.size := by rw [hC]; exact Nat.le_succ _
  have old : ∀ b o, s.heap.get? b = some o -> h₁.get? b = some o := fun b o e =>
    hsb₁.extBut b o (by rw [hC]; exact Nat.ne_of_lt (Nat.lt_succ_of_lt (Heap.lt_size e))) (Heap.get?_push_of_some _ (hG ▸ Heap.get?_push_of_some _ e))
  have hacc : h₁.get? s.heap.objs.size = some { cls := .type "list", data := .seq ([] : List Value).toArray } := hsb₁.extBut _ _ hDC (Heap.get?_push_of_some _ (hG ▸ Heap.get?_push_size _ rfl))
  have fpo : ∀ b ∈ fp, b < s.heap.objs.size := fun b hb => let ⟨o, e, _⟩ := T.obj 0 _ st b hb; Heap.lt_size e
  have st1 : tn 0 h₁ := T.keep 0 _ _ st fun b _ o e => old b o e
  have nofs : s.heap.objs.size ∉ frs X.stack := fun z => by
    rcases List.mem_cons.mp (I.stkSub _ z) with q | q
    · exact absurd (q ▸ I.lt) (Nat.lt_irrefl _)
    · exact I.nofs (Nat.le_refl _) q
  have nocl : ∀ y c, cl.lookup y = some c -> c ≠ s.heap.objs.size := fun y c e z => by
    obtain ⟨v, o, ho, _⟩ := I.cell y c (L.sub.get e)
    exact absurd (z ▸ Heap.lt_size ho) (Nat.lt_irrefl _)
  have loop : ∀ s₃ : Shared, s₃ = { s with heap := h₁, toks := s.toks + ([] : List (Str × Value)).length } ->
      codeAny (model X.prog X.w) X.A (.compLoop (.ListComp elt [⟨tg, iter, ifs, 0⟩] scope pos) 0 (.ref it) (.ref s.heap.objs.size) (compEnvC scope cl G.objs.size X.env)) (R (.ref s.heap.objs.size) G.objs.size) s₃ := by
    rintro s₃ rfl
    generalize hE : notedBy (model X.prog X.w) X.A (compEnvC scope cl G.objs.size X.env) (fun e s' => R (.ref s.heap.objs.size) G.objs.size (.error e) s') = E'
    have IY : Inv (cxLC X scope cl M G.objs.size s H fp E') [] (yO S σ ++ List.replicate M.length none) H { s with heap := h₁, toks := s.toks + ([] : List (Str × Value)).length } := vG I L hf fpo old hCle hns₁
    refine codeAny_loop rfl (fun n s' => ∃ (i : Nat) (τ : St) (H' : Hp) (ys : List V) (its : List Value) (k : Nat), Inv (cxLC X scope cl M G.objs.size s H fp E') [] τ H' s' /\ tn i s'.heap /\ (∀ b ∈ fp, H' b = none) /\
      s'.heap.get? s.heap.objs.size = some { cls := .type "list", data := .seq its.toArray k } /\ H' s.heap.objs.size = none /\ Vals ys its /\ ys.length <= sizeLine /\ W i n τ ys H') (fun n s' hI => ?_) m0
      ⟨0, _, H, [], [], _, IY, st1, fun b hb => (hf b hb).1, hacc, I.hok.fresh (Nat.le_refl _), .nil, Nat.zero_le _, w0⟩
    obtain ⟨i, τ, H1, ys, its, k, I1, st1, fr1, eD, fD, rv, hz, w1⟩ := hI
    show wpAny _ X.A ((compTurn (.ListComp elt [⟨tg, iter, ifs, 0⟩] scope pos) 0 (.ref it) (.ref s.heap.objs.size) (compEnvC scope cl G.objs.size X.env)).onRaise (fun x => do noteFrame x (compEnvC scope cl G.objs.size X.env); theTreesLotGoes x)) _ _ s'
    refine wpAny_noted ?_
    rw [hE, compTurn_list]
    have I1' : Inv (cxLC X scope cl M G.objs.size s H fp E') [(s.heap.objs.size, { cls := .type "list", data := .seq its.toArray k })] τ H1 s' := I1.pins_of fun p hp => by
      have e : p = (s.heap.objs.size, { cls := .type "list", data := .seq its.toArray k }) := by simpa using hp
      subst e
      exact ⟨eD, fD, hDC, nofs, (fun v z => nomatch z)⟩
    have stat : ∀ {H' : Hp}, (∀ b ∈ fp, H' b = none) -> ∀ b ∈ fp, FpOk (cxLC X scope cl M G.objs.size s H fp E') [(s.heap.objs.size, { cls := .type "list", data := .seq its.toArray k })] H' b := fun hn b hb => by
      refine ⟨hn b hb, ?_, ?_, .inl hb, fun x c e => (hf b hb).2.2.2.2.1 x c (L.sub.get e), fun p hp z => ?_⟩
      · exact Nat.ne_of_lt (Nat.lt_of_lt_of_le (fpo b hb) hCle)
      · intro z
        rcases List.mem_cons.mp (I.stkSub b z) with q | q
        · exact (hf b hb).2.1 q
        · exact (hf b hb).2.2.1 q
      · have e : p = (s.heap.objs.size, { cls := .type "list", data := .seq its.toArray k }) := by
          have hp' : p ∈ [(s.heap.objs.size, ({ cls := .type "list", data := .seq its.toArray k } : Obj))] := hp
          simpa using hp'
        subst e
        exact absurd (z ▸ fpo b hb) (Nat.lt_irrefl _)
    refine wpAny_bind (wpAny_standAt (wpAny_bind ?_))
    rcases turn i n τ ys H1 w1 with ⟨stop, q⟩ | ⟨go, N, hN, step⟩
    · refine thn (T.done (cxLC X scope cl M G.objs.size s H fp E') rfl rfl rfl (hc.lc I hf) i _ s' τ H1 E' I1' (stat fr1) st1 stop) fun r s4 ⟨hr, I4⟩ => ?_
      subst hr
      refine wpAny_pure ?_
      obtain ⟨eD4, _, _⟩ := I4.pin (s.heap.objs.size, { cls := .type "list", data := .seq its.toArray k }) (List.mem_append_right _ List.mem_cons_self)
      have base4 : Un (frs X.stack) fp H H1 s.heap s4.heap := I4.base
      have un : Un (frs X.stack) fp H (upd H1 s.heap.objs.size (.lst ys)) s.heap s4.heap := ⟨base4.keep, base4.slot, fun b o e n hx => by rw [zn (Nat.ne_of_lt (Heap.lt_size e))]; exact base4.free b o e n hx, base4.there,
        fun b xs e => by rw [zn (zo (base4.tups b xs e) fD)]; exact base4.tups b xs e, fun b o u e => by rw [zn (zo (base4.frzs b o u e) fD)]; exact base4.frzs b o u e,
        fun b ps e => by
          obtain ⟨more, w⟩ := base4.tbls b ps e
          exact ⟨more, by rw [zn (zo w fD)]; exact w⟩⟩
      have hok : HOk X.prog X.w (upd H1 s.heap.objs.size (.lst ys)) s4.heap := fun b u e => by
        by_cases hb : b = s.heap.objs.size
        · subst hb
          rw [zg] at e
          cases e
          exact ⟨hz, its, k, rv, eD4⟩
        · rw [zn hb] at e
          exact (I4.hok b u e).stay (fun c v _ q => q) (fun c q => by rw [zn (zo q fD)]; exact q) fun c xs q => by rw [zn (zo q fD)]; exact q
      have IX : Inv X pins σ (upd H1 s.heap.objs.size (.lst ys)) s4 := I.call' I4.os un hok I4.bare fun b hb => ⟨(hf b hb).2.2.2.1, (hf b hb).2.1, (hf b hb).2.2.2.2.1, (hf b hb).2.2.2.2.2⟩
      have fC : H1 G.objs.size = none := I4.free
      obtain ⟨m4, n4, _⟩ := I4.loc
      exact hR _ _ s4 H1 ys m4 IX (I.fpOk hCle (by rw [zn (Ne.symm hDC)]; exact fC)) n4 (q _ fD)
    · refine thn (T.item (cxLC X scope cl M G.objs.size s H fp E') rfl rfl rfl (hc.lc I hf) i _ s' τ H1 E' I1' (stat fr1) st1 go) fun r s4 ⟨u, hr, h4⟩ => ?_
      subst hr
      refine wpAny_bind (thn h4 fun _ s5 ⟨x, H5, I5, r5, y5, st5, fr5⟩ => ?_)
      have I5' := I5.pinned (stat fr5) (T.obj _ _ st5)
      have kept : ∀ {τ6 : St} {H6 : Hp} {s6 : Shared}, Inv (cxLC X scope cl M G.objs.size s H fp E') ([(s.heap.objs.size, { cls := .type "list", data := .seq its.toArray k })] ++ xq fp s5.heap) τ6 H6 s6 ->
          Inv (cxLC X scope cl M G.objs.size s H fp E') [] τ6 H6 s6 /\ tn (i + 1) s6.heap /\ (∀ b ∈ fp, H6 b = none) /\ s6.heap.get? s.heap.objs.size = some { cls := .type "list", data := .seq its.toArray k } /\ H6 s.heap.objs.size = none := fun {τ6 H6 s6} I6 => by
        have pin : ∀ b ∈ fp, ∀ o, s5.heap.get? b = some o -> s6.heap.get? b = some o /\ H6 b = none := fun b hb o e =>
          let w := I6.pin (b, o) (List.mem_append_right _ (List.mem_append_right _ (yH hb e)))
          ⟨w.1, w.2.1⟩
        have pD := I6.pin (s.heap.objs.size, { cls := .type "list", data := .seq its.toArray k }) (List.mem_append_right _ (List.mem_append_left _ List.mem_cons_self))
        refine ⟨I6.pins_of (fun p hp => nomatch hp), T.keep _ _ _ st5 fun b hb o e => (pin b hb o e).1, fun b hb => ?_, pD.1, pD.2.1⟩
        obtain ⟨o, e, _⟩ := T.obj _ _ st5 b hb
        exact (pin b hb o e).2
      refine wpAny_bind (thn (hg _ _ _ _ _ _ s5 τ H5 x u _ I5' r5 (step x H5 y5)) fun _ s6 ⟨σ6, H6, I6, q6⟩ => ?_)
      refine wpAny_bind (thn (ht _ _ _ _ _ _ s6 σ6 H6 _ I6 q6) fun ok s7 ⟨H7, I7, q7⟩ => ?_)
      cases ok with
      | false =>
        have q7' : N σ6 ys H7 := by simpa using q7
        obtain ⟨m', hm, w7⟩ := hN _ _ _ q7'
        obtain ⟨K1, K2, K3, K4, K5⟩ := kept I7
        exact wpAny_pure ⟨rfl, m', hm, i + 1, σ6, H7, ys, its, k, K1, K2, K3, K4, K5, rv, hz, w7⟩
      | true =>
        have q7' : te σ6 H7 fun y H4 => ys.length < sizeLine /\ N σ6 (ys ++ [y]) H4 := by simpa using q7
        refine wpAny_bind (wpAny_bind (thn (he _ _ _ _ _ _ s7 σ6 H7 _ I7 q7') fun y s8 ⟨v8, H8, I8, r8, hz8, n8⟩ => ?_))
        obtain ⟨m', hm, w8⟩ := hN _ _ _ n8
        obtain ⟨K1, K2, K3, K4, K5⟩ := kept I8
        have hl := rv.length
        refine wpAny_bind (wpAny_list_append_plain (hsz := by rw [List.size_toArray]; omega) ⟨k, K4⟩ fun h9 hl9 hs9 => wpAny_pure (wpAny_pure ⟨rfl, m', hm, ?_⟩))
        obtain ⟨k9, e9⟩ := hl9
        have I9 : Inv (cxLC X scope cl M G.objs.size s H fp E') [] σ6 H8 { s8 with heap := h9 } := K1.turned (t' := s8.toks) (it := s.heap.objs.size) (fun b o hb e => (hs9.2 b hb).trans e) K5 hDC (.inr (Nat.le_refl _))
          (fun y c e => nocl y c e) fun p hp => nomatch hp
        refine ⟨i + 1, σ6, H8, ys ++ [v8], its ++ [y], k9, I9, T.keep _ _ _ K2 fun b hb o e => (hs9.2 b (Nat.ne_of_lt (fpo b hb))).trans e, K3, ?_, K5, rv.append (.cons r8 .nil), ?_, w8⟩
        · rw [e9]
          simp
        · rw [List.length_append, List.length_singleton]
          omega
  exact codeAny_compStart_list (loop _ rfl) (T.self X.A 0 _ _ _ st1 (loop _ rfl))
variable {tg elt iter : Expr} {ifs : List Expr} {pos : Pos} {wi : TI} {g : TG} {tt : TT} {te : TE}
theorem JW (L : LcOk X scope cl S) (hc : HandP X) (hi : PIH X tg iter wi) (hg : ∀ C s H ex E, PG (cxLC X scope cl M C s H ex E) tg g) (ht : ∀ C s H ex E, PTs (cxLC X scope cl M C s H ex E) ifs tt) (he : ∀ C s H ex E, PE (cxLC X scope cl M C s H ex E) elt te)
    (hs : ∀ x, foldedSetIterable iter X.env x = pure x := by intro _; rfl) : PE X (.ListComp elt [⟨tg, iter, ifs, 0⟩] scope pos) (tLCS S wi g tt te M.length) := by
  intro pins s σ H Q I h
  rw [eval_ListComp]
  refine wpAny_comprehension_free (use := none) rfl hs L.clos L.kind L.locs (thn (hi pins s σ H _ I h) fun v s1 h1 => thn h1 fun itv s2 h2 => ?_)
  obtain ⟨it, fp, tn, J, H2, rfl, I2, T, st2, f2, W, ⟨m0, w0⟩, turn⟩ := h2
  refine Xv (R := fun acc C => compPost (model X.prog X.w) X.A X.xe none (EP X pins σ Q) acc C) L hc I2 T st2 f2 hg ht he w0 turn ?_
  intro D C s' H' ys m IX fC ns q
  exact ⟨m, ns, fun h' sb => ⟨.ref D, _, IX.turned (t' := s'.toks) (fun b o hb e => (sb.2 b hb).trans e) fC.1 fC.2.1 fC.2.2.2.1 fC.2.2.2.2.1 fC.2.2.2.2.2, rfl, q⟩⟩
end
section
variable {X : Cx} {scope : Scope} {M : List Str} {tg elt l : Expr} {ifs : List Expr} {pos : Pos} {tl : TE} {g : TG} {tt : TT} {te : TE}
theorem Xw (M : List Str) (hc : HandP X) (hl : jE X l tl) (hg : ∀ C s H ex E, jG (cxLC X scope (clOf scope X.env) M C s H ex E) tg g) (ht : ∀ C s H ex E, jTs (cxLC X scope (clOf scope X.env) M C s H ex E) ifs tt)
    (he : ∀ C s H ex E, jE (cxLC X scope (clOf scope X.env) M C s H ex E) elt te) (hs : ∀ x, foldedSetIterable l X.env x = pure x := by intro _; rfl)
    (h1 : closureFor scope X.env = pure (clOf scope X.env) := by with_unfolding_all rfl) (h2 : scope.kind = .function := by rfl) (h3 : scope.names.all (fun y => y.2 != .cell) = true := by rfl) (h4 : scope.names.all (fun y => y.2 != .local || scope.names.lookup y.1 == some .local) = true := by rfl)
    (h5 : X.N.all (fun y => scope.names.lookup y != some .local) = true := by rfl) (h6 : scope.names.all (fun p => p.2 != .free || (((clOf scope X.env).lookup p.1).isSome && (X.env.kindOf p.1 == some .cell || X.env.kindOf p.1 == some .free))) = true := by rfl) :
    jE X (.ListComp elt [⟨tg, l, ifs, 0⟩] scope pos) (tLC (jY X.K tl) g tt te M.length) := ⟨JW (lcOk h1 h2 h3 h4 h5 h6) hc (Xu hl.out) (fun C s H ex E => (hg C s H ex E).out) (fun C s H ex E => (ht C s H ex E).out) (fun C s H ex E => (he C s H ex E).out) hs⟩
end
structure RoomH (k : Nat) (A : Around) : Prop where
  dp : A.depth + 3 * k + 5 < recursionLimit
  un : A.units + 16 * k + 200 < cLine
theorem RoomH.deeper {k : Nat} {A : Around} (r : RoomH (k + 1) A) (env : Env) : RoomH k (A.deeper env) :=
  ⟨by have := r.dp; show A.depth + 1 + 3 * k + 5 < _; omega, by have := r.un; show A.units + 3 + 16 * k + 200 < _; omega⟩
theorem Room.h {k : Nat} {A : Around} (r : Room k A) (u : Option Value) : RoomH k (A.mark u) := ⟨r.dp, r.un⟩
structure Hnd (A : Around) (outer : List Env) (s : Shared) (H : Hp) (e : Addr) (oe : Obj) : Prop where
  h : A.handled = some (.ref e)
  g : s.heap.get? e = some oe
  n : H e = none
  f : e ∉ frs outer
  d : ∃ ve : Array Value, oe.data = .fields ve /\ ve[2]? = some .none
structure FnOkH (P : Program) (w : World) (K : PySem.W.Frag) (mg : Str -> Option Value) (base : Heap) (k : Nat) (f : Addr) (fd : FuncData) (ps : List Str) (sp : Addr -> Obj -> Sp) : Prop where
  len : ∀ e oe vs H Q E, sp e oe vs H Q E -> vs.length = ps.length
  run : ∀ (A : Around) (outer : List Env) (s : Shared) (H : Hp) (args : Args) (us : List Value) (vs : List V) (Q : VK) (e : Addr) (oe : Obj), RoomH k A -> Env0 P w K mg base A outer s H -> Hnd A outer s H e oe -> BindsTo s fd args (ps.zip us) -> Vals vs us -> sp e oe vs H Q E0 ->
    codeAny (model P w) A (.call (.ref f) args) (CR CX0 outer P w H s Q E0) s
abbrev wU (P : Program) (w : World) (K : PySem.W.Frag) (mg : Str -> Option Value) (base : Heap) (N : List Str) (qual : Str) (scope : Scope) (f : Addr) (cd : Value) (A : Around) (outer : List Env) (s : Shared) (H : Hp) : Cx :=
  { cxOf CX0 P w K mg base N qual scope f cd A outer s H E0 with calm := false, xe := fun _ _ => False }
theorem jM {P : Program} {w : World} {K : PySem.W.Frag} {mg : Str -> Option Value} {base : Heap} {N ps : List Str} {qual : Str} {scope : Scope} {f : Addr} {cd : Value} {A : Around} {outer : List Env} {s s1 : Shared} {H : Hp} {us : List Value} {vs : List V}
    (S : FnScope N ps scope) (e0 : Env0 P w K mg base A outer s H) (hl : vs.length = ps.length) (r : Vals vs us)
    (x : InCallC s s.heap.objs.size (bindL (envOfC qual scope s.heap.objs.size f cd).kindOf (ps.zip us) fun _ => none) (cellsFrom (s.heap.objs.size + 1) scope.names []) (bindC (envOfC qual scope s.heap.objs.size f cd).kindOf (ps.zip us) fun _ => none) s1) :
    Inv (wU P w K mg base N qual scope f cd A outer s H) [] (z6 N vs) H s1 := by
  have I0 : Inv { cxOf CX0 P w K mg base N qual scope f cd { A with handled := none } outer s H E0 with xe := fun _ _ => False } [] (z6 N vs) H s1 := by
    have J := xx (CX := CX0) (E := E0) (A := { A with handled := none }) S rfl (⟨e0.frames, e0.mod, e0.bs, e0.bsz, e0.funs, e0.frf, e0.hok, e0.bare⟩ : Env0 P w K mg base { A with handled := none } outer s H) hl r x
    exact ⟨⟨J.ok.mod, J.ok.kind, J.ok.glob, J.ok.blt, J.ok.above, J.ok.inj, J.ok.has, J.ok.cab, J.ok.hd, J.ok.frames, J.ok.stk, J.ok.exf, J.ok.bs, J.ok.bsz, J.ok.noex, J.ok.exfs, J.ok.funs, J.ok.frf⟩, J.os, J.bare, J.base, J.loc, J.cell, J.free, J.freeC, J.pin, J.hok, J.len⟩
  exact ⟨⟨I0.ok.mod, I0.ok.kind, I0.ok.glob, I0.ok.blt, I0.ok.above, I0.ok.inj, I0.ok.has, I0.ok.cab, (fun z => nomatch z), I0.ok.frames, I0.ok.stk, I0.ok.exf, I0.ok.bs, I0.ok.bsz, I0.ok.noex, I0.ok.exfs, I0.ok.funs, I0.ok.frf⟩, I0.os, I0.bare, I0.base, I0.loc, I0.cell, I0.free, I0.freeC, I0.pin, I0.hok, I0.len⟩
theorem Fun.byH {P : Program} {w : World} {K : PySem.W.Frag} {mg : Str -> Option Value} {base : Heap} {x qual : Str} {st : Stmt} {f : Addr} {fd : FuncData} {N ps : List Str} {k : Nat} {sp : Addr -> Obj -> Sp} (F : Fun K x qual st f fd) (S : FnScope N ps (zm st)) (len : ∀ e oe vs H Q E, sp e oe vs H Q E -> vs.length = ps.length)
    (hbody : ∀ (cdv : Value) (A : Around) (outer : List Env) (s : Shared) (H : Hp) (vs : List V) (Q : VK) (e : Addr) (oe : Obj), RoomH k (A.deeper (envOfC qual (zm st) s.heap.objs.size f cdv)) -> sp e oe vs H Q E0 -> Hnd A outer s H e oe ->
      ∃ t, jSs (wU P w K mg base N qual (zm st) f cdv A outer s H) (zD st) t /\ t { nx := fun _ H' => Q .non H', rt := Q } (z6 N vs) H) : FnOkH P w K mg base (k + 1) f fd ps sp := by
  obtain ⟨oc, od, kV, doc, pm, an, cdv, ct, osl, rfl, lk, hcd⟩ := F.ex
  refine ⟨len, fun A outer s H args us vs Q e oe hr e0 hn hb r hsp => ?_⟩
  have hl := len _ _ _ _ _ _ hsp
  have KX : K.In s.heap := e0.mod.kin.keeps fun b o e => (e0.bs b o e).1
  have lim : s.heap.NoLimit := e0.mod.nolimit.keeps fun b o e => (e0.bs b o e).1
  have hkind : ∀ y ∈ ps.zip us, (zm st).names.lookup y.1 = some .local \/ ((zm st).names.lookup y.1 = some .cell /\ ((cellsFrom (s.heap.objs.size + 1) (zm st).names []).lookup y.1).isSome = true) := fun ⟨n, v⟩ hy => by
    rcases S.par n (List.of_mem_zip hy).1 with q | q
    · exact .inl q
    · exact .inr ⟨q, PySem.W.cellsFrom_some _ _ _ (.inl q)⟩
  refine codeAny_call_function (by have := hr.dp; omega) (KX _ _ lk) rfl S.co S.gen rfl (PySem.W.codeRec_of KX hcd) (hb _ _ _ _ ?_)
  refine wpAny_newFunctionEnv_cells S.kind hkind fun env he s1 x => ?_
  subst he
  refine ⟨lim.keeps x.toInCall.keep, codeAny_func ?_⟩
  obtain ⟨t, ht, hq⟩ := hbody cdv A outer s H vs Q e oe (hr.deeper _) hsp hn
  have I : Inv (wU P w K mg base N qual (zm st) f cdv A outer s H) [] (z6 N vs) H s1 := jM S e0 hl r x
  refine wpAny_mono (ht.out [] s1 (z6 N vs) H _ I hq) (fun fl s' hs => ?_) fun e s' hs => False.elim hs
  have fin : ∀ {σ' : St} {H' : Hp} {v : V} {u : Value}, Inv (wU P w K mg base N qual (zm st) f cdv A outer s H) [] σ' H' s' -> RelV v u -> Q v H' -> CE outer P w H s Q u s' :=
    fun {σ' H' v u} J rv q => ⟨v, H', J.os, J.bare, J.base, J.hok, rv, q⟩
  cases fl with
  | ret u =>
    obtain ⟨v, σ', H', J, rv, q⟩ := hs
    exact fin J rv q
  | next =>
    obtain ⟨σ', H', J, q⟩ := hs
    exact fin (v := V.non) (u := Value.none) J rfl q
  | brk =>
    obtain ⟨_, _, _, q⟩ := hs
    exact False.elim q
  | cont =>
    obtain ⟨_, _, _, q⟩ := hs
    exact False.elim q
theorem Hnd.p {P : Program} {w : World} {K : PySem.W.Frag} {mg : Str -> Option Value} {base : Heap} {N : List Str} {qual : Str} {scope : Scope} {f : Addr} {cd : Value} {A : Around} {outer : List Env} {s : Shared} {H : Hp} {e : Addr} {oe : Obj} (h : Hnd A outer s H e oe) : HandP (wU P w K mg base N qual scope f cd A outer s H) :=
  let ⟨ve, d1, d2⟩ := h.d; ⟨e, oe, ve, h.h, h.g, h.n, h.f, (fun z => absurd (show e ∈ ([] : List Addr) from z) (by simp)), d1, d2⟩
structure CaH (P : Program) (w : World) (K : PySem.W.Frag) (mg : Str -> Option Value) (base : Heap) (k : Nat) (x : Str) (ps : List Str) (sp : Addr -> Obj -> Sp) : Prop where
  ex : ∃ f fd, FnOkH P w K mg base k f fd ps sp /\ Binds K fd ps [] /\ PySem.W.keepIn K (.ref f) = true /\ mg x = some (.ref f)
theorem DfIn.caH {P : Program} {w : World} {K : PySem.W.Frag} {mg : Str -> Option Value} {base h : Heap} {k : Nat} {x : Str} {st : Stmt} {ps : List Str} {sp : Addr -> Obj -> Sp} (X : K.In h) (G : h.Ns mainGlobals mg) (d : DfIn K x st) (hb : ∀ (kV doc pm : Value) (an : Option Addr) (cdv ct : Value) (us : List Value), us.length = ps.length -> bindArgs (PySem.W.fnOf x x (zI st) (zD st) (zm st) .none kV doc pm an cdv ct) ⟨us, []⟩ = pure (ps.zip us))
    (ok : ∀ f fd, Fun K x x st f fd -> FnOkH P w K mg base k f fd ps sp) : CaH P w K mg base k x ps sp := by
  obtain ⟨f, a, g⟩ := d
  obtain ⟨fd, F, kp⟩ := g.fn
  exact ⟨f, fd, ok f fd F, F.binds hb, kp, PySem.W.mg_of X G a⟩
def tCaH (e : Addr) (oe : Obj) (sp : Addr -> Obj -> Sp) (t : TA) : TE := fun σ H Q => t σ H fun vs H1 => (∃ ve : Array Value, oe.data = .fields ve /\ ve[2]? = some .none) /\ sp e oe vs H1 Q E0
theorem jN {X : Cx} {k : Nat} {x : Str} {ps : List Str} {sp : Addr -> Obj -> Sp} {p pos : Pos} {a : Expr} {as : List Expr} {t : TA} {e : Addr} {oe : Obj} (F : CaH X.prog X.w X.K X.mg X.base k x ps sp) (hr : RoomH k X.A) (hg : Gl X x) (hh : X.A.handled = some (.ref e)) (hp : (e, oe) ∈ X.pn) (ha : jA X (a :: as) t)
    (hdb : (x == ("__debug__" : Str)) = false := by decide) (h1 : zy a = false := by rfl) (h2 : as.all (fun e => !zy e) = true := by rfl) : jE X (.Call (.Name x p) (a :: as) [] pos) (tCaH e oe sp t) := by
  constructor
  intro pins s σ H Q I h
  obtain ⟨f, fd, G, hb, hk, hm⟩ := F.ex
  refine wpAny_Call_Name_kw (yy I hg hm ?_ hdb)
  refine PySem.W.callWith_K (h₀ := X.base) I.ok.mod.kin hk (thn (ha.out pos pins s σ H _ I h) fun us s1 ⟨vs, H1, I1, r, hd, q⟩ => ⟨I1.kIn, ?_⟩) (zH h1) (zY h2)
  have hlen : us.length = ps.length := by rw [<- r.length]; exact G.len _ _ _ _ _ _ q
  have bd := hb s1 us I1.kIn (by rw [List.append_nil]; exact hlen)
  rw [List.append_nil] at bd
  obtain ⟨p1, p2, p3, p4, p5⟩ := I1.pin (e, oe) (List.mem_append_left _ hp)
  have hn : Hnd X.A X.stack s1 H1 e oe := ⟨hh, p1, p2, fun z => (List.mem_cons.mp (I1.stkSub e z)).elim p3 p4, hd⟩
  refine wpAny_call (codeAny_mono (G.run X.A X.stack s1 H1 ⟨us, []⟩ us vs Q e oe hr I1.env0 hn bd r q) fun r s' hq => ?_)
  cases r with
  | error e => exact False.elim hq
  | ok fl =>
    cases fl with
    | ret u => exact I1.after hq
    | next => exact False.elim hq
    | brk => exact False.elim hq
    | cont => exact False.elim hq
end L2
namespace PySem.W
open PySem PySem.Spec PySem.Calls PyProof.Rows
section
variable {prog : Program} {w : World} {A : Around} {E : Value -> Shared -> Prop} {s : Shared} {K : Frag} {e C : Addr} {ox od : Obj}
theorem Xx {Q : Option Value -> Shared -> Prop} (X : K.In s.heap) (I : InstAt s.heap e ox C (some od)) (hga : findIn K (.ref C) "__getattribute__" = some (some (.builtin "BaseException.__getattribute__"))) (hk : findIn K (.ref C) "__getattr__" = some none)
    (hb : subIn K (.ref C) (.type "BaseException") = some true) (hf : findObj K C (some od) "__class__" = some (.bind (.builtin "getset_descriptor.__get__") (.builtin "object.__class__"))) (hm : mroIn K C (.type "object") = some true)
    (h : Q (some (.ref C)) { s with toks := s.toks + 1 }) : wpAny (model prog w) A (getAttr? (.ref e) "__class__") Q E s := by
  have ty := I.type (M := model prog w)
  have fd := looks_find (M := model prog w) X I hf
  unfold getAttr? getAttrBy?
  refine wpAny_bind (wpAny_mkText (wpAny_bind (wpAny_attempt ?_)))
  refine wpAny_holding (wpAny_bind (ty _ _ _ _ (fun _ _ q => q) (wpAny_bind (looks_findIn X hga _ _ _ _ (fun _ _ q => q) ?_))))
  dsimp only
  rw [show (onTheHeap (Value.ref C) && Value.builtin "BaseException.__getattribute__" == Value.builtin "object.__getattribute__") = false from by rw [show (Value.builtin "BaseException.__getattribute__" == Value.builtin "object.__getattribute__") = false from by decide +kernel, Bool.and_false], if_neg (by decide : ¬ (false = true))]
  refine wpAny_bind ((looks_hook (mc := .ref C) X (by rw [if_pos (show onTheHeap (.ref C) = true from rfl)]; exact hk)) _ _ _ _ (fun _ _ q => q) (wpAny_bind (wpAny_attempt (wpAny_holding ?_))))
  unfold callGetattribute
  rw [show (false && onTheHeap (Value.builtin "BaseException.__getattribute__")) = false from rfl, if_neg (by decide : ¬ (false = true))]
  unfold boundAndCalled
  rw [L2.xg_slot.bind]
  refine wpAny_bind (wpAny_pure (wpAny_call (codeAny_call_builtin L2.xg_slot.plain PySem.F.entry_bexc_ga ?_)))
  refine @check_slot (model prog w) _ _ { s with toks := s.toks + 1 } "BaseException.__getattribute__" "BaseException" "__getattribute__" (.ref e) [.str "__class__" s.toks] [] _ (by decide +kernel) (by decide +kernel) (ty.andThen (looks_subIn X hb)) (PySem.F.args_bexc_ga (.ref e) (.str "__class__" s.toks)) ?_
  refine wpAny_bind (wpAny_pure (wpAny_bind (wpAny_pure (wpAny_bind (ty _ _ _ _ (fun _ _ q => q) (wpAny_bind (fd _ _ _ _ (fun _ _ q => q) ?_)))))))
  show wpAny _ _ (holding [Value.builtin "object.__class__"] (call (.builtin "getset_descriptor.__get__") [.builtin "object.__class__", .ref e, .ref C]) >>= ret) _ _ _
  refine wpAny_bind (wpAny_holding (wpAny_call (class_get (s := { s with toks := s.toks + 1 }) X I hm ?_)))
  refine wpAny_pure ?_
  show wpAny _ _ (handedOut (.ref C)) _ _ _
  rw [handedOut_of rfl]
  exact wpAny_pure (wpAny_pure h)
end
structure XIs (K : Frag) (C : Addr) : Prop where
  ga : findIn K (.ref C) "__getattribute__" = some (some (.builtin "BaseException.__getattribute__"))
  ha : findIn K (.ref C) "__getattr__" = some none
  sb : subIn K (.ref C) (.type "BaseException") = some true
  hd : hasDictIn K C = true
  cl : findIn K (.ref C) "__class__" = some (some (.builtin "object.__class__"))
  gs : specialIn K (.builtin "object.__class__") "__get__" = some (some (.builtin "getset_descriptor.__get__"))
  tk : takesIn K (.builtin "object.__class__") = some true
  mo : mroIn K C (.type "object") = some true
theorem kitx_exc {K : Frag} {x D : Addr} {ox od : Obj} (c : XIs K D) : KitX K (.ref x) (.ref D) (fun h => InstAt h x ox D (some od)) where
  ty := fun _ _ _ I => I.type
  it := fun _ _ X _ => by
    obtain ⟨cdD, hcD, _⟩ := any_some c.hd
    unfold clsIn at hcD
    split at hcD
    · rename_i c' d' cd' sl' ho
      intro A' Q' E' s' k q
      unfold isType loadHead
      exact wpAny_bind (wpAny_loadPart (k _ _ (X _ _ ho)) (wpAny_pure q))
    · cases hcD
  ne := fun h tp dd its n sl X htp => by
    obtain ⟨cdD, hcD, _⟩ := any_some c.hd
    refine Bool.eq_false_iff.mpr fun q => ?_
    have e : D = tp := Value.ref.inj (beq_iff_eq.mp q)
    subst e
    unfold clsIn at hcD
    split at hcD
    · rename_i c' d' cd' sl' ho
      have z := (X _ _ ho).symm.trans htp
      cases z
    · cases hcD
  ca := fun X I k => Xx X I c.ga c.ha c.sb (findObj_data (by obtain ⟨cd, hc, _⟩ := any_some c.hd; rw [hc]; rfl) c.cl c.gs c.tk) c.mo k
end PySem.W
namespace L2
open PySem PySem.Spec PyProof.Rows
theorem JX {X : Cx} {e C d : Addr} {oe : Obj} {D : V} {c : Value} (hh : ∀ pins σ H s, Inv X pins σ H s -> s.heap.get? e = some oe) (hx : PySem.W.XIs X.K C) (hD : RelV D c) (hu : ∀ c', RelV D c' -> c' = c) :
    jCa X (.builtin "isinstance") (fun xs H Q => xs = [.ref e, D] /\ oe.cls = .ref C /\ oe.dict = some d /\ (∃ vs, oe.data = .fields vs) /\ (∃ fs, H d = some (XD d fs)) /\ ∃ b, PySem.W.kitOne X.K (.ref C) c = some b /\ Q (.bl b) H) := by
  constructor
  intro pins s σ H xs us Q I r h
  obtain ⟨rfl, hc, hdx, ⟨vs, hd⟩, ⟨fs, hdo⟩, b, hk, q⟩ := h
  obtain ⟨u, u', rfl, r1, r2⟩ := j4 r
  cases r1
  obtain rfl := hu _ r2
  obtain ⟨mA, ⟨od, es, ep, ho, _⟩, _⟩ := XD.get I.hok hdo
  have J : PySem.W.InstAt s.heap e oe C (some od) := ⟨hh _ _ _ _ I, hc, by unfold PySem.W.notCls; rw [hd], by rw [hdx]; exact ho⟩
  exact PySem.W.kia_one (PySem.W.kitx_exc hx) I.kIn J hk (fun z => nomatch z) fun tk => ⟨.bl b, H, I.tok tk, rfl, q⟩
end L2
namespace L2
open PySem PySem.Spec PyProof.Rows
section
variable {X : Cx}
end
end L2
namespace L2
open PySem PySem.Spec PyProof.Rows
def BG : Nat := 2 ^ 1000
set_option exponentiation.threshold 2000 in
theorem Zu {i : Int} (h : i.natAbs < BG) : i.natAbs.log2 < 1000 \/ i = 0 := by
  by_cases z : i.natAbs = 0
  · exact .inr (Int.natAbs_eq_zero.mp z)
  · exact .inl ((Nat.log2_lt z).mpr h)
theorem vT {i : Int} (h : i.natAbs < BG) : Builtin.Int.intBits i <= 2 ^ 20 := by
  unfold Builtin.Int.intBits
  have e : (2 : Nat) ^ 20 = 1048576 := by decide
  rcases Zu h with l | l
  · split <;> omega
  · rw [if_pos (by rw [l]; rfl)]; omega
theorem vy {i j : Int} (h : j.natAbs < BG) : Builtin.divisionGoesByPylong i j = false := by
  refine PyProof.noPylong_of_log2 ?_
  rcases Zu h with l | l
  · omega
  · rw [l]; decide
def qR (i j : Int) : Prop := i.natAbs < BG /\ j.natAbs < BG
def qS (_ j : Int) : Prop := j ≠ 0 /\ j.natAbs < BG
section
variable {X : Cx}
theorem W9 : jOp X (binaryOp .Mult) (rI qR fun i j => .int (i * j)) := ⟨opI fun _ _ _ _ _ _ _ hc q => mul_int q (.of_bits (vT hc.1) (vT hc.2))⟩
theorem Xy : jOp X (binaryOp .FloorDiv) (rI qS fun i j => .int (i.fdiv j)) := ⟨opI fun _ _ _ _ _ _ _ hc q => floordiv_int hc.1 q (.inl (vy hc.2))⟩
theorem Va : jOp X (binaryOp .Mod) (rI (fun _ j => j ≠ 0) fun i j => .int (i.fmod j)) := ⟨Ws⟩
theorem ym {st : Stmt} : jS X st (fun _ _ _ => False) := ⟨fun _ _ _ _ _ _ h => h.elim⟩
end
section
variable {X : Cx} {Ch : Addr} {x n z : Str} {i j k : Nat} {np hpos tpos pz spos : Pos} {b0 : Stmt} {suite : List Stmt} {th : Addr -> Obj -> TS} {ps : List Str} {sp : Sp} {y : Str} {p cpos : Pos} {a : Expr} {as : List Expr} {t : TA}
end
end L2
namespace GN
open PySem L2 K11
theorem vU : ∀ {zs : List Str}, (∀ z ∈ zs, z.length = 1) -> (Str.join "" zs).length = zs.length
  | [], _ => rfl
  | [x], h => h x List.mem_cons_self
  | x :: y :: r, h => by
    have ih := vU (zs := y :: r) fun z hz => h z (List.mem_cons_of_mem _ hz)
    rw [<- yT, vo, List.length_append, List.length_append, yT, yT, yT, ih, h x List.mem_cons_self]
    show 1 + (0 + (y :: r).length) = (y :: r).length + 1
    omega
theorem Xz {zs : List Str} (h : ∀ z ∈ zs, z.length = 1) : wide "" zs = zs.length := by
  unfold wide
  have e : ∀ {l : List Str}, (∀ z ∈ l, z.length = 1) -> (l.map (·.length)).sum = l.length := by
    intro l
    induction l with
    | nil => intro _; rfl
    | cons a l ih => intro h; rw [List.map_cons, List.sum_cons, ih fun z hz => h z (List.mem_cons_of_mem _ hz), h a List.mem_cons_self, List.length_cons]; omega
  rw [e h]
  rfl
theorem t30 : (10 : Int) ^ (30 : Int).toNat = 1000000000000000000000000000000 := by decide
def Sm (i : Int) : Prop := -1000000000000000000000000000000 < i /\ i < 1000000000000000000000000000000
def XA (K : PySem.W.Frag) : Sp := fun vs H Q _ => ∃ (st : Addr) (B : Nat), vs = [.ref st] /\ Sta K H st B /\ B + 8 < LIM /\ ∀ (H' : Hp) (p : Addr) (z : Str) (b : Bool), Kp st H H' -> Sta K H' st (B + 8) -> H' p = some (.lst [.str z, .bl b]) -> z.length <= 6 -> Q (.ref p) H'
inductive Th (H : Hp) : Bool -> V -> Prop
  | int (i : Int) : Th H true (.int i)
  | bl (b : Bool) : Th H false (.bl b)
  | non : Th H false .non
  | str (x : Str) : Th H false (.str x)
  | lst {p : Addr} {xs : List V} : H p = some (.lst xs) -> Th H false (.ref p)
  | tup {p : Addr} {xs : List V} : H p = some (.tup xs) -> Th H false (.ref p)
  | dK {p : Addr} {xs : List (Key × V)} : H p = some (.dK xs) -> Th H false (.ref p)
theorem Th.keep {H H' : Hp} {b : Bool} {v : V} (s : Same H H') (h : Th H b v) : Th H' b v := by
  cases h with
  | int i => exact .int i
  | bl b => exact .bl b
  | non => exact .non
  | str x => exact .str x
  | lst h => exact .lst (s _ _ h)
  | tup h => exact .tup (s _ _ h)
  | dK h => exact .dK (s _ _ h)
def vV : Sp := fun vs H Q _ => ∃ (v : V) (b : Bool), vs = [v] /\ Th H b v /\ Q (.bl b) H
def spIn : Sp := fun vs H Q _ => ∃ i : Int, vs = [.int i] /\ Q (.bl (decide (-1000000000000000000000000000000 < i /\ i < 1000000000000000000000000000000))) H
section
variable {P : Program} {w : World} {K : PySem.W.Frag} {mg : Str -> Option Value} {base : Heap} {f : Addr} {fd : FuncData}
theorem scStem : FnScope ["_law_state", "_law_letters", "_law_stem_here"] ["_law_state"] (zm Xi) := ⟨rfl, rfl, rfl, by decide +kernel, rfl, by decide +kernel, by decide +kernel⟩
theorem JY : (["_law_state", "_law_letters", "_law_stem_here", "_law_k"] : List Str).Nodup := by decide +kernel
theorem Vb (F : Fun K "_law_stem" "_law_stem" Xi f fd) (GD : Ca P w K mg base CX0 1 "_law_draw" ["_law_state", "_law_many"] (xb K)) (m_range : mg "range" = none) : FnOk P w K mg base CX0 2 f fd ["_law_state"] (XA K) := by
  refine F.by scStem (fun vs H Q E h => ?_) (fun cdv A outer s H vs Q E hr h => ?_)
  · obtain ⟨st, B, rfl, _⟩ := h
    rfl
  obtain ⟨st, B, rfl, S0, hB, q⟩ := h
  refine ⟨_,
    (zi (zt (i := 1) scStem.nd rfl (Or.inr rfl) zu)
    (zi (zt (i := 2) scStem.nd rfl (Or.inl rfl) (y3 PySem.F.plainAttrs_str PySem.F.slot_str_join PySem.F.type_str_join WR zu (ja_c (xP ["_law_k"] rfl (yE rfl m_range (ja_c (zC GD hr rfl zJ (ja_c (jv 0) (ja_c zj zh))) zh)) (fun _ _ _ _ _ => (zQ (i := 3) JY rfl (Or.inl rfl))) (fun _ _ _ _ _ => yA) (fun _ _ _ _ _ => (zq jr (jv 1) (zC GD hr rfl zJ (ja_c (jv 0) (ja_c zj zh))) (fun _ _ => rfl)))) zh)))
    (zk (zw (zA (ja_c (jv 2) (ja_c (xh zS (zC GD hr rfl zJ (ja_c (jv 0) (ja_c zj zh))) zj (zv _)) zh))))))), ?_⟩
  have sl := zX
  have LM : LIM = 4611686018427387904 := rfl
  refine ⟨rfl, _, rfl, st, 7, B, rfl, S0, by omega, by decide, fun H1 r k1 S1 r0 r1 => ?_⟩
  refine ⟨_, rfl, by omega, by omega, xU (n := r.toNat) (fun i τ ys H' => Kp st H H' /\ Sta K H' st (B + 1 + i) /\ (∃ x, τ = [some (.ref st), some (.str LET), none, x]) /\ ∃ zs : List Str, ys = zs.map V.str /\ zs.length = i /\ ∀ z ∈ zs, z.length = 1) ⟨k1, S1, ⟨none, rfl⟩, [], rfl, rfl, fun z hz => by cases hz⟩ ?_ ?_⟩
  · rintro i τ ys H2 hi ⟨k2, S2, ⟨x, rfl⟩, zs, rfl, hl, h1⟩
    refine ⟨_, rfl, _, rfl, st, 26, B + 1 + i, rfl, S2, by omega, by decide, fun H3 r3 k3 S3 q0 q1 => ?_⟩
    refine ⟨LET, _, _, rfl, rfl, by rw [vx]; decide, vw q0 q1, by rw [List.length_map]; omega, k2.trans k3, S3, ⟨_, rfl⟩, zs ++ [⟨#[97 + r3.toNat]⟩], by simp, by simp [hl], ?_⟩
    intro z hz
    rcases List.mem_append.mp hz with hz | hz
    · exact h1 z hz
    · rw [List.mem_singleton.mp hz]
      rfl
  rintro τ ys H2 ⟨k2, S2, _, zs, rfl, hl, h1⟩ pj hpj
  refine ⟨"", pj, zs, rfl, rfl, SqL.of zg, by rw [Xz h1]; omega, ?_⟩
  have zl : (Str.join "" zs).length <= 6 := by rw [vU h1]; omega
  replace k2 := k2.new (o := .lst (zs.map V.str)) hpj
  replace S2 := (S2.mono (show _ <= B + 7 by omega)).new hpj (.lst (zs.map V.str))
  generalize upd H2 pj (.lst (zs.map V.str)) = H3 at *
  generalize Str.join "" zs = z at *
  refine ⟨_, rfl, _, rfl, st, 2, B + 7, rfl, S2, by omega, by decide, fun H4 r4 k4 S4 _ _ => ?_⟩
  refine ⟨rfl, by show 2 <= sizeLine; decide, fun p hp => ?_⟩
  exact q _ p z _ ((k2.trans k4).new hp) (S4.new hp _) zg zl
theorem XB : FnScope ["thing"] ["thing"] (zm yU) := ⟨rfl, rfl, rfl, by decide +kernel, rfl, by decide +kernel, by decide +kernel⟩
theorem Yh (F : Fun K "is_whole" "is_whole" yU f fd) (m_isinstance : mg "isinstance" = none) (m_int : mg "int" = none) (m_bool : mg "bool" = none) : FnOk P w K mg base CX0 1 f fd ["thing"] vV := by
  refine F.by XB (fun vs H Q E h => ?_) (fun cdv A outer s H vs Q E hr h => ?_)
  · obtain ⟨v, b, rfl, _⟩ := h
    rfl
  obtain ⟨v, b, rfl, hT, q⟩ := h
  refine ⟨_,
    (zk (zw (xY (zE yd rfl m_isinstance PyProof.Rows.boot_isinstance (ja_c (jv 0) (ja_c (yr (v := .ty "int") rfl m_int PyProof.Rows.boot_int rfl) zh))) (vd (jm (zE yd rfl m_isinstance PyProof.Rows.boot_isinstance (ja_c (jv 0) (ja_c (yr (v := .ty "bool") rfl m_bool PyProof.Rows.boot_bool rfl) zh)))))))), ?_⟩
  cases hT with
  | int i => exact ⟨_, rfl, _, _, _, _, rfl, .int _, rfl, _, rfl, iteT ⟨_, rfl, _, _, _, _, rfl, .int _, rfl, _, rfl, q⟩⟩
  | bl b => exact ⟨_, rfl, _, _, _, _, rfl, .bl _, rfl, _, rfl, iteT ⟨_, rfl, _, _, _, _, rfl, .bl _, rfl, _, rfl, q⟩⟩
  | non => exact ⟨_, rfl, _, _, _, _, rfl, .non, rfl, _, rfl, iteF q⟩
  | str x => exact ⟨_, rfl, _, _, _, _, rfl, .str _, rfl, _, rfl, iteF q⟩
  | lst h => exact ⟨_, rfl, _, _, _, _, rfl, .lst h, rfl, _, rfl, iteF q⟩
  | tup h => exact ⟨_, rfl, _, _, _, _, rfl, .tup h, rfl, _, rfl, iteF q⟩
  | dK h => exact ⟨_, rfl, _, _, _, _, rfl, .dK h, rfl, _, rfl, iteF q⟩
theorem scIn : FnScope ["number"] ["number"] (zm sIn) := ⟨rfl, rfl, rfl, by decide +kernel, rfl, by decide +kernel, by decide +kernel⟩
theorem ok_in (F : Fun K "in_bounds" "in_bounds" sIn f fd) : FnOk P w K mg base CX0 1 f fd ["number"] spIn := by
  refine F.by scIn (fun vs H Q E h => ?_) (fun cdv A outer s H vs Q E hr h => ?_)
  · obtain ⟨i, rfl, _⟩ := h
    rfl
  obtain ⟨i, rfl, q⟩ := h
  refine ⟨_, (zk (zw (vI x8 x8 (jk (zz xy zj zj)) (jv 0) (zz xy zj zj)))), ?_⟩
  refine ⟨_, _, rfl, rfl, ⟨by decide, by decide, by decide⟩, _, rfl, _, rfl, _, _, rfl, rfl, ?_⟩
  rw [t30]
  by_cases c : -1000000000000000000000000000000 < i
  · refine ⟨_, rfl, itD c ?_⟩
    refine ⟨_, _, rfl, rfl, ⟨by decide, by decide, by decide⟩, _, _, rfl, rfl, ?_⟩
    rw [t30]
    have e : decide (-1000000000000000000000000000000 < i /\ i < 1000000000000000000000000000000) = decide (i < 1000000000000000000000000000000) := by simp [c]
    rw [e] at q
    exact q
  · refine ⟨_, rfl, itDN c ?_⟩
    have e : decide (-1000000000000000000000000000000 < i /\ i < 1000000000000000000000000000000) = false := by simp [c]
    rw [e] at q
    exact q
end
end GN
namespace L2
open PySem PySem.Spec PyProof.Rows
section
variable {X : Cx}
end
end L2
namespace L2
open PySem PySem.Spec PyProof.Rows
def Sme : Nat -> Hp -> V -> V -> Prop
  | 0, _, _, _ => False
  | n + 1, H, x, y => (yp x = true /\ x = y) \/ ∃ a b xs ys, x = .ref a /\ y = .ref b /\ ((H a = some (.lst xs) /\ H b = some (.lst ys)) \/ (H a = some (.tup xs) /\ H b = some (.tup ys))) /\ xs.length = ys.length /\ ∀ (i : Nat) u v, xs[i]? = some u -> ys[i]? = some v -> Sme n H u v
section
variable {X : Cx} {pins : List (Addr × Obj)} {σ : St} {H : Hp} {s : Shared}
theorem y0 {A : Around} {n : Nat} {xs ys : List V} {us vs : List Value} (r : Vals xs us) (r' : Vals ys vs) (go : ∀ {x y : V} {u v : Value}, Sme n H x y -> RelV x u -> RelV y v -> SeqAt.EqAt A s u v true)
    (h : ∀ (i : Nat) u v, xs[i]? = some u -> ys[i]? = some v -> Sme n H u v) (j : Nat) (h1 : j < us.toArray.size) (h2 : j < vs.toArray.size) : SeqAt.EqAt A s us.toArray[j] vs.toArray[j] true := by
  have l1 := r.length
  have l2 := r'.length
  simp at h1 h2
  have hx : xs[j]? = some (xs[j]'(by omega)) := List.getElem?_eq_getElem _
  have hy : ys[j]? = some (ys[j]'(by omega)) := List.getElem?_eq_getElem _
  obtain ⟨u, e1, rx⟩ := r.get hx
  obtain ⟨v, e2, ry⟩ := r'.get hy
  have g1 : us.toArray[j] = u := by
    have := List.getElem?_eq_some_iff.mp e1
    simpa using this.2
  have g2 : vs.toArray[j] = v := by
    have := List.getElem?_eq_some_iff.mp e2
    simpa using this.2
  rw [g1, g2]
  exact go (h j _ _ hx hy) rx ry
theorem XC {A : Around} {n : Nat} {a b : Addr} {xs ys : List V} (hu : A.units < cLine) (I : Inv X pins σ H s) (hl : xs.length = ys.length) (hab : (H a = some (.lst xs) /\ H b = some (.lst ys)) \/ (H a = some (.tup xs) /\ H b = some (.tup ys)))
    (go : ∀ {x y : V} {u v : Value}, Sme n H x y -> RelV x u -> RelV y v -> SeqAt.EqAt A.in1 s u v true) (h : ∀ (i : Nat) u v, xs[i]? = some u -> ys[i]? = some v -> Sme n H u v) : SeqAt.RcAt A s (.ref a) (.ref b) true := by
  rcases hab with ⟨h1, h2⟩ | ⟨h1, h2⟩
  · obtain ⟨i1, v1, m1, _⟩ := I.list (SqL.of h1)
    obtain ⟨i2, v2, m2, _⟩ := I.list (SqL.of h2)
    have n1 := v1.length
    have n2 := v2.length
    have main := SeqAt.RcAt.lists (A := A) (s := s) (e := fun _ => true) m1.isList m2.isList (by simp; omega) hu (fun j x y => y0 v1 v2 go h j x y)
    rw [show ((List.range i1.toArray.size).all fun _ => true) = true from List.all_eq_true.mpr fun _ _ => rfl] at main
    exact main
  · obtain ⟨i1, v1, m1, _⟩ := I.tuple (SqT.of h1)
    obtain ⟨i2, v2, m2, _⟩ := I.tuple (SqT.of h2)
    have n1 := v1.length
    have n2 := v2.length
    have main := SeqAt.RcAt.tuples (A := A) (s := s) (e := fun _ => true) m1 m2 hu (fun j x y => y0 v1 v2 go h j x y)
    have eb : ((List.range (min i1.toArray.size i2.toArray.size)).all (fun _ => true) && i1.toArray.size == i2.toArray.size) = true := by
      rw [show (List.range (min i1.toArray.size i2.toArray.size)).all (fun _ => true) = true from List.all_eq_true.mpr fun _ _ => rfl]
      simp
      omega
    rw [eb] at main
    exact main
theorem jP (I : Inv X pins σ H s) : ∀ (n : Nat) {A : Around} (hu : A.units + n < cLine) {x y : V} {u v : Value}, Sme n H x y -> RelV x u -> RelV y v -> SeqAt.EqAt A s u v true
  | 0, _, _, _, _, _, _, h, _, _ => h.elim
  | n + 1, A, hu, x, y, u, v, h, rx, ry => by
    rcases h with ⟨f, rfl⟩ | ⟨a, b, xs, ys, rfl, rfl, hab, hl, h⟩
    · have k := YL (A := A) (s := s) rx ry f f
      rw [Y2 f] at k
      exact k
    · cases rx
      cases ry
      by_cases c : a = b
      · subst c
        exact .same _
      · exact .of_refs c (XC (by omega) I hl hab (fun {x y u v} => jP I n (A := A.in1) (by show A.units + 1 + n < cLine; omega)) h)
def rSme (n : Nat) (b : Bool) : R2 := fun x y H Q => ∃ p p', x = .ref p /\ y = .ref p' /\ Sme n H x y /\ Q (.bl b) H
theorem JZ {n : Nat} (hn : n <= 32) (hu : X.A.units + 64 < cLine) : OpR X (compareOp .Eq) (rSme n true) := by
  intro pins s σ H x y v u Q I rx ry h
  obtain ⟨p, p', rfl, rfl, h, q⟩ := h
  cases rx
  cases ry
  match n, h with
  | n + 1, h =>
    rcases h with ⟨f, _⟩ | ⟨a, b, xs, ys, e1, e2, hab, hl, h⟩
    · cases f
    · cases e1
      cases e2
      exact XC (A := X.A) (by omega) I hl hab (fun {x y u v} => jP I n (A := X.A.in1) (by show X.A.units + 1 + n < cLine; omega)) h _ _ _ _ ⟨.bl true, H, I, rfl, q⟩
theorem J0 {k n : Nat} (hn : n <= 32) (hr : Room k X.A) : jOp X (compareOp .Eq) (rSme n true) := ⟨JZ hn hr.units⟩
theorem J6 {n : Nat} (hn : n <= 32) (hu : X.A.units + 64 < cLine) : OpR X (compareOp .NotEq) (rSme n false) := by
  intro pins s σ H x y v u Q I rx ry h
  obtain ⟨p, p', rfl, rfl, h, q⟩ := h
  cases rx
  cases ry
  match n, h with
  | n + 1, h =>
    rcases h with ⟨f, _⟩ | ⟨a, b, xs, ys, e1, e2, hab, hl, h⟩
    · cases f
    · cases e1
      cases e2
      have go : ∀ {x y : V} {u v : Value}, Sme n H x y -> RelV x u -> RelV y v -> SeqAt.EqAt X.A.in1 s u v true := fun {x y u v} => jP I n (A := X.A.in1) (by show X.A.units + 1 + n < cLine; omega)
      rcases hab with ⟨h1, h2⟩ | ⟨h1, h2⟩
      · obtain ⟨i1, v1, m1, _⟩ := I.list (SqL.of h1)
        obtain ⟨i2, v2, m2, _⟩ := I.list (SqL.of h2)
        have n1 := v1.length
        have n2 := v2.length
        have main := SeqAt.RcNeAt.lists (A := X.A) (s := s) (e := fun _ => true) m1.isList m2.isList (by simp; omega) (by omega) (fun j x y => y0 v1 v2 go h j x y)
        rw [show ((List.range i1.toArray.size).all fun _ => true) = true from List.all_eq_true.mpr fun _ _ => rfl] at main
        exact main _ _ _ _ ⟨.bl false, H, I, rfl, q⟩
      · obtain ⟨i1, v1, m1, _⟩ := I.tuple (SqT.of h1)
        obtain ⟨i2, v2, m2, _⟩ := I.tuple (SqT.of h2)
        have n1 := v1.length
        have n2 := v2.length
        have main := SeqAt.RcNeAt.tuples (A := X.A) (s := s) (e := fun _ => true) m1 m2 (by omega) (fun j x y => y0 v1 v2 go h j x y)
        have eb : ((List.range (min i1.toArray.size i2.toArray.size)).all (fun _ => true) && i1.toArray.size == i2.toArray.size) = true := by
          rw [show (List.range (min i1.toArray.size i2.toArray.size)).all (fun _ => true) = true from List.all_eq_true.mpr fun _ _ => rfl]
          simp
          omega
        rw [eb] at main
        exact main _ _ _ _ ⟨.bl false, H, I, rfl, q⟩
theorem jQ {k n : Nat} (hn : n <= 32) (hr : Room k X.A) : jOp X (compareOp .NotEq) (rSme n false) := ⟨J6 hn hr.units⟩
end
end L2
namespace PySem.SeqAt
open PySem PySem.Spec PyProof.Rows
end PySem.SeqAt
namespace L2
open PySem PySem.Spec PyProof.Rows
section
variable {X : Cx}
end
end L2
namespace L2
open PySem PySem.Spec PyProof.Rows
section
variable {X : Cx}
end
end L2
namespace L2
open PySem PySem.Spec PyProof.Rows
section
variable {prog : Program} {w : World} {A : Around} {E : Value -> Shared -> Prop}
end
inductive TyN (H : Hp) : V -> Bool -> Prop where
  | int (i : Int) : TyN H (.int i) false
  | str (z : Str) : TyN H (.str z) false
  | bl (b : Bool) : TyN H (.bl b) false
  | non : TyN H .non false
  | lst {a : Addr} {xs : List V} (e : H a = some (.lst xs)) : TyN H (.ref a) true
  | tup {a : Addr} {xs : List V} (e : H a = some (.tup xs)) : TyN H (.ref a) true
section
variable {X : Cx}
variable {CX : CXT} {k : Nat} {C : Addr} {ps : List Str} {sp : Sp} {E : XK} {x m : Str} {p pos apos : Pos} {e o : Expr} {es : List Expr} {ta : TE} {t : TA}
structure MeD (P : Program) (w : World) (K : PySem.W.Frag) (mg : Str -> Option Value) (base : Heap) (CX : CXT) (k : Nat) (C : Addr) (m : Str) (ps : List Str) (dvs : List V) (sp : Sp) : Prop where
  ex : ∃ f fd, FnOk P w K mg base CX k f fd ps sp /\ Binds K fd ps [] /\ (∃ ds, Binds K fd ps ds /\ Vals dvs ds) /\ Meth K C m f
theorem XE {e : Expr} : jE X e (fun _ _ _ => False) := ⟨fun _ _ _ _ _ _ h => h.elim⟩
theorem yC {o i : Expr} {td ty : TE} {pos : Pos} (hr : Room k X.A) (ho : jE X o td) (hi : jE X i ty) (hs : NoSl i := by intro _ _; rfl) : jE X (.Subscript o i pos) (VI td ty) := ⟨WW (VD hr) ho.out hi.out hs⟩
end
section
variable {g : TG} {tt : TT} {te : TE} {Q : VK} {σ : St} {H : Hp}
end
structure FunM (K : PySem.W.Frag) (x qual : Str) (st : Stmt) (D f : Addr) (fd : FuncData) : Prop where
  ex : ∃ (oc : Value) (od : Option Addr) (kV doc pm : Value) (an : Option Addr) (cdv ct : Value) (osl : Array (Option Value)), fd = PySem.W.fnOf x qual (zI st) (zD st) (zm st) (.ref D) kV doc pm an cdv ct /\ K.lookup f = some ⟨oc, od, .func fd, osl⟩ /\ PySem.W.codeIn K cdv qual = true
theorem FunM.by {P : Program} {w : World} {K : PySem.W.Frag} {mg : Str -> Option Value} {base : Heap} {x qual : Str} {st : Stmt} {f D : Addr} {fd : FuncData} {N ps : List Str} {k : Nat} {sp : Sp} (F : FunM K x qual st D f fd) (S : FnScope N ps (zm st)) (len : ∀ vs H Q E, sp vs H Q E -> vs.length = ps.length)
    (hbody : ∀ (cdv : Value) (A : Around) (outer : List Env) (s : Shared) (H : Hp) (vs : List V) (Q : VK) (E : XK), Room k (A.deeper (envOfC qual (zm st) s.heap.objs.size f cdv)) -> sp vs H Q E ->
      ∃ t, jSs (cxOf CX0 P w K mg base N qual (zm st) f cdv A outer s H E).nox (zD st) t /\ t { nx := fun _ H' => Q .non H', rt := Q } (z6 N vs) H) : FnOk P w K mg base CX0 (k + 1) f fd ps sp := by
  obtain ⟨oc, od, kV, doc, pm, an, cdv, ct, osl, rfl, lk, hcd⟩ := F.ex
  refine j7 lk hcd S len fun A outer s H vs Q E hr hsp => ?_
  obtain ⟨t, h, q⟩ := hbody cdv A outer s H vs Q E hr hsp
  exact ⟨t, h.out.nox, q⟩
def MdIn (K : PySem.W.Frag) (C : Addr) (x qual : Str) (st : Stmt) (D : Addr) : Prop := ∃ f, PySem.W.findIn K (.ref C) x = some (some (.ref f)) /\ PySem.W.isFn K (.ref f) = true /\ ∃ (oc : Value) (od : Option Addr) (kV doc pm : Value) (an : Option Addr) (cdv ct : Value) (osl : Array (Option Value)), K.lookup f = some ⟨oc, od, .func (PySem.W.fnOf x qual (zI st) (zD st) (zm st) (.ref D) kV doc pm an cdv ct), osl⟩ /\ PySem.W.codeIn K cdv qual = true /\ PySem.W.keepIn K (.ref f) = true
theorem MdIn.mk {K : PySem.W.Frag} {C : Addr} {x qual : Str} {st : Stmt} {f D : Addr} {oc : Value} {od : Option Addr} {kV doc pm : Value} {an : Option Addr} {cdv ct : Value} {osl : Array (Option Value)} (a : PySem.W.findIn K (.ref C) x = some (some (.ref f))) (l : K.lookup f = some ⟨oc, od, .func (PySem.W.fnOf x qual (zI st) (zD st) (zm st) (.ref D) kV doc pm an cdv ct), osl⟩) (c : PySem.W.codeIn K cdv qual = true) (k : PySem.W.keepIn K (.ref f) = true) (n : PySem.W.isFn K (.ref f) = true) : MdIn K C x qual st D := ⟨f, a, n, oc, od, kV, doc, pm, an, cdv, ct, osl, l, c, k⟩
def DnIn (K : PySem.W.Frag) (D : Addr) : Prop := ∃ (d : Option Addr) (n : Nat) (sl : Array (Option Value)), K.lookup D = some ⟨.type "tuple", d, .seq #[.none] n, sl⟩
theorem DnIn.mk {K : PySem.W.Frag} {D : Addr} {d : Option Addr} {n : Nat} {sl : Array (Option Value)} (a : K.lookup D = some ⟨.type "tuple", d, .seq #[.none] n, sl⟩) : DnIn K D := ⟨d, n, sl, a⟩
theorem MdIn.me {P : Program} {w : World} {K : PySem.W.Frag} {mg : Str -> Option Value} {base : Heap} {k : Nat} {C : Addr} {x qual : Str} {st : Stmt} {D : Addr} {ps : List Str} {dvs : List V} {sp : Sp} (d : MdIn K C x qual st D)
    (hb : ∀ (kV doc pm : Value) (an : Option Addr) (cdv ct : Value), Binds K (PySem.W.fnOf x qual (zI st) (zD st) (zm st) (.ref D) kV doc pm an cdv ct) ps [])
    (hd : ∀ (kV doc pm : Value) (an : Option Addr) (cdv ct : Value), ∃ ds, Binds K (PySem.W.fnOf x qual (zI st) (zD st) (zm st) (.ref D) kV doc pm an cdv ct) ps ds /\ Vals dvs ds)
    (ok : ∀ f fd, FunM K x qual st D f fd -> FnOk P w K mg base CX0 k f fd ps sp) : MeD P w K mg base CX0 k C x ps dvs sp := by
  obtain ⟨f, a, n, oc, od, kV, doc, pm, an, cdv, ct, osl, l, cc, kp⟩ := d
  exact ⟨f, _, ok f _ ⟨oc, od, kV, doc, pm, an, cdv, ct, osl, rfl, l, cc⟩, hb kV doc pm an cdv ct, hd kV doc pm an cdv ct, a, n, kp⟩
end L2
namespace L2
open PySem PySem.Spec PyProof.Rows
section
variable {X : Cx} {k : Nat} {o e f i : Expr} {td ty tx : TE} {apos cpos pos : Pos}
theorem wV (hr : Room k X.A) (hi : jE X i ty) (ho : jE X o td) (h1 : behindInMarks .NotIn o = false := by rfl) : jT X (.Compare i [.NotIn] [o] pos) (tB (Zp ty td)) := ⟨Yu (Z8 (VD hr) hi.out ho.out) (h1 := h1)⟩
end
end L2
namespace L2
open PySem PySem.Spec PyProof.Rows
section
variable {prog : Program} {w : World} {A : Around} {E : Value -> Shared -> Prop} {h : Heap} {g : Array GenState} {d : Drawn} {t : Nat} {os : OsState}
variable {nm q : Str} {C N : Addr} {bs bm bmB : List Value} {hdct : Bool} {sn : List Str} {sub : List Value} {ab : Bool} {col : Option Bool} {dd : Option Addr} {k0 k1 k2 k3 k5 : Option Value} {B Bn newId nid initId inN : String} {bmN : List Value}
abbrev Zv (h : Heap) (C : Addr) : Heap := (((h.push (yg [])).push (yi C h.objs.size)).push (yg [])).update (h.objs.size + 1) (Obj.mapFields (·.setIfInBounds 0 (.ref ((h.push (yg [])).push (yi C h.objs.size)).objs.size)))
theorem vz (Fn : ExcBaseFacts Bn newId inN bmN) (hBn : bmB.contains (.type Bn) = true) (F : ExcBaseFacts B nid initId bmB) (T : OwnTail h bmB bm) {mN : Str -> Option Value} {Q : Fin -> Shared -> Prop}
    (hC : h.get? C = some (excClassObj nm q C N bs bm hdct sn sub ab col dd k0 k1 k2 k3 k5 newId)) (hn : h.Ns N mN) (hi : mN "__init__" = none)
    (hq : Q (.done (.ret (.ref (h.objs.size + 1)))) ⟨Zv h C, g, d, t, os⟩) :
    wpAny (model prog w) A (Builtin.«type.__call__» ⟨[.ref C], []⟩) Q E ⟨h, g, d, t, os⟩ := by
  repeat (first | with_reducible refine wpAny_madeBy_exc hC ?_ | with_reducible refine wpAny_loadPart_at hC ?_ | wp_step)
  refine codeAny_call_builtin_code (Code.quiet_builtin _ Fn.quiet) (wpAny_check_new_subU Fn hBn T hC (codeAny_exc_new_subU Fn hBn F T hC ?_ (Nat.zero_le _)))
  show wpAny _ _ _ _ _ _
  have k : ∀ b o, h.get? b = some o -> ((h.push (yg [])).push (yi C h.objs.size)).get? b = some o := fun b o e => Heap.get?_push_of_some _ (Heap.get?_push_of_some _ e)
  have C1 := k _ _ hC
  have e1 : ((h.push (yg [])).push (yi C h.objs.size)).get? (h.objs.size + 1) = some (yi C h.objs.size) := Heap.get?_push_at (by simp only [Heap.size_push]) rfl
  have cC : (Value.ref C :: bm).contains (.ref C) = true := by simp
  unfold isInstance
  repeat (first | with_reducible refine wpAny_loadPart_at e1 ?_ | (with_reducible refine wpAny_isSubtype_exc C1 ?_; rw [cC]) | wp_step)
  show wpAny _ _ (typeLookup (.ref C) _) _ _ _
  refine wpAny_typeLookup_tail C1 (hn.keeps k) (T.keeps k) F.mroIs F.init.lookup ?_
  rw [hi]
  refine wpAny_holding (wpAny_bind (wpAny_of_eq (F.init.bind _) ?_))
  refine wpAny_bind (Zi F (T.keeps k) C1 e1 rfl rfl rfl (Nat.zero_le _) ?_)
  exact wpAny_pure (wpAny_pure hq)
theorem XF (Fn : ExcBaseFacts Bn newId inN bmN) (hBn : bmB.contains (.type Bn) = true) (F : ExcBaseFacts B nid initId bmB) (T : OwnTail h bmB bm) {mN : Str -> Option Value} {Q : Value -> Shared -> Prop}
    (hC : h.get? C = some (excClassObj nm q C N bs bm hdct sn sub ab col dd k0 k1 k2 k3 k5 newId)) (hn : h.Ns N mN) (hi : mN "__init__" = none)
    (hq : Q (.ref (h.objs.size + 1)) ⟨Zv h C, g, d, t, os⟩) : wpAny (model prog w) A (call (.ref C) []) Q E ⟨h, g, d, t, os⟩ := by
  have f1 := tc_lookup
  have f2 := tc_bind (.ref C)
  have hT : (⟨h, g, d, t, os⟩ : Shared).TypeIs (.ref C) "type" := ⟨_, hC, rfl⟩
  refine wpAny_call (codeAny_of_tree ?_)
  show wpAny _ _ (callAny (.ref C) ⟨[], []⟩) _ _ _
  repeat (any_goals (first | assumption | (with_reducible refine wpAny_loadPart_at hC ?_) | wp_step))
  refine ⟨rfl, codeAny_call_builtin_at (Code.quiet_builtin _ (by decide +kernel)) entry_typeCall (wpAny_check_type_call_sub hC ?_)⟩
  exact vz Fn hBn F T hC hn hi hq
end
theorem Vc {K : PySem.W.Frag} {h : Heap} {N : Addr} {mg : Str -> Option Value} {n : Str} (X : K.In h) (G : h.Ns N mg) (e : PySem.W.nsIn K N n = some none) : mg n = none := by
  obtain ⟨o, es, ep, ho, hd, _, hf⟩ := G
  unfold PySem.W.nsIn at e
  split at e
  · rename_i c d es' n' sl q
    have := X _ _ q
    rw [ho] at this
    cases this
    cases hd
    split at e
    · cases e
    · rename_i he
      rw [<- hf]
      unfold nsFind findBy
      rw [<- Array.find?_toList, he]
      rfl
  · cases e
def xIn0 (K : PySem.W.Frag) (C : Addr) : Bool := match K.lookup C with
  | some ⟨.type "type", _, .cls cd, sl⟩ => (match cd.mro, sl.toList with
    | .ref C' :: bm, [_, _, _, _, some (.builtin n), _] => C' == C && n == "ValueError.__new__" && !cd.hasDel && PySem.W.tailIn K bmV bm && PySem.W.nsOkIn K cd.ns && PySem.W.nsIn K cd.ns "__init__" == some none && bm.contains (.type "BaseException")
    | _, _ => false)
  | _ => false
structure XCl0 (K : PySem.W.Frag) (C : Addr) : Prop where
  cls : xIn0 K C = true
  kp : PySem.W.keepIn K (.ref C) = true
theorem XCl0.at {K : PySem.W.Frag} {C : Addr} (c : XCl0 K C) {h : Heap} (X : K.In h) : ∃ nm q N bs bm hdct sn sub ab col dd k0 k1 k2 k3 k5 mN, h.get? C = some (excClassObj nm q C N bs bm hdct sn sub ab col dd k0 k1 k2 k3 k5 "ValueError.__new__") /\
    OwnTail h bmV bm /\ h.Ns N mN /\ mN "__init__" = none /\ bm.contains (.type "BaseException") = true := by
  have q := c.cls
  unfold xIn0 at q
  split at q
  · rename_i dd cd sl ho
    split at q
    · rename_i C' bm k0 k1 k2 k3 n k5 hm hs
      simp only [Bool.and_eq_true, beq_iff_eq, Bool.not_eq_true'] at q
      obtain ⟨⟨⟨⟨⟨⟨rfl, rfl⟩, hdel⟩, ht⟩, hok⟩, hi⟩, hb⟩ := q
      obtain ⟨nm, bs, mro, ns, qn, hd, sn, sub, ab, col, del⟩ := cd
      dsimp only at hm hdel hok hi
      subst hm hdel
      have es : sl = #[k0, k1, k2, k3, some (.builtin "ValueError.__new__"), k5] := by
        obtain ⟨l⟩ := sl
        simp only at hs
        rw [hs]
      subst es
      have nN := PySem.Heap.Ns.of_isNs (PySem.W.isNs_of_in X hok)
      exact ⟨nm, qn, ns, bs, bm, hd, sn, sub, ab, col, dd, k0, k1, k2, k3, k5, _, X _ _ ho, PySem.W.tail_of_in X ht, nN, Vc X nN hi, hb⟩
    · cases q
  · cases q
def Zw (C : Addr) (E : XK) : TS := fun _ _ H => E (.ref C) none H
section
variable {X : Cx} {k : Nat} {C : Addr} {E : XK} {x : Str} {np cpos pos : Pos}
theorem Yi (M : XCl0 X.K C) (hr : Room k X.A) (hg : Gl X x) (hm : X.mg x = some (.ref C)) (hx : wd X E) (hdb : (x == ("__debug__" : Str)) = false := by decide) :
    PS X (.Raise (some (.Call (.Name x np) [] [] cpos)) none pos) (Zw C E) := by
  intro pins s σ H D I h
  obtain ⟨nm, q, N, bs, bm, hdct, sn, sub, ab, col, dd, k0, k1, k2, k3, k5, mN, hC0, T0, n0, i0, hB⟩ := M.at I.mod.kin
  rw [arm_exec_Raise]
  simp only [evalOpt, Option.map]
  refine wpAny_bind (wpAny_standAt (Zh (C := C) (nm := nm) (q := q) (N := N) (bs := bs) (hdct := hdct) (sn := sn) (sub := sub) (ab := ab) (col := col) (dd := dd) (k0 := k0) (k1 := k1) (k2 := k2) (k3 := k3) (k5 := k5) (newId := "ValueError.__new__") hB hr.hd (wpAny_bind ?_)))
  refine wpAny_Call_Name_kw (yy I hg hm ?_ hdb)
  refine PySem.W.callWith_K0 I.kIn M.kp ?_
  obtain ⟨hh, g, d, tk, os⟩ := s
  have kb : ∀ b o, X.base.get? b = some o -> hh.get? b = some o := I.bk
  refine XF PySem.F.excBase_ValueError (by decide +kernel) PySem.F.excBase_ValueError (T0.keeps kb) (kb _ _ hC0) (n0.keeps kb) i0 ?_
  have e1 : (((hh.push (yg [])).push (yi C hh.objs.size)).push (yg [])).get? (hh.objs.size + 1) = some (yi C hh.objs.size) := Heap.get?_push_of_some _ (Heap.get?_push_at (by simp only [Heap.size_push]) rfl)
  have ge := Heap.get?_update_self (Obj.mapFields (·.setIfInBounds 0 (.ref ((hh.push (yg [])).push (yi C hh.objs.size)).objs.size))) e1 rfl
  have kk : ∀ b o, hh.get? b = some o -> (Zv hh C).get? b = some o := fun b o e => by
    rw [Heap.get?_update_other _ _ (Nat.ne_of_gt (Nat.lt_succ_of_lt (Heap.lt_size e)))]
    exact Heap.get?_push_of_some _ (Heap.get?_push_of_some _ (Heap.get?_push_of_some _ e))
  have I2 : Inv X pins σ H ⟨Zv hh C, g, d, tk, os⟩ := I.un (Un.kept kk) (I.hok.kept kk)
  have he : hh.objs.size <= hh.objs.size + 1 := Nat.le_succ _
  refine wpAny_bind (wpAny_standAt (wpAny_pure ⟨_, _, _, rfl, I2.bk _ _ hC0, ge, rfl, rfl, rfl, hx pins σ _ _ ⟨_, .ref C, none, H, hh.objs.size, rfl, I2, I.hok.fresh he, I.sz, he, fun p hp => Heap.lt_size (I.pin p hp).1, .inl ⟨_, _, ge, rfl, rfl, rfl, rfl, rfl⟩, h⟩⟩))
theorem y1 (M : XCl0 X.K C) (hr : Room k X.A) (hg : Gl X x) (hm : X.mg x = some (.ref C)) (hx : wd X E) (hdb : (x == ("__debug__" : Str)) = false := by decide) :
    jS X (.Raise (some (.Call (.Name x np) [] [] cpos)) none pos) (Zw C E) := ⟨Yi M hr hg hm hx hdb⟩
end
end L2
namespace L2
open PySem
section
variable {X : Cx} {T id : String} {name : Str} {rm : V -> List V -> Hp -> VK -> Prop} {o e : Expr} {es : List Expr} {to : TE} {t : TA} {apos cpos : Pos}
theorem Vd (K : PySem.W.Frag) (pa : PlainAttrs T) (slot : Slot T name id) (hty : typeOf (.builtin id) = pure (.type "method_descriptor")) (hm : jMt X id rm) (ho : jE X o to) (h : X.K = K := by rfl)
    (hbase : attributeBase o name X.env (eval o X.env) = eval o X.env := by rfl) (hline : (apos.endLine == cpos.line) = true := by rfl) : jE X (.Call (.Attribute o name apos) [] [] cpos) (tBM0 K T rm to) := h ▸ YU pa slot hty hm ho hbase hline
end
end L2
namespace GN
open PySem L2 K11
abbrev Kvs := List (Key × V)
def szOf (kvs : Kvs) (t : Str) : Option Nat := match valV kvs (.inr t) with
  | some (.int n) => some n.toNat
  | _ => none
def dl (kvs : Kvs) : V -> Option Nat
  | .int i => if -1000000000000000000000000000000 < i /\ i < 1000000000000000000000000000000 then some 0 else none
  | .str t => szOf kvs t
  | _ => none
def hgt (kvs : Kvs) : List V -> Option Nat
  | [] => some 0
  | x :: xs => match hgt kvs xs, dl kvs x with
    | some n, some s => if s <= n then some (n - s + 1) else none
    | _, _ => none
structure Rm (kvs : Kvs) : Prop where
  e : ∀ kv ∈ kvs, ∃ (t : Str) (n : Nat), kv = (.inr t, .int (n : Int)) /\ n <= 9
  l : kvs.length <= 9
inductive Pz (kvs : Kvs) (H : Hp) : List V -> List V -> Prop
  | nil : Pz kvs H [] []
  | num {i : Int} {vs xs : List V} : Sm i -> Pz kvs H vs xs -> Pz kvs H (.int i :: vs) (.int i :: xs)
  | shp {p q : Addr} {t : Str} {us vs xs ys : List V} : H p = some (.tup [.str t, .ref q]) -> H q = some (.tup us) -> szOf kvs t = some us.length -> us.length <= 9 -> Pz kvs H us xs -> Pz kvs H vs ys -> Pz kvs H (.ref p :: vs) (.str t :: (xs ++ ys))
section
variable {kvs : Kvs} {H H' : Hp} {us vs xs ys : List V}
theorem Pz.keep (t : Tups H H') (h : Pz kvs H vs xs) : Pz kvs H' vs xs := by
  induction h with
  | nil => exact .nil
  | num a _ ih => exact .num a ih
  | shp a b c d _ _ ih1 ih2 => exact .shp (t _ _ a) (t _ _ b) c d ih1 ih2
theorem Pz.pt (h : Pz kvs H vs xs) : PtL H vs xs := by
  induction h with
  | nil => exact .nil
  | num _ _ ih => exact .num ih
  | shp a b _ d _ _ ih1 ih2 => exact .shp a b d ih1 ih2
theorem Pz.app (h : Pz kvs H us xs) (g : Pz kvs H vs ys) : Pz kvs H (us ++ vs) (xs ++ ys) := by
  induction h with
  | nil => exact g
  | num a _ ih => exact .num a ih
  | shp a b c d e _ _ ih2 =>
    rw [List.cons_append, List.cons_append, List.append_assoc]
    exact .shp a b c d e ih2
theorem Pz.split : ∀ {us vs zs : List V}, Pz kvs H (us ++ vs) zs -> ∃ xs ys, zs = xs ++ ys /\ Pz kvs H us xs /\ Pz kvs H vs ys
  | [], vs, zs, h => ⟨[], zs, rfl, .nil, h⟩
  | u :: us, vs, zs, h => by
    rw [List.cons_append] at h
    cases h with
    | num a h =>
      obtain ⟨xs, ys, e, h1, h2⟩ := Pz.split h
      exact ⟨_ :: xs, ys, by rw [e]; rfl, .num a h1, h2⟩
    | shp a b c d e h =>
      obtain ⟨xs, ys, e', h1, h2⟩ := Pz.split h
      exact ⟨_ :: (_ ++ xs), ys, by rw [e', List.cons_append, List.append_assoc], .shp a b c d e h1, h2⟩
end
end GN
namespace GN
open PySem L2 K11
def But (v : Addr) (H H' : Hp) : Prop := ∀ b o, b ≠ v -> H b = some o -> H' b = some o
theorem But.refl {v : Addr} {H : Hp} : But v H H := fun _ _ _ h => h
theorem But.of {v : Addr} {H H' : Hp} (s : Same H H') : But v H H' := fun b o _ h => s b o h
theorem But.trans {v : Addr} {H H1 H2 : Hp} (a : But v H H1) (b : But v H1 H2) : But v H H2 := fun c o n h => b c o n (a c o n h)
theorem But.put {v : Addr} {H : Hp} {o : HO} : But v H (upd H v o) := fun b o' n h => by rw [zn n]; exact h
theorem But.tups {v : Addr} {H H' : Hp} {xs : List V} (h : But v H H') (g : H v = some (.lst xs)) : Tups H H' := fun p ys q => h p _ (zM q g (by intro z; cases z)) q
theorem But.fresh {v : Addr} {H H1 H2 : Hp} (s : Same H H1) (n : H v = none) (h : But v H1 H2) : Same H H2 := fun b o q => h b o (zo q n) (s b o q)
def KnR (H : Hp) (q : Addr) (l : List (Str × Nat)) : Prop := ∃ ts : List Addr, H q = some (.tup (ts.map V.ref)) /\ ts.length = l.length /\ ∀ (i : Nat) t a, ts[i]? = some t -> l[i]? = some a -> H t = some (.tup [.str a.1, .int (a.2 : Int)])
def Kn (H : Hp) (p : Addr) (ks : List (List (Str × Nat))) : Prop := ∃ qs : List Addr, H p = some (.tup (qs.map V.ref)) /\ qs.length = ks.length /\ ∀ (i : Nat) q l, qs[i]? = some q -> ks[i]? = some l -> KnR H q l
theorem KnR.keep {H H' : Hp} {q : Addr} {l : List (Str × Nat)} (t : Tups H H') (h : KnR H q l) : KnR H' q l := let ⟨ts, a, b, c⟩ := h; ⟨ts, t _ _ a, b, fun i x y h1 h2 => t _ _ (c i x y h1 h2)⟩
theorem Kn.keep {H H' : Hp} {p : Addr} {ks : List (List (Str × Nat))} (t : Tups H H') (h : Kn H p ks) : Kn H' p ks := let ⟨qs, a, b, c⟩ := h; ⟨qs, t _ _ a, b, fun i x y h1 h2 => (c i x y h1 h2).keep t⟩
structure KsOk (ks : List (List (Str × Nat))) : Prop where
  n : ks.flatten.length <= 9
  s : ∀ a ∈ ks.flatten, a.2 <= 9
def puts (l : List (Str × Nat)) (kvs : Kvs) : Kvs := l.foldl (fun kvs a => putK kvs (.inr a.1) (.int (a.2 : Int))) kvs
theorem XG (a b : List (Str × Nat)) (kvs : Kvs) : puts (a ++ b) kvs = puts b (puts a kvs) := List.foldl_append
structure Rm' (kvs : Kvs) (n : Nat) : Prop where
  e : ∀ kv ∈ kvs, ∃ (t : Str) (n : Nat), kv = (.inr t, .int (n : Int)) /\ n <= 9
  l : kvs.length <= n
theorem J7 {kvs : Kvs} {n : Nat} {a : Str × Nat} (h : Rm' kvs n) (ha : a.2 <= 9) : Rm' (putK kvs (.inr a.1) (.int (a.2 : Int))) (n + 1) := by
  unfold putK
  split
  · refine ⟨fun kv hkv => ?_, by rw [List.length_map]; have := h.l; omega⟩
    obtain ⟨x, hx, e⟩ := List.mem_map.mp hkv
    obtain ⟨t, m, ex, hm⟩ := h.e x hx
    split at e
    · rename_i c
      rw [<- e, c]
      exact ⟨_, _, rfl, ha⟩
    · rw [<- e]
      exact ⟨t, m, ex, hm⟩
  · refine ⟨fun kv hkv => ?_, by rw [List.length_append]; have := h.l; show _ + 1 <= _; omega⟩
    rcases List.mem_append.mp hkv with z | z
    · exact h.e kv z
    · rw [List.mem_singleton.mp z]
      exact ⟨_, _, rfl, ha⟩
theorem Zx : ∀ {l : List (Str × Nat)} {kvs : Kvs} {n : Nat}, Rm' kvs n -> (∀ a ∈ l, a.2 <= 9) -> Rm' (puts l kvs) (n + l.length)
  | [], _, _, h, _ => h
  | a :: l, kvs, n, h, hs => by
    have := Zx (l := l) (J7 h (hs a List.mem_cons_self)) fun x hx => hs x (List.mem_cons_of_mem _ hx)
    rw [List.length_cons, show n + (l.length + 1) = n + 1 + l.length by omega]
    exact this
theorem KsOk.rm {ks : List (List (Str × Nat))} (h : KsOk ks) : Rm (puts ks.flatten []) := by
  have r := Zx (l := ks.flatten) (kvs := []) (n := 0) ⟨(fun kv hk => by cases hk), Nat.le_refl _⟩ h.s
  exact ⟨r.e, by have := r.l; have := h.n; omega⟩
theorem xD {α : Type} {l : List α} {i : Nat} {x : α} (h : l[i]? = some x) : l.take i ++ [x] = l.take (i + 1) := by
  rw [List.take_add_one, h]
  rfl
theorem Zy {ks : List (List (Str × Nat))} {i : Nat} {k : List (Str × Nat)} (h : ks[i]? = some k) : (ks.take (i + 1)).flatten = (ks.take i).flatten ++ k := by
  rw [<- xD h, List.flatten_append]
  simp
theorem J8 {ks : List (List (Str × Nat))} {i : Nat} {k : List (Str × Nat)} (h : ks[i]? = some k) : (ks.take i).flatten.length + k.length <= ks.flatten.length := by
  have e : ks.flatten = (ks.take (i + 1)).flatten ++ (ks.drop (i + 1)).flatten := by rw [<- List.flatten_append, List.take_append_drop]
  rw [e, List.length_append, Zy h, List.length_append]
  omega
theorem vW : ∀ {l : List (Str × Nat)} {kvs : Kvs}, (puts l kvs).length <= kvs.length + l.length
  | [], _ => Nat.le_refl _
  | a :: l, kvs => by
    have := vW (l := l) (kvs := putK kvs (.inr a.1) (.int (a.2 : Int)))
    have h2 : (putK kvs (.inr a.1) (.int (a.2 : Int))).length <= kvs.length + 1 := by
      unfold putK
      split
      · rw [List.length_map]; omega
      · rw [List.length_append]; exact Nat.le_refl _
    show (puts l (putK kvs (.inr a.1) (.int (a.2 : Int)))).length <= _
    rw [List.length_cons]
    omega
theorem Rm.sz {kvs : Kvs} (h : Rm kvs) {t : Str} : (valV kvs (.inr t) = none /\ szOf kvs t = none) \/ ∃ n : Nat, valV kvs (.inr t) = some (.int (n : Int)) /\ szOf kvs t = some n /\ n <= 9 := by
  unfold szOf
  cases e : valV kvs (.inr t) with
  | none => exact .inl ⟨rfl, rfl⟩
  | some v =>
    unfold valV at e
    obtain ⟨kv, hk, ev⟩ := Option.map_eq_some_iff.mp e
    obtain ⟨t', n, e1, e2⟩ := h.e kv (List.mem_of_find?_eq_some hk)
    rw [e1] at ev
    subst ev
    exact .inr ⟨n, rfl, rfl, e2⟩
theorem vX {kvs : Kvs} : ∀ {a b : List V}, hgt kvs b = none -> hgt kvs (a ++ b) = none
  | [], _, h => h
  | x :: a, b, h => by
    have ih := vX (a := a) h
    show (match hgt kvs (a ++ b), dl kvs x with | some n, some s => if s <= n then some (n - s + 1) else none | _, _ => none) = none
    rw [ih]
def Zz : Sp := fun vs H Q _ => ∃ (p : Addr) (ks : List (List (Str × Nat))), vs = [.ref p] /\ Kn H p ks /\ KsOk ks /\ ∀ (H' : Hp) (d : Addr), Same H H' -> H d = none -> H' d = some (.dK (puts ks.flatten [])) -> Q (.ref d) H'
def ZA (C : Addr) : Sp := fun vs H Q E => ∃ (t : Str) (d vl : Addr) (kvs : Kvs) (vals : List V), vs = [.str t, .ref d, .ref vl] /\ H d = some (.dK kvs) /\ Rm kvs /\ H vl = some (.lst vals) /\ vals.length <= 300 /\
  (((szOf kvs t = none \/ ∃ s, szOf kvs t = some s /\ vals.length < s) /\ E (.ref C) none H) \/
   ∃ (s : Nat) (us rest : List V), szOf kvs t = some s /\ vals = rest.reverse ++ us.reverse /\ us.length = s /\ ∀ H' p q, But vl H H' -> H' vl = some (.lst rest.reverse) -> H' p = some (.tup [.str t, .ref q]) -> H' q = some (.tup us) -> Q (.ref p) H')
def NotL (H : Hp) (v : V) : Prop := v = .non \/ (∃ i, v = .int i) \/ (∃ z, v = .str z) \/ (∃ p xs, v = .ref p /\ H p = some (.tup xs) /\ ∀ x ∈ xs, At x) \/ ∃ p, v = .ref p /\ H p = some (.dK [])
def ZB (C : Addr) : Sp := fun vs H Q E => ∃ (pk : Addr) (v : V) (ks : List (List (Str × Nat))), vs = [.ref pk, v] /\ Kn H pk ks /\ KsOk ks /\
  ((NotL H v /\ E (.ref C) none H) \/ ∃ l xs, v = .ref l /\ H l = some (.lst xs) /\ xs.length <= 300 /\ (∀ x ∈ xs, ∃ b, Th H b x) /\ (hgt (puts ks.flatten []) xs ≠ some 1 -> ∀ H', Same H H' -> E (.ref C) none H') /\ (hgt (puts ks.flatten []) xs = some 1 -> ∀ H' v, Same H H' -> Pz (puts ks.flatten []) H' [v] xs -> Q v H'))
section
variable {P : Program} {w : World} {K : PySem.W.Frag} {mg : Str -> Option Value} {base : Heap} {f C : Addr} {fd : FuncData}
theorem scSizes : FnScope ["kinds", "found", "kind", "tag", "size"] ["kinds"] (zm jx) := ⟨rfl, rfl, rfl, by decide +kernel, rfl, by decide +kernel, by decide +kernel⟩
theorem XH (F : Fun K "sizes" "sizes" jx f fd) : FnOk P w K mg base CX0 1 f fd ["kinds"] Zz := by
  refine F.by scSizes (fun vs H Q E h => ?_) (fun cdv A outer s H vs Q E hr h => ?_)
  · obtain ⟨p, ks, rfl, _⟩ := h
    rfl
  obtain ⟨p, ks, rfl, ⟨qs, hp, hlen, hK⟩, hF, q⟩ := h
  refine ⟨_,
    (zi (zt (i := 1) scSizes.nd rfl (Or.inl rfl) wg)
    (zi (y8 PassesOwn.never rfl (x0 (jv 0)) (zQ (i := 2) scSizes.nd rfl (Or.inl rfl))
      (zk (y8 PassesOwn.never rfl (x0 (jv 2)) (Jz rfl (vK (zQ (i := 3) scSizes.nd rfl (Or.inl rfl)) (vK (zQ (i := 4) scSizes.nd rfl (Or.inl rfl)) WJ)))
        (zk (vm hr (jv 1) (jv 3) (jv 4))))))
    (zk (zw (jv 1))))), ?_⟩
  have sl := zX
  intro d hd
  have s1 := same_new (o := .dK []) hd
  refine ⟨_, rfl, _, rfl, ⟨_, SqT.of (s1 _ _ hp)⟩, wY (xs := qs.map V.ref) (fun i σ H' => Same H H' /\ H' d = some (.dK (puts (ks.take i).flatten [])) /\ ∃ x y z, σ = [some (.ref p), some (.ref d), x, y, z]) ⟨s1, zg, none, none, none, rfl⟩ (fun i σ H' _ h => SqT.of (h.1 _ _ hp)) ?_ ?_⟩
  · rintro i v σ H1 hv ⟨s1, hd1, x, y, z, rfl⟩
    rw [List.getElem?_map] at hv
    obtain ⟨qq, hq, rfl⟩ := Option.map_eq_some_iff.mp hv
    have hi : i < qs.length := (List.getElem?_eq_some_iff.mp hq).1
    have hk : ks[i]? = some (ks[i]'(by omega)) := List.getElem?_eq_getElem _
    obtain ⟨k, ek⟩ : ∃ k, k = ks[i]'(by omega) := ⟨_, rfl⟩
    rw [<- ek] at hk
    obtain ⟨ts, hts, htl, hT⟩ := hK i qq k hq hk
    have hl := J8 hk
    have hkl := hF.n
    refine ⟨_, rfl, _, rfl, ⟨_, SqT.of (s1 _ _ hts)⟩, wY (xs := ts.map V.ref) (fun j σ H' => Same H H' /\ H' d = some (.dK (puts ((ks.take i).flatten ++ k.take j) [])) /\ ∃ y z, σ = [some (.ref p), some (.ref d), some (.ref qq), y, z]) ⟨s1, by rw [List.take_zero, List.append_nil]; exact hd1, _, _, rfl⟩ (fun i σ H' _ h => SqT.of (h.1 _ _ hts)) ?_ ?_⟩
    · rintro j v σ H2 hv ⟨s2, hd2, y, z, rfl⟩
      rw [List.getElem?_map] at hv
      obtain ⟨tt, ht, rfl⟩ := Option.map_eq_some_iff.mp hv
      have hj : j < ts.length := (List.getElem?_eq_some_iff.mp ht).1
      have ha : k[j]? = some (k[j]'(by omega)) := List.getElem?_eq_getElem _
      obtain ⟨a, ea⟩ : ∃ a, a = k[j]'(by omega) := ⟨_, rfl⟩
      rw [<- ea] at ha
      have e2 := hT j tt a ht ha
      refine ⟨_, _, rfl, SqT.of (s2 _ _ e2), rfl, _, _, rfl, _, _, rfl, rfl, _, rfl, _, rfl, _, rfl, d, _, rfl, DPut.k (k := .inr a.1) hd2 ?_, s2.put hd, ?_, _, _, rfl⟩
      · have := vW (l := (ks.take i).flatten ++ k.take j) (kvs := [])
        rw [List.length_append, List.length_take] at this
        simp only [List.length_nil] at this
        omega
      · rw [zg, <- xD ha, <- List.append_assoc, XG _ [a]]
        rfl
    · rintro σ H2 ⟨s2, hd2, y, z, rfl⟩
      rw [List.length_map, htl, List.take_of_length_le (Nat.le_refl _), <- Zy hk] at hd2
      exact ⟨s2, hd2, _, _, _, rfl⟩
  · rintro σ H1 ⟨s1, hd1, x, y, z, rfl⟩
    rw [List.length_map, hlen, List.take_of_length_le (Nat.le_refl _)] at hd1
    exact ⟨_, rfl, q _ d s1 hd hd1⟩
theorem scShape : FnScope ["tag", "known_sizes", "values", "parts"] ["tag", "known_sizes", "values"] (zm jz) := ⟨rfl, rfl, rfl, by decide +kernel, rfl, by decide +kernel, by decide +kernel⟩
theorem Ve : (["tag", "known_sizes", "values", "parts", "place"] : List Str).Nodup := by decide +kernel
theorem XI (F : Fun K "shape" "shape" jz f fd) (mC : mg "NoValue" = some (.ref C)) (xC : XCl0 K C) (m_len : mg "len" = none) (m_range : mg "range" = none) (m_tuple : mg "tuple" = none) : FnOk P w K mg base (CXf P w) 1 f fd ["tag", "known_sizes", "values"] (ZA C) := by
  refine F.byx scShape (fun vs H Q E h => ?_) (fun cdv A outer s H vs Q E hr h => ?_)
  · obtain ⟨t, d, vl, kvs, vals, rfl, _⟩ := h
    rfl
  obtain ⟨t, d, vl, kvs, vals, rfl, hd, hRm, hvl, hle, hq⟩ := h
  refine ⟨_,
    (zi (zK (jW.pt (YT (wV hr (jv 0) (jv 1)) (jl (zr Zg (yC hr (jv 1) (jv 0) (fun _ _ => rfl)) (zE zF rfl m_len PySem.boot_len (ja_c (jv 2) zh)) (zv _)))))
      (zk (y1 xC hr rfl mC yK))  zB)
    (zi (vg ["place"] (i := 3) scShape.nd rfl (Or.inl rfl) rfl (yE rfl m_range (ja_c (yC hr (jv 1) (jv 0) (fun _ _ => rfl)) zh)) (fun _ _ _ _ _ => (zQ (i := 4) Ve rfl (Or.inl rfl))) (fun _ _ _ _ _ => yA) (fun _ _ _ _ _ => (Vd K PySem.F.plainAttrs_list PySem.F.slot_list_pop PySem.F.type_list_pop YX (jv 2))))
    (zk (zw (zN (ja_c (jv 0) (ja_c (yI yB rfl m_tuple PyProof.Rows.boot_tuple (ja_c (jv 3) zh)) zh))))))), ?_⟩
  have sl := zX
  have dg : DGet H d (.str t) (valV kvs (.inr t)) := DGet.k (k := .inr t) hd
  refine ⟨_, rfl, _, rfl, d, _, rfl, dg, _, rfl, ?_⟩
  rcases hq with ⟨hb, q⟩ | ⟨n, us, rest, hn, ev, hu, q⟩
  · rcases hRm.sz (t := t) with ⟨e1, e2⟩ | ⟨n, e1, e2, _⟩
    · rw [e1]
      exact iteT q
    · rw [e1]
      refine iteF ⟨_, rfl, _, rfl, d, _, rfl, by rw [<- e1]; exact dg, _, rfl, vl, _, rfl, .inl (SqL.of hvl), _, _, rfl, rfl, _, rfl, ite2 (fun _ => q) (fun c => ?_)⟩
      exfalso
      apply c
      rw [decide_eq_true_eq]
      rcases hb with z | ⟨s, z, z2⟩
      · rw [e2] at z; cases z
      · rw [e2] at z
        injection z with z
        omega
  · rcases hRm.sz (t := t) with ⟨e1, e2⟩ | ⟨n', e1, e2, n9⟩
    · rw [e2] at hn; cases hn
    rw [e2] at hn
    injection hn with hn
    subst hn
    rw [e1]
    refine iteF ⟨_, rfl, _, rfl, d, _, rfl, by rw [<- e1]; exact dg, _, rfl, vl, _, rfl, .inl (SqL.of hvl), _, _, rfl, rfl, _, rfl, ite2 (fun c => ?_) (fun _ => ?_)⟩
    · exfalso
      rw [decide_eq_true_eq, ev, List.length_append, List.length_reverse, List.length_reverse] at c
      omega
    refine ⟨_, rfl, _, rfl, d, _, rfl, by rw [<- e1]; exact dg, _, rfl, by omega, by omega, xU (lo := 0) (n := (n' : Int).toNat) (fun j τ ys H' => But vl H H' /\ H' vl = some (.lst (rest.reverse ++ (us.drop j).reverse)) /\ (∃ x, τ = [some (.str t), some (.ref d), some (.ref vl), none, x]) /\ ys = us.take j) ⟨.refl, by rw [List.drop_zero, <- ev]; exact hvl, ⟨none, rfl⟩, rfl⟩ ?_ ?_⟩
    · rintro j τ ys H1 hj ⟨b1, h1, ⟨x, rfl⟩, rfl⟩
      have hj' : j < us.length := by omega
      have ed := List.drop_eq_getElem_cons hj'
      rw [ed, List.reverse_cons, <- List.append_assoc] at h1
      refine ⟨_, rfl, .inl ⟨rfl, _, SqL.of h1⟩, vl, _, us[j], rfl, rfl, h1, by simp, ?_⟩
      rw [List.dropLast_concat]
      refine ⟨by rw [List.length_take]; omega, b1.trans .put, zg, ⟨_, rfl⟩, ?_⟩
      exact xD (List.getElem?_eq_getElem hj')
    · rintro τ ys H1 ⟨b1, h1, _, rfl⟩ lp hlp
      rw [show (n' : Int).toNat = us.length by omega, List.drop_length, List.reverse_nil, List.append_nil] at h1
      rw [show (n' : Int).toNat = us.length by omega, List.take_length]
      have s2 := same_new (o := .lst us) hlp
      refine ⟨_, rfl, _, rfl, lp, us, rfl, .inl ⟨SqL.of zg, fun q1 hq1 => ⟨by show 2 <= sizeLine; omega, fun p hp => ?_⟩⟩⟩
      have s3 := same_new (o := .tup us) hq1
      have s4 := same_new (o := .tup [.str t, .ref q1]) hp
      exact q _ p q1 (b1.trans (.of ((s2.trans s3).trans s4))) (s4 _ _ (s3 _ _ (s2 _ _ h1))) zg (s4 _ _ zg)
theorem scGrown : FnScope ["kinds", "parts", "known_sizes", "values", "thing"] ["kinds", "parts"] (zm jy) := ⟨rfl, rfl, rfl, by decide +kernel, rfl, by decide +kernel, by decide +kernel⟩
theorem XJ (F : Fun K "grown" "grown" jy f fd) (mC : mg "NoValue" = some (.ref C)) (xC : XCl0 K C) (m_len : mg "len" = none) (m_isinstance : mg "isinstance" = none) (m_list : mg "list" = none) (m_str : mg "str" = none) (m_reversed : mg "reversed" = none) (GS : Ca P w K mg base CX0 1 "sizes" ["kinds"] Zz) (GH : Ca P w K mg base (CXf P w) 1 "shape" ["tag", "known_sizes", "values"] (ZA C)) (GW : Ca P w K mg base CX0 1 "is_whole" ["thing"] vV) (GI : Ca P w K mg base CX0 1 "in_bounds" ["number"] spIn) : FnOk P w K mg base (CXf P w) 2 f fd ["kinds", "parts"] (ZB C) := by
  refine F.byx scGrown (fun vs H Q E h => ?_) (fun cdv A outer s H vs Q E hr h => ?_)
  · obtain ⟨pk, v, ks, rfl, _⟩ := h
    rfl
  obtain ⟨pk, v, ks, rfl, hK, hok, hq⟩ := h
  refine ⟨_,
    (zi (zK (xX (yn (zE yd rfl m_isinstance PyProof.Rows.boot_isinstance (ja_c (jv 1) (ja_c (yr (v := .ty "list") rfl m_list PyProof.Rows.boot_list rfl) zh)))))
      (zk (y1 xC hr rfl mC yK))  zB)
    (zi (zt (i := 2) scGrown.nd rfl (Or.inl rfl) (zC GS.upx hr rfl yk (ja_c (jv 0) zh)))
    (zi (zt (i := 3) scGrown.nd rfl (Or.inl rfl) (zA zh))
    (zi (y8 ownx rfl (JF rfl m_reversed (ja_c (jv 1) zh)) (zQ (i := 4) scGrown.nd rfl (Or.inl rfl))
      (zk (zK (yn (zE yd rfl m_isinstance PyProof.Rows.boot_isinstance (ja_c (jv 4) (ja_c (yr (v := .ty "str") rfl m_str PyProof.Rows.boot_str rfl) zh))))
        (zk (zT (y3 PySem.F.plainAttrs_list PySem.F.slot_list_append PySem.F.type_list_append yu (jv 3) (ja_c (zC GH hr rfl yk (ja_c (jv 4) (ja_c (jv 2) (ja_c (jv 3) zh)))) zh))))
        (zk (zK (jW.pt (yP (yn (zC GW.upx hr rfl yk (ja_c (jv 4) zh))) (yz (yn (zC GI.upx hr rfl yk (ja_c (jv 4) zh))))))
          (zk (zT (y3 PySem.F.plainAttrs_list PySem.F.slot_list_append PySem.F.type_list_append yu (jv 3) (ja_c (jv 4) zh))))
          (zk (y1 xC hr rfl mC yK)))))))
    (zi (zK (zr YV (zE zF rfl m_len PySem.boot_len (ja_c (jv 3) zh)) zj (zv _))
      (zk (y1 xC hr rfl mC yK))  zB)
    (zk (zw (zq zG (jv 3) zj (fun _ _ => rfl))))))))), ?_⟩
  have sl := zX
  rcases hq with ⟨hn, q⟩ | ⟨l, xs, rfl, hl, h300, hth, qE, qQ⟩
  · rcases hn with rfl | ⟨i, rfl⟩ | ⟨z, rfl⟩ | ⟨p, ys, rfl, hp, _⟩ | ⟨p, rfl, hp⟩
    · exact ⟨_, rfl, _, _, _, _, rfl, .non, rfl, _, rfl, iteT q⟩
    · exact ⟨_, rfl, _, _, _, _, rfl, .int _, rfl, _, rfl, iteT q⟩
    · exact ⟨_, rfl, _, _, _, _, rfl, .str _, rfl, _, rfl, iteT q⟩
    · exact ⟨_, rfl, _, _, _, _, rfl, .tup hp, rfl, _, rfl, iteT q⟩
    · exact ⟨_, rfl, _, _, _, _, rfl, .dK hp, rfl, _, rfl, iteT q⟩
  obtain ⟨kvs, ek⟩ : ∃ kvs, kvs = puts ks.flatten [] := ⟨_, rfl⟩
  have hRm : Rm kvs := by rw [ek]; exact hok.rm
  rw [<- ek] at qE qQ
  refine ⟨_, rfl, _, _, _, _, rfl, .lst hl, rfl, _, rfl, iteF ?_⟩
  refine ⟨_, rfl, pk, ks, rfl, hK, hok, fun H1 d s1 nd hd1 => ?_⟩
  rw [<- ek] at hd1
  refine ⟨by show 0 <= sizeLine; omega, fun vl hvl => ?_⟩
  have s2 := same_new (o := .lst []) hvl
  have s02 := s1.trans s2
  have nvl : H vl = none := s1.free hvl
  have nlv : l ≠ vl := zo hl nvl
  have ndv : d ≠ vl := zo hd1 hvl
  refine ⟨_, rfl, l, _, rfl, SqL.of (s02 _ _ hl), WP (xs := xs) (fun i σ H' => ∃ (vals : List V) (vt : Option V), σ = [some (.ref pk), some (.ref l), some (.ref d), some (.ref vl), vt] /\ But vl H1 H' /\ Same H H' /\ H' vl = some (.lst vals) /\ hgt kvs (xs.drop (xs.length - i)) = some vals.length /\ vals.length <= i /\ Pz kvs H' vals.reverse (xs.drop (xs.length - i))) ⟨[], none, rfl, .of s2, s02, zg, by rw [Nat.sub_zero, List.drop_length]; rfl, Nat.le_refl _, by rw [Nat.sub_zero, List.drop_length]; exact .nil⟩ ?_ ?_ ?_⟩
  · rintro i σ H' hi ⟨vals, vt, _, _, s', _⟩
    exact SqL.of (s' _ _ hl)
  · rintro i x σ H2 hx ⟨vals, vt, rfl, b2, sm, gv, hg, hle, hP⟩
    have hi : i < xs.length := by
      have := (List.getElem?_eq_some_iff.mp hx).1
      rw [List.length_reverse] at this
      exact this
    rw [List.getElem?_reverse hi] at hx
    have hdr : xs.drop (xs.length - (i + 1)) = x :: xs.drop (xs.length - i) := by
      have h1 : xs.length - (i + 1) < xs.length := by omega
      rw [List.drop_eq_getElem_cons h1, show xs.length - (i + 1) + 1 = xs.length - i by omega]
      congr 1
      rw [show xs.length - 1 - i = xs.length - (i + 1) by omega] at hx
      exact (List.getElem?_eq_some_iff.mp hx).2
    have bad : dl kvs x = none \/ (∃ s, dl kvs x = some s /\ vals.length < s) -> ∀ H', Same H H' -> E (.ref C) none H' := fun hb => qE (by
      have e : xs = xs.take (xs.length - (i + 1)) ++ xs.drop (xs.length - (i + 1)) := (List.take_append_drop ..).symm
      have hz : hgt kvs (xs.drop (xs.length - (i + 1))) = none := by
        rw [hdr]
        show (match hgt kvs (xs.drop (xs.length - i)), dl kvs x with | some n, some s => if s <= n then some (n - s + 1) else none | _, _ => none) = none
        rw [hg]
        rcases hb with z | ⟨s, z, z2⟩
        · rw [z]
        · rw [z]
          show (if s <= vals.length then _ else _) = none
          rw [if_neg (by omega)]
      rw [e, vX hz]
      intro z
      cases z)
    have hl300 : vals.length <= 300 := by omega
    have fin : ∀ (H' : Hp) (y : V) (vals' : List V) (s : Nat), dl kvs x = some s -> s <= vals.length -> But vl H2 H' -> vals'.length + s = vals.length -> H' vl = some (.lst (vals' ++ [y])) -> Pz kvs H' (y :: vals'.reverse) (x :: xs.drop (xs.length - i)) -> ∃ (vals : List V) (vt : Option V), [some (.ref pk), some (.ref l), some (.ref d), some (.ref vl), some x] = [some (.ref pk), some (.ref l), some (.ref d), some (.ref vl), vt] /\ But vl H1 H' /\ Same H H' /\ H' vl = some (.lst vals) /\ hgt kvs (xs.drop (xs.length - (i + 1))) = some vals.length /\ vals.length <= i + 1 /\ Pz kvs H' vals.reverse (xs.drop (xs.length - (i + 1))) := fun H' y vals' s e1 e2 b3 e3 g P => by
      refine ⟨_, _, rfl, b2.trans b3, But.fresh sm nvl b3, g, ?_, by rw [List.length_append]; show _ + 1 <= _; omega, by rw [hdr, List.reverse_append]; exact P⟩
      rw [hdr]
      show (match hgt kvs (xs.drop (xs.length - i)), dl kvs x with | some n, some s => if s <= n then some (n - s + 1) else none | _, _ => none) = _
      rw [hg, e1]
      show (if s <= vals.length then some (vals.length - s + 1) else none) = _
      rw [if_pos e2, List.length_append]
      show some (vals.length - s + 1) = some (vals'.length + 1)
      rw [show vals.length - s + 1 = vals'.length + 1 by omega]
    have gd2 : H2 d = some (.dK kvs) := b2 _ _ ndv hd1
    obtain ⟨b, hT⟩ := hth x (List.mem_of_getElem? hx)
    have hT2 := hT.keep sm
    cases hT2 with
    | str z =>
      refine ⟨_, rfl, _, _, _, _, rfl, .str _, rfl, _, rfl, iteT ?_⟩
      have ez : dl kvs (.str z) = szOf kvs z := rfl
      refine ⟨_, rfl, .inl ⟨rfl, _, SqL.of gv⟩, _, rfl, _, rfl, _, rfl, z, d, vl, kvs, vals, rfl, gd2, hRm, gv, hl300, ?_⟩
      rcases hRm.sz (t := z) with ⟨_, e2⟩ | ⟨n, _, e2, n9⟩
      · exact .inl ⟨.inl e2, bad (.inl (ez.trans e2)) _ sm⟩
      · rcases Nat.lt_or_ge vals.length n with c | c
        · exact .inl ⟨.inr ⟨n, e2, c⟩, bad (.inr ⟨n, ez.trans e2, c⟩) _ sm⟩
        · have ev : vals = ((vals.reverse).drop n).reverse ++ ((vals.reverse).take n).reverse := by
            rw [<- List.reverse_append, List.take_append_drop, List.reverse_reverse]
          have ul : ((vals.reverse).take n).length = n := by rw [List.length_take, List.length_reverse]; omega
          refine .inr ⟨n, (vals.reverse).take n, (vals.reverse).drop n, e2, ev, ul, fun H3 p qq b3 g3 gp gq => ?_⟩
          refine ⟨vl, _, _, rfl, rfl, g3, by rw [List.length_reverse, List.length_drop, List.length_reverse]; omega, ?_⟩
          have t3 : Tups H2 H3 := b3.tups gv
          have nb : But vl H3 (upd H3 vl (.lst (((vals.reverse).drop n).reverse ++ [V.ref p]))) := .put
          have t4 := nb.tups g3
          refine fin _ (.ref p) _ n (ez.trans e2) c (b3.trans nb) (by rw [List.length_reverse, List.length_drop, List.length_reverse]; omega) zg ?_
          have hP' := hP
          rw [<- List.take_append_drop n vals.reverse] at hP'
          obtain ⟨xs1, xs2, ex, p1, p2⟩ := hP'.split
          rw [ex, List.reverse_reverse]
          exact .shp (t4 _ _ gp) (t4 _ _ gq) (by rw [ul]; exact e2) (by omega) (p1.keep (t3.trans t4)) (p2.keep (t3.trans t4))
    | int j =>
      refine ⟨_, rfl, _, _, _, _, rfl, .int _, rfl, _, rfl, iteF ?_⟩
      refine ⟨_, rfl, _, _, rfl, .int j, _, rfl, iteT ⟨_, rfl, _, rfl, _, rfl, ?_⟩⟩
      by_cases c : -1000000000000000000000000000000 < j /\ j < 1000000000000000000000000000000
      · rw [decide_eq_true c]
        have ej : dl kvs (.int j) = some 0 := if_pos c
        refine iteT ⟨_, rfl, .inl ⟨rfl, _, SqL.of gv⟩, _, rfl, vl, _, _, rfl, rfl, gv, by omega, ?_⟩
        have nb : But vl H2 (upd H2 vl (.lst (vals ++ [V.int j]))) := .put
        exact fin _ (.int j) vals 0 ej (Nat.zero_le _) nb rfl zg (.num c (hP.keep (nb.tups gv)))
      · rw [decide_eq_false c]
        have ej : dl kvs (.int j) = none := if_neg c
        exact iteF (bad (.inl ej) _ sm)
    | bl j => exact ⟨_, rfl, _, _, _, _, rfl, .bl _, rfl, _, rfl, iteF ⟨_, rfl, _, _, rfl, .bl j, _, rfl, iteF (iteF (bad (.inl rfl) _ sm))⟩⟩
    | non => exact ⟨_, rfl, _, _, _, _, rfl, .non, rfl, _, rfl, iteF ⟨_, rfl, _, _, rfl, .non, _, rfl, iteF (iteF (bad (.inl rfl) _ sm))⟩⟩
    | lst h => exact ⟨_, rfl, _, _, _, _, rfl, .lst h, rfl, _, rfl, iteF ⟨_, rfl, _, _, rfl, .lst h, _, rfl, iteF (iteF (bad (.inl rfl) _ sm))⟩⟩
    | tup h => exact ⟨_, rfl, _, _, _, _, rfl, .tup h, rfl, _, rfl, iteF ⟨_, rfl, _, _, rfl, .tup h, _, rfl, iteF (iteF (bad (.inl rfl) _ sm))⟩⟩
    | dK h => exact ⟨_, rfl, _, _, _, _, rfl, .dK h, rfl, _, rfl, iteF ⟨_, rfl, _, _, rfl, .dK h, _, rfl, iteF (iteF (bad (.inl rfl) _ sm))⟩⟩
  · rintro σ H2 ⟨vals, vt, rfl, b2, sm, gv, hg, hle, hP⟩
    rw [Nat.sub_self, List.drop_zero] at hg hP
    refine ⟨_, rfl, vl, _, rfl, .inl (SqL.of gv), rfl, _, rfl, ite2 (fun c => ?_) (fun c => ?_)⟩
    · refine qE (fun z => ?_) _ sm
      rw [hg] at z
      injection z with z
      rw [z] at c
      exact absurd c (by decide)
    · have h1 : vals.length = 1 := by
        by_cases z : vals.length = 1
        · exact z
        · exfalso
          apply c
          simp
          omega
      match vals, h1 with
      | [y], _ => exact ⟨_, rfl, vl, _, _, _, rfl, rfl, SqL.of gv, zp (j := 0) rfl, qQ hg _ y sm hP⟩
end
end GN
namespace K31
open PySem L2
open GN (vp yU sIn Zr sRes)
theorem same_new {H : Hp} {p : Addr} (h : H p = none) (o : HO) : Same H (upd H p o) := fun b u q => by rw [zn (zo q h)]; exact q
theorem t30 : (10 : Int) ^ (30 : Int).toNat = 1000000000000000000000000000000 := by decide
def Sm (i : Int) : Prop := -1000000000000000000000000000000 < i /\ i < 1000000000000000000000000000000
set_option exponentiation.threshold 2000 in
theorem J9 {i : Int} (h : i.natAbs < 10 ^ 100) : i.natAbs < BG := Nat.lt_of_lt_of_le h (by unfold BG; decide +kernel)
theorem Sm.big {i : Int} (h : Sm i) : i.natAbs < BG := J9 (by unfold Sm at h; omega)
theorem ifT {b : Bool} {A B : Prop} (e : b = true) (h : A) : if b = true then A else B := by rw [if_pos e]; exact h
theorem ifF {b : Bool} {A B : Prop} (e : b = false) (h : B) : if b = true then A else B := by rw [if_neg (by rw [e]; decide)]; exact h
inductive Nu (H : Hp) : V -> Option Int -> Prop
  | int {i : Int} : Sm i -> Nu H (.int i) (some i)
  | tup {p : Addr} {xs : List V} : H p = some (.tup xs) -> Nu H (.ref p) none
theorem Nu.keep {H H' : Hp} {v : V} {o : Option Int} (s : Same H H') (h : Nu H v o) : Nu H' v o := by
  cases h with
  | int h => exact .int h
  | tup h => exact .tup (s _ _ h)
def res (w : Str) (i j : Int) : Int := if w = "plus" then i + j else if w = "minus" then i - j else if w = "times" then i * j else if w = "over" then i.fdiv j else if w = "rest" then i.fmod j else if w = "less" then (if i < j then 1 else 0) else (if i = j then 1 else 0)
def fw (w : Str) : Option Int -> Option Int -> Str
  | some i, some j => if j = 0 /\ (w = "over" \/ w = "rest") then "nought" else if -1000000000000000000000000000000 < res w i j /\ res w i j < 1000000000000000000000000000000 then "" else "great"
  | _, _ => "nonumber"
theorem fw_ss (w : Str) (i j : Int) : fw w (some i) (some j) = if j = 0 /\ (w = "over" \/ w = "rest") then ("nought" : Str) else if -1000000000000000000000000000000 < res w i j /\ res w i j < 1000000000000000000000000000000 then ("" : Str) else ("great" : Str) := rfl
def spWhole : Sp := fun vs H Q _ => ∃ v o, vs = [v] /\ Nu H v o /\ Q (.bl o.isSome) H
def spIn : Sp := fun vs H Q _ => ∃ i : Int, vs = [.int i] /\ Q (.bl (decide (-1000000000000000000000000000000 < i /\ i < 1000000000000000000000000000000))) H
def VN : Sp := fun vs H Q _ => ∃ (w : Str) (i j : Int), vs = [.str w, .int i, .int j] /\ Sm i /\ Sm j /\ (j = 0 -> w ≠ "over" /\ w ≠ "rest") /\ Q (.int (res w i j)) H
def spFault (C : Addr) : Sp := fun vs H Q _ => ∃ e v, vs = [.ref e, v] /\ H e = some (XO e C none) /\ ∀ d, H d = none -> d ≠ e -> Q .non (upd (upd H d (XD d [("word", v)])) e (XO e C (some d)))
def spReck (C : Addr) : Sp := fun vs H Q E => ∃ (w : Str) (x y : V) (a b : Option Int), vs = [.str w, x, y] /\ Nu H x a /\ Nu H y b /\
  (fw w a b = "" -> ∀ (i j : Int) (H' : Hp), Same H H' -> a = some i -> b = some j -> Q (.int (res w i j)) H') /\ (fw w a b ≠ "" -> ∀ d H', Same H H' -> H' d = some (XD d [("word", .str (fw w a b))]) -> E (.ref C) (some d) H')
section
variable {P : Program} {w : World} {K : PySem.W.Frag} {mg : Str -> Option Value} {base : Heap} {f R C : Addr} {fd : FuncData}
theorem Vf : FnScope ["self", "word"] ["self", "word"] (zm vp) := ⟨rfl, rfl, rfl, by decide +kernel, rfl, by decide +kernel, by decide +kernel⟩
theorem ok_fault {fi : Addr} (F : Fun K "__init__" "Fault.__init__" vp f fd) (xw : PySem.W.takerIn K C "word" = some none) (M : XCl K C fi) (B : XBase K R) (mR : mg "ReuseError" = some (.ref R)) : FnOk P w K mg base CX0 1 f fd ["self", "word"] (spFault C) := by
  refine F.by Vf (fun vs H Q E h => ?_) (fun cdv A' outer s H vs Q E hr h => ?_)
  · obtain ⟨e, v, rfl, _⟩ := h
    rfl
  obtain ⟨e, v, rfl, hX, q⟩ := h
  refine ⟨_, zi (zT ⟨we M B rfl mR (ja_c (jv 0) (ja_c (jv 1) zh)).out⟩) (zk ⟨vh M (jv 0).out (jv 1).out⟩), ?_⟩
  refine ⟨_, rfl, _, rfl, e, [v], none, rfl, by show 1 <= sizeLine; decide, hX, ?_⟩
  exact ⟨_, rfl, _, rfl, e, rfl, hX, xw, fun d hd ne => q d hd ne⟩
theorem scWhole : FnScope ["thing"] ["thing"] (zm yU) := ⟨rfl, rfl, rfl, by decide +kernel, rfl, by decide +kernel, by decide +kernel⟩
theorem ok_whole (F : Fun K "is_whole" "is_whole" yU f fd) (m_isinstance : mg "isinstance" = none) (m_int : mg "int" = none) (m_bool : mg "bool" = none) : FnOk P w K mg base CX0 1 f fd ["thing"] spWhole := by
  refine F.by scWhole (fun vs H Q E h => ?_) (fun cdv A outer s H vs Q E hr h => ?_)
  · obtain ⟨v, o, rfl, _⟩ := h
    rfl
  obtain ⟨v, o, rfl, h, q⟩ := h
  refine ⟨_,
    (zk (zw (xY (zE yd rfl m_isinstance PyProof.Rows.boot_isinstance (ja_c (jv 0) (ja_c (yr (v := .ty "int") rfl m_int PyProof.Rows.boot_int rfl) zh))) (vd (jm (zE yd rfl m_isinstance PyProof.Rows.boot_isinstance (ja_c (jv 0) (ja_c (yr (v := .ty "bool") rfl m_bool PyProof.Rows.boot_bool rfl) zh)))))))), ?_⟩
  cases h with
  | int h => exact ⟨_, rfl, _, _, _, _, rfl, .int _, rfl, _, rfl, iteT ⟨_, rfl, _, _, _, _, rfl, .int _, rfl, _, rfl, q⟩⟩
  | tup h => exact ⟨_, rfl, _, _, _, _, rfl, .tup h, rfl, _, rfl, iteF q⟩
theorem scIn : FnScope ["number"] ["number"] (zm sIn) := ⟨rfl, rfl, rfl, by decide +kernel, rfl, by decide +kernel, by decide +kernel⟩
theorem ok_in (F : Fun K "in_bounds" "in_bounds" sIn f fd) : FnOk P w K mg base CX0 1 f fd ["number"] spIn := by
  refine F.by scIn (fun vs H Q E h => ?_) (fun cdv A outer s H vs Q E hr h => ?_)
  · obtain ⟨i, rfl, _⟩ := h
    rfl
  obtain ⟨i, rfl, q⟩ := h
  refine ⟨_, (zk (zw (vI x8 x8 (jk (zz xy zj zj)) (jv 0) (zz xy zj zj)))), ?_⟩
  refine ⟨_, _, rfl, rfl, ⟨by decide, by decide, by decide⟩, _, rfl, _, rfl, _, _, rfl, rfl, ?_⟩
  rw [t30]
  by_cases c : -1000000000000000000000000000000 < i
  · refine ⟨_, rfl, itD c ?_⟩
    refine ⟨_, _, rfl, rfl, ⟨by decide, by decide, by decide⟩, _, _, rfl, rfl, ?_⟩
    rw [t30]
    have e : decide (-1000000000000000000000000000000 < i /\ i < 1000000000000000000000000000000) = decide (i < 1000000000000000000000000000000) := by simp [c]
    rw [e] at q
    exact q
  · refine ⟨_, rfl, itDN c ?_⟩
    have e : decide (-1000000000000000000000000000000 < i /\ i < 1000000000000000000000000000000) = false := by simp [c]
    rw [e] at q
    exact q
theorem scRes : FnScope ["word", "a", "b", "holds"] ["word", "a", "b"] (zm sRes) := ⟨rfl, rfl, rfl, by decide +kernel, rfl, by decide +kernel, by decide +kernel⟩
theorem ok_res (F : Fun K "result_of" "result_of" sRes f fd) : FnOk P w K mg base CX0 1 f fd ["word", "a", "b"] VN := by
  refine F.by scRes (fun vs H Q E h => ?_) (fun cdv A outer s H vs Q E hr h => ?_)
  · obtain ⟨w, i, j, rfl, _⟩ := h
    rfl
  obtain ⟨w, i, j, rfl, hi, hj, hz, q⟩ := h
  refine ⟨_,
    (zi (zK (zr zS (jv 0) zu (zv _)) (zk (zw (zz yQ (jv 1) (jv 2)))) zB)
    (zi (zK (zr zS (jv 0) zu (zv _)) (zk (zw (zz jo (jv 1) (jv 2)))) zB)
    (zi (zK (zr zS (jv 0) zu (zv _)) (zk (zw (zz W9 (jv 1) (jv 2)))) zB)
    (zi (zK (zr zS (jv 0) zu (zv _)) (zk (zw (zz Xy (jv 1) (jv 2)))) zB)
    (zi (zK (zr zS (jv 0) zu (zv _)) (zk (zw (zz Va (jv 1) (jv 2)))) zB)
    (zi (zt (i := 3) scRes.nd rfl (Or.inl rfl) (xZ (zr zS (jv 0) zu (zv _)) (xh x8 (jv 1) (jv 2) (zv _)) (xh zS (jv 1) (jv 2) (zv _))))
    (zk (zw (xZ (yn (jv 3)) zj zj))))))))), ?_⟩
  unfold res at q
  have sE : ∀ a b : Str, (V.str a = V.str b) = (a = b) := fun a b => by simp
  refine ⟨_, rfl, rfl, _, rfl, ?_⟩
  by_cases c1 : w = "plus"
  · rw [if_pos c1] at q
    rw [if_pos (by simp [c1])]
    exact ⟨_, rfl, _, rfl, _, _, rfl, rfl, q⟩
  rw [if_neg c1] at q
  rw [if_neg (by simp [c1])]
  refine ⟨_, rfl, rfl, _, rfl, ?_⟩
  by_cases c2 : w = "minus"
  · rw [if_pos c2] at q
    rw [if_pos (by simp [c2])]
    exact ⟨_, rfl, _, rfl, _, _, rfl, rfl, q⟩
  rw [if_neg c2] at q
  rw [if_neg (by simp [c2])]
  refine ⟨_, rfl, rfl, _, rfl, ?_⟩
  by_cases c3 : w = "times"
  · rw [if_pos c3] at q
    rw [if_pos (by simp [c3])]
    exact ⟨_, rfl, _, rfl, _, _, rfl, rfl, ⟨hi.big, hj.big⟩, q⟩
  rw [if_neg c3] at q
  rw [if_neg (by simp [c3])]
  refine ⟨_, rfl, rfl, _, rfl, ?_⟩
  by_cases c4 : w = "over"
  · rw [if_pos c4] at q
    rw [if_pos (by simp [c4])]
    exact ⟨_, rfl, _, rfl, _, _, rfl, rfl, ⟨fun z => (hz z).1 c4, hj.big⟩, q⟩
  rw [if_neg c4] at q
  rw [if_neg (by simp [c4])]
  refine ⟨_, rfl, rfl, _, rfl, ?_⟩
  by_cases c5 : w = "rest"
  · rw [if_pos c5] at q
    rw [if_pos (by simp [c5])]
    exact ⟨_, rfl, _, rfl, _, _, rfl, rfl, (fun z => (hz z).2 c5), q⟩
  rw [if_neg c5] at q
  rw [if_neg (by simp [c5])]
  refine ⟨_, rfl, rfl, _, rfl, ?_⟩
  by_cases c6 : w = "less"
  · rw [if_pos c6] at q
    rw [if_pos (by simp [c6])]
    refine ⟨_, rfl, _, rfl, _, _, rfl, rfl, _, rfl, _, rfl, ?_⟩
    by_cases c7 : i < j
    · rw [if_pos c7] at q
      exact itD c7 q
    · rw [if_neg c7] at q
      exact itDN c7 q
  · rw [if_neg c6] at q
    rw [if_neg (by simp [c6])]
    refine ⟨_, rfl, _, rfl, rfl, _, rfl, _, rfl, ?_⟩
    by_cases c7 : i = j
    · rw [if_pos c7] at q
      rw [if_pos (by simp [c7])]
      exact q
    · rw [if_neg c7] at q
      rw [if_neg (by simp [c7])]
      exact q
theorem in_strs {x : Str} : ∀ {l : List Str}, inV (.str x) (l.map V.str) = decide (x ∈ l)
  | [] => rfl
  | y :: l => by
    have ih := in_strs (x := x) (l := l)
    unfold inV at ih ⊢
    rw [List.map_cons, List.any_cons, ih]
    show ((y == x) || decide (x ∈ l)) = _
    by_cases e : y = x
    · subst e; simp
    · have e' : (y == x) = false := beq_eq_false_iff_ne.mpr e
      have e2 : ¬ x = y := fun z => e z.symm
      simp [e', e2]
theorem scReck : FnScope ["word", "a", "b", "result"] ["word", "a", "b"] (zm Zr) := ⟨rfl, rfl, rfl, by decide +kernel, rfl, by decide +kernel, by decide +kernel⟩
theorem ZC {w : Str} {a b : Option Int} (h : ¬ (a.isSome = true /\ b.isSome = true)) : fw w a b = "nonumber" := by
  cases a with
  | none => rfl
  | some i =>
    cases b with
    | none => rfl
    | some j => exact absurd ⟨rfl, rfl⟩ h
theorem XL {C : Addr} {H : Hp} {E : XK} {v : V} (hE : ∀ d H', Same H H' -> H' d = some (XD d [("word", v)]) -> E (.ref C) (some d) H') (e : Addr) (he : H e = none) :
    spFault C [.ref e, v] (upd H e (XO e C none)) (fun u H2 => u = .non /\ ∃ dx, H2 e = some (XO e C dx) /\ E (.ref C) dx (drp H2 e)) E0 := by
  refine ⟨e, v, rfl, zg, fun d hd hne => ⟨rfl, some d, zg, ?_⟩⟩
  have hd' : H d = none := by rw [zn hne] at hd; exact hd
  refine hE d _ (fun b u hb => ?_) ?_
  · rw [xa (zo hb he), zn (zo hb he), zn (zo hb hd'), zn (zo hb he)]
    exact hb
  · rw [xa hne, zn hne]
    exact zg
theorem ok_reck (F : Fun K "reckoned" "reckoned" Zr f fd) (GX : Xa P w K mg base 1 "Fault" C ["self", "word"] (spFault C)) (GW : Ca P w K mg base CX0 1 "is_whole" ["thing"] spWhole) (GR : Ca P w K mg base CX0 1 "result_of" ["word", "a", "b"] VN) (GI : Ca P w K mg base CX0 1 "in_bounds" ["number"] spIn) : FnOk P w K mg base (CXf P w) 3 f fd ["word", "a", "b"] (spReck C) := by
  refine F.byx scReck (fun vs H Q E h => ?_) (fun cdv A outer s H vs Q E hr h => ?_)
  · obtain ⟨w, x, y, a, b, rfl, _⟩ := h
    rfl
  obtain ⟨w, x, y, a, b, rfl, hx, hy, q1, q2⟩ := h
  have hr1 : Room 1 _ := hr.mono (by decide)
  refine ⟨_,
    (zi (zK (jW.pt (YT (xX (yn (zC GW.upx hr1 rfl yk (ja_c (jv 1) zh)))) (jl (xX (yn (zC GW.upx hr1 rfl yk (ja_c (jv 2) zh)))))))
      (zk (yS GX hr rfl yK (ja_c zu zh))) zB)
    (zi (zK (jW.pt (yP (zr zS (jv 2) zj (zv _)) (yz (zr wM (jv 0) (zN (ja_c zu (ja_c zu zh))) (by with_unfolding_all rfl)))))
      (zk (yS GX hr rfl yK (ja_c zu zh))) zB)
    (zi (zt (i := 3) scReck.nd rfl (Or.inl rfl) (zC GR.upx hr1 rfl yk (ja_c (jv 0) (ja_c (jv 1) (ja_c (jv 2) zh)))))
    (zi (zK (xX (yn (zC GI.upx hr1 rfl yk (ja_c (jv 3) zh))))
      (zk (yS GX hr rfl yK (ja_c zu zh))) zB)
    (zk (zw (jv 3))))))), ?_⟩
  have bad : ∀ (z : Str) (H' : Hp), Same H H' -> fw w a b = z -> z ≠ "" -> (ju C (spFault C) E (xT (tC (.str z)) tNil) : TS) { nx := fun _ H' => Q .non H', rt := Q } (z6 ["word", "a", "b", "result"] [.str w, x, y]) H' := fun z H' s' e hz => by
    subst e
    refine ⟨by show 1 <= sizeLine; decide, fun e he => XL (fun d H2 s2 hd => q2 hz d H2 (s'.trans s2) hd) e he⟩
  refine ⟨_, rfl, x, a, rfl, hx, _, rfl, ?_⟩
  cases hx with
  | tup hx => exact iteT (iteT (bad "nonumber" H (Same.refl _) (ZC (by simp)) (by decide)))
  | @int i hi =>
    refine iteF ⟨_, rfl, y, b, rfl, hy, _, rfl, ?_⟩
    cases hy with
    | tup hy => exact iteT (bad "nonumber" H (Same.refl _) (ZC (by simp)) (by decide))
    | @int j hj =>
      refine iteF ⟨_, rfl, rfl, _, rfl, ?_⟩
      suffices tail : ∀ (H1 : Hp), Same H H1 -> ¬ (j = 0 /\ (w = "over" \/ w = "rest")) -> (tSeq _ _ : TS) { nx := fun _ H' => Q .non H', rt := Q } [some (.str w), some (.int i), some (.int j), none] H1 by
        by_cases hz : j = 0
        · refine ifT (by simp [hz]) ?_
          refine ⟨_, rfl, by show 2 <= sizeLine; decide, fun p hp => ⟨p, _, rfl, .inr (SqT.of zg), rfl, rfl, _, rfl, ?_⟩⟩
          have e2 : inV (.str w) [.str "over", .str "rest"] = decide (w ∈ (["over", "rest"] : List Str)) := in_strs (l := ["over", "rest"])
          have s1 := same_new (o := .tup [.str "over", .str "rest"]) hp
          by_cases hw : w = "over" \/ w = "rest"
          · refine ifT (e2.trans (decide_eq_true (by simpa using hw))) ?_
            exact bad "nought" _ s1 (by rw [fw_ss, if_pos ⟨hz, hw⟩]) (by decide)
          · refine ifF (e2.trans (decide_eq_false (by simpa using hw))) ?_
            exact tail _ s1 fun z => hw z.2
        · refine ifF (by simp [hz]) ?_
          exact iteF (tail H (Same.refl _) fun z => hz z.1)
      intro H1 s1 hn
      refine ⟨_, rfl, _, rfl, _, rfl, w, i, j, rfl, hi, hj, fun z => ⟨fun y => hn ⟨z, .inl y⟩, fun y => hn ⟨z, .inr y⟩⟩, ?_⟩
      refine ⟨_, rfl, _, rfl, _, rfl, ?_⟩
      by_cases c : -1000000000000000000000000000000 < res w i j /\ res w i j < 1000000000000000000000000000000
      · rw [decide_eq_true c]
        refine iteF ⟨_, rfl, q1 ?_ i j H1 s1 rfl rfl⟩
        rw [fw_ss]
        rw [if_neg hn, if_pos c]
      · rw [decide_eq_false c]
        refine iteT ?_
        refine ⟨by show 1 <= sizeLine; decide, fun e he => ?_⟩
        have e1 : fw w (some i) (some j) = "great" := by rw [fw_ss, if_neg hn, if_neg c]
        rw [e1] at q2
        exact XL (fun d H2 s2 hd => q2 (by decide) d H2 (s1.trans s2) hd) e he
end
end K31
namespace L2
open PySem PySem.Spec PyProof.Rows
section
variable {X : Cx}
end
end L2
namespace L2
open PySem PySem.Spec PyProof.Rows
theorem jR : (["__module__", "__name__", "__qualname__", "__doc__", "__annotations__"] : List Str).contains ("keys" : Str) = false := by decide +kernel
theorem yF : entryFor table "dict.update.loop" = some Builtin.«dict.update.loop» := entryFor_of_tree (by kernel_rfl)
theorem z0 : plainId "dict.update.loop" = true := by decide +kernel
section
variable {prog : Program} {w : World} {A : Around}
end
section
variable {X : Cx}
end
end L2
namespace L2
open PySem PySem.Spec PyProof.Rows
theorem jU : typeLookup (.type "zip") "keys" = pure none := am_miss_of_fast (by decide +kernel)
theorem xE : typeLookup (.type "zip") "__getattr__" = pure none := by rw [typeLookup_type, builtinLookup_eq_fast]; kernel_rfl
theorem yx : entryFor table "zip.__getattribute__" = some Builtin.«object.__getattribute__» :=
  entryFor_alias (id' := "object.__getattribute__") (by kernel_rfl) (by decide +kernel) (by decide +kernel) (by kernel_rfl)
theorem yt (a : Addr) (fs : Array Value) (sl : Array (Option Value)) (name : Str) (u : Tok) (hmiss : typeLookup (.type "zip") name = pure none) (hname : (["__module__", "__name__", "__qualname__", "__doc__", "__annotations__"] : List Str).contains name = false) (hsz : name.length + 100 <= sizeLine := by size_fits) :
    Meets (Builtin.«object.__getattribute__» ⟨[.ref a, .str name u], []⟩) (fun A R s => s.heap.get? a = some { cls := .type "zip", dict := none, data := .fields fs, slots := sl } /\ raisesAttr (.ref a) name A R s) :=
  Meets.of_wp fun prog w A R s hs => by
    obtain ⟨hp, g, d, tk, os⟩ := s
    obtain ⟨hx, hs⟩ := hs
    have hT : (⟨hp, g, d, tk, os⟩ : Shared).TypeIs (.ref a) "zip" := ⟨_, hx, rfl⟩
    unfold Builtin.«object.__getattribute__»
    repeat (any_goals (first | assumption | wp_step))
    simp only [hname, Bool.false_eq_true, if_false]
    repeat (any_goals (first | assumption | wp_step))
    exact wpAny_raiseAttrError hs.1 hs.2 (attrMsg_fits (by decide +kernel) hsz)
section
variable {prog : Program} {w : World} {A : Around}
theorem jV {E : Value -> Shared -> Prop} {s : Shared} {a : Addr} {fs : Array Value} {Q : Option Value -> Shared -> Prop} (hx : s.heap.get? a = some { cls := .type "zip", data := .fields fs }) (hA : A.handled = none)
    (h : ∀ h' tk, (∀ b o, s.heap.get? b = some o -> h'.get? b = some o) -> Q none { s with heap := h', toks := tk }) : wpAny (model prog w) A (getAttr? (.ref a) "keys") Q E s := by
  obtain ⟨hp, g, d, tk, os⟩ := s
  have hT : ∀ t', (⟨hp, g, d, t', os⟩ : Shared).TypeIs (.ref a) "zip" := fun _ => ⟨_, hx, rfl⟩
  have g1 := sub_AttributeError
  have g2 := PySem.F.slot_zip_getattribute.lookup
  have g3 := PySem.F.slot_zip_getattribute.bind (.ref a)
  have g4 := xE
  unfold getAttr? getAttrBy? getAttrBy
  repeat (any_goals (first | assumption | exact hT _ | ((with_reducible show wpAny _ _ (call (Value.builtin "zip.__getattribute__") _ _) _ _ _); refine call_meets PySem.F.slot_zip_getattribute (hT _) yx (PySem.F.args_zip_getattribute_2 _ _) (yt a fs #[] "keys" _ jU jR (by show 4 + 100 <= sizeLine; decide)) ⟨hx, hA, fun h' tk' e hx' => ?_⟩) | wp_step))
  obtain ⟨t', u', he⟩ := hx'.there
  show wpAny _ _ (getattributeRaised _ _ _ _ _ _ _) _ _ _
  unfold getattributeRaised
  repeat (any_goals (first | assumption | wp_step))
  exact h _ _ hx'.keeps
theorem vY {κ : Type} [DecidableEq κ] {knd : KeyKind prog w κ} {R : Result -> Shared -> Prop} {k m : Bool} {B l r D : Nat} {xs ys : Array Value} {more : List (κ × Value)} {res : Value} (hh : A.handled = none) (ll : l < B) (rl : r < B) (hD : B + 4 < D) (hz : more.length <= sizeLine) (hx : xs.size = more.length)
    (hp : ∀ (j : Nat) k v, more[j]? = some (k, v) -> ∃ ku, xs[j]? = some ku /\ ys[j]? = some v /\ knd.is k ku = true) :
    ∀ (d i : Nat) (s : Shared) (f g : Value), more.length - i = d -> i <= more.length -> ZS k m s.heap B l r i f g -> ZF B s.heap f g -> Sq k s.heap l xs -> Sq m s.heap r ys -> D < s.heap.objs.size -> s.heap.DictOf knd D (merged [] (more.take i)) ->
      (∀ h' tk, (∀ (b : Nat) o, (b < B \/ B + 4 < b) -> b ≠ D -> s.heap.get? b = some o -> h'.get? b = some o) -> h'.DictOf knd D (merged [] more) -> R (.ok (.ret res)) { s with heap := h', toks := tk }) ->
      codeAny (model prog w) A (.builtin "dict.update.loop" ⟨[.ref D, .ref (B + 4), rawInt i, res], []⟩) R s := by
  intro d
  induction d with
  | zero =>
    intro i s f g hm hi Z hf hl hr hs hd hR
    have e : i = more.length := by omega
    refine codeAny_builtin yF ?_
    rw [Around.under_plainId z0 _]
    show wpAny _ A.in1 (pyNext (.ref (B + 4)) >>= _) _ _ s
    refine wpAny_bind (Xb (A := A.in1) hh Z hf hl hr ll rl (.inl (Array.getElem?_eq_none (by omega))) fun h' kz => ?_)
    show wpAny _ A.in1 (Builtin.Dict.addKeywords D [] >>= fun _ => ret res) _ _ _
    refine wpAny_bind (wpAny_pure (wpAny_pure ?_))
    rw [e, List.take_of_length_le (Nat.le_refl _)] at hd
    obtain ⟨o, es, ep, ho, hr'⟩ := hd
    exact hR h' s.toks (fun b o nb _ e' => kz b o nb e') ⟨o, es, ep, kz _ _ (.inr hD) ho, hr'⟩
  | succ d ih =>
    intro i s f g hm hi Z hf hl hr hs hd hR
    have hlt : i < more.length := by omega
    obtain ⟨kv, ekv⟩ : ∃ kv, more[i]? = some kv := ⟨_, List.getElem?_eq_getElem hlt⟩
    obtain ⟨ke, v⟩ := kv
    obtain ⟨ku, e1, e2, e3⟩ := hp i ke v ekv
    refine codeAny_builtin yF ?_
    rw [Around.under_plainId z0 _]
    show wpAny _ A.in1 (pyNext (.ref (B + 4)) >>= _) _ _ s
    refine wpAny_bind (Y9 (A := A.in1) Z hf hl hr ll rl e1 e2 fun h' T ct z hT p sz kz => ?_)
    show wpAny _ A.in1 (holding [Value.ref s.heap.objs.size] _ >>= _) _ _ _
    refine wpAny_bind (wpAny_holding (wpAny_bind (wpAny_tryCatch ?_)))
    unfold Builtin.Dict.pairItems
    refine wpAny_bind (wpAny_typeOf ⟨_, p, rfl⟩ ?_)
    rw [if_pos (by decide +kernel)]
    refine wpAny_bind ?_
    unfold seqItems?
    refine wpAny_bind (wpAny_load p ?_)
    refine wpAny_pure (wpAny_pure ?_)
    show wpAny _ A.in1 (holding [ku, v] (dictSet D ku v)) _ _ _
    have hd' : h'.DictOf knd D (merged [] (more.take i)) := by
      obtain ⟨o, es, ep, ho, hr'⟩ := hd
      exact ⟨o, es, ep, kz _ _ (.inr hD) ho, hr'⟩
    have lz : (merged [] (more.take i)).length <= sizeLine := by
      have := merged_length_le [] (more.take i)
      rw [List.length_take] at this
      simp only [List.length_nil] at this
      omega
    refine wpAny_holding (wpAny_dictSet_pairs (hsz := lz) e3 hd' fun h'' hd'' sb'' => ?_)
    rw [<- merged_take_succ [] more i (ke, v) ekv] at hd''
    have up : ∀ (b : Nat) o, b ≠ D -> h'.get? b = some o -> h''.get? b = some o := fun b o nb e => sb''.extBut b o nb e
    have sz'' : s.heap.objs.size < h''.objs.size := Heap.lt_size (up _ _ (Nat.ne_of_gt hs) p)
    refine wpAny_pure ⟨plainId_quiet z0 _, ih (i + 1) _ (rawInt T) (.bool ct) (by omega) hlt (z.at fun b o h1 h2 e => up b o (by omega) e) ?_ ((hl.at fun o e => kz _ o (by omega) e).at fun o e => up _ o (by omega) e) ((hr.at fun o e => kz _ o (by omega) e).at fun o e => up _ o (by omega) e) (Nat.lt_trans hs sz'') hd'' fun h3 tk k3 d3 => ?_⟩
    · rcases hT with e | ⟨lT, o, hT⟩
      · subst e
        exact .inr ⟨_, ct, _, rfl, rfl, up _ _ (Nat.ne_of_gt hs) p, by omega⟩
      · by_cases c : T = D
        · obtain ⟨o, es, ep, ho, _⟩ := hd''
          exact .inr ⟨T, ct, o, rfl, rfl, by rw [c]; exact ho, lT⟩
        · exact .inr ⟨T, ct, o, rfl, rfl, up _ _ c (kz _ _ (by omega) hT), lT⟩
    · exact hR h3 tk (fun b o b1 b2 e' => k3 b o b1 b2 (up _ _ b2 (kz _ _ b1 e'))) d3
end
section
variable {X : Cx} {a b : Expr} {ta : TA} {p1 p2 pos1 pos2 : Pos}
def zkv (ns : List Str) (ys : List V) : List (Key × V) := (ns.zip ys).map fun p => (.inr p.1, p.2)
def XM (K : PySem.W.Frag) (ta : TA) : TE := fun σ H Q => ta σ H fun vs H1 => ∃ (a b : Addr) (ns : List Str) (ys : List V), vs = [.ref a, .ref b] /\ (SqL K H1 a (ns.map V.str) \/ SqT K H1 a (ns.map V.str)) /\ (SqL K H1 b ys \/ SqT K H1 b ys) /\ ns.length = ys.length /\ ns.Nodup /\ ∀ d, H1 d = none -> Q (.ref d) (upd H1 d (.dK (zkv ns ys)))
theorem XN {ns : List Str} {ys : List V} (h : ns.length = ys.length) : (zkv ns ys).map (·.1) = ns.map Sum.inr := by
  unfold zkv
  rw [List.map_map]
  have : ((fun x => x.1) ∘ fun (p : Str × V) => ((Sum.inr p.1 : Key), p.2)) = fun p => (Sum.inr p.1 : Key) := rfl
  rw [this]
  have e := List.map_fst_zip (l₁ := ns) (l₂ := ys) (by omega)
  conv => rhs; rw [<- e]
  rw [List.map_map]
  rfl
theorem XQ (hc : X.calm = true) (hgL : Gl X "dict") (hmL : X.mg "dict" = none) (hgZ : Gl X "zip") (hmZ : X.mg "zip" = none) (ha : PA X [a, b] ta)
    (h1 : starEach [a, b] X.env = [(false, eval a X.env), (false, eval b X.env)] := by rfl) (h2 : starEach [b] X.env = [(false, eval b X.env)] := by rfl) : PE X (.Call (.Name "dict" p1) [.Call (.Name "zip" p2) [a, b] [] pos2] [] pos1) (XM X.K ta) := by
  intro pins s σ H Q I h
  refine Call_ (yN I hgL hmL PyProof.Rows.boot_dict (PyProof.Rows.callWith_type1 (Calls.spliced_cons (Call_ (yN I hgZ hmZ boot_zip (PyProof.Rows.callWith_type1 (thn (ha pos2 pins s σ H _ I h) fun us s1 g => ?_) (by rw [h1, h2]) (by rw [h2]; rfl))))) rfl rfl))
  obtain ⟨vs, H1, I1, r1, a1, b1, ns, ys, rfl, hq1, hq2, ll, hn, q⟩ := g
  obtain ⟨u, u', rfl, e1, e2⟩ := j4 r1
  cases e1
  cases e2
  obtain ⟨k1, i1, v1, q1, z1, l1⟩ := I1.sq hq1
  obtain ⟨k2, i2, v2, q2, z2, l2⟩ := I1.sq hq2
  refine Y5 q1 q2 fun h' Z sz kp => Calls.spliced_nil ?_
  have hh : X.A.handled = none := I1.ok.hd hc
  have n1 := v1.length
  have n2 := v2.length
  rw [List.length_map] at n1 z1
  have big := I1.big
  obtain ⟨B, eB⟩ : ∃ B : Nat, B = s1.heap.objs.size := ⟨_, rfl⟩
  rw [<- eB] at Z sz l1 l2 ⊢
  obtain ⟨more, emore⟩ : ∃ more : List (Key × Value), more = (ns.zip i2).map fun p => (.inr p.1, p.2) := ⟨_, rfl⟩
  have lmore : more.length = ns.length := by rw [emore, List.length_map, List.length_zip]; omega
  have hmore : ∀ (j : Nat) k v, more[j]? = some (k, v) -> ∃ ku, i1.toArray[j]? = some ku /\ i2.toArray[j]? = some v /\ (zR X.prog X.w).is k ku = true := fun j k v hj => by
    rw [emore, List.getElem?_map] at hj
    obtain ⟨⟨n, v'⟩, hz, e⟩ := Option.map_eq_some_iff.mp hj
    cases e
    rw [List.getElem?_zip_eq_some] at hz
    obtain ⟨ku, hu, ru⟩ := v1.get (i := j) (x := .str n) (by rw [List.getElem?_map, hz.1]; rfl)
    obtain ⟨t, rfl⟩ := ru
    exact ⟨_, by simpa using hu, by simpa using hz.2, xF _ _ n t⟩
  have km : KV (zkv ns ys) more := by
    have : ∀ {ns : List Str} {ys : List V} {us : List Value}, Vals ys us -> ns.length = ys.length -> KV (zkv ns ys) ((ns.zip us).map fun p => ((.inr p.1 : Key), p.2)) := fun {ns ys us} hv hl => by
      induction hv generalizing ns with
      | nil =>
        cases ns with
        | nil => exact .nil
        | cons _ _ => simp at hl
      | cons r _ ih =>
        cases ns with
        | nil => simp at hl
        | cons n ns => exact .cons ⟨rfl, r⟩ (ih (by simpa using hl))
    rw [emore]
    exact this v2 ll
  have keys : more.map (·.1) = ns.map Sum.inr := by
    rw [<- XN ll]
    have : ∀ {a : List (Key × V)} {b : List (Key × Value)}, KV a b -> b.map (·.1) = a.map (·.1) := fun {a b} z => by
      induction z with
      | nil => rfl
      | cons h _ ih => rw [List.map_cons, List.map_cons, h.1, ih]
    exact this km
  refine callType_codes (Q₁ := fun obj s₁ => obj = .ref h'.objs.size /\ s₁ = { s1 with heap := h'.push { cls := .type "dict", data := .dict #[] } }) PySem.F.kt_called_dict (PySem.F.kt_typeCall_dict_1 _) PySem.F.entry_dict_init (kt_code_dict_new _ ⟨rfl, rfl⟩) ?_
  rintro obj s₁ ⟨rfl, rfl⟩
  have new : (h'.push { cls := .type "dict", data := .dict #[] }).DictOf (zR X.prog X.w) h'.objs.size [] := Heap.DictOf.new h'
  have Z1 : ZS k1 k2 (h'.push { cls := .type "dict", data := .dict #[] }) B a1 b1 0 .none (.bool false) := Z.at fun b o _ _ e => Heap.get?_push_of_some _ e
  refine ⟨new.typeIs, PySem.F.args_dict_init_2 _ _, ?_⟩
  unfold Builtin.«dict.__init__»
  refine wpAny_bind ?_
  unfold Builtin.Dict.selfAndRest
  refine wpAny_bind (wpAny_notOrdered_dict new.typeIs ?_)
  show wpAny _ _ (pure (h'.objs.size, [Value.ref (B + 4)])) _ _ _
  refine wpAny_pure ?_
  show wpAny _ _ (Builtin.Dict.updateFrom "dict.__init__" h'.objs.size (.ref (B + 4)) [] .none) _ _ _
  unfold Builtin.Dict.updateFrom
  refine wpAny_bind (wpAny_typeOf ⟨_, Z1.z, rfl⟩ ?_)
  rw [if_pos (by decide +kernel)]
  refine wpAny_bind (jV Z1.z hh fun h2 t2 k2' => ?_)
  rw [if_pos (show ((none : Option Value).isNone = true) from rfl)]
  have Z2 : ZS k1 k2 h2 B a1 b1 0 .none (.bool false) := Z1.at fun b o _ _ e => k2' _ _ e
  obtain ⟨o, es, ep, ho, hr⟩ := id new
  have ho1 := k2' _ _ ho
  have ltD : h'.objs.size < h2.objs.size := Heap.lt_size ho1
  have kall : ∀ b o, s1.heap.get? b = some o -> h2.get? b = some o := fun b o e => k2' _ _ (Heap.get?_push_of_some _ (kp _ _ e))
  have ty : ∀ t, Shared.TypeIs { s1 with heap := h2, toks := t } (.ref (B + 4)) "zip" := fun t => ⟨_, Z2.z, rfl⟩
  refine wpAny_bind (wpAny_rule (wpAny_bind (wpAny_pyIter_slot (ty _) PySem.F.slot_zip_iter (wpAny_call_entry PySem.F.slot_zip_iter (ty _) PySem.F.entry_zip_iter ?_ (PySem.F.args_zip_iter_1 _)))))
  show wpAny _ _ (ret (.ref (B + 4))) _ _ _
  refine wpAny_pure ⟨_, rfl, "zip", _, ty _, PySem.F.slot_zip_next.lookup, ?_⟩
  refine wpAny_pure ⟨plainId_quiet z0 _, ?_⟩
  refine vY (A := X.A.in1) (knd := zR X.prog X.w) (B := B) (xs := i1.toArray) (ys := i2.toArray) (more := more) hh l1 l2 (by rw [sz]; omega) (by omega) (by rw [List.size_toArray]; omega) hmore more.length 0 _ _ _ (by omega) (Nat.zero_le _) Z2 (.inl rfl) (q1.at fun o e => kall _ o e) (q2.at fun o e => kall _ o e) ltD ⟨o, es, ep, ho1, hr⟩ (fun h3 tk kk dd => ?_)
  rw [merged_nil_of_nodup more (by rw [keys]; exact List.Pairwise.map _ (fun i j (ne : i ≠ j) e => ne (Sum.inr.inj e)) hn)] at dd
  have hk : ∀ b o, s1.heap.get? b = some o -> h3.get? b = some o := fun b o e => by
    have lb : b < B := by rw [eB]; exact Heap.lt_size e
    exact kk b o (.inl lb) (Nat.ne_of_lt (Nat.lt_of_lt_of_le lb (by rw [sz]; exact Nat.le_add_right _ _))) (kall _ _ e)
  refine ⟨rfl, .ref h'.objs.size, _, I1.laid (t' := tk) hk (by rw [sz, eB]; exact Nat.le_add_right _ _) (show ObjOk X.prog X.w _ h3 _ (.dK (zkv ns ys)) from ⟨by rw [Paired.length km]; omega, ?_, more, km, dd⟩), rfl, q _ (I1.hok.fresh (by rw [sz, eB]; exact Nat.le_add_right _ _))⟩
  exact beq_eq_false_iff_ne.mpr (fun e => by rw [sz, eB] at e; rw [<- e] at big; exact absurd big (Nat.not_lt.mpr (Nat.le_add_right _ _)))
theorem XR (hc : X.calm = true) (hgL : Gl X "dict") (hmL : X.mg "dict" = none) (hgZ : Gl X "zip") (hmZ : X.mg "zip" = none) (ha : jA X [a, b] ta) (h1 : zy a = false := by rfl) (h2 : zy b = false := by rfl) :
    jE X (.Call (.Name "dict" p1) [.Call (.Name "zip" p2) [a, b] [] pos2] [] pos1) (XM X.K ta) := ⟨XQ hc hgL hmL hgZ hmZ ha.out (by rw [zH h1, zH h2]; rfl) (by rw [zH h2]; rfl)⟩
end
end L2
namespace L2
open PySem PySem.Spec PyProof.Rows
abbrev Cx.plusP (X : Cx) (pins : List (Addr × Obj)) : Cx := { X with pn := X.pn ++ pins }
abbrev Cx.inTry (X : Cx) (pins : List (Addr × Obj)) (E : XK) : Cx := { X with pn := X.pn ++ pins, xe := fun u s' => ∃ pins' σ', Air (X.plusP pins) pins' σ' E u s' }
section
variable {X : Cx} {Ch : Addr} {x : Str} {np hpos tpos : Pos} {b0 : Stmt} {suite body : List Stmt} {th : Addr -> Obj -> TS} {tb : XK -> TS}
theorem Inv.toTry {pins : List (Addr × Obj)} {σ : St} {H : Hp} {s : Shared} {E : XK} (I : Inv X pins σ H s) : Inv (X.inTry pins E) [] σ H s :=
  ⟨⟨I.ok.mod, I.ok.kind, I.ok.glob, I.ok.blt, I.ok.above, I.ok.inj, I.ok.has, I.ok.cab, I.ok.hd, I.ok.frames, I.ok.stk, I.ok.exf, I.ok.bs, I.ok.bsz, I.ok.noex, I.ok.exfs, I.ok.funs, I.ok.frf⟩, I.os, I.bare, I.base, I.loc, I.cell, I.free, I.freeC, fun q hq => I.pin q (by simpa using hq), I.hok, I.len⟩
theorem Inv.ofTry {pins : List (Addr × Obj)} {σ : St} {H : Hp} {s : Shared} {E : XK} (ok : X.Ok) (I : Inv (X.inTry pins E) [] σ H s) : Inv X pins σ H s :=
  ⟨ok, I.os, I.bare, I.base, I.loc, I.cell, I.free, I.freeC, fun q hq => I.pin q (by simpa using hq), I.hok, I.len⟩
theorem Inv.ofPlus {pins pins' : List (Addr × Obj)} {σ : St} {H : Hp} {s : Shared} (ok : X.Ok) (I : Inv (X.plusP pins) pins' σ H s) : Inv X (pins ++ pins') σ H s :=
  ⟨ok, I.os, I.bare, I.base, I.loc, I.cell, I.free, I.freeC, fun q hq => I.pin q (by simpa using hq), I.hok, I.len⟩
theorem Inv.few {pins pins' : List (Addr × Obj)} {σ : St} {H : Hp} {s : Shared} (I : Inv X (pins ++ pins') σ H s) : Inv X pins σ H s :=
  ⟨I.ok, I.os, I.bare, I.base, I.loc, I.cell, I.free, I.freeC, fun q hq => I.pin q (by rw [<- List.append_assoc]; exact List.mem_append_left _ hq), I.hok, I.len⟩
theorem XS {pins : List (Addr × Obj)} {E : XK} : zO (CXf X.prog X.w) (X.inTry pins E) E := fun pins' σ H1 s1 u s2 I h =>
  ⟨pins', σ, jt (X := X.plusP pins) rfl rfl ⟨⟨I.ok.mod, I.ok.kind, I.ok.glob, I.ok.blt, I.ok.above, I.ok.inj, I.ok.has, I.ok.cab, I.ok.hd, I.ok.frames, I.ok.stk, I.ok.exf, I.ok.bs, I.ok.bsz, I.ok.noex, I.ok.exfs, I.ok.funs, I.ok.frf⟩, I.os, I.bare, I.base, I.loc, I.cell, I.free, I.freeC, I.pin, I.hok, I.len⟩ h⟩
end
end L2
namespace L2
open PySem PySem.Spec PyProof.Rows
def HB (X : Cx) (hs : List ExceptHandler) (Tk : Ends -> XK) : Prop := ∀ (pins : List (Addr × Obj)) (σ : St) (D : Ends) (e : Addr) (C : Value) (dx : Option Addr) (H' : Hp) (T : Addr) (s : Shared), Tr s.heap e C dx T .none -> Inv X pins σ H' s -> H' e = none -> H' T = none -> X.s₀.heap.objs.size <= T -> (∀ p ∈ X.pn ++ pins, p.1 ≠ T) -> Tk D C dx H' ->
  wpAny (model X.prog X.w) X.A (handleBy (.ref e) X.env hs) (SP X pins D) X.xe s
def xN (K : PySem.W.Frag) (Ch : Addr) (i n : Nat) (th : Addr -> Obj -> TS) (Tk : Ends -> XK) : Ends -> XK := fun D C dx H =>
  (PySem.W.exmOne K C (.ref Ch) = some true /\ ∀ (e : Addr) (oe : Obj) (vs : Array Value) (σ : St), σ.length = n -> oe.cls = C -> oe.dict = dx -> oe.data = .fields vs -> vs[2]? = some .none -> H e = none -> th e oe (D.behind i) (σ.set i (some (.ref e))) H) \/ (PySem.W.exmOne K C (.ref Ch) = some false /\ Tk D C dx H)
def xNil : Ends -> XK := fun _ _ _ _ => False
section
variable {X : Cx} {Ch : Addr} {x n : Str} {i : Nat} {np hpos tpos : Pos} {b0 : Stmt} {suite body : List Stmt} {th : Addr -> Obj -> TS} {tb : XK -> TS} {h0 : ExceptHandler} {hs : List ExceptHandler} {Tk : Ends -> XK}
theorem XT : HB X [] xNil := fun _ _ _ _ _ _ _ _ _ _ _ _ _ _ _ h => False.elim h
theorem ZD (R : HB X hs Tk) (hN : X.N.Nodup) (hi : X.N[i]? = some n) (hg : Gl X x) (hm : X.mg x = some (.ref Ch)) (hS : ∀ e oe, jSs (X.inEx (.ref e) [(e, oe)]) (b0 :: suite) (th e oe)) (hl : X.env.scope.names.lookup n = some .local := by rfl) (hdb : (x == ("__debug__" : Str)) = false := by decide) :
    HB X (.ExceptHandler (some (.Name x np)) (some n) (b0 :: suite) hpos :: hs) (xN X.K Ch i X.N.length th Tk) := by
  intro pins σ D e C dx H' T s t J ne nT sT pT h
  obtain ⟨oe, vs, g1, g2, g3, g4, g5⟩ := t.ex
  have Jm : Inv (X.inEx (.ref e) []) pins σ H' s := J.inEx (.ref e) fun q hq => nomatch hq
  have LT : PySem.W.Looks (model X.prog X.w) s.heap (typeOf (.ref e)) C := g2 ▸ (PySem.W.Looks.ld g1).andThen .now
  refine wpAny_handleBy_cons (codeAny_handlers_test (yy Jm hg hm ?_ hdb)) (by intro q; cases q)
  rcases h with ⟨hex, hth⟩ | ⟨hex, hn⟩
  · refine PySem.W.Looks.here (PySem.W.exm_one (K := X.K) J.kIn LT hex) ?_
    refine codeAny_handlers_suite_as (yJ (v := none) t fun h3 t3 m3 => ?_)
    have J3 : Inv X pins σ H' { s with heap := h3 } := Inv.moved J (m3.mono (fun b z => nomatch z) fun _ z => z) fun b hb => by
      rw [List.mem_singleton.mp hb]
      obtain ⟨ot, ts, q1, q2, _⟩ := t.tb
      exact ⟨nT, .inr sT, (J.apart q1 q2).1, (J.apart q1 q2).2, pT⟩
    obtain ⟨oe3, vs3, a1, a2, a3, a4, a5⟩ := t3.ex
    have ap := Inv.apart (s := { s with heap := h3 }) J3 a1 a4
    have J4 : Inv (X.inEx (.ref e) [(e, oe3)]) pins σ H' { s with heap := h3 } := J3.inEx (.ref e) fun q hq => by
      rw [List.mem_singleton.mp hq]
      exact ⟨a1, ne, ap.1, fun z => by
        obtain ⟨_, o, ho, nf⟩ := J3.funs.mem z
        have ho' : h3.get? e = some o := ho
        rw [a1] at ho'
        cases ho'
        exact nf vs3 a4, fun v z => by rw [a4] at z; cases z⟩
    refine xR (X := X.inEx (.ref e) [(e, oe3)]) (v := .ref e) J4 hN hi (.inl hl) rfl (fun s4 J5 => ?_) (.inr hl)
    refine wpAny_mono ((hS e oe3).out pins s4 _ H' (D.behind i) J5 (hth e oe3 vs3 _ J3.len a2 a3 a4 a5.2 ne)) (fun f s5 q => ?_) fun _ _ z => False.elim z
    cases f with
    | next =>
      obtain ⟨σ', H5, I5, q⟩ := q
      exact yY (I5.outEx J.ok) hN hi hl fun s6 I6 => ⟨_, _, I6, q⟩
    | brk =>
      obtain ⟨σ', H5, I5, q⟩ := q
      exact yY (I5.outEx J.ok) hN hi hl fun s6 I6 => ⟨_, _, I6, q⟩
    | cont =>
      obtain ⟨σ', H5, I5, q⟩ := q
      exact yY (I5.outEx J.ok) hN hi hl fun s6 I6 => ⟨_, _, I6, q⟩
    | ret w =>
      obtain ⟨v, σ', H5, I5, r, q⟩ := q
      exact yY (I5.outEx J.ok) hN hi hl fun s6 I6 => ⟨v, _, _, I6, r, q⟩
  · refine PySem.W.Looks.here (PySem.W.exm_one (K := X.K) J.kIn LT hex) ?_
    exact R pins σ D e C dx H' T s t J ne nT sT pT hn
theorem wW {pins : List (Addr × Obj)} {σ : St} {D : Ends} {u : Value} {s' : Shared} (hst : X.stack = X.env :: X.outer) (hf : X.env.frame = some X.env.locals) (R : HB X hs Tk)
    (h : Air X pins σ (Tk D) u s') :
    wpAny (model X.prog X.w) X.A (noteFrame u X.env) (fun _ s2 => wpAny (model X.prog X.w) X.A (setFlight u none) (fun _ s3 => wpAny (model X.prog X.w) X.A (handleBy u X.env hs) (SP X pins D) X.xe s3) X.xe s2) X.xe s' := by
  obtain ⟨e, C, dx, H', k, rfl, I, ne, hk, he, hp, st, hth⟩ := h
  have fr : X.A.frames = some (X.env :: X.outer) := hst ▸ I.ok.frames
  have fs : s'.heap.FunFrames X.base (X.env :: X.outer) := hst ▸ I.stack
  have pk : ∀ b, k <= b -> ∀ p ∈ X.pn ++ pins, p.1 ≠ b := fun b hb p q z => absurd (Nat.lt_of_lt_of_le (hp p q) hb) (by rw [z]; exact Nat.lt_irrefl _)
  have two : ∀ (h1 : Heap) (T : Addr) (xs : List Addr), Tr h1 e C dx T (rawInt X.env.locals) -> Mv ((X.env :: X.outer).filterMap (·.frame)) xs s'.heap h1 -> (∀ b ∈ xs, H' b = none /\ X.s₀.heap.objs.size <= b /\ (∀ p ∈ X.pn ++ pins, p.1 ≠ b) /\ ∃ o vs, s'.heap.get? b = some o /\ o.data = .fields vs) -> s'.heap.objs.size <= T ->
      wpAny (model X.prog X.w) X.A (setFlight (.ref e) none) (fun _ s3 => wpAny (model X.prog X.w) X.A (handleBy (.ref e) X.env hs) (SP X pins D) X.xe s3) X.xe { s' with heap := h1 } := by
    intro h1 T xs t m hxs hT
    have J1 : Inv X pins σ H' { s' with heap := h1 } := I.moved (hst ▸ m) fun b hb => by
      obtain ⟨r1, r2, r3, o, vs, r4, r5⟩ := hxs b hb
      exact ⟨r1, .inr r2, (I.apart r4 r5).1, (I.apart r4 r5).2, r3⟩
    have nT : H' T = none := I.hok.fresh hT
    have sT : X.s₀.heap.objs.size <= T := Nat.le_trans I.sz hT
    have pT : ∀ p ∈ X.pn ++ pins, p.1 ≠ T := fun p q z => absurd (Nat.lt_of_lt_of_le (Heap.lt_size (I.pin p q).1) hT) (by rw [z]; exact Nat.lt_irrefl _)
    refine yJ (s := { s' with heap := h1 }) (v := none) t fun h2 t2 m2 => R pins σ D e C dx H' T { s' with heap := h2 } t2 (Inv.moved (s := { s' with heap := h1 }) J1 (m2.mono (fun b z => nomatch z) fun _ z => z) fun b hb => ?_) ne nT sT pT hth
    rw [List.mem_singleton.mp hb]
    obtain ⟨ot, ts, q1, q2, _⟩ := t.tb
    exact ⟨nT, .inr sT, (J1.apart q1 q2).1, (J1.apart q1 q2).2, pT⟩
  rcases st with ⟨oe, vs, h1, rfl, rfl, h4, h5, h6⟩ | ⟨T0, t0, n0, s0⟩
  · refine wN fr fs hf h1 h4 h5 h6 fun h' T hs t m => two h' T [e] t m (fun b hb => ?_) hs
    rw [List.mem_singleton.mp hb]
    exact ⟨ne, Nat.le_trans hk he, pk e he, oe, vs, h1, h4⟩
  · refine wa fr fs hf t0 fun h' T hs t m => two h' T [e, T0] t m (fun b hb => ?_) hs
    rcases List.mem_cons.mp hb with r | hb
    · rw [r]
      obtain ⟨oe, vs, q1, _, _, q4, _⟩ := t0.ex
      exact ⟨ne, Nat.le_trans hk he, pk e he, oe, vs, q1, q4⟩
    · rw [List.mem_singleton.mp hb]
      obtain ⟨ot, ts, q1, q2, _⟩ := t0.tb
      exact ⟨n0, Nat.le_trans hk s0, pk T0 s0, ot, ts, q1, q2⟩
def qT (Tk : Ends -> XK) (tb : XK -> TS) : TS := fun D σ H => tb (Tk D) D σ H
theorem Vg (hb : ∀ pins E, jSs (X.inTry pins E) body (tb E)) (R : HB X (h0 :: hs) Tk) (hst : X.stack = X.env :: X.outer := by rfl) (hf : X.env.frame = some X.env.locals := by rfl) :
    jS X (.Try body (h0 :: hs) [] [] tpos) (qT Tk tb) := by
  constructor
  intro pins s σ H D I h
  refine wpAny_Try_except (wpAny_mono ((hb pins _).out [] s σ H D I.toTry h) (fun f s1 q => ?_) (fun u s1 q => ?_))
  · cases f with
    | next =>
      obtain ⟨σ', H5, I5, q⟩ := q
      exact wpAny_execs_nil ⟨_, _, I5.ofTry I.ok, q⟩
    | brk =>
      obtain ⟨σ', H5, I5, q⟩ := q
      exact ⟨_, _, I5.ofTry I.ok, q⟩
    | cont =>
      obtain ⟨σ', H5, I5, q⟩ := q
      exact ⟨_, _, I5.ofTry I.ok, q⟩
    | ret w =>
      obtain ⟨v, σ', H5, I5, r, q⟩ := q
      exact ⟨v, _, _, I5.ofTry I.ok, r, q⟩
  · obtain ⟨pins', σ', e, C, dx, H', k, rfl, I5, ne, hk, he, hp, st, hE⟩ := q
    have a : Air X (pins ++ pins') σ' (Tk D) (.ref e) s1 := ⟨e, C, dx, H', k, rfl, I5.ofPlus I.ok, ne, hk, he, fun p q => hp p (by simpa using q), st, hE⟩
    have g := wW hst hf R a
    have sp : ∀ f s3, SP X (pins ++ pins') D f s3 -> SP X pins D f s3 := fun f s3 q => by
      cases f with
      | next => obtain ⟨σ', H5, I5, q⟩ := q; exact ⟨_, _, I5.few, q⟩
      | brk => obtain ⟨σ', H5, I5, q⟩ := q; exact ⟨_, _, I5.few, q⟩
      | cont => obtain ⟨σ', H5, I5, q⟩ := q; exact ⟨_, _, I5.few, q⟩
      | ret w => obtain ⟨v, σ', H5, I5, r, q⟩ := q; exact ⟨v, _, _, I5.few, r, q⟩
    exact wpAny_mono g (fun _ s2 q => wpAny_mono q (fun _ s3 q => wpAny_mono q sp fun _ _ z => z) fun _ _ z => z) fun _ _ z => z
end
end L2
namespace L2
open PySem PySem.Spec PyProof.Rows
def onW (X : Cx) (pins : List (Addr × Obj)) (hs : List ExceptHandler) (D : Ends) : Value -> Shared -> Prop := fun u s2 => wpAny (model X.prog X.w) X.A (setFlight u none) (fun _ s3 => wpAny (model X.prog X.w) X.A (handleBy u X.env hs) (SP X pins D) X.xe s3) X.xe s2
abbrev Cx.inTryW (X : Cx) (pins : List (Addr × Obj)) (hs : List ExceptHandler) (D : Ends) : Cx := { X with pn := X.pn ++ pins, xe := fun u s' => wpAny (model X.prog X.w) X.A (noteFrame u X.env) (fun _ s2 => onW X pins hs D u s2) X.xe s' }
section
variable {X : Cx} {tpos : Pos} {body : List Stmt} {tb : Ends -> TS} {h0 : ExceptHandler} {hs : List ExceptHandler} {Tk : Ends -> XK}
theorem Inv.toTryW {pins : List (Addr × Obj)} {σ : St} {H : Hp} {s : Shared} {D : Ends} (I : Inv X pins σ H s) : Inv (X.inTryW pins hs D) [] σ H s :=
  ⟨⟨I.ok.mod, I.ok.kind, I.ok.glob, I.ok.blt, I.ok.above, I.ok.inj, I.ok.has, I.ok.cab, I.ok.hd, I.ok.frames, I.ok.stk, I.ok.exf, I.ok.bs, I.ok.bsz, I.ok.noex, I.ok.exfs, I.ok.funs, I.ok.frf⟩, I.os, I.bare, I.base, I.loc, I.cell, I.free, I.freeC, fun q hq => I.pin q (by simpa using hq), I.hok, I.len⟩
theorem Inv.ofTryW {pins : List (Addr × Obj)} {σ : St} {H : Hp} {s : Shared} {D : Ends} (ok : X.Ok) (I : Inv (X.inTryW pins hs D) [] σ H s) : Inv X pins σ H s :=
  ⟨ok, I.os, I.bare, I.base, I.loc, I.cell, I.free, I.freeC, fun q hq => I.pin q (by simpa using hq), I.hok, I.len⟩
theorem XU {pins : List (Addr × Obj)} {D : Ends} : PassesOwn (model (X.inTryW pins hs D).prog (X.inTryW pins hs D).w) (X.inTryW pins hs D).A (X.inTryW pins hs D).env (X.inTryW pins hs D).xe := PassesOwn.looking
theorem Yj {pins : List (Addr × Obj)} {D : Ends} (R : HB X hs Tk) (ok : X.Ok) (hst : X.stack = X.env :: X.outer := by rfl) (hf : X.env.frame = some X.env.locals := by rfl) : zO (CXf X.prog X.w) (X.inTryW pins hs D) (Tk D) := fun pins' σ H1 s1 u s2 I h => by
  have I0 : Inv (X.plusP pins) pins' σ H1 s1 := ⟨⟨I.ok.mod, I.ok.kind, I.ok.glob, I.ok.blt, I.ok.above, I.ok.inj, I.ok.has, I.ok.cab, I.ok.hd, I.ok.frames, I.ok.stk, I.ok.exf, I.ok.bs, I.ok.bsz, I.ok.noex, I.ok.exfs, I.ok.funs, I.ok.frf⟩, I.os, I.bare, I.base, I.loc, I.cell, I.free, I.freeC, I.pin, I.hok, I.len⟩
  obtain ⟨e, C, dx, H', k, rfl, I5, ne, hk, he, hp, st, hE⟩ := jt (X := X.plusP pins) rfl rfl I0 h
  have a : Air X (pins ++ pins') σ (Tk D) (.ref e) s2 := ⟨e, C, dx, H', k, rfl, I5.ofPlus ok, ne, hk, he, fun p q => hp p (by simpa using q), st, hE⟩
  have g := wW hst hf R a
  have sp : ∀ f s3, SP X (pins ++ pins') D f s3 -> SP X pins D f s3 := fun f s3 q => by
    cases f with
    | next => obtain ⟨σ', H5, I5, q⟩ := q; exact ⟨_, _, I5.few, q⟩
    | brk => obtain ⟨σ', H5, I5, q⟩ := q; exact ⟨_, _, I5.few, q⟩
    | cont => obtain ⟨σ', H5, I5, q⟩ := q; exact ⟨_, _, I5.few, q⟩
    | ret w => obtain ⟨v, σ', H5, I5, r, q⟩ := q; exact ⟨v, _, _, I5.few, r, q⟩
  exact wpAny_mono g (fun _ s2 q => wpAny_mono q (fun _ s3 q => wpAny_mono q sp fun _ _ z => z) fun _ _ z => z) fun _ _ z => z
def qU (tb : Ends -> TS) : TS := fun D σ H => tb D D σ H
theorem Vh (hb : ∀ pins D, X.Ok -> jSs (X.inTryW pins (h0 :: hs) D) body (tb D)) : jS X (.Try body (h0 :: hs) [] [] tpos) (qU tb) := by
  constructor
  intro pins s σ H D I h
  refine wpAny_Try_except (wpAny_mono ((hb pins D I.ok).out [] s σ H D I.toTryW h) (fun f s1 q => ?_) (fun u s1 q => q))
  cases f with
  | next =>
    obtain ⟨σ', H5, I5, q⟩ := q
    exact wpAny_execs_nil ⟨_, _, I5.ofTryW I.ok, q⟩
  | brk =>
    obtain ⟨σ', H5, I5, q⟩ := q
    exact ⟨_, _, I5.ofTryW I.ok, q⟩
  | cont =>
    obtain ⟨σ', H5, I5, q⟩ := q
    exact ⟨_, _, I5.ofTryW I.ok, q⟩
  | ret w =>
    obtain ⟨v, σ', H5, I5, r, q⟩ := q
    exact ⟨v, _, _, I5.ofTryW I.ok, r, q⟩
def qa (tc : TT) (tb : Ends -> TS) : TS := fun D σ H => wX tc (tb D) D σ H
theorem XV {c : Expr} {sts : List Stmt} {wpos : Pos} {tc : TT} (hc : ∀ pins D, X.Ok -> jT (X.inTryW pins (h0 :: hs) D) c tc) (hb : ∀ pins D, X.Ok -> jSs (X.inTryW pins (h0 :: hs) D) sts (tb D)) : jS X (.Try [.While c sts [] wpos] (h0 :: hs) [] [] tpos) (qa tc tb) :=
  Vh (tb := fun D => wX tc (tb D)) fun pins D ok => zk (vL XU (hc pins D ok) (hb pins D ok))
end
end L2
namespace PySem.W
open PySem PySem.Spec PySem.Calls PyProof.Rows
theorem wv {K : Frag} {C : Addr} {od : Option Obj} {name : Str} {a g : Value} (hc : (clsIn K C).isSome = true) (ha : findIn K (.ref C) name = some (some a)) (hg : specialIn K a "__get__" = some (some g)) (ht : takesIn K a = some true) : findObj K C od name = some (.bind g a) := by
  obtain ⟨cd, hc⟩ := Option.isSome_iff_exists.mp hc
  unfold findObj
  rw [hc, Option.bind_some, ha, Option.bind_some]
  simp [hg, ht]
section
variable {prog : Program} {w : World} {A : Around} {E : Value -> Shared -> Prop} {s : Shared} {K : Frag} {e C : Addr} {ox : Obj} {od : Option Obj}
theorem Yk {Q : Option Value -> Shared -> Prop} (X : K.In s.heap) (I : InstAt s.heap e ox C od) (hga : findIn K (.ref C) "__getattribute__" = some (some (.builtin "BaseException.__getattribute__"))) (hk : findIn K (.ref C) "__getattr__" = some none)
    (hb : subIn K (.ref C) (.type "BaseException") = some true) (hf : findObj K C od "__class__" = some (.bind (.builtin "getset_descriptor.__get__") (.builtin "object.__class__"))) (hm : mroIn K C (.type "object") = some true)
    (h : Q (some (.ref C)) { s with toks := s.toks + 1 }) : wpAny (model prog w) A (getAttr? (.ref e) "__class__") Q E s := by
  have ty := I.type (M := model prog w)
  have fd := looks_find (M := model prog w) X I hf
  unfold getAttr? getAttrBy?
  refine wpAny_bind (wpAny_mkText (wpAny_bind (wpAny_attempt ?_)))
  refine wpAny_holding (wpAny_bind (ty _ _ _ _ (fun _ _ q => q) (wpAny_bind (looks_findIn X hga _ _ _ _ (fun _ _ q => q) ?_))))
  dsimp only
  rw [show (onTheHeap (Value.ref C) && Value.builtin "BaseException.__getattribute__" == Value.builtin "object.__getattribute__") = false from by rw [show (Value.builtin "BaseException.__getattribute__" == Value.builtin "object.__getattribute__") = false from by decide +kernel, Bool.and_false], if_neg (by decide : ¬ (false = true))]
  refine wpAny_bind ((looks_hook (mc := .ref C) X (by rw [if_pos (show onTheHeap (.ref C) = true from rfl)]; exact hk)) _ _ _ _ (fun _ _ q => q) (wpAny_bind (wpAny_attempt (wpAny_holding ?_))))
  unfold callGetattribute
  rw [show (false && onTheHeap (Value.builtin "BaseException.__getattribute__")) = false from rfl, if_neg (by decide : ¬ (false = true))]
  unfold boundAndCalled
  rw [L2.xg_slot.bind]
  refine wpAny_bind (wpAny_pure (wpAny_call (codeAny_call_builtin L2.xg_slot.plain PySem.F.entry_bexc_ga ?_)))
  refine @check_slot (model prog w) _ _ { s with toks := s.toks + 1 } "BaseException.__getattribute__" "BaseException" "__getattribute__" (.ref e) [.str "__class__" s.toks] [] _ (by decide +kernel) (by decide +kernel) (ty.andThen (looks_subIn X hb)) (PySem.F.args_bexc_ga (.ref e) (.str "__class__" s.toks)) ?_
  refine wpAny_bind (wpAny_pure (wpAny_bind (wpAny_pure (wpAny_bind (ty _ _ _ _ (fun _ _ q => q) (wpAny_bind (fd _ _ _ _ (fun _ _ q => q) ?_)))))))
  show wpAny _ _ (holding [Value.builtin "object.__class__"] (call (.builtin "getset_descriptor.__get__") [.builtin "object.__class__", .ref e, .ref C]) >>= ret) _ _ _
  refine wpAny_bind (wpAny_holding (wpAny_call (class_get (s := { s with toks := s.toks + 1 }) X I hm ?_)))
  refine wpAny_pure ?_
  show wpAny _ _ (handedOut (.ref C)) _ _ _
  rw [handedOut_of rfl]
  exact wpAny_pure (wpAny_pure h)
end
theorem kitx_excO {K : Frag} {x D : Addr} {ox : Obj} {od : Option Obj} (c : XIs K D) : KitX K (.ref x) (.ref D) (fun h => InstAt h x ox D od) where
  ty := fun _ _ _ I => I.type
  it := fun _ _ X _ => by
    obtain ⟨cdD, hcD, _⟩ := any_some c.hd
    unfold clsIn at hcD
    split at hcD
    · rename_i c' d' cd' sl' ho
      intro A' Q' E' s' k q
      unfold isType loadHead
      exact wpAny_bind (wpAny_loadPart (k _ _ (X _ _ ho)) (wpAny_pure q))
    · cases hcD
  ne := fun h tp dd its n sl X htp => by
    obtain ⟨cdD, hcD, _⟩ := any_some c.hd
    refine Bool.eq_false_iff.mpr fun q => ?_
    have e : D = tp := Value.ref.inj (beq_iff_eq.mp q)
    subst e
    unfold clsIn at hcD
    split at hcD
    · rename_i c' d' cd' sl' ho
      have z := (X _ _ ho).symm.trans htp
      cases z
    · cases hcD
  ca := fun X I k => Yk X I c.ga c.ha c.sb (wv (by obtain ⟨cd, hc, _⟩ := any_some c.hd; rw [hc]; rfl) c.cl c.gs c.tk) c.mo k
end PySem.W
namespace L2
open PySem PySem.Spec PyProof.Rows
inductive ClsV : V -> Value -> Prop where
  | ref (C : Addr) : ClsV (.ref C) (.ref C)
  | ty (T : String) : ClsV (.ty T) (.type T)
theorem ClsV.un {D : V} {c c' : Value} (h : ClsV D c) (r : RelV D c') : c' = c := by
  cases h with
  | ref C => cases r; rfl
  | ty T => cases r; rfl
inductive ClsVs : List V -> List Value -> Prop where
  | nil : ClsVs [] []
  | cons {D : V} {c : Value} {Ds : List V} {cs : List Value} (h : ClsV D c) (t : ClsVs Ds cs) : ClsVs (D :: Ds) (c :: cs)
theorem ClsVs.un {Ds : List V} {cs : List Value} (h : ClsVs Ds cs) : ∀ {us : List Value}, Vals Ds us -> us = cs := by
  induction h with
  | nil => intro us r; cases r; rfl
  | cons a _ ih => intro us r; cases r with
    | cons p q => rw [a.un p, ih q]
inductive Asked (K : PySem.W.Frag) (t : Value) (H : Hp) : V -> Bool -> Prop where
  | one {D : V} {c : Value} {b : Bool} (h : ClsV D c) (e : PySem.W.kitOne K t c = some b) : Asked K t H D b
  | tup {tp : Addr} {Ds : List V} {cs : List Value} {b : Bool} (ht : H tp = some (.tup Ds)) (h : ClsVs Ds cs) (e : PySem.W.kitAny K t cs = some b) : Asked K t H (.ref tp) b
section
variable {X : Cx} {e C d : Addr} {oe : Obj} {pins : List (Addr × Obj)} {s : Shared} {σ : St} {H : Hp} {od : Option Obj} {D : V} {b : Bool} {u : Value} {Q : VK}
end
section
variable {X : Cx} {k : Nat} {C f : Addr} {ps : List Str} {sp : Sp} {x name : Str} {np cpos pos : Pos} {a ex : Expr} {as : List Expr} {t : TA} {te : TE}
end
end L2
namespace GN
open PySem L2 K11
theorem nxt {D : Ends} {σ : St} {H : Hp} (h : D.nx σ H) : Yw D σ H := h
theorem yq {b : Bool} {A B : Prop} (e : b = true) (h : A) : if b = true then A else B := by rw [if_pos e]; exact h
theorem yh {b : Bool} {A B : Prop} (e : b = false) (h : B) : if b = true then A else B := by rw [if_neg (by rw [e]; decide)]; exact h
def KX (S : List Addr) (H H' : Hp) : Prop := ∀ b o, b ∉ S -> H b = some o -> H' b = some o
section
variable {S S' : List Addr} {H H1 H2 : Hp} {a : Addr} {o : HO}
theorem KX.refl : KX S H H := fun _ _ _ h => h
theorem KX.trans (x : KX S H H1) (y : KX S H1 H2) : KX S H H2 := fun b o n h => y b o n (x b o n h)
theorem KX.mono (x : KX S H H1) (h : ∀ b ∈ S, b ∈ S') : KX S' H H1 := fun b o n q => x b o (fun z => n (h b z)) q
theorem KX.of (h : Same H H1) : KX S H H1 := fun b o _ q => h b o q
theorem KX.put (x : KX S H H1) (h : a ∈ S) : KX S H (upd H1 a o) := fun b u n q => by
  rw [zn (fun z => n (by rw [z]; exact h))]
  exact x b u n q
theorem KX.new (x : KX S H H1) (h : H1 a = none) : KX S H (upd H1 a o) := fun b u n q => by
  have := x b u n q
  rw [zn (zo this h)]
  exact this
end
inductive Dd
  | num (i : Int)
  | op (w a b : Str)
  | mk (t : Str) (ns : List Str)
def IsDd (H : Hp) : Dd -> Addr -> Prop
  | .num i, p => H p = some (.tup [.str "num", .int i])
  | .op w a b, p => H p = some (.tup [.str "op", .str w, .str a, .str b])
  | .mk t ns, p => ∃ q, H p = some (.tup [.str "make", .str t, .ref q]) /\ H q = some (.tup (ns.map V.str))
theorem IsDd.keep {H H' : Hp} (t : Tups H H') : ∀ {d : Dd} {p : Addr}, IsDd H d p -> IsDd H' d p
  | .num _, _, h => t _ _ h
  | .op _ _ _, _, h => t _ _ h
  | .mk _ _, _, ⟨q, a, b⟩ => ⟨q, t _ _ a, t _ _ b⟩
def IsBy (H : Hp) : List (Str × Dd) -> Str -> Addr -> Prop
  | [], x, p => H p = some (.tup [.str "give", .str x])
  | (n, d) :: r, x, p => ∃ pd pb, H p = some (.tup [.str "let", .str n, .ref pd, .ref pb]) /\ IsDd H d pd /\ IsBy H r x pb
theorem IsBy.keep {H H' : Hp} (t : Tups H H') : ∀ {l : List (Str × Dd)} {x : Str} {p : Addr}, IsBy H l x p -> IsBy H' l x p
  | [], _, _, h => t _ _ h
  | (_, _) :: _, _, _, ⟨pd, pb, a, b, c⟩ => ⟨pd, pb, t _ _ a, b.keep t, c.keep t⟩
abbrev En := List (Str × List V)
def valE (e : En) (n : Str) : Option (List V) := (e.find? fun p => decide (p.1 = n)).map (·.2)
def putE (e : En) (n : Str) (v : List V) : En := if (e.any fun p => decide (p.1 = n)) = true then e.map (fun p => if p.1 = n then (p.1, v) else p) else e ++ [(n, v)]
theorem yW (n : Str) : ∀ e : En, (e.any fun p => decide (p.1 = n)) = (valE e n).isSome
  | [] => rfl
  | p :: r => by
    rw [List.any_cons]
    unfold valE
    rw [List.find?_cons]
    by_cases c : p.1 = n
    · simp [c]
    · rw [decide_eq_false c, Bool.false_or]
      exact yW n r
theorem vZ {e : En} {n m : Str} {v : List V} (h : m = n \/ (valE e m).isSome = true) : (valE (putE e n v) m).isSome = true := by
  rw [<- yW, List.any_eq_true]
  unfold putE
  by_cases a : (e.any fun p => decide (p.1 = n)) = true
  · rw [if_pos a]
    have : (e.any fun p => decide (p.1 = m)) = true := by
      rcases h with rfl | h
      · exact a
      · rw [yW]; exact h
    obtain ⟨p, hp, hd⟩ := List.any_eq_true.mp this
    refine ⟨_, List.mem_map.mpr ⟨p, hp, rfl⟩, ?_⟩
    split
    · exact hd
    · exact hd
  · rw [if_neg a]
    rcases h with rfl | h
    · exact ⟨_, List.mem_append_right _ (List.mem_singleton.mpr rfl), by simp⟩
    · rw [<- yW] at h
      obtain ⟨p, hp, hd⟩ := List.any_eq_true.mp h
      exact ⟨p, List.mem_append_left _ hp, hd⟩
inductive ER (R : V -> List V -> Prop) : List (Key × V) -> En -> Prop
  | nil : ER R [] []
  | cons {n : Str} {v : V} {f : List V} {kvs : List (Key × V)} {e : En} : R v f -> ER R kvs e -> ER R ((.inr n, v) :: kvs) ((n, f) :: e)
section
variable {R R' : V -> List V -> Prop} {kvs : List (Key × V)} {e : En} {n : Str} {v : V} {f : List V}
theorem ER.mono (h : ER R kvs e) (g : ∀ v f, R v f -> R' v f) : ER R' kvs e := by
  induction h with
  | nil => exact .nil
  | cons a _ ih => exact .cons (g _ _ a) ih
theorem ER.len (h : ER R kvs e) : kvs.length = e.length := by
  induction h with
  | nil => rfl
  | cons _ _ ih => rw [List.length_cons, List.length_cons, ih]
theorem ER.val (h : ER R kvs e) (g : valE e n = some f) : ∃ v, valV kvs (.inr n) = some v /\ R v f := by
  induction h with
  | nil => cases g
  | @cons m u w kvs e a _ ih =>
    unfold valE at g
    rw [List.find?_cons] at g
    by_cases c : m = n
    · rw [decide_eq_true c] at g
      cases g
      exact ⟨u, zV (by rw [c]), a⟩
    · rw [decide_eq_false c] at g
      obtain ⟨v, h1, h2⟩ := ih g
      exact ⟨v, by rw [zW (fun z => c (Sum.inr.inj z))]; exact h1, h2⟩
theorem ER.any (h : ER R kvs e) : (kvs.any fun kv => decide (kv.1 = (Sum.inr n : Key))) = (e.any fun p => decide (p.1 = n)) := by
  induction h with
  | nil => rfl
  | @cons m u w kvs e a _ ih =>
    rw [List.any_cons, List.any_cons, ih]
    congr 1
    by_cases c : m = n
    · rw [decide_eq_true c, decide_eq_true (by rw [c])]
    · rw [decide_eq_false c, decide_eq_false (fun z => c (Sum.inr.inj z))]
theorem ER.app {k2 : List (Key × V)} {e2 : En} (h : ER R kvs e) (g : ER R k2 e2) : ER R (kvs ++ k2) (e ++ e2) := by
  induction h with
  | nil => exact g
  | cons a _ ih => exact .cons a ih
theorem ER.mapput (h : ER R kvs e) (g : R v f) : ER R (kvs.map fun kv => if kv.1 = Sum.inr n then (kv.1, v) else kv) (e.map fun p => if p.1 = n then (p.1, f) else p) := by
  induction h with
  | nil => exact .nil
  | @cons m u w kvs e a _ ih =>
    rw [List.map_cons, List.map_cons]
    by_cases c : m = n
    · rw [if_pos (by rw [c]), if_pos c]
      exact .cons g ih
    · rw [if_neg (fun z => c (Sum.inr.inj z)), if_neg c]
      exact .cons a ih
theorem ER.put (h : ER R kvs e) (g : R v f) : ER R (putK kvs (.inr n) v) (putE e n f) := by
  unfold putK putE
  rw [h.any]
  split
  · exact h.mapput g
  · exact h.app (.cons g .nil)
end
def Vl (H : Hp) (v : V) (f : List V) : Prop := PtL H [v] f /\ ∀ i, v = .int i -> Sm i
theorem Vl.keep {H H' : Hp} {v : V} {f : List V} (t : Tups H H') (h : Vl H v f) : Vl H' v f := ⟨h.1.keep t, h.2⟩
def nf : List V -> Option Int
  | .int i :: _ => some i
  | _ => none
theorem Vl.nu {H : Hp} {v : V} {f : List V} (h : Vl H v f) : K31.Nu H v (nf f) := by
  obtain ⟨h1, h2⟩ := h
  cases h1 with
  | num _ => exact .int (h2 _ rfl)
  | shp a _ _ _ _ => exact .tup a
theorem Vl.int {H : Hp} {i : Int} (h : Sm i) : Vl H (.int i) [.int i] := ⟨.num .nil, fun j e => by cases e; exact h⟩
def outE (e : En) : Dd -> List V ⊕ Str
  | .num i => .inl [.int i]
  | .op w a b => if K31.fw w (nf ((valE e a).getD [])) (nf ((valE e b).getD [])) = "" then .inl [.int (K31.res w ((nf ((valE e a).getD [])).getD 0) ((nf ((valE e b).getD [])).getD 0))] else .inr (K31.fw w (nf ((valE e a).getD [])) (nf ((valE e b).getD [])))
  | .mk t ns => .inl (.str t :: (ns.map fun n => (valE e n).getD []).flatten)
def goE : En -> List (Str × Dd) -> Str -> List V ⊕ Str
  | e, [], x => .inl ((valE e x).getD [])
  | e, (n, d) :: r, x => match outE e d with
    | .inl f => goE (putE e n f) r x
    | .inr w => .inr w
def OkD (ks : List Str) : Dd -> Prop
  | .num i => Sm i
  | .op _ a b => a ∈ ks /\ b ∈ ks
  | .mk _ ns => (∀ n ∈ ns, n ∈ ks) /\ ns.length <= 3
def OkB : List Str -> List (Str × Dd) -> Str -> Prop
  | ks, [], x => x ∈ ks
  | ks, (n, d) :: r, x => OkD ks d /\ OkB (ks ++ [n]) r x
def Bnd (ks : List Str) (e : En) : Prop := ∀ n ∈ ks, (valE e n).isSome = true
theorem Bnd.get {ks : List Str} {e : En} (h : Bnd ks e) {n : Str} (m : n ∈ ks) : ∃ f, valE e n = some f := Option.isSome_iff_exists.mp (h n m)
theorem Bnd.put {ks : List Str} {e : En} (h : Bnd ks e) {n : Str} {f : List V} : Bnd (ks ++ [n]) (putE e n f) := fun m hm => by
  rcases List.mem_append.mp hm with hm | hm
  · exact vZ (.inr (h m hm))
  · exact vZ (.inl (List.mem_singleton.mp hm))
theorem Vi {w : Str} {x y : Option Int} (h : K31.fw w x y = "") : ∃ i j, x = some i /\ y = some j /\ -1000000000000000000000000000000 < K31.res w i j /\ K31.res w i j < 1000000000000000000000000000000 := by
  match x, y, h with
  | some i, some j, h =>
    rw [K31.fw_ss] at h
    split at h
    · cases h
    · split at h
      · rename_i c
        exact ⟨i, j, rfl, rfl, c⟩
      · cases h
  | none, _, h => cases h
  | some _, none, h => cases h
theorem PtL.flat {H : Hp} : ∀ {vs : List V} {fs : List (List V)}, vs.length = fs.length -> (∀ (j : Nat) v f, vs[j]? = some v -> fs[j]? = some f -> PtL H [v] f) -> PtL H vs fs.flatten
  | [], [], _, _ => .nil
  | [], _ :: _, h, _ => by simp at h
  | _ :: _, [], h, _ => by simp at h
  | v :: vs, f :: fs, h, g => by
    rw [List.flatten_cons]
    exact PtL.app (us := [v]) (g 0 v f rfl rfl) (PtL.flat (by simpa using h) fun j v f h1 h2 => g (j + 1) v f h1 h2)
end GN
namespace GN
open PySem L2 K11
structure Rn (K : PySem.W.Frag) (cR : Addr) : Prop where
  cl : Cls K cR
  a1 : NoAttr K cR "defs"
  a2 : NoAttr K cR "steps"
  a3 : NoAttr K cR "done"
  a4 : NoAttr K cR "waiting"
  a5 : NoAttr K cR "body"
  a6 : NoAttr K cR "names"
  a7 : NoAttr K cR "end"
abbrev RF (d : Addr) (st : Int) (wl : Addr) (b : V) (nd : Addr) (e : V) : List (Str × V) := [("defs", .ref d), ("steps", .int st), ("done", .int 0), ("waiting", .ref wl), ("body", b), ("names", .ref nd), ("end", e)]
def RO (cR dx d : Addr) (st : Int) (wl : Addr) (b : V) (nd : Addr) (e : V) : HO := .ins cR dx (RF d st wl b nd e)
def ErrW (C : Addr) (E : XK) (H : Hp) (w : Str) : Prop := ∀ dd H', Same H H' -> H' dd = some (XD dd [("word", .str w)]) -> E (.ref C) (some dd) H'
theorem ErrW.at {C : Addr} {E : XK} {H H1 : Hp} {w : Str} (h : ErrW C E H w) (s : Same H H1) : ErrW C E H1 w := fun dd H' s' e => h dd H' (s.trans s') e
def vals (kvs : List (Key × V)) (ns : List Str) : List V := ns.map fun n => (valV kvs (.inr n)).getD .non
def v0 (cR : Addr) : Sp := fun vs H Q _ => ∃ (r dx d wl nd q : Addr) (st : Int) (b en : V) (kvs : List (Key × V)) (ns : List Str), vs = [.ref r, .ref q] /\ H r = some (RO cR dx d st wl b nd en) /\ H nd = some (.dK kvs) /\ H q = some (.tup (ns.map V.str)) /\ (∀ n ∈ ns, ∃ v, valV kvs (.inr n) = some v) /\ ns.length <= 1000 /\ ∀ H' l, Same H H' -> H' l = some (.lst (vals kvs ns)) -> Q (.ref l) H'
def VO (cR C : Addr) : Sp := fun vs H Q E => ∃ (r dx d wl nd p : Addr) (st : Int) (b en : V) (kvs : List (Key × V)) (e : En) (ks : List Str) (dd : Dd), vs = [.ref r, .ref p] /\ H r = some (RO cR dx d st wl b nd en) /\ H nd = some (.dK kvs) /\ ER (Vl H) kvs e /\ Bnd ks e /\ OkD ks dd /\ IsDd H dd p /\
  (∀ f, outE e dd = .inl f -> ∀ H' v, Same H H' -> Vl H' v f -> Q v H') /\ ∀ w, outE e dd = .inr w -> ErrW C E H w
section
variable {P : Program} {w : World} {K : PySem.W.Frag} {mg : Str -> Option Value} {base : Heap} {f R C cR : Addr} {fd : FuncData}
theorem XW : FnScope ["self", "names"] ["self", "names"] (zm vq) := ⟨rfl, rfl, rfl, by decide +kernel, rfl, by decide +kernel, by decide +kernel⟩
theorem XY : (["self", "names", "name"] : List Str).Nodup := by decide +kernel
theorem Yl (F : Fun K "valued" "Run.valued" vq f fd) (T : Rn K cR) : FnOk P w K mg base CX0 1 f fd ["self", "names"] (v0 cR) := by
  refine F.by XW (fun vs H Q E h => ?_) (fun cdv A outer s H vs Q E hr h => ?_)
  · obtain ⟨r, dx, d, wl, nd, q, st, b, en, kvs, ns, rfl, _⟩ := h
    rfl
  obtain ⟨r, dx, d, wl, nd, q, st, b, en, kvs, ns, rfl, hR, hN, hq, hall, hl, qq⟩ := h
  refine ⟨_, (zk (zw (xP ["name"] rfl (x0 (jv 1)) (fun _ _ _ _ _ => (zQ (i := 2) XY rfl (Or.inl rfl))) (fun _ _ _ _ _ => yA) (fun _ _ _ _ _ => (yC hr (Zq K (jv 0)) (jv 2)))))), ?_⟩
  have sl := zX
  refine ⟨_, rfl, _, rfl, ⟨_, SqT.of hq⟩, Y1 (xs := ns.map V.str) (fun j τ ys H' => H' = H /\ (∃ v, τ = [some (.ref r), some (.ref q), v]) /\ ys = vals kvs (ns.take j)) ⟨rfl, ⟨none, rfl⟩, rfl⟩ (fun j τ ys H' _ h => by rw [h.1]; exact SqT.of hq) ?_ ?_⟩
  · rintro j v τ ys H1 hv ⟨rfl, ⟨u, rfl⟩, rfl⟩
    rw [List.getElem?_map] at hv
    obtain ⟨n, hn, rfl⟩ := Option.map_eq_some_iff.mp hv
    obtain ⟨v, hv⟩ := hall n (List.mem_of_getElem? hn)
    have hj := (List.getElem?_eq_some_iff.mp hn).1
    refine ⟨_, rfl, r, cR, dx, _, _, rfl, hR, T.cl, T.a6, rfl, _, rfl, nd, v, rfl, ?_, ?_, rfl, ⟨_, rfl⟩, ?_⟩
    · rw [<- hv]
      exact DGet.k (k := .inr n) hN
    · unfold vals
      rw [List.length_map, List.length_take]
      omega
    · unfold vals
      rw [List.take_add_one, hn, List.map_append]
      show _ = _ ++ [(valV kvs (.inr n)).getD .non]
      rw [hv]
      rfl
  · rintro τ ys H1 ⟨rfl, _, rfl⟩ l hl'
    rw [List.length_map, List.take_of_length_le (Nat.le_refl _)]
    exact qq _ l (same_new hl' _) zg
theorem scOut : FnScope ["self", "deed", "tag"] ["self", "deed"] (zm sOut) := ⟨rfl, rfl, rfl, by decide +kernel, rfl, by decide +kernel, by decide +kernel⟩
theorem qb (F : Fun K "outcome" "Run.outcome" sOut f fd) (T : Rn K cR) (GV : Me P w K mg base CX0 1 cR "valued" ["self", "names"] (v0 cR)) (GR : Ca P w K mg base (CXf P w) 3 "reckoned" ["word", "a", "b"] (K31.spReck C)) (m_tuple : mg "tuple" = none) : FnOk P w K mg base (CXf P w) 4 f fd ["self", "deed"] (VO cR C) := by
  refine F.byx scOut (fun vs H Q E h => ?_) (fun cdv A outer s H vs Q E hr h => ?_)
  · obtain ⟨r, dx, d, wl, nd, p, st, b, en, kvs, e, ks, dd, rfl, _⟩ := h
    rfl
  obtain ⟨r, dx, d, wl, nd, p, st, b, en, kvs, e, ks, dd, rfl, hR, hN, hE, hB, hO, hD, q1, q2⟩ := h
  have r1 : Room 1 _ := hr.mono (by decide)
  refine ⟨_,
    (zi (zK (zr zS (zq zx (jv 1) zj (fun _ _ => rfl)) zu (zv _)) (zk (zw (zq zx (jv 1) zj (fun _ _ => rfl)))) zB)
    (zi (zK (zr zS (zq zx (jv 1) zj (fun _ _ => rfl)) zu (zv _)) (zk (zw (zC GR hr rfl yk (ja_c (zq zx (jv 1) zj (fun _ _ => rfl)) (ja_c (yC hr (yL (jv 0)) (zq zx (jv 1) zj (fun _ _ => rfl))) (ja_c (yC hr (yL (jv 0)) (zq zx (jv 1) zj (fun _ _ => rfl))) zh)))))) zB)
    (zi (zt (i := 2) scOut.nd rfl (Or.inl rfl) (xZ (zr zS (zq zx (jv 1) zj (fun _ _ => rfl)) zu (zv _)) (zq zx (jv 1) zj (fun _ _ => rfl)) XE))
    (zk (zw (zN (ja_c (jv 2) (ja_c (yI yB rfl m_tuple PyProof.Rows.boot_tuple (ja_c (vR (jv 0) T.cl GV.upx r1 yk (ja_c (zq zx (jv 1) zj (fun _ _ => rfl)) zh)) zh)) zh)))))))), ?_⟩
  have sl := zX
  match dd, hO, hD with
  | .num i, hO, hD =>
    have hD : H p = some (.tup [.str "num", .int i]) := hD
    refine ⟨_, rfl, p, _, _, _, rfl, rfl, SqT.of hD, rfl, rfl, _, rfl, yq (by decide +kernel) ?_⟩
    exact ⟨_, rfl, p, _, _, _, rfl, rfl, SqT.of hD, zp (j := 1) rfl, q1 _ rfl _ _ (Same.refl _) (Vl.int hO)⟩
  | .op ww a b', hO, hD =>
    have hD : H p = some (.tup [.str "op", .str ww, .str a, .str b']) := hD
    obtain ⟨fa, ea⟩ := hB.get hO.1
    obtain ⟨fb, eb⟩ := hB.get hO.2
    obtain ⟨va, a1, a2⟩ := hE.val ea
    obtain ⟨vb, b1, b2⟩ := hE.val eb
    refine ⟨_, rfl, p, _, _, _, rfl, rfl, SqT.of hD, rfl, rfl, _, rfl, yh (by decide +kernel) (nxt ?_)⟩
    refine ⟨_, rfl, p, _, _, _, rfl, rfl, SqT.of hD, rfl, rfl, _, rfl, yq (by decide +kernel) ?_⟩
    refine ⟨_, rfl, p, _, _, _, rfl, rfl, SqT.of hD, zp (j := 1) rfl, _, rfl, r, cR, dx, _, _, rfl, hR, T.cl, T.a6, rfl, _, rfl, p, _, _, _, rfl, rfl, SqT.of hD, zp (j := 2) rfl, nd, va, rfl, ?_, _, rfl, r, cR, dx, _, _, rfl, hR, T.cl, T.a6, rfl, _, rfl, p, _, _, _, rfl, rfl, SqT.of hD, zp (j := 3) rfl, nd, vb, rfl, ?_, ww, va, vb, nf fa, nf fb, rfl, a2.nu, b2.nu, fun hf i j H' s' e1 e2 => ?_, fun hf dd H' s' hd => ?_⟩
    · rw [<- a1]; exact DGet.k (k := .inr a) hN
    · rw [<- b1]; exact DGet.k (k := .inr b') hN
    · have eo : outE e (.op ww a b') = .inl [.int (K31.res ww i j)] := by
        unfold outE
        dsimp only
        rw [ea, eb]
        show (if K31.fw ww (nf fa) (nf fb) = "" then _ else _) = _
        rw [if_pos hf]
        show Sum.inl [V.int (K31.res ww ((nf fa).getD 0) ((nf fb).getD 0))] = _
        rw [e1, e2]
        rfl
      obtain ⟨i', j', c1, c2, c3⟩ := Vi hf
      rw [e1] at c1
      rw [e2] at c2
      cases c1
      cases c2
      exact q1 _ eo _ _ s' (Vl.int c3)
    · have eo : outE e (.op ww a b') = .inr (K31.fw ww (nf fa) (nf fb)) := by
        unfold outE
        dsimp only
        rw [ea, eb]
        show (if K31.fw ww (nf fa) (nf fb) = "" then _ else _) = _
        rw [if_neg hf]
        rfl
      exact q2 _ eo dd H' s' hd
  | .mk t ns, hO, hD =>
    obtain ⟨pq, hD, hQ⟩ : ∃ q, H p = some (.tup [.str "make", .str t, .ref q]) /\ H q = some (.tup (ns.map V.str)) := hD
    have hall : ∀ n ∈ ns, ∃ v, valV kvs (.inr n) = some v := fun n hn => by
      obtain ⟨fa, ea⟩ := hB.get (hO.1 n hn)
      obtain ⟨va, a1, _⟩ := hE.val ea
      exact ⟨va, a1⟩
    have l3 := hO.2
    refine ⟨_, rfl, p, _, _, _, rfl, rfl, SqT.of hD, rfl, rfl, _, rfl, yh (by decide +kernel) (nxt ?_)⟩
    refine ⟨_, rfl, p, _, _, _, rfl, rfl, SqT.of hD, rfl, rfl, _, rfl, yh (by decide +kernel) (nxt ?_)⟩
    refine ⟨_, rfl, p, _, _, _, rfl, rfl, SqT.of hD, rfl, rfl, _, rfl, yq (by decide +kernel) ?_⟩
    refine ⟨_, rfl, p, _, _, _, rfl, rfl, SqT.of hD, zp (j := 1) rfl, ?_⟩
    refine ⟨_, rfl, _, rfl, r, dx, _, rfl, hR, rfl, _, rfl, p, _, _, _, rfl, rfl, SqT.of hD, zp (j := 2) rfl, r, dx, d, wl, nd, pq, st, b, en, kvs, ns, rfl, hR, hN, hQ, hall, by omega, fun H1 l s1 hl => ?_⟩
    refine ⟨l, _, rfl, .inl ⟨SqL.of hl, fun tp htp => ⟨by show 2 <= sizeLine; decide, fun tv htv => ?_⟩⟩⟩
    have n1 := (same_new htp (.tup (vals kvs ns))).new (o := .tup [.str t, .ref tp]) htv
    have s2 := s1.trans n1
    refine q1 _ rfl _ _ s2 ⟨?_, fun i z => by cases z⟩
    have := PtL.shp (vs := []) (ys := []) (zg (H := upd H1 tp (.tup (vals kvs ns))) (a := tv) (o := .tup [.str t, .ref tp])) (old htv zg) (by unfold vals; rw [List.length_map]; omega) (PtL.flat (fs := ns.map fun n => (valE e n).getD []) (by unfold vals; rw [List.length_map, List.length_map]) fun j v f h1 h2 => ?_) .nil
    · rw [List.append_nil] at this
      exact this
    · unfold vals at h1
      rw [List.getElem?_map] at h1 h2
      obtain ⟨n, hn, rfl⟩ := Option.map_eq_some_iff.mp h1
      rw [hn] at h2
      have h2 : some ((valE e n).getD []) = some f := h2
      cases h2
      obtain ⟨fa, ea⟩ := hB.get (hO.1 n (List.mem_of_getElem? hn))
      obtain ⟨va, a1, a2⟩ := hE.val ea
      rw [a1, ea]
      exact (a2.1.keep (.of s2))
end
end GN
namespace GN
open PySem L2 K11
theorem KX.tups {S : List Addr} {H H' : Hp} (k : KX S H H') (h : ∀ a ∈ S, ∀ xs, H a ≠ some (.tup xs)) : Tups H H' := fun p xs q => k p _ (fun z => h p z xs q) q
def VP (cR C : Addr) : Sp := fun vs H Q E => ∃ (r dx d wl nd p pb : Addr) (st : Int) (b : V) (n : Str) (kvs : List (Key × V)) (e : En) (ks : List Str) (dd : Dd), vs = [.ref r, .str n, .ref p, .ref pb] /\ H r = some (RO cR dx d st wl b nd .non) /\ H nd = some (.dK kvs) /\ kvs.length <= 1000 /\ ER (Vl H) kvs e /\ Bnd ks e /\ OkD ks dd /\ IsDd H dd p /\
  (∀ f, outE e dd = .inl f -> ∀ H' kvs', KX [r, nd] H H' -> H' r = some (RO cR dx d st wl (.ref pb) nd .non) -> H' nd = some (.dK kvs') -> ER (Vl H') kvs' (putE e n f) -> kvs'.length <= kvs.length + 1 -> Q .non H') /\ ∀ w, outE e dd = .inr w -> ErrW C E H w
def XZ (cR T : Addr) : Sp := fun vs H Q _ => ∃ (r dx d wl nd : Addr) (st : Int) (b v : V) (f : List V), vs = [.ref r, v] /\ H r = some (RO cR dx d st wl b nd .non) /\ H wl = some (.lst []) /\ Tb T H /\ Vl H v f /\
  ∀ H' tp l, KX [r, T] H H' -> Tb T H' -> H' r = some (RO cR dx d st wl b nd (.ref tp)) -> H' tp = some (.tup [.str "told", .ref l]) -> H' l = some (.lst (f.take 100)) -> H l = none -> Q .non H'
def spGo (cR C T : Addr) : Sp := fun vs H Q E => ∃ (r dx d wl nd pb : Addr) (st : Int) (kvs : List (Key × V)) (e : En) (ks : List Str) (rows : List (Str × Dd)) (x : Str), vs = [.ref r] /\ H r = some (RO cR dx d st wl (.ref pb) nd .non) /\ H wl = some (.lst []) /\ Tb T H /\ H nd = some (.dK kvs) /\ kvs.length <= 1000 /\ ER (Vl H) kvs e /\ Bnd ks e /\ OkB ks rows x /\ IsBy H rows x pb /\
  (rows = [] -> ∀ H' tp l, KX [r, T] H H' -> Tb T H' -> H' r = some (RO cR dx d st wl (.ref pb) nd (.ref tp)) -> H' tp = some (.tup [.str "told", .ref l]) -> H' l = some (.lst (((valE e x).getD []).take 100)) -> H l = none -> Q .non H') /\
  (∀ n dd rest, rows = (n, dd) :: rest -> (∀ f, outE e dd = .inl f -> ∀ H' kvs' pb', KX [r, nd] H H' -> H' r = some (RO cR dx d st wl (.ref pb') nd .non) -> H' nd = some (.dK kvs') -> ER (Vl H') kvs' (putE e n f) -> kvs'.length <= kvs.length + 1 -> IsBy H' rest x pb' -> Q .non H') /\ ∀ w, outE e dd = .inr w -> ErrW C E H w)
theorem X0 (kvs : List (Key × V)) (k : Key) (v : V) : (putK kvs k v).length <= kvs.length + 1 := by
  unfold putK
  split
  · rw [List.length_map]; omega
  · rw [List.length_append]; exact Nat.le_refl _
section
variable {P : Program} {w : World} {K : PySem.W.Frag} {mg : Str -> Option Value} {base : Heap} {f R C cR T : Addr} {fd : FuncData}
theorem qV : FnScope ["self", "wants", "deed", "body"] ["self", "wants", "deed", "body"] (zm sLet) := ⟨rfl, rfl, rfl, by decide +kernel, rfl, by decide +kernel, by decide +kernel⟩
theorem Dd.word {H : Hp} : ∀ {dd : Dd} {p : Addr}, IsDd H dd p -> ∃ z rest, H p = some (.tup (.str z :: rest)) /\ z ≠ "call" /\ z ≠ "ask"
  | .num i, p, h => ⟨_, _, h, by decide +kernel, by decide +kernel⟩
  | .op _ _ _, p, h => ⟨_, _, h, by decide +kernel, by decide +kernel⟩
  | .mk _ _, p, ⟨q, h, _⟩ => ⟨_, _, h, by decide +kernel, by decide +kernel⟩
theorem qc (F : Fun K "let" "Run.let" sLet f fd) (N : Rn K cR) (GO : Me P w K mg base (CXf P w) 4 cR "outcome" ["self", "deed"] (VO cR C)) : FnOk P w K mg base (CXf P w) 5 f fd ["self", "wants", "deed", "body"] (VP cR C) := by
  refine F.byx qV (fun vs H Q E h => ?_) (fun cdv A outer s H vs Q E hr h => ?_)
  · obtain ⟨r, dx, d, wl, nd, p, pb, st, b, n, kvs, e, ks, dd, rfl, _⟩ := h
    rfl
  obtain ⟨r, dx, d, wl, nd, p, pb, st, b, n, kvs, e, ks, dd, rfl, hR, hN, hk, hE, hB, hO, hD, q1, q2⟩ := h
  refine ⟨_,
    (zk (zK (zr zS (zq zx (jv 2) zj (fun _ _ => rfl)) zu (zv _)) (zk ym)
      (zk (zK (zr zS (zq zx (jv 2) zj (fun _ _ => rfl)) zu (zv _)) (zk ym)
        (zi (vm hr (yL (jv 0)) (jv 1) (vR (jv 0) N.cl GO hr yk (ja_c (jv 2) zh)))
        (zk (yw (jv 0) (jv 3)))))))), ?_⟩
  have sl := zX
  obtain ⟨z, rest, hz, z1, z2⟩ := Dd.word hD
  refine ⟨_, rfl, p, _, _, _, rfl, rfl, SqT.of hz, zp (j := 0) rfl, rfl, _, rfl, yh (decide_eq_false fun h => z1 (V.str.inj h)) ?_⟩
  refine ⟨_, rfl, p, _, _, _, rfl, rfl, SqT.of hz, zp (j := 0) rfl, rfl, _, rfl, yh (decide_eq_false fun h => z2 (V.str.inj h)) ?_⟩
  refine ⟨_, rfl, r, dx, _, rfl, hR, rfl, _, rfl, r, dx, d, wl, nd, p, st, b, .non, kvs, e, ks, dd, rfl, hR, hN, hE, hB, hO, hD, fun ff ho H1 v s1 hv => ?_, fun w hw => q2 w hw⟩
  have hR1 := s1 _ _ hR
  have hN1 := s1 _ _ hN
  have nrn : nd ≠ r := fun z => by
    rw [z, hR] at hN
    cases hN
  refine ⟨_, rfl, r, cR, dx, _, _, rfl, hR1, N.cl, N.a6, rfl, _, rfl, nd, _, rfl, DPut.k (k := .inr n) hN1 (by omega), ?_⟩
  refine ⟨_, rfl, _, rfl, r, cR, dx, _, rfl, by rw [zn nrn.symm]; exact hR1, N.cl, N.a5, by show 7 < 1000; decide, ?_⟩
  have tu : Tups H1 (upd (upd H1 nd (.dK (putK kvs (.inr n) v))) r (RO cR dx d st wl (.ref pb) nd .non)) := fun a xs ha => by
    rw [zn (zM ha hR1 (by intro z; cases z)), zn (zM ha hN1 (by intro z; cases z))]
    exact ha
  refine q1 ff ho _ (putK kvs (.inr n) v) (((KX.of s1).put (by simp)).put (by simp)) zg (by rw [zn nrn]; exact zg) ?_ (X0 _ _ _)
  exact ((hE.mono fun v f h => h.keep (.of s1)).put hv).mono fun v f h => h.keep tu
theorem qd : FnScope ["self", "value", "last"] ["self", "value"] (zm Xg) := ⟨rfl, rfl, rfl, by decide +kernel, rfl, by decide +kernel, by decide +kernel⟩
theorem Vj (F : Fun K "give" "Run.give" Xg f fd) (N : Rn K cR) (GP : CaD P w K mg base CX0 3 "parts_of" ["value", "most"] [.int 100] (Zt T)) (m_len : mg "len" = none) : FnOk P w K mg base CX0 4 f fd ["self", "value"] (XZ cR T) := by
  refine F.by qd (fun vs H Q E h => ?_) (fun cdv A outer s H vs Q E hr h => ?_)
  · obtain ⟨r, dx, d, wl, nd, st, b, v, ff, rfl, _⟩ := h
    rfl
  obtain ⟨r, dx, d, wl, nd, st, b, v, ff, rfl, hR, hW, hT, hv, q⟩ := h
  refine ⟨_,
    (zk (zK (zr zS (zE zF rfl m_len PySem.boot_len (ja_c (yL (jv 0)) zh)) zj (zv _))
      (zk (yw (jv 0) (zN (ja_c zu (ja_c (JT GP hr rfl zJ (ja_c (jv 1) zh)) zh)))))
      (zi ym (zi ym (zi ym (zk ym)))))), ?_⟩
  have sl := zX
  refine ⟨_, rfl, r, cR, dx, _, _, rfl, hR, N.cl, N.a4, rfl, wl, _, rfl, .inl (SqL.of hW), rfl, _, rfl, yq rfl ?_⟩
  obtain ⟨ps0, hTt⟩ := hT.tbl
  have nTr : r ≠ T := fun z => by
    rw [z, hTt] at hR
    cases hR
  refine ⟨_, rfl, v, 100, ff, rfl, by decide, hT, hv.1, fun H1 l k1 T1 hl0 hl => ⟨by show 2 <= sizeLine; decide, fun tp htp => ?_⟩⟩
  have hR1 := k1 _ _ nTr hR
  have nrl : r ≠ tp := zo hR1 htp
  refine ⟨_, rfl, r, cR, dx, _, rfl, by rw [zn nrl]; exact hR1, N.cl, N.a7, by show 7 < 1000; decide, ?_⟩
  have n2 := same_new htp (.tup [.str "told", .ref l])
  have nlr : l ≠ r := fun z => by
    rw [z, hR] at hl0
    cases hl0
  refine q _ tp l ?_ ?_ zg (by rw [zn nrl.symm]; exact zg) (by rw [zn nlr]; exact n2 _ _ hl) hl0
  · have : KX [r, T] H H1 := fun a o na ha => k1 a o (fun z => na (by simp [z])) ha
    exact (this.new htp).put (by simp)
  · obtain ⟨ps, e1, e2⟩ := T1.same n2
    refine ⟨ps, by rw [zn nTr.symm]; exact e1, ?_⟩
    rcases e2 with e2 | ⟨c, e2, e3⟩
    · exact .inl e2
    · exact .inr ⟨c, e2, by rw [zn (zM e3 (n2 _ _ hR1) (by unfold CodO RO; intro z; cases z))]; exact e3⟩
theorem scGo : FnScope ["self", "body"] ["self"] (zm sGo) := ⟨rfl, rfl, rfl, by decide +kernel, rfl, by decide +kernel, by decide +kernel⟩
theorem qW (F : Fun K "go_on" "Run.go_on" sGo f fd) (N : Rn K cR) (GL : Me P w K mg base (CXf P w) 5 cR "let" ["self", "wants", "deed", "body"] (VP cR C)) (GG : Me P w K mg base CX0 4 cR "give" ["self", "value"] (XZ cR T)) : FnOk P w K mg base (CXf P w) 6 f fd ["self"] (spGo cR C T) := by
  refine F.byx scGo (fun vs H Q E h => ?_) (fun cdv A outer s H vs Q E hr h => ?_)
  · obtain ⟨r, dx, d, wl, nd, pb, st, kvs, e, ks, rows, x, rfl, _⟩ := h
    rfl
  obtain ⟨r, dx, d, wl, nd, pb, st, kvs, e, ks, rows, x, rfl, hR, hW, hT, hN, hk, hE, hB, hO, hD, q1, q2⟩ := h
  have r4 : Room 4 _ := hr.mono (by decide)
  refine ⟨_,
    (zi (zt (i := 1) scGo.nd rfl (Or.inl rfl) (yL (jv 0)))
    (zk (zK (zr zS (zq zx (jv 1) zj (fun _ _ => rfl)) zu (zv _))
      (zk (zT (vR (jv 0) N.cl GL hr yk (ja_c (zq zx (jv 1) zj (fun _ _ => rfl)) (ja_c (zq zx (jv 1) zj (fun _ _ => rfl)) (ja_c (zq zx (jv 1) zj (fun _ _ => rfl)) zh))))))
      (zk (zK (zr zS (zq zx (jv 1) zj (fun _ _ => rfl)) zu (zv _)) (zk ym)
        (zk (zK (zr zS (zq zx (jv 1) zj (fun _ _ => rfl)) zu (zv _)) (zk ym)
          (zk (zT (vR (jv 0) N.cl GG.upx r4 yk (ja_c (yC hr (yL (jv 0)) (zq zx (jv 1) zj (fun _ _ => rfl))) zh))))))))))), ?_⟩
  have sl := zX
  refine ⟨_, rfl, r, cR, dx, _, _, rfl, hR, N.cl, N.a5, rfl, ?_⟩
  match rows, hO, hD with
  | [], hO, hD =>
    have hD : H pb = some (.tup [.str "give", .str x]) := hD
    obtain ⟨ff, ef⟩ := hB.get hO
    obtain ⟨v, hv1, hv2⟩ := hE.val ef
    refine ⟨_, rfl, pb, _, _, _, rfl, rfl, SqT.of hD, rfl, rfl, _, rfl, yh (by decide +kernel) ?_⟩
    refine ⟨_, rfl, pb, _, _, _, rfl, rfl, SqT.of hD, rfl, rfl, _, rfl, yh (by decide +kernel) ?_⟩
    refine ⟨_, rfl, pb, _, _, _, rfl, rfl, SqT.of hD, rfl, rfl, _, rfl, yh (by decide +kernel) ?_⟩
    refine ⟨_, rfl, r, dx, _, rfl, hR, rfl, _, rfl, r, cR, dx, _, _, rfl, hR, N.cl, N.a6, rfl, _, rfl, pb, _, _, _, rfl, rfl, SqT.of hD, zp (j := 1) rfl, nd, v, rfl, by rw [<- hv1]; exact DGet.k (k := .inr x) hN, r, dx, d, wl, nd, st, .ref pb, v, ff, rfl, hR, hW, hT, hv2, fun H' tp l k' T' h1 h2 h3 h4 => ?_⟩
    exact q1 rfl H' tp l k' T' h1 h2 (by rw [ef]; exact h3) h4
  | (n, dd) :: rest, hO, hD =>
    obtain ⟨pd, pb', hD, hd, hb⟩ : ∃ pd pb', H pb = some (.tup [.str "let", .str n, .ref pd, .ref pb']) /\ IsDd H dd pd /\ IsBy H rest x pb' := hD
    refine ⟨_, rfl, pb, _, _, _, rfl, rfl, SqT.of hD, rfl, rfl, _, rfl, yq (by decide +kernel) ?_⟩
    refine ⟨_, rfl, r, dx, _, rfl, hR, rfl, _, rfl, pb, _, _, _, rfl, rfl, SqT.of hD, zp (j := 1) rfl, _, rfl, pb, _, _, _, rfl, rfl, SqT.of hD, zp (j := 2) rfl, _, rfl, pb, _, _, _, rfl, rfl, SqT.of hD, zp (j := 3) rfl, r, dx, d, wl, nd, pd, pb', st, .ref pb, n, kvs, e, ks, dd, rfl, hR, hN, hk, hE, hB, hO.1, hd, fun ff ho H' kvs' k' h1 h2 h3 h4 => ?_, fun w hw => (q2 n dd rest rfl).2 w hw⟩
    have tu : Tups H H' := k'.tups fun a ha xs z => by
      rcases List.mem_cons.mp ha with e | ha
      · rw [e, hR] at z
        cases z
      · rw [List.mem_singleton.mp ha, hN] at z
        cases z
    exact (q2 n dd rest rfl).1 ff ho H' kvs' pb' k' h1 h2 h3 h4 (hb.keep tu)
end
end GN
namespace L2
open PySem
theorem FnOk.dn {P : Program} {w : World} {K : PySem.W.Frag} {mg : Str -> Option Value} {base : Heap} {k : Nat} {f : Addr} {fd : FuncData} {ps : List Str} {sp sp' : Sp} (F : FnOk P w K mg base (CXf P w) k f fd ps sp) (h : ∀ vs H Q E, sp' vs H Q E -> sp vs H Q E0) : FnOk P w K mg base CX0 k f fd ps sp' :=
  ⟨fun vs H Q E q => F.len _ _ _ _ (h vs H Q E q), fun A outer s H args us vs Q E hr he hb hv hs => codeAny_mono (F.run A outer s H args us vs Q E0 hr he hb hv (h vs H Q E hs)) fun r s' q => by
    cases r with
    | error e =>
      obtain ⟨_, _, _, _, _, _, _, _, _, _, _, _, _, z⟩ := q
      exact z.elim
    | ok fl =>
      cases fl with
      | ret u => exact q
      | _ => exact q⟩
theorem Ca.dn {P : Program} {w : World} {K : PySem.W.Frag} {mg : Str -> Option Value} {base : Heap} {k : Nat} {x : Str} {ps : List Str} {sp sp' : Sp} (F : Ca P w K mg base (CXf P w) k x ps sp) (h : ∀ vs H Q E, sp' vs H Q E -> sp vs H Q E0) : Ca P w K mg base CX0 k x ps sp' := let ⟨f, fd, a, r⟩ := F.ex; ⟨f, fd, a.dn h, r⟩
end L2
namespace GN
open PySem L2 K11
def ZE (cR : Addr) : Sp := fun vs H Q _ => ∃ (b dx d : Addr) (st : Int), vs = [.ref b, .ref d, .int st] /\ H b = some (.ins cR dx []) /\ ∀ H' wl nd, KX [b] H H' -> H wl = none -> H nd = none -> H' b = some (RO cR dx d st wl .non nd .non) -> H' wl = some (.lst []) -> H' nd = some (.dK []) -> Q .non H'
def ZG (cR : Addr) : Sp := fun vs H Q _ => ∃ (r dx d wl nd vl one pp pb : Addr) (st : Int) (b : V) (n : Str) (kvs : List (Key × V)) (ps : List Str) (us : List V), vs = [.ref r, .str n, .ref vl] /\ H r = some (RO cR dx d st wl b nd .non) /\ H d = some (.dK kvs) /\ valV kvs (.inr n) = some (.ref one) /\ H one = some (.tup [.str n, .ref pp, .ref pb]) /\ H pp = some (.tup (ps.map V.str)) /\ ps.Nodup /\ H vl = some (.lst us) /\ ps.length = us.length /\
  ∀ H' nd', KX [r] H H' -> H nd' = none -> H' r = some (RO cR dx d st wl (.ref pb) nd' .non) -> H' nd' = some (.dK (zkv ps us)) -> Q .non H'
def Grw (ks : List (List (Str × Nat))) (xs : List V) : Prop := xs.length <= 300 /\ (∀ x ∈ xs, At x) /\ hgt (puts ks.flatten []) xs = some 1
def Args (H : Hp) (ks : List (List (Str × Nat))) (al : Addr) (as : List Addr) (xss : List (List V)) : Prop := H al = some (.lst (as.map V.ref)) /\ as.length = xss.length /\ ∀ (j : Nat) a xs, as[j]? = some a -> xss[j]? = some xs -> H a = some (.lst xs) /\ Grw ks xs
theorem Args.same {H H' : Hp} {ks : List (List (Str × Nat))} {al : Addr} {as : List Addr} {xss : List (List V)} (h : Args H ks al as xss) (s : Same H H') : Args H' ks al as xss := ⟨s _ _ h.1, h.2.1, fun j a xs h1 h2 => ⟨s _ _ (h.2.2 j a xs h1 h2).1, (h.2.2 j a xs h1 h2).2⟩⟩
section
variable {P : Program} {w : World} {K : PySem.W.Frag} {mg : Str -> Option Value} {base : Heap} {f R C cR T : Addr} {fd : FuncData}
theorem Vk : FnScope ["self", "defs", "steps"] ["self", "defs", "steps"] (zm jD) := ⟨rfl, rfl, rfl, by decide +kernel, rfl, by decide +kernel, by decide +kernel⟩
theorem X1 (F : Fun K "__init__" "Run.__init__" jD f fd) (N : Rn K cR) : FnOk P w K mg base CX0 1 f fd ["self", "defs", "steps"] (ZE cR) := by
  refine F.by Vk (fun vs H Q E h => ?_) (fun cdv A outer s H vs Q E hr h => ?_)
  · obtain ⟨b, dx, d, st, rfl, _⟩ := h
    rfl
  obtain ⟨b, dx, d, st, rfl, hb, q⟩ := h
  refine ⟨_,
    (zi (yw (jv 0) (jv 1))
    (zi (yw (jv 0) (jv 2))
    (zi (yw (jv 0) zj)
    (zi (yw (jv 0) (zA zh))
    (zi (yw (jv 0) xW)
    (zi (yw (jv 0) wg)
    (zk (yw (jv 0) xW)))))))), ?_⟩
  have sl := zX
  refine ⟨_, rfl, _, rfl, b, cR, dx, _, rfl, hb, N.cl, N.a1, by show 0 < 1000; decide, ?_⟩
  refine ⟨_, rfl, _, rfl, b, cR, dx, _, rfl, zg, N.cl, N.a2, by show 1 < 1000; decide, ?_⟩
  refine ⟨_, rfl, b, cR, dx, _, rfl, zg, N.cl, N.a3, by show 2 < 1000; decide, ?_⟩
  have k1 : KX [b] H (upd (upd (upd H b (.ins cR dx (putF "defs" (.ref d) []))) b (.ins cR dx (putF "steps" (.int st) (putF "defs" (.ref d) [])))) b (.ins cR dx (putF "done" (.int 0) (putF "steps" (.int st) (putF "defs" (.ref d) []))))) := ((KX.refl.put (by simp)).put (by simp)).put (by simp)
  have b1 := zg (H := upd (upd H b (.ins cR dx (putF "defs" (.ref d) []))) b (.ins cR dx (putF "steps" (.int st) (putF "defs" (.ref d) [])))) (a := b) (o := .ins cR dx (putF "done" (.int 0) (putF "steps" (.int st) (putF "defs" (.ref d) []))))
  generalize upd (upd (upd H b (.ins cR dx (putF "defs" (.ref d) []))) b (.ins cR dx (putF "steps" (.int st) (putF "defs" (.ref d) [])))) b (.ins cR dx (putF "done" (.int 0) (putF "steps" (.int st) (putF "defs" (.ref d) [])))) = H1 at *
  have fr : ∀ {H2 : Hp} {z : Addr}, KX [b] H H2 -> H2 b ≠ none -> H2 z = none -> H z = none /\ z ≠ b := fun {H2 z} k n e => by
    have nz : z ≠ b := fun c => n (by rw [<- c]; exact e)
    refine ⟨?_, nz⟩
    cases c : H z with
    | none => rfl
    | some o =>
      have := k z o (by simp [nz]) c
      rw [e] at this
      cases this
  refine ⟨by show 0 <= sizeLine; decide, fun wl hwl => ?_⟩
  obtain ⟨fw, nwb⟩ := fr k1 (by rw [b1]; intro z; cases z) hwl
  refine ⟨_, rfl, b, cR, dx, _, rfl, by rw [zn nwb.symm]; exact b1, N.cl, N.a4, by show 3 < 1000; decide, ?_⟩
  refine ⟨_, rfl, b, cR, dx, _, rfl, zg, N.cl, N.a5, by show 4 < 1000; decide, ?_⟩
  obtain ⟨fs2, efs2⟩ : ∃ fs, fs = putF "body" V.non (putF "waiting" (.ref wl) (putF "done" (.int 0) (putF "steps" (.int st) (putF "defs" (.ref d) [])))) := ⟨_, rfl⟩
  rw [<- efs2]
  have k2 : KX [b] H (upd (upd (upd H1 wl (.lst [])) b (.ins cR dx (putF "waiting" (.ref wl) (putF "done" (.int 0) (putF "steps" (.int st) (putF "defs" (.ref d) [])))))) b (.ins cR dx fs2)) := ((k1.new hwl).put (by simp)).put (by simp)
  have b2 := zg (H := upd (upd H1 wl (.lst [])) b (.ins cR dx (putF "waiting" (.ref wl) (putF "done" (.int 0) (putF "steps" (.int st) (putF "defs" (.ref d) [])))))) (a := b) (o := .ins cR dx fs2)
  have w2 : upd (upd (upd H1 wl (.lst [])) b (.ins cR dx (putF "waiting" (.ref wl) (putF "done" (.int 0) (putF "steps" (.int st) (putF "defs" (.ref d) [])))))) b (.ins cR dx fs2) wl = some (.lst []) := by
    rw [zn nwb, zn nwb]
    exact zg
  generalize upd (upd (upd H1 wl (.lst [])) b (.ins cR dx (putF "waiting" (.ref wl) (putF "done" (.int 0) (putF "steps" (.int st) (putF "defs" (.ref d) [])))))) b (.ins cR dx fs2) = H2 at *
  intro nd hnd
  obtain ⟨fn, nnb⟩ := fr k2 (by rw [b2]; intro z; cases z) hnd
  refine ⟨_, rfl, b, cR, dx, _, rfl, by rw [zn nnb.symm]; exact b2, N.cl, N.a6, by rw [efs2]; show 5 < 1000; decide, ?_⟩
  refine ⟨_, rfl, b, cR, dx, _, rfl, zg, N.cl, N.a7, by rw [efs2]; show 6 < 1000; decide, ?_⟩
  have nwn : wl ≠ nd := zo w2 hnd
  refine q _ wl nd (((k2.new hnd).put (by simp)).put (by simp)) fw fn ?_ ?_ ?_
  · rw [zg, efs2]
    rfl
  · rw [zn nwb, zn nwb, zn nwn]
    exact w2
  · rw [zn nnb, zn nnb]
    exact zg
theorem scBegin : FnScope ["self", "name", "values", "one"] ["self", "name", "values"] (zm jF) := ⟨rfl, rfl, rfl, by decide +kernel, rfl, by decide +kernel, by decide +kernel⟩
theorem X2 (F : Fun K "begin_def" "Run.begin_def" jF f fd) (N : Rn K cR) (m_dict : mg "dict" = none) (m_zip : mg "zip" = none) : FnOk P w K mg base CX0 1 f fd ["self", "name", "values"] (ZG cR) := by
  refine F.by scBegin (fun vs H Q E h => ?_) (fun cdv A outer s H vs Q E hr h => ?_)
  · obtain ⟨r, dx, d, wl, nd, vl, one, pp, pb, st, b, n, kvs, ps, us, rfl, _⟩ := h
    rfl
  obtain ⟨r, dx, d, wl, nd, vl, one, pp, pb, st, b, n, kvs, ps, us, rfl, hR, hd, hv, h1, hp, hn, hl, ll, q⟩ := h
  refine ⟨_,
    (zi (zt (i := 3) scBegin.nd rfl (Or.inl rfl) (yC hr (yL (jv 0)) (jv 1)))
    (zi (yw (jv 0) (zq zx (jv 3) zj (fun _ _ => rfl)))
    (zk (yw (jv 0) (XR rfl rfl m_dict rfl m_zip (ja_c (zq zx (jv 3) zj (fun _ _ => rfl)) (ja_c (jv 2) zh))))))), ?_⟩
  have sl := zX
  refine ⟨_, rfl, r, cR, dx, _, _, rfl, hR, N.cl, N.a1, rfl, _, rfl, d, .ref one, rfl, by rw [<- hv]; exact DGet.k (k := .inr n) hd, ?_⟩
  refine ⟨_, rfl, one, _, _, _, rfl, rfl, SqT.of h1, zp (j := 2) rfl, _, rfl, r, cR, dx, _, rfl, hR, N.cl, N.a5, by show 7 < 1000; decide, ?_⟩
  have k1 : KX [r] H (upd H r (.ins cR dx (putF "body" (.ref pb) (RF d st wl b nd .non)))) := KX.refl.put (by simp)
  have r1 : upd H r (.ins cR dx (putF "body" (.ref pb) (RF d st wl b nd .non))) r = some (RO cR dx d st wl (.ref pb) nd .non) := zg
  generalize upd H r (.ins cR dx (putF "body" (.ref pb) (RF d st wl b nd .non))) = H1 at *
  have ne1 : ∀ {z : Addr} {o : HO}, H z = some o -> (∀ C dx fs, o ≠ .ins C dx fs) -> z ∉ [r] := fun {z o} e n c => by
    rw [List.mem_singleton.mp c, hR] at e
    cases e
    exact n _ _ _ rfl
  have h11 := k1 _ _ (ne1 h1 (by intro _ _ _ z; cases z)) h1
  have hp1 := k1 _ _ (ne1 hp (by intro _ _ _ z; cases z)) hp
  have hl1 := k1 _ _ (ne1 hl (by intro _ _ _ z; cases z)) hl
  refine ⟨_, rfl, one, _, _, _, rfl, rfl, SqT.of h11, zp (j := 1) rfl, _, rfl, pp, vl, ps, us, rfl, .inr (SqT.of hp1), .inl (SqL.of hl1), ll, hn, fun nd' hnd' => ?_⟩
  have nnr : nd' ≠ r := fun z => by
    rw [z, r1] at hnd'
    cases hnd'
  have fn : H nd' = none := by
    cases c : H nd' with
    | none => rfl
    | some o =>
      have := k1 nd' o (by simp [nnr]) c
      rw [hnd'] at this
      cases this
  refine ⟨_, rfl, r, cR, dx, _, rfl, by rw [zn nnr.symm]; exact r1, N.cl, N.a6, by show 7 < 1000; decide, ?_⟩
  exact q _ nd' ((k1.new hnd').put (by simp)) fn zg (by rw [zn nnr]; exact zg)
theorem scBy : FnScope ["defs", "found", "one"] ["defs"] (zm sBy) := ⟨rfl, rfl, rfl, by decide +kernel, rfl, by decide +kernel, by decide +kernel⟩
theorem Vm : FnScope ["kinds", "defs", "name", "args"] ["kinds", "defs", "name", "args"] (zm jC) := ⟨rfl, rfl, rfl, by decide +kernel, rfl, by decide +kernel, by decide +kernel⟩
theorem Vn : (["kinds", "defs", "name", "args", "parts"] : List Str).Nodup := by decide +kernel
end
end GN
namespace GN
open PySem L2 K11
structure Ft (K : PySem.W.Frag) (mg : Str -> Option Value) (C : Addr) : Prop where
  m : mg "Fault" = some (.ref C)
  cl : ∃ f, XCl K C f
  fn : PySem.W.findIn K (.ref C) "word" = some none
  hd : PySem.W.hasDictIn K C = true
  ex : PySem.W.exmOne K (.ref C) (.ref C) = some true
def IsP1 (H : Hp) (ks : List (List (Str × Nat))) (hd : Str) (ps : List Str) (rows : List (Str × Dd)) (x : Str) (p : Addr) : Prop := ∃ pk pd one pp pb, H p = some (.tup [.ref pk, .ref pd]) /\ Kn H pk ks /\ H pd = some (.tup [.ref one]) /\ H one = some (.tup [.str hd, .ref pp, .ref pb]) /\ H pp = some (.tup (ps.map V.str)) /\ IsBy H rows x pb
theorem IsP1.keep {H H' : Hp} (t : Tups H H') {ks : List (List (Str × Nat))} {hd : Str} {ps : List Str} {rows : List (Str × Dd)} {x : Str} {p : Addr} (h : IsP1 H ks hd ps rows x p) : IsP1 H' ks hd ps rows x p := by
  obtain ⟨pk, pd, one, pp, pb, a, b, c, d, e, f⟩ := h
  exact ⟨pk, pd, one, pp, pb, t _ _ a, b.keep t, t _ _ c, t _ _ d, t _ _ e, f.keep t⟩
def Ans (H : Hp) (p : Addr) : List V ⊕ Str -> Prop
  | .inl f => ∃ l, H p = some (.tup [.str "told", .ref l]) /\ H l = some (.lst (f.take 100))
  | .inr w => H p = some (.tup [.str "fault", .str w])
structure P1Ok (ks : List (List (Str × Nat))) (ps : List Str) (rows : List (Str × Dd)) (x : Str) : Prop where
  k : KsOk ks
  n : ps.Nodup
  l : ps.length <= 100
  r : rows.length <= 200
  b : OkB ps rows x
theorem X3 {H : Hp} : ∀ {ps : List Str} {us : List V} {xss : List (List V)}, ps.length = xss.length -> us.length = xss.length -> (∀ (j : Nat) u xs, us[j]? = some u -> xss[j]? = some xs -> Vl H u xs) -> ER (Vl H) (zkv ps us) (ps.zip xss)
  | [], [], [], _, _, _ => .nil
  | [], _ :: _, [], _, h, _ => by simp at h
  | _ :: _, _, [], h, _, _ => by simp at h
  | [], _, _ :: _, h, _, _ => by simp at h
  | _ :: _, [], _ :: _, _, h, _ => by simp at h
  | p :: ps, u :: us, xs :: xss, h1, h2, h3 => .cons (h3 0 u xs rfl rfl) (X3 (by simpa using h1) (by simpa using h2) fun j u xs a b => h3 (j + 1) u xs a b)
theorem Vo : ∀ {ps : List Str} {xss : List (List V)}, ps.length = xss.length -> Bnd ps (ps.zip xss)
  | ps, xss, h, n, hn => by
    rw [<- yW, List.any_eq_true]
    obtain ⟨i, hi⟩ := List.getElem?_of_mem hn
    have hl := (List.getElem?_eq_some_iff.mp hi).1
    refine ⟨(n, xss[i]'(by omega)), List.mem_of_getElem? (i := i) ?_, by simp⟩
    rw [List.getElem?_zip_eq_some]
    exact ⟨hi, List.getElem?_eq_getElem _⟩
theorem KT.kx {T : Addr} {S : List Addr} {H H1 H2 : Hp} (a : KT T H H1) (b : KX S H1 H2) (h : ∀ z ∈ S, z = T \/ H z = none) : KT T H H2 := fun c u n q => b c u (fun z => by
  rcases h c z with e | e
  · exact n e
  · rw [e] at q; cases q) (a c u n q)
theorem Tb.kx {T : Addr} {S : List Addr} {H H' : Hp} (h : Tb T H) (k : KX S H H') (n : ∀ z ∈ S, (∃ C dx fs, H z = some (.ins C dx fs)) \/ ∃ kvs, H z = some (.dK kvs)) : Tb T H' := by
  obtain ⟨ps, e, h⟩ := h
  refine ⟨ps, k _ _ (fun z => ?_) e, ?_⟩
  · rcases n T z with ⟨C, dx, fs, h'⟩ | ⟨kvs, h'⟩
    · rw [e] at h'; cases h'
    · rw [e] at h'; cases h'
  · rcases h with h | ⟨c, h, g⟩
    · exact .inl h
    · refine .inr ⟨c, h, k _ _ (fun z => ?_) g⟩
      rcases n c z with ⟨C, dx, fs, h'⟩ | ⟨kvs, h'⟩
      · rw [g] at h'; unfold CodO at h'; cases h'
      · rw [g] at h'; unfold CodO at h'; cases h'
section
variable {P : Program} {w : World} {K : PySem.W.Frag} {mg : Str -> Option Value} {base : Heap} {f R C cR T : Addr} {fd : FuncData}
theorem scRun : FnScope ["program", "name", "args", "steps", "defs", "values", "running", "fault"] ["program", "name", "args", "steps"] (zm sRun) := ⟨rfl, rfl, rfl, by decide +kernel, rfl, by decide +kernel, by decide +kernel⟩
end
end GN
namespace L2
open PySem PySem.Spec PyProof.Rows
def Outs (X : Cx) (Ex : XK) : Prop := ∀ (σ : St) (e : Addr) (C : Value) (dx : Option Addr) (H' : Hp) (T : Addr) (fl : Value) (s' : Shared), Inv X [] σ H' s' -> Tr s'.heap e C dx T fl -> H' e = none -> H' T = none -> X.s₀.heap.objs.size <= e -> X.s₀.heap.objs.size <= T -> Ex C dx H' -> X.xe (.ref e) s'
section
variable {M : Model} {A : Around} {E : Value -> Shared -> Prop} {s : Shared} {base : Heap} {env : Env} {outer : List Env} {L e T : Addr} {C fl : Value} {dx : Option Addr} {Q : Unit -> Shared -> Prop}
theorem Ym (hfr : A.frames = some (env :: outer)) (hl : s.heap.FunFrames base (env :: outer)) (hf : env.frame = some L) (t : Tr s.heap e C dx T fl) (hn : (fl == rawInt L) = false)
    (hq : ∀ h' T', s.heap.objs.size <= T' -> Tr h' e C dx T' (rawInt L) -> Mv ((env :: outer).filterMap (·.frame)) [e, T] s.heap h' -> Q () { s with heap := h' }) :
    wpAny M A (noteFrame (.ref e) env) Q E s := by
  obtain ⟨⟨oe, vs, he, hc, hx, hd, h1, hz2⟩, ⟨ot, ts, ht, hdt, h3⟩, ne⟩ := t
  subst hc
  subst hx
  unfold noteFrame
  simp only [hf]
  refine wpAny_bind (wpAny_field he hd h1 ?_)
  rw [if_pos (by simp : (Value.ref T != Value.none) = true)]
  refine wpAny_bind (wpAny_field ht hdt h3 ?_)
  rw [if_neg (by rw [hn]; decide)]
  have up := Heap.get?_update_self (Obj.mapFields (·.setIfInBounds 3 .none)) ht (Obj.isFreed_of_fields (Obj.data_mapFields hdt _))
  have k : ∀ b o, b ≠ T -> s.heap.get? b = some o -> (s.heap.update T (Obj.mapFields (·.setIfInBounds 3 .none))).get? b = some o := fun b o z q => (Heap.get?_update_other _ _ (Ne.symm z)).trans q
  refine wpAny_bind (wpAny_setField ht hdt (Array.getElem?_eq_some_iff.mp h3).1 ?_)
  refine xz (base := base) hfr (hl.of_keeps fun b o q nf => ⟨o, k b o (fun z => ?_) q, rfl⟩) hf (k e oe (Ne.symm ne) he) hd (Array.getElem?_eq_some_iff.mp h1).1 hz2 fun h' T' hs t m => hq h' T' ?_ t ⟨fun b o q f x => ?_, fun b o q x => ?_, fun b o q => ?_⟩
  · rw [z, ht] at q
    cases q
    exact nf ts hdt
  · rw [Heap.size_after_update] at hs
    exact hs
  · exact m.keep b o (k b o (fun z => x (by simp [z])) q) f fun z => x (by simp at z; simp [z])
  · exact m.slot b o (k b o (fun z => x (by simp [z])) q) fun z => x (by simp at z; simp [z])
  · by_cases z : b = T
    · subst z
      exact m.there b _ up
    · exact m.there b o (k b o z q)
theorem jX (hf : env.frame = some L) (t : Tr s.heap e C dx T fl) (hn : (fl == rawInt L) = true) (hq : Q () s) : wpAny M A (noteFrame (.ref e) env) Q E s := by
  obtain ⟨⟨oe, vs, he, hc, hx, hd, h1, hz2⟩, ⟨ot, ts, ht, hdt, h3⟩, ne⟩ := t
  unfold noteFrame
  simp only [hf]
  refine wpAny_bind (wpAny_field he hd h1 ?_)
  rw [if_pos (by simp : (Value.ref T != Value.none) = true)]
  refine wpAny_bind (wpAny_field ht hdt h3 ?_)
  rw [if_pos hn]
  exact wpAny_pure hq
theorem Tr.keep {h h' : Heap} (t : Tr h e C dx T fl) (k1 : ∀ o, h.get? e = some o -> h'.get? e = some o) (k2 : ∀ o, h.get? T = some o -> h'.get? T = some o) : Tr h' e C dx T fl := by
  obtain ⟨⟨oe, vs, he, r⟩, ⟨ot, ts, ht, r'⟩, ne⟩ := t
  exact ⟨⟨oe, vs, k1 _ he, r⟩, ⟨ot, ts, k2 _ ht, r'⟩, ne⟩
theorem Vp {what : String} {cenv : Env} (t : Tr s.heap e C dx T fl) (hq : ∀ h' fl', Tr h' e C dx T fl' -> Mv [] [T] s.heap h' -> E (.ref e) { s with heap := h' }) : wpAny M A (PySem.passOn what (.ref e) cenv : Sem Value) (fun _ _ => False) E s := by
  obtain ⟨oe, vs, he, hc, hx, hd, h1, hz2⟩ := t.ex
  unfold PySem.passOn
  refine wpAny_bind (wpAny_field he hd h1 ?_)
  rw [if_neg (by simp)]
  exact wpAny_bind (yJ t fun h1 t1 m => wpAny_throw (hq h1 _ t1 m))
end
section
variable {P : Program} {w : World} {K : PySem.W.Frag} {mg : Str -> Option Value} {base : Heap} {N : List Str} {qual : Str} {scope : Scope} {f : Addr} {cd : Value} {A : Around} {outer : List Env} {s : Shared} {H : Hp} {E : XK}
theorem qX : Outs (cxOf (CXf P w) P w K mg base N qual scope f cd A outer s H E) E := by
  intro σ e C dx H' T fl s' I t ne nT se sT hE
  have fin : ∀ (h2 : Heap) (T : Addr) (xs : List Addr), Tr h2 e C dx T .none -> Mv (frs (cxOf (CXf P w) P w K mg base N qual scope f cd A outer s H E).stack) xs s'.heap h2 -> (∀ b ∈ xs, H' b = none /\ s.heap.objs.size <= b) -> H' T = none -> s.heap.objs.size <= T ->
      CXf P w outer H s E (.ref e) { s' with heap := h2 } := by
    intro h2 T xs t m hx nT sT
    have nst : ∀ (b : Addr) (o : Obj), s.heap.get? b = some o -> b ∉ frs outer -> b ∉ frs (cxOf (CXf P w) P w K mg base N qual scope f cd A outer s H E).stack := fun b o q nb z => by
      rcases List.mem_cons.mp (I.stkSub b z) with r | r
      · exact absurd (show b = (cxOf (CXf P w) P w K mg base N qual scope f cd A outer s H E).env.locals from r) (Nat.ne_of_lt (Nat.lt_of_lt_of_le (Heap.lt_size q) I.ok.above))
      · exact nb r
    have nx : ∀ (b : Addr) (o : Obj), s.heap.get? b = some o -> b ∉ xs := fun b o q z => absurd (Nat.lt_of_lt_of_le (Heap.lt_size q) (hx b z).2) (Nat.lt_irrefl _)
    have B : Un (frs outer) [] H H' s.heap s'.heap := I.base
    refine ⟨e, T, C, dx, H', rfl, I.os, I.bare, ⟨fun b o q n hb hx => ?_, fun b o q n hb hx => ?_, B.free, fun b o q hx => ?_, B.tups, B.frzs, B.tbls⟩, I.hok.moved m I.stkFree fun b hb => (hx b hb).1, t, ⟨se, sT⟩, ⟨ne, nT⟩, hE⟩
    · exact m.keep b o (B.keep b o q n hb hx) (nst b o q hb) (nx b o q)
    · obtain ⟨sl, q1⟩ := B.slot b o q n hb hx
      obtain ⟨sl2, q2⟩ := m.slot b _ q1 (nx b o q)
      exact ⟨sl2, q2⟩
    · obtain ⟨o1, q1⟩ := B.there b o q hx
      exact m.there b o1 q1
  show wpAny (model P w) _ (leaving _ (.ref e)) _ _ s'
  unfold leaving
  have one : ∀ b ∈ [T], H' b = none /\ s.heap.objs.size <= b := fun b hb => by
    rw [List.mem_singleton.mp hb]
    exact ⟨nT, sT⟩
  by_cases hfl : (fl == rawInt (cxOf (CXf P w) P w K mg base N qual scope f cd A outer s H E).env.locals) = true
  · refine wpAny_bind (jX rfl t hfl (yJ t fun h2 t2 m2 => fin h2 T [T] t2 (m2.mono (fun b z => nomatch z) fun b z => z) one nT sT))
  · refine wpAny_bind (Ym I.ok.frames I.stack rfl t (Bool.eq_false_iff.mpr hfl) fun h' T1 hs t1 m => yJ t1 fun h2 t2 m2 => ?_)
    refine fin h2 T1 [e, T, T1] t2 ((m.mono (fun _ z => z) fun b z => ?_).trans (m2.mono (fun b z => nomatch z) fun b z => ?_)) (fun b hb => ?_) (I.hok.fresh hs) (Nat.le_trans I.sz hs)
    · simp at z
      rcases z with z | z <;> simp [z]
    · simp at z
      simp [z]
    · rcases List.mem_cons.mp hb with r | hb
      · rw [r]
        exact ⟨ne, se⟩
      · rcases List.mem_cons.mp hb with r | hb
        · rw [r]
          exact ⟨nT, sT⟩
        · rw [List.mem_singleton.mp hb]
          exact ⟨I.hok.fresh hs, Nat.le_trans I.sz hs⟩
end
section
variable {X : Cx} {scope : Scope} {cl : List (Str × Addr)} {S : List Nat} {M : List Str} {pins : List (Addr × Obj)} {σ : St} {H : Hp} {s : Shared} {fp : List Addr} {Ex : XK} {Q : Value -> Shared -> Prop} {acc : Value}
theorem Yn (hst : X.stack = X.env :: X.outer) (hf : X.env.frame = some X.env.locals) (hpn : X.pn = []) (I : Inv X pins σ H s) (hfp : ∀ b ∈ fp, FpOk X pins H b) (out : Outs X Ex) {C : Addr} (hC : s.heap.objs.size < C) :
    zO (CXf X.prog X.w) (cxLC X scope cl M C s H fp (notedBy (model X.prog X.w) X.A (compEnvC scope cl C X.env) (fun e s' => compPost (model X.prog X.w) X.A X.xe none Q acc C (.error e) s'))) Ex := by
  intro pins' σ' H1 s1 u s2 I5 h
  obtain ⟨e, T, Cl, dx, H', rfl, os, bare, un, hok, t, ⟨se, sT⟩, ⟨ne, nT⟩, hE⟩ := h
  have I6 := I5.call' (ch := []) os un hok bare (fun b z => absurd z (by simp))
  have base6 : Un (frs X.stack) fp H H' s.heap s2.heap := I6.base
  have IX : Inv X pins σ H' s2 := I.call' I6.os base6 I6.hok I6.bare fun b hb => ⟨(hfp b hb).2.2.2.1, (hfp b hb).2.1, (hfp b hb).2.2.2.2.1, (hfp b hb).2.2.2.2.2⟩
  have IX0 : Inv X [] σ H' s2 := IX.pins_of fun p hp => nomatch hp
  have sz5 : s.heap.objs.size <= s1.heap.objs.size := I5.sz
  have le0 : X.s₀.heap.objs.size <= s1.heap.objs.size := Nat.le_trans I.sz sz5
  have np : ∀ {b : Addr}, ∀ p ∈ X.pn ++ ([] : List (Addr × Obj)), p.1 ≠ b := fun {b} p hp => by
    rw [hpn] at hp
    exact absurd hp (by simp)
  have te := t.ex
  have tt := t.tb
  show wpAny _ X.A (noteFrame (.ref e) X.env) _ _ s2
  refine wa (hst ▸ IX0.ok.frames) (hst ▸ IX0.stack) hf t fun h' T' hs t' m => ?_
  have J : Inv X [] σ H' { s2 with heap := h' } := IX0.moved (hst ▸ m) fun b hb => by
    rcases List.mem_cons.mp hb with r | hb
    · obtain ⟨oe, vs, q1, _, _, q4, _⟩ := te
      rw [r]
      exact ⟨ne, .inr (Nat.le_trans le0 se), (IX0.apart q1 q4).1, (IX0.apart q1 q4).2, np⟩
    · obtain ⟨ot, ts, q1, q2, _⟩ := tt
      rw [List.mem_singleton.mp hb]
      exact ⟨nT, .inr (Nat.le_trans le0 sT), (IX0.apart q1 q2).1, (IX0.apart q1 q2).2, np⟩
  obtain ⟨m0, n0, _⟩ := I6.loc
  have n0' : s2.heap.Ns C m0 := n0
  have nfr : C ∉ frs X.stack := fun z => by
    rcases List.mem_cons.mp (I.stkSub _ z) with q | q
    · exact absurd (show C < C from Nat.lt_trans (by rw [show C = X.env.locals from q]; exact I.lt) hC) (Nat.lt_irrefl _)
    · exact I.nofs (Nat.le_of_lt hC) q
  have nCe : C ≠ e := fun z => by
    obtain ⟨oe, vs, q1, _, _, q4, _⟩ := te
    exact (I6.apart q1 q4).1 z.symm
  have nCT : C ≠ T := fun z => by
    obtain ⟨ot, ts, q1, q2, _⟩ := tt
    exact (I6.apart q1 q2).1 z.symm
  have ltC : C < s2.heap.objs.size := by
    obtain ⟨o, es, ep, ho, _⟩ := n0'
    exact Heap.lt_size ho
  have fC : H' C = none := I6.free
  refine ⟨m0, n0'.at' fun o ho => m.keep C o ho (by rw [<- hst]; exact nfr) (by simp [nCe, nCT]), fun h'' sb cenv _ => ?_⟩
  have f2 : FpOk X [] H' C := by
    have := I.fpOk (H' := H') (Nat.le_of_lt hC) fC
    exact ⟨this.1, this.2.1, this.2.2.1, this.2.2.2.1, this.2.2.2.2.1, np⟩
  have J2 : Inv X [] σ H' { s2 with heap := h'' } := J.turned (t' := s2.toks) (fun b o hb e => (sb.2 b hb).trans e) f2.1 f2.2.1 f2.2.2.2.1 f2.2.2.2.2.1 f2.2.2.2.2.2
  have neT' : T' ≠ C := fun z => absurd (Nat.lt_of_lt_of_le ltC hs) (by rw [z]; exact Nat.lt_irrefl _)
  have t2 : Tr h'' e Cl dx T' (rawInt X.env.locals) := t'.keep (fun o ho => (sb.2 e (Ne.symm nCe)).trans ho) fun o ho => (sb.2 T' neT').trans ho
  have nT' : H' T' = none := IX0.hok.fresh hs
  have sT' : X.s₀.heap.objs.size <= T' := Nat.le_trans IX0.sz hs
  refine Vp (s := { s2 with heap := h'' }) t2 fun h3 fl' t3 m3 => ?_
  refine out σ e Cl dx H' T' fl' { s2 with heap := h3 } (Inv.moved (s := { s2 with heap := h'' }) J2 (m3.mono (fun b z => nomatch z) fun _ z => z) fun b hb => ?_) t3 ne nT' (Nat.le_trans le0 se) sT' hE
  obtain ⟨ot, ts, q1, q2, _⟩ := t2.tb
  rw [List.mem_singleton.mp hb]
  exact ⟨nT', .inr sT', (Inv.apart (s := { s2 with heap := h'' }) J2 q1 q2).1, (Inv.apart (s := { s2 with heap := h'' }) J2 q1 q2).2, np⟩
variable {tg elt iter : Expr} {ifs : List Expr} {pos : Pos} {wi : TI} {g : TG} {tt : TT} {te : TE}
theorem X4 (M : List Str) (hst : X.stack = X.env :: X.outer) (hfr : X.env.frame = some X.env.locals) (hpn : X.pn = []) (out : Outs X Ex) (hc : X.calm = true) (hi : PI X tg iter wi) (hg : ∀ C s H ex E, PG (cxLC X scope (clOf scope X.env) M C s H ex E) tg g) (ht : ∀ C s H ex E, PTs (cxLC X scope (clOf scope X.env) M C s H ex E) ifs tt)
    (he : ∀ C s H ex E, zO (CXf X.prog X.w) (cxLC X scope (clOf scope X.env) M C s H ex E) Ex -> PE (cxLC X scope (clOf scope X.env) M C s H ex E) elt te) (hs : ∀ x, foldedSetIterable iter X.env x = pure x)
    (L : LcOk X scope (clOf scope X.env) []) :
    PE X (.ListComp elt [⟨tg, iter, ifs, 0⟩] scope pos) (tLC wi g tt te M.length) := by
  intro pins s σ H Q I h
  rw [eval_ListComp]
  refine wpAny_comprehension_free (use := none) rfl hs L.clos L.kind L.locs (thn (hi pins s σ H _ I h) fun v s1 h1 => thn h1 fun itv s2 h2 => ?_)
  obtain ⟨it, fp, tn, J, H2, rfl, I2, T, st2, f2, W, ⟨m0, w0⟩, turn⟩ := h2
  refine vc (R := fun acc C => compPost (model X.prog X.w) X.A X.xe none (EP X pins σ Q) acc C) (Al := fun C E => zO (CXf X.prog X.w) (cxLC X scope (clOf scope X.env) M C s2 H2 fp E) Ex) L hc I2 T st2 f2 hg ht (fun C E a => he C _ _ _ E a) (fun C hC => Yn hst hfr hpn I2 f2 out hC) w0 turn ?_
  intro D C s' H' ys m IX fC ns q
  exact ⟨m, ns, fun h' sb => ⟨.ref D, _, IX.turned (t' := s'.toks) (fun b o hb e => (sb.2 b hb).trans e) fC.1 fC.2.1 fC.2.2.2.1 fC.2.2.2.2.1 fC.2.2.2.2.2, rfl, q⟩⟩
theorem X5 (M : List Str) (out : Outs X Ex) (hc : X.calm = true) (hi : jI X tg iter wi) (hg : ∀ C s H ex E, jG (cxLC X scope (clOf scope X.env) M C s H ex E) tg g) (ht : ∀ C s H ex E, jTs (cxLC X scope (clOf scope X.env) M C s H ex E) ifs tt)
    (he : ∀ C s H ex E, zO (CXf X.prog X.w) (cxLC X scope (clOf scope X.env) M C s H ex E) Ex -> jE (cxLC X scope (clOf scope X.env) M C s H ex E) elt te) (hst : X.stack = X.env :: X.outer := by rfl) (hfr : X.env.frame = some X.env.locals := by rfl) (hpn : X.pn = [] := by rfl) (hs : ∀ x, foldedSetIterable iter X.env x = pure x := by intro _; rfl)
    (h1 : closureFor scope X.env = pure (clOf scope X.env) := by with_unfolding_all rfl) (h2 : scope.kind = .function := by rfl) (h3 : scope.names.all (fun y => y.2 != .cell) = true := by rfl) (h4 : scope.names.all (fun y => y.2 != .local || scope.names.lookup y.1 == some .local) = true := by rfl)
    (h5 : X.N.all (fun y => scope.names.lookup y != some .local) = true := by rfl) (h6 : scope.names.all (fun p => p.2 != .free || (((clOf scope X.env).lookup p.1).isSome && (X.env.kindOf p.1 == some .cell || X.env.kindOf p.1 == some .free))) = true := by rfl) :
    jE X (.ListComp elt [⟨tg, iter, ifs, 0⟩] scope pos) (tLC wi g tt te M.length) := ⟨X4 M hst hfr hpn out hc hi.out (fun C s H ex E => (hg C s H ex E).out) (fun C s H ex E => (ht C s H ex E).out) (fun C s H ex E a => (he C s H ex E a).out) hs (lcOk h1 h2 h3 h4 h5 h6)⟩
end
end L2
namespace L2
open PySem
theorem Ma.upx {P : Program} {w : World} {K : PySem.W.Frag} {mg : Str -> Option Value} {base : Heap} {k : Nat} {x : Str} {C : Addr} {ps : List Str} {sp : Sp} {CX : CXT} (h : Ma P w K mg base CX0 k x C ps sp) : Ma P w K mg base CX k x C ps sp := let ⟨f, fd, a, b, r⟩ := h.ex; ⟨f, fd, a, b.upx, r⟩
end L2
namespace GN
open PySem L2 K11
def yM (C : Addr) : Sp := fun vs H Q _ => ∃ e v, vs = [.ref e, v] /\ H e = some (XO e C none) /\ ∀ d, H d = none -> d ≠ e -> Q .non (upd (upd H d (XD d [("name", v)])) e (XO e C (some d)))
def ErrN (C : Addr) (E : XK) (H : Hp) (n : Str) : Prop := ∀ d H', Same H H' -> H' d = some (XD d [("name", .str n)]) -> E (.ref C) (some d) H'
theorem ErrN.at {C : Addr} {E : XK} {H H' : Hp} {n : Str} (h : ErrN C E H n) (s : Same H H') : ErrN C E H' n := fun d H2 s2 e => h d H2 (s.trans s2) e
theorem ZH {C : Addr} {H : Hp} {E : XK} {n : Str} (hE : ErrN C E H n) (e : Addr) (he : H e = none) :
    yM C [.ref e, .str n] (upd H e (XO e C none)) (fun u H2 => u = .non /\ ∃ dx, H2 e = some (XO e C dx) /\ E (.ref C) dx (drp H2 e)) E0 := by
  refine ⟨e, _, rfl, zg, fun d hd hne => ⟨rfl, some d, zg, ?_⟩⟩
  have hd' : H d = none := by rw [zn hne] at hd; exact hd
  refine hE d _ (fun b u hb => ?_) ?_
  · rw [xa (zo hb he), zn (zo hb he), zn (zo hb hd'), zn (zo hb he)]
    exact hb
  · rw [xa hne, zn hne]
    exact zg
theorem NotL.same {H H' : Hp} {v : V} (s : Same H H') (h : NotL H v) : NotL H' v := by
  rcases h with h | h | h | ⟨p, xs, e, g, r⟩ | ⟨p, e, g⟩
  · exact .inl h
  · exact .inr (.inl h)
  · exact .inr (.inr (.inl h))
  · exact .inr (.inr (.inr (.inl ⟨p, xs, e, s _ _ g, r⟩)))
  · exact .inr (.inr (.inr (.inr ⟨p, e, s _ _ g⟩)))
def ArgX (H : Hp) (ks : List (List (Str × Nat))) (v : V) : Option (List V) -> Prop
  | some xs => ∃ a, v = .ref a /\ H a = some (.lst xs) /\ Grw ks xs
  | none => NotL H v \/ ∃ l xs, v = .ref l /\ H l = some (.lst xs) /\ xs.length <= 300 /\ (∀ x ∈ xs, ∃ b, Th H b x) /\ hgt (puts ks.flatten []) xs ≠ some 1
theorem ArgX.same {H H' : Hp} {ks : List (List (Str × Nat))} {v : V} (s : Same H H') : ∀ {o : Option (List V)}, ArgX H ks v o -> ArgX H' ks v o
  | some xs, ⟨a, e, h, g⟩ => ⟨a, e, s _ _ h, g⟩
  | none, .inl h => .inl (h.same s)
  | none, .inr ⟨l, xs, e, h, z, t, g⟩ => .inr ⟨l, xs, e, s _ _ h, z, fun x hx => let ⟨b, q⟩ := t x hx; ⟨b, q.keep s⟩, g⟩
def ArgsX (H : Hp) (ks : List (List (Str × Nat))) (al : Addr) (as : List V) (os : List (Option (List V))) : Prop := H al = some (.lst as) /\ as.length = os.length /\ ∀ (j : Nat) v o, as[j]? = some v -> os[j]? = some o -> ArgX H ks v o
theorem ArgsX.same {H H' : Hp} {ks : List (List (Str × Nat))} {al : Addr} {as : List V} {os : List (Option (List V))} (h : ArgsX H ks al as os) (s : Same H H') : ArgsX H' ks al as os := ⟨s _ _ h.1, h.2.1, fun j v o h1 h2 => (h.2.2 j v o h1 h2).same s⟩
def VQ : Sp := fun vs H Q _ => ∃ (pd : Addr) (ones : List Addr) (ns : List Str), vs = [.ref pd] /\ H pd = some (.tup (ones.map V.ref)) /\ ones.length = ns.length /\ ns.Nodup /\ ns.length <= 100 /\ (∀ (i : Nat) o n, ones[i]? = some o -> ns[i]? = some n -> ∃ rest, H o = some (.tup (.str n :: rest))) /\
  ∀ H' d kvs, Same H H' -> H d = none -> H' d = some (.dK kvs) -> (∀ (i : Nat) o n, ones[i]? = some o -> ns[i]? = some n -> valV kvs (.inr n) = some (.ref o)) -> (∀ n, n ∉ ns -> valV kvs (.inr n) = none) -> Q (.ref d) H'
def v6 (U M C : Addr) : Sp := fun vs H Q E => ∃ (pk d al : Addr) (n : Str) (ks : List (List (Str × Nat))) (kvs : List (Key × V)) (as : List V) (os : List (Option (List V))), vs = [.ref pk, .ref d, .str n, .ref al] /\ Kn H pk ks /\ KsOk ks /\ H d = some (.dK kvs) /\ ArgsX H ks al as os /\ os.length <= 1000 /\
  ((valV kvs (.inr n) = none /\ ErrN U E H n) \/ ∃ (one pp pb : Addr) (ps : List Str), valV kvs (.inr n) = some (.ref one) /\ H one = some (.tup [.str n, .ref pp, .ref pb]) /\ H pp = some (.tup (ps.map V.str)) /\
    ((os.length ≠ ps.length /\ ErrN M E H n) \/ (os.length = ps.length /\ (none ∈ os -> ∀ H', Same H H' -> E (.ref C) none H') /\
      ∀ xss : List (List V), os = xss.map some -> ∀ H' l us, Same H H' -> H' l = some (.lst us) -> us.length = xss.length -> (∀ (j : Nat) u xs, us[j]? = some u -> xss[j]? = some xs -> Vl H' u xs) -> Q (.ref l) H')))
section
variable {P : Program} {w : World} {K : PySem.W.Frag} {mg : Str -> Option Value} {base : Heap} {f R C U M cR T : Addr} {fd : FuncData}
theorem qY : FnScope ["self", "name"] ["self", "name"] (zm sUnk) := ⟨rfl, rfl, rfl, by decide +kernel, rfl, by decide +kernel, by decide +kernel⟩
theorem qZ : FnScope ["self", "name"] ["self", "name"] (zm sMis) := ⟨rfl, rfl, rfl, by decide +kernel, rfl, by decide +kernel, by decide +kernel⟩
theorem qe {fi : Addr} (F : Fun K "__init__" "Unknown.__init__" sUnk f fd) (xw : PySem.W.takerIn K C "name" = some none) (M : XCl K C fi) (B : XBase K R) (mR : mg "ReuseError" = some (.ref R)) : FnOk P w K mg base CX0 1 f fd ["self", "name"] (yM C) := by
  refine F.by qY (fun vs H Q E h => ?_) (fun cdv A' outer s H vs Q E hr h => ?_)
  · obtain ⟨e, v, rfl, _⟩ := h
    rfl
  obtain ⟨e, v, rfl, hX, q⟩ := h
  refine ⟨_, zi (zT ⟨we M B rfl mR (ja_c (jv 0) (ja_c (jv 1) zh)).out⟩) (zk ⟨vh M (jv 0).out (jv 1).out⟩), ?_⟩
  refine ⟨_, rfl, _, rfl, e, [v], none, rfl, by show 1 <= sizeLine; decide, hX, ?_⟩
  exact ⟨_, rfl, _, rfl, e, rfl, hX, xw, fun d hd ne => q d hd ne⟩
theorem qf {fi : Addr} (F : Fun K "__init__" "Misfit.__init__" sMis f fd) (xw : PySem.W.takerIn K C "name" = some none) (M : XCl K C fi) (B : XBase K R) (mR : mg "ReuseError" = some (.ref R)) : FnOk P w K mg base CX0 1 f fd ["self", "name"] (yM C) := by
  refine F.by qZ (fun vs H Q E h => ?_) (fun cdv A' outer s H vs Q E hr h => ?_)
  · obtain ⟨e, v, rfl, _⟩ := h
    rfl
  obtain ⟨e, v, rfl, hX, q⟩ := h
  refine ⟨_, zi (zT ⟨we M B rfl mR (ja_c (jv 0) (ja_c (jv 1) zh)).out⟩) (zk ⟨vh M (jv 0).out (jv 1).out⟩), ?_⟩
  refine ⟨_, rfl, _, rfl, e, [v], none, rfl, by show 1 <= sizeLine; decide, hX, ?_⟩
  exact ⟨_, rfl, _, rfl, e, rfl, hX, xw, fun d hd ne => q d hd ne⟩
theorem qg (F : Fun K "by_name" "by_name" sBy f fd) : FnOk P w K mg base CX0 1 f fd ["defs"] VQ := by
  refine F.by scBy (fun vs H Q E h => ?_) (fun cdv A outer s H vs Q E hr h => ?_)
  · obtain ⟨pd, ones, ns, rfl, _⟩ := h
    rfl
  obtain ⟨pd, ones, ns, rfl, hp, lo, hnd, l100, h1, q⟩ := h
  refine ⟨_,
    (zi (zt (i := 1) scBy.nd rfl (Or.inl rfl) wg)
    (zi (y8 PassesOwn.never rfl (x0 (jv 0)) (zQ (i := 2) scBy.nd rfl (Or.inl rfl))
      (zk (vm hr (jv 1) (zq zx (jv 2) zj (fun _ _ => rfl)) (jv 2))))
    (zk (zw (jv 1))))), ?_⟩
  have sl := zX
  intro d hd
  have s1 := same_new hd (.dK [])
  refine ⟨_, rfl, _, rfl, ⟨_, SqT.of (s1 _ _ hp)⟩, wY (xs := ones.map V.ref) (fun i σ H' => Same H H' /\ (∃ kvs, H' d = some (.dK kvs) /\ kvs.length <= i /\ (∀ (j : Nat) o n, j < i -> ones[j]? = some o -> ns[j]? = some n -> valV kvs (.inr n) = some (.ref o)) /\ ∀ n, n ∉ ns.take i -> valV kvs (.inr n) = none) /\ ∃ x, σ = [some (.ref pd), some (.ref d), x]) ⟨s1, ⟨[], zg, Nat.zero_le _, fun j o n h => absurd h (by omega), fun n _ => rfl⟩, none, rfl⟩ (fun i σ H' _ h => SqT.of (h.1 _ _ hp)) ?_ ?_⟩
  · rintro i v σ H1 hv ⟨s2, ⟨kvs, hd2, lk, a1, a2⟩, x, rfl⟩
    rw [List.getElem?_map] at hv
    obtain ⟨o, ho, rfl⟩ := Option.map_eq_some_iff.mp hv
    have hi := (List.getElem?_eq_some_iff.mp ho).1
    have hn : ns[i]? = some (ns[i]'(by omega)) := List.getElem?_eq_getElem _
    generalize ns[i]'(by omega) = n at hn
    obtain ⟨rest, hO⟩ := h1 i o n ho hn
    refine ⟨_, rfl, _, rfl, _, rfl, o, _, _, _, rfl, rfl, SqT.of (s2 _ _ hO), zp (j := 0) rfl, d, _, rfl, DPut.k (k := .inr n) hd2 (by omega), s2.put hd, ⟨_, zg, ?_, fun j o' n' hj h1 h2 => ?_, fun n' h' => ?_⟩, _, rfl⟩
    · unfold putK
      split
      · rw [List.length_map]; omega
      · rw [List.length_append]; show _ + 1 <= _; omega
    · rw [xn]
      by_cases c : j = i
      · subst c
        rw [hn] at h2
        rw [ho] at h1
        cases h1; cases h2
        rw [if_pos rfl]
      · rw [if_neg (fun e => c (yD hnd h2 (by rw [hn, Sum.inr.inj e])))]
        exact a1 j o' n' (by omega) h1 h2
    · rw [List.take_add_one, hn] at h'
      have h' : n' ∉ ns.take i ++ [n] := h'
      rw [List.mem_append, not_or] at h'
      rw [xn, if_neg (fun e => h'.2 (List.mem_singleton.mpr (Sum.inr.inj e)))]
      exact a2 n' h'.1
  · rintro σ H1 ⟨s2, ⟨kvs, hd2, lk, a1, a2⟩, x, rfl⟩
    rw [List.length_map] at a1 a2
    exact ⟨_, rfl, q _ d kvs s2 hd hd2 (fun i o n g1 g2 => a1 i o n (List.getElem?_eq_some_iff.mp g1).1 g1 g2) fun n hn => a2 n (by rw [lo, List.take_of_length_le (Nat.le_refl _)]; exact hn)⟩
theorem Yo (F : Fun K "begun_with" "begun_with" jC f fd) (GU : Xa P w K mg base 1 "Unknown" U ["self", "name"] (yM U)) (GM : Xa P w K mg base 1 "Misfit" M ["self", "name"] (yM M)) (GG : Ca P w K mg base (CXf P w) 2 "grown" ["kinds", "parts"] (ZB C)) (m_len : mg "len" = none) : FnOk P w K mg base (CXf P w) 3 f fd ["kinds", "defs", "name", "args"] (v6 U M C) := by
  refine F.byx Vm (fun vs H Q E h => ?_) (fun cdv A outer s H vs Q E hr h => ?_)
  · obtain ⟨pk, d, al, n, ks, kvs, as, os, rfl, _⟩ := h
    rfl
  obtain ⟨pk, d, al, n, ks, kvs, as, os, rfl, hK, hk, hd, hA, l1000, hc⟩ := h
  refine ⟨_,
    (zi (zK (wV hr (jv 2) (jv 1)) (zk (yS GU hr rfl yK (ja_c (jv 2) zh))) zB)
    (zi (zK (zr YV (zE zF rfl m_len PySem.boot_len (ja_c (jv 3) zh)) (zE zF rfl m_len PySem.boot_len (ja_c (zq zx (yC hr (jv 1) (jv 2)) zj (fun _ _ => rfl)) zh)) (zv _)) (zk (yS GM hr rfl yK (ja_c (jv 2) zh))) zB)
    (zk (zw (X5 ["parts"] qX rfl (vf (jv 3)) (fun _ _ _ _ _ => (zQ (i := 4) Vn rfl (Or.inl rfl))) (fun _ _ _ _ _ => yA) (fun _ _ _ _ _ ps => (zC GG hr rfl ps (ja_c (jv 0) (ja_c (jv 4) zh))))))))), ?_⟩
  have sl := zX
  have la := hA.2.1
  rcases hc with ⟨hv, hE⟩ | ⟨one, pp, pb, ps, hv, h1, hp, hc⟩
  · have gd : DGet H d (V.str n) none := by rw [<- hv]; exact DGet.k (k := .inr n) hd
    refine ⟨_, rfl, _, rfl, d, _, rfl, gd, _, rfl, yq rfl ?_⟩
    exact ⟨_, rfl, by show 1 <= sizeLine; decide, fun e he => ZH hE e he⟩
  have gd : DGet H d (V.str n) (some (.ref one)) := by rw [<- hv]; exact DGet.k (k := .inr n) hd
  refine ⟨_, rfl, _, rfl, d, _, rfl, gd, _, rfl, yh rfl (nxt ?_)⟩
  refine ⟨_, rfl, al, _, rfl, .inl (SqL.of hA.1), _, rfl, _, rfl, d, _, rfl, gd, one, _, _, _, rfl, rfl, SqT.of h1, zp (j := 1) rfl, pp, _, rfl, .inr (SqT.of hp), rfl, _, rfl, ?_⟩
  rcases hc with ⟨hne, hE⟩ | ⟨heq, hbad, q⟩
  · refine yq ?_ ⟨_, rfl, by show 1 <= sizeLine; decide, fun e he => ZH hE e he⟩
    rw [List.length_map, la]
    have : ¬ ((os.length : Nat) : Int) = ((ps.length : Nat) : Int) := by omega
    simp [this]
  refine yh (by rw [List.length_map, la, heq]; simp) (nxt ?_)
  refine ⟨_, rfl, _, rfl, ⟨_, SqL.of hA.1⟩, xO (xs := as) (fun j τ ys H' => Same H H' /\ (∃ v, τ = [some (.ref pk), some (.ref d), some (.str n), some (.ref al), v]) /\ ys.length = j /\ ∀ (i : Nat) u o, ys[i]? = some u -> os[i]? = some o -> ∃ xs, o = some xs /\ Vl H' u xs) ⟨Same.refl _, ⟨none, rfl⟩, rfl, fun i u xs h => by simp at h⟩ (fun j τ ys H' _ h => SqL.of (h.1 _ _ hA.1)) ?_ ?_⟩
  · rintro j v τ ys H2 hv ⟨s2, ⟨u, rfl⟩, ly, hys⟩
    have hj := (List.getElem?_eq_some_iff.mp hv).1
    have ho : os[j]? = some (os[j]'(by omega)) := List.getElem?_eq_getElem _
    generalize os[j]'(by omega) = o at ho
    have g := (hA.2.2 j v o hv ho).same s2
    refine ⟨_, rfl, _, rfl, pk, v, ks, rfl, hK.keep (.of s2), hk, ?_⟩
    match o, g, ho with
    | none, .inl g, ho => exact .inl ⟨g, hbad (List.mem_of_getElem? ho) _ s2⟩
    | none, .inr ⟨l, xs, e, g1, g2, g3, g4⟩, ho => exact .inr ⟨l, xs, e, g1, g2, g3, fun _ H3 s3 => hbad (List.mem_of_getElem? ho) _ (s2.trans s3), fun z => absurd z g4⟩
    | some xs, ⟨a, e, g1, g2⟩, ho =>
      subst e
      refine .inr ⟨a, xs, rfl, g1, g2.1, fun x hx => ?th, fun z => absurd g2.2.2 z, fun _ H3 v s3 pz => ?_⟩
      case th =>
        have := g2.2.1 x hx
        match x, this with
        | .int i, _ => exact ⟨_, .int i⟩
        | .str z, _ => exact ⟨_, .str z⟩
      have hv' : Vl H3 v xs := ⟨pz.pt, fun i e => by
        rw [e] at pz
        cases pz with
        | num a _ => exact a⟩
      refine ⟨by omega, s2.trans s3, ⟨_, rfl⟩, by rw [List.length_append, ly]; rfl, fun i u o h1 h2 => ?_⟩
      by_cases c : i < ys.length
      · rw [List.getElem?_append_left c] at h1
        obtain ⟨xs', r1, r2⟩ := hys i u o h1 h2
        exact ⟨xs', r1, r2.keep (.of s3)⟩
      · rw [List.getElem?_append_right (by omega)] at h1
        have : i - ys.length = 0 := by
          have := (List.getElem?_eq_some_iff.mp h1).1
          simp at this
          omega
        rw [this] at h1
        cases h1
        have e : i = j := by omega
        subst e
        rw [ho] at h2
        cases h2
        exact ⟨xs, rfl, hv'⟩
  · rintro τ ys H2 ⟨s2, _, ly, hys⟩ l hl
    have n3 := same_new hl (.lst ys)
    obtain ⟨xss, exs⟩ : ∃ xss : List (List V), os = xss.map some := by
      refine ⟨os.map (·.getD []), ?_⟩
      rw [List.map_map]
      refine (List.map_id _).symm.trans (List.map_congr_left fun o ho => ?_)
      obtain ⟨i, hi⟩ := List.getElem?_of_mem ho
      have hl := (List.getElem?_eq_some_iff.mp hi).1
      obtain ⟨xs, rfl, _⟩ := hys i _ o (List.getElem?_eq_getElem (by omega)) hi
      rfl
    have lx : xss.length = os.length := by rw [exs, List.length_map]
    exact q xss exs _ l ys (s2.trans n3) zg (by omega) fun j u xs h1 h2 => by
      obtain ⟨xs', r1, r2⟩ := hys j u (some xs) h1 (by rw [exs, List.getElem?_map, h2]; rfl)
      cases r1
      exact r2.keep (.of n3)
end
end GN
namespace GN
open PySem L2 K11
structure Dm where
  n : Str
  ps : List Str
  rows : List (Str × Dd)
  x : Str
def IsPM (H : Hp) (ks : List (List (Str × Nat))) (ds : List Dm) (p : Addr) : Prop := ∃ (pk pd : Addr) (ones : List Addr), H p = some (.tup [.ref pk, .ref pd]) /\ Kn H pk ks /\ H pd = some (.tup (ones.map V.ref)) /\ ones.length = ds.length /\ ∀ (i : Nat) o d, ones[i]? = some o -> ds[i]? = some d -> ∃ pp pb, H o = some (.tup [.str d.n, .ref pp, .ref pb]) /\ H pp = some (.tup (d.ps.map V.str)) /\ IsBy H d.rows d.x pb
theorem IsPM.keep {H H' : Hp} (t : Tups H H') {ks : List (List (Str × Nat))} {ds : List Dm} {p : Addr} (h : IsPM H ks ds p) : IsPM H' ks ds p := by
  obtain ⟨pk, pd, ones, a, b, c, d, e⟩ := h
  refine ⟨pk, pd, ones, t _ _ a, b.keep t, t _ _ c, d, fun i o x h1 h2 => ?_⟩
  obtain ⟨pp, pb, e1, e2, e3⟩ := e i o x h1 h2
  exact ⟨pp, pb, t _ _ e1, t _ _ e2, e3.keep t⟩
structure PMOk (ks : List (List (Str × Nat))) (ds : List Dm) : Prop where
  k : KsOk ks
  n : (ds.map (·.n)).Nodup
  l : ds.length <= 100
  e : ∀ d ∈ ds, d.ps.Nodup /\ d.ps.length <= 100 /\ d.rows.length <= 200 /\ OkB d.ps d.rows d.x
inductive Rf
  | unk
  | mis
  | nov
  | ans (o : List V ⊕ Str)
def rfD (d : Dm) (os : List (Option (List V))) : Rf := if os.length = d.ps.length then (if os.any Option.isNone = true then .nov else .ans (goE (d.ps.zip (os.map (·.getD []))) d.rows d.x)) else .mis
def rfE (ds : List Dm) (n : Str) (os : List (Option (List V))) : Rf := match ds.find? (fun d => decide (d.n = n)) with
  | none => .unk
  | some d => rfD d os
def OutX (U M C T : Addr) (H : Hp) (Q : VK) (E : XK) (n : Str) : Rf -> Prop
  | .unk => ErrN U E H n
  | .mis => ErrN M E H n
  | .nov => ∀ H', Same H H' -> E (.ref C) none H'
  | .ans o => ∀ H' r, KT T H H' -> Tb T H' -> Ans H' r o -> Q (.ref r) H'
def X6 (U M Z T : Addr) : Sp := fun vs H Q E => ∃ (p al : Addr) (st : Int) (n : Str) (ks : List (List (Str × Nat))) (ds : List Dm) (as : List V) (os : List (Option (List V))), vs = [.ref p, .str n, .ref al, .int st] /\ IsPM H ks ds p /\ PMOk ks ds /\ ArgsX H ks al as os /\ os.length <= 1000 /\ Tb T H /\ OutX U M Z T H Q E n (rfE ds n os)
theorem yG {os : List (Option (List V))} {xss : List (List V)} (h : os = xss.map some) : os.any Option.isNone = false /\ os.map (·.getD []) = xss := by
  subst h
  refine ⟨?_, ?_⟩
  · rw [List.any_map]
    exact List.any_eq_false.mpr fun x _ => by simp
  · rw [List.map_map]
    exact List.map_id _
section
variable {P : Program} {w : World} {K : PySem.W.Frag} {mg : Str -> Option Value} {base : Heap} {f R C cR T U M Z : Addr} {fd : FuncData}
theorem Vq (F : Fun K "run" "run" sRun f fd) (N : Rn K cR) (X : Ft K mg C) (GY : Ca P w K mg base CX0 1 "by_name" ["defs"] VQ) (GB : Ca P w K mg base (CXf P w) 3 "begun_with" ["kinds", "defs", "name", "args"] (v6 U M Z)) (GM : Ma P w K mg base CX0 1 "Run" cR ["self", "defs", "steps"] (ZE cR)) (GE : Me P w K mg base CX0 1 cR "begin_def" ["self", "name", "values"] (ZG cR)) (GO : Me P w K mg base (CXf P w) 6 cR "go_on" ["self"] (spGo cR C T)) : FnOk P w K mg base (CXf P w) 7 f fd ["program", "name", "args", "steps"] (X6 U M Z T) := by
  refine F.byx scRun (fun vs H Q E h => ?_) (fun cdv A outer s H vs Q E hr h => ?_)
  · obtain ⟨p, al, st, n, ks, ds, as, os, rfl, _⟩ := h
    rfl
  obtain ⟨p, al, st, n, ks, ds, as, os, rfl, ⟨pk, pd, ones, hp, hK, hpd, lo, hds⟩, hOk, hA, l1000, hT, hq⟩ := h
  have r1 : Room 1 _ := hr.mono (by decide)
  have r2 : Room 2 _ := hr.mono (by decide)
  have r3 : Room 3 _ := hr.mono (by decide)
  have r6 : Room 6 _ := hr.mono (by decide)
  obtain ⟨fi, MM⟩ := X.cl
  refine ⟨_,
    (zi (zt (i := 4) scRun.nd rfl (Or.inl rfl) (zC GY.upx r1 rfl yk (ja_c (zq zx (jv 0) zj (fun _ _ => rfl)) zh)))
    (zi (zt (i := 5) scRun.nd rfl (Or.inl rfl) (zC GB r3 rfl yk (ja_c (zq zx (jv 0) zj (fun _ _ => rfl)) (ja_c (jv 4) (ja_c (jv 1) (ja_c (jv 2) zh))))))
    (zi (zt (i := 6) scRun.nd rfl (Or.inl rfl) (qM GM.upx r2 rfl yk (ja_c (jv 4) (ja_c (jv 3) zh))))
    (zi (zT (vR (jv 6) N.cl GE.upx r1 yk (ja_c (jv 1) (ja_c (jv 5) zh))))
    (zi (XV (tb := fun D => _) (fun pins D ok => JL (Zq K (jv 6))) (fun pins D ok => zk (zT (JK (jv 6) N.cl GO r6 (Yj (ZD (i := 7) (th := fun e oe => _) XT scRun.nd rfl rfl X.m (fun e oe => zk (zw (zN (ja_c zu (ja_c (vn (e := e) (oe := oe) List.mem_cons_self MM X.fn X.hd (jv 7)) zh)))))) ok)))))
    (zk (zw (yL (jv 6))))))))), ?_⟩
  have sl := zX
  refine ⟨_, rfl, p, _, _, _, rfl, rfl, SqT.of hp, zp (j := 1) rfl, pd, ones, ds.map (·.n), rfl, hpd, by rw [List.length_map]; exact lo, hOk.n, by rw [List.length_map]; exact hOk.l, fun i o m h1 h2 => ?nam, fun H1 d kvs s1 fd1 hd1 v1 v2 => ?_⟩
  case nam =>
    rw [List.getElem?_map] at h2
    obtain ⟨dm, hd, rfl⟩ := Option.map_eq_some_iff.mp h2
    obtain ⟨pp, pb, e1, _⟩ := hds i o dm h1 hd
    exact ⟨_, e1⟩
  refine ⟨_, rfl, p, _, _, _, rfl, rfl, SqT.of (s1 _ _ hp), rfl, _, rfl, _, rfl, _, rfl, pk, d, al, n, ks, _, as, os, rfl, hK.keep (.of s1), hOk.k, hd1, hA.same s1, l1000, ?_⟩
  unfold rfE at hq
  cases hf : ds.find? (fun d => decide (d.n = n)) with
  | none =>
    rw [hf] at hq
    refine .inl ⟨v2 n fun hn => ?_, ErrN.at hq s1⟩
    obtain ⟨dm, hm, e⟩ := List.mem_map.mp hn
    have := List.find?_eq_none.mp hf dm hm
    simp [e] at this
  | some dm =>
  rw [hf] at hq
  have hm := List.mem_of_find?_eq_some hf
  have en : dm.n = n := by simpa using List.find?_some hf
  obtain ⟨i, hi⟩ := List.getElem?_of_mem hm
  have hil := (List.getElem?_eq_some_iff.mp hi).1
  have ho : ones[i]? = some (ones[i]'(by omega)) := List.getElem?_eq_getElem _
  generalize ones[i]'(by omega) = one at ho
  obtain ⟨pp, pb, h1, hpp, hby⟩ := hds i one dm ho hi
  have hval : valV kvs (.inr n) = some (.ref one) := v1 i one n ho (by rw [List.getElem?_map, hi, <- en]; rfl)
  have dok := hOk.e dm hm
  obtain ⟨dn, ps, rows, x⟩ := dm
  have en : n = dn := en.symm
  subst en
  dsimp only at h1 hpp hby dok
  refine .inr ⟨one, pp, pb, ps, hval, s1 _ _ h1, s1 _ _ hpp, ?_⟩
  have hq : OutX U M Z T H Q E n (rfD ⟨n, ps, rows, x⟩ os) := hq
  unfold rfD at hq
  dsimp only at hq
  by_cases hlen : os.length = ps.length
  · rw [if_pos hlen] at hq
    by_cases hnone : os.any Option.isNone = true
    · rw [if_pos hnone] at hq
      refine .inr ⟨hlen, fun _ H' s' => hq H' (s1.trans s'), fun xss e => ?_⟩
      rw [(yG e).1] at hnone
      cases hnone
    rw [if_neg hnone] at hq
    refine .inr ⟨hlen, fun hin => absurd (List.any_eq_true.mpr ⟨none, hin, rfl⟩) hnone, fun xss e H2 vl us s2 hvl lus hus => ?_⟩
    rw [(yG e).2] at hq
    have q : ∀ H' r, KT T H H' -> Tb T H' -> Ans H' r (goE (ps.zip xss) rows x) -> Q (.ref r) H' := hq
    have ll : ps.length = xss.length := by rw [<- hlen, e, List.length_map]
    have s12 := s1.trans s2
    refine ⟨_, rfl, _, rfl, fun r dx hr0 hdx0 ndx => ?_⟩
    have n3 := (same_new hdx0 (.own r)).new (o := .ins cR dx []) (by rw [zn (Ne.symm ndx)]; exact hr0)
    have hr3 := zg (H := upd H2 dx (.own r)) (a := r) (o := .ins cR dx [])
    have fr3 : H r = none := s12.free hr0
    generalize upd (upd H2 dx (.own r)) r (.ins cR dx []) = H3 at *
    have s13 := s12.trans n3
    refine ⟨r, dx, d, st, rfl, hr3, fun H4 wl nd k4 fwl fnd hr4 hwl hnd => ⟨rfl, ?_⟩⟩
    have fz : ∀ {z : Addr}, H3 z = none -> H z = none := fun {z} e => s13.free e
    have fwl' := fz fwl
    have fnd0 := fz fnd
    have kt4 : KT T H H4 := (KT.of s13).kx k4 fun z hz => .inr (by rw [List.mem_singleton.mp hz]; exact fr3)
    have keep4 : ∀ {z : Addr} {o : HO}, H2 z = some o -> H4 z = some o := fun {z o} e => k4 _ _ (by
      intro c
      rw [List.mem_singleton.mp c, hr0] at e
      cases e) (n3 _ _ e)
    have hd4 := keep4 (s2 _ _ hd1)
    have h14 := keep4 (s12 _ _ h1)
    have hpp4 := keep4 (s12 _ _ hpp)
    have hvl4 := keep4 hvl
    have tu4 : Tups H2 H4 := fun z xs e => keep4 e
    obtain ⟨tb0, hTb0⟩ := hT.tbl
    have T4 : Tb T H4 := by
      obtain ⟨ps0, e1, e2⟩ := hT
      refine ⟨ps0, keep4 (s12 _ _ e1), ?_⟩
      rcases e2 with e2 | ⟨c, e2, e3⟩
      · exact .inl e2
      · exact .inr ⟨c, e2, keep4 (s12 _ _ e3)⟩
    refine ⟨_, rfl, r, dx, _, rfl, hr4, rfl, _, rfl, _, rfl, r, dx, d, wl, nd, vl, one, pp, pb, st, .non, n, _, ps, us, rfl, hr4, hd4, hval, h14, hpp4, dok.1, hvl4, by omega, fun H5 nd' k5 fnd' hr5 hnd5 => ?_⟩
    have fnd1 : H nd' = none := by
      cases c : H nd' with
      | none => rfl
      | some o =>
        rw [keep4 (s12 _ _ c)] at fnd'
        cases fnd'
    have kt5 : KT T H H5 := kt4.kx k5 fun z hz => .inr (by rw [List.mem_singleton.mp hz]; exact fr3)
    have hwl5 : H5 wl = some (.lst []) := k5 _ _ (by
      intro c
      rw [List.mem_singleton.mp c, hr4] at hwl
      cases hwl) hwl
    have T5 : Tb T H5 := T4.kx k5 fun z hz => .inl (by rw [List.mem_singleton.mp hz]; exact ⟨_, _, _, hr4⟩)
    have tu5 : Tups H4 H5 := k5.tups fun a ha xs z => by
      rw [List.mem_singleton.mp ha, hr4] at z
      cases z
    have hE5 : ER (Vl H5) (zkv ps us) (ps.zip xss) := X3 ll lus fun j u xs h1 h2 => ((hus j u xs h1 h2).keep tu4).keep tu5
    have lz : (zkv ps us).length <= 100 := by
      unfold zkv
      rw [List.length_map, List.length_zip]
      have := dok.2.1
      omega
    have hby5 : IsBy H5 rows x pb := ((hby.keep (.of s12)).keep tu4).keep tu5
    have rr := dok.2.2.1
    refine ⟨fun m σ H' => σ = [some (.ref p), some (.str n), some (.ref al), some (.int st), some (.ref d), some (.ref vl), some (.ref r), none] /\ KT T H H' /\ Tb T H' /\ H' wl = some (.lst []) /\ ((∃ (kvs : List (Key × V)) (e : En) (ks' : List Str) (rows' : List (Str × Dd)) (pb' : Addr), m = rows'.length + 1 /\ H' r = some (RO cR dx d st wl (.ref pb') nd' .non) /\ H' nd' = some (.dK kvs) /\ kvs.length + rows'.length <= 400 /\ ER (Vl H') kvs e /\ Bnd ks' e /\ OkB ks' rows' x /\ IsBy H' rows' x pb' /\ goE e rows' x = goE (ps.zip xss) rows x) \/ (m = 0 /\ ∃ tp pb', H' r = some (RO cR dx d st wl (.ref pb') nd' (.ref tp)) /\ Ans H' tp (goE (ps.zip xss) rows x))), ⟨_, rfl, kt5, T5, hwl5, .inl ⟨_, _, ps, rows, pb, rfl, hr5, hnd5, by omega, hE5, Vo ll, dok.2.2.2, hby5, rfl⟩⟩, ?_⟩
    rintro m σ H6 ⟨rfl, kt6, T6, hwl6, hcase⟩
    obtain ⟨tb6, hTb6⟩ := T6.tbl
    rcases hcase with ⟨kvs, e, ks', rows', pb', rfl, hr6, hnd6, lk, hE6, hB6, hO6, hby6, hgo⟩ | ⟨rfl, tp, pb', hr6, hAns⟩
    · have nwr : wl ≠ r := fun z => by
        rw [z, hr6] at hwl6
        cases hwl6
      have nwT : wl ≠ T := fun z => by
        rw [z, hTb6] at hwl6
        cases hwl6
      have nwn : wl ≠ nd' := fun z => by
        rw [z, hnd6] at hwl6
        cases hwl6
      refine ⟨_, rfl, r, cR, dx, _, _, rfl, hr6, N.cl, N.a7, rfl, _, rfl, yq (decide_eq_true rfl) ⟨_, fun _ _ h => h, ?_⟩⟩
      refine ⟨_, rfl, r, dx, _, rfl, hr6, rfl, r, dx, d, wl, nd', pb', st, kvs, e, ks', rows', x, rfl, hr6, hwl6, T6, hnd6, by omega, hE6, hB6, hO6, hby6, fun e0 H7 tp l k7 T7 g1 g2 g3 g4 => ?_, fun n' dd rest e0 => ⟨fun ff ho H7 kvs' pb2 k7 g1 g2 g3 g4 g5 => ?_, fun ww hw dd' H7 s7 hdd => ?_⟩⟩
      · refine ⟨0, by omega, rfl, kt6.kx k7 (fun z hz => ?_), T7, k7 _ _ (by simp [nwr, nwT]) hwl6, .inr ⟨rfl, tp, pb', g1, ?_⟩⟩
        · rcases List.mem_cons.mp hz with e1 | e1
          · rw [e1]; exact .inr fr3
          · exact .inl (List.mem_singleton.mp e1)
        · rw [<- hgo, e0]
          exact ⟨l, g2, g3⟩
      · refine ⟨rest.length + 1, by rw [e0, List.length_cons]; omega, rfl, kt6.kx k7 (fun z hz => ?_), T6.kx k7 (fun z hz => ?_), k7 _ _ (by simp [nwr, nwn]) hwl6, .inl ⟨kvs', putE e n' ff, ks' ++ [n'], rest, pb2, rfl, g1, g2, ?_, g3, hB6.put, ?_, g5, ?_⟩⟩
        · rcases List.mem_cons.mp hz with e1 | e1
          · rw [e1]; exact .inr fr3
          · rw [List.mem_singleton.mp e1]; exact .inr fnd1
        · rcases List.mem_cons.mp hz with e1 | e1
          · rw [e1]; exact .inl ⟨_, _, _, hr6⟩
          · rw [List.mem_singleton.mp e1]; exact .inr ⟨_, hnd6⟩
        · rw [e0, List.length_cons] at lk
          omega
        · rw [e0] at hO6
          exact hO6.2
        · rw [<- hgo, e0, goE, ho]
      · refine .inl ⟨X.ex, fun e' oe ws σ' hσ hc hdx hdt _ _ => ?_⟩
        have hσ : σ'.length = 8 := hσ
        refine ⟨_, by rw [List.getElem?_set_self (by omega)], rfl, hc, ⟨ws, hdt⟩, dd', _, _, hdx, hdd, rfl, by show 2 <= sizeLine; decide, fun tp htp => ?_⟩
        have n8 := same_new htp (.tup [.str "fault", .str ww])
        have s8 := s7.trans n8
        refine q _ tp (fun c u n h => s8 _ _ (kt6 c u n h)) (T6.same s8) ?_
        rw [<- hgo, e0, goE, hw]
        exact zg
    · refine ⟨_, rfl, r, cR, dx, _, _, rfl, hr6, N.cl, N.a7, rfl, _, rfl, yh (decide_eq_false (by intro z; cases z)) ?_⟩
      exact ⟨_, rfl, r, cR, dx, _, _, rfl, hr6, N.cl, N.a7, rfl, q _ tp kt6 T6 hAns⟩
  · rw [if_neg hlen] at hq
    exact .inl ⟨hlen, ErrN.at hq s1⟩
end
end GN
namespace L2
open PySem PySem.Spec PyProof.Rows
theorem Vr {X : Cx} {e C : Addr} {oe : Obj} {D : V} {c : Value} (hh : ∀ pins σ H s, Inv X pins σ H s -> s.heap.get? e = some oe) (hx : PySem.W.XIs X.K C) (hD : RelV D c) (hu : ∀ c', RelV D c' -> c' = c) :
    jCa X (.builtin "isinstance") (fun xs H Q => xs = [.ref e, D] /\ oe.cls = .ref C /\ oe.dict = none /\ (∃ vs, oe.data = .fields vs) /\ ∃ b, PySem.W.kitOne X.K (.ref C) c = some b /\ Q (.bl b) H) := by
  constructor
  intro pins s σ H xs us Q I r h
  obtain ⟨rfl, hc, hdx, ⟨vs, hd⟩, b, hk, q⟩ := h
  obtain ⟨u, u', rfl, r1, r2⟩ := j4 r
  cases r1
  obtain rfl := hu _ r2
  have J : PySem.W.InstAt s.heap e oe C none := ⟨hh _ _ _ _ I, hc, by unfold PySem.W.notCls; rw [hd], by rw [hdx]; exact True.intro⟩
  exact PySem.W.kia_one (PySem.W.kitx_excO hx) I.kIn J hk (fun z => nomatch z) fun tk => ⟨.bl b, H, I.tok tk, rfl, q⟩
end L2
namespace L2
open PySem PySem.Spec PyProof.Rows
def DxOk (H : Hp) (oe : Obj) : Prop := oe.dict = none \/ ∃ d fs, oe.dict = some d /\ H d = some (XD d fs)
theorem DxOk.same {H H' : Hp} {oe : Obj} (h : DxOk H oe) (s : Same H H') : DxOk H' oe := h.imp id fun ⟨d, fs, a, b⟩ => ⟨d, fs, a, s _ _ b⟩
theorem yb {X : Cx} {e C : Addr} {oe : Obj} {D : V} {c : Value} (hh : ∀ pins σ H s, Inv X pins σ H s -> s.heap.get? e = some oe) (hx : PySem.W.XIs X.K C) (hD : RelV D c) (hu : ∀ c', RelV D c' -> c' = c) :
    jCa X (.builtin "isinstance") (fun xs H Q => xs = [.ref e, D] /\ oe.cls = .ref C /\ DxOk H oe /\ (∃ vs, oe.data = .fields vs) /\ ∃ b, PySem.W.kitOne X.K (.ref C) c = some b /\ Q (.bl b) H) := by
  constructor
  intro pins s σ H xs us Q I r h
  obtain ⟨h1, h2, hd | ⟨d, fs, hd, hf⟩, h3⟩ := h
  · exact (Vr hh hx hD hu).out pins s σ H xs us Q I r ⟨h1, h2, hd, h3⟩
  · exact (JX (d := d) hh hx hD hu).out pins s σ H xs us Q I r ⟨h1, h2, hd, h3.1, ⟨fs, hf⟩, h3.2⟩
end L2
namespace GN
open PySem L2 K11
theorem Ans.kt {T : Addr} {H H' : Hp} {r : Addr} {o : List V ⊕ Str} (h : Ans H r o) (k : KT T H H') (t : Tb T H) : Ans H' r o := by
  obtain ⟨tb, ht⟩ := t.tbl
  match o, h with
  | .inl f, h =>
    obtain ⟨l, a, b⟩ := h
    exact ⟨l, k _ _ (zM a ht (by intro z; cases z)) a, k _ _ (zM b ht (by intro z; cases z)) b⟩
  | .inr w, h => exact k _ _ (zM h ht (by intro z; cases z)) h
theorem Ans.same {H H' : Hp} {r : Addr} {o : List V ⊕ Str} (h : Ans H r o) (s : Same H H') : Ans H' r o := by
  match o, h with
  | .inl f, h => obtain ⟨l, a, b⟩ := h; exact ⟨l, s _ _ a, s _ _ b⟩
  | .inr w, h => exact s _ _ h
structure Xc where
  nt : Addr
  tw : Addr
  un : Addr
  mi : Addr
  uh : Addr
  la : Addr
  nv : Addr
  go : Addr
  fu : Addr
  fa : Addr
  R : Addr
abbrev Xc.all (c : Xc) : List Addr := [c.nt, c.tw, c.un, c.mi, c.uh, c.la, c.nv, c.go, c.fu, c.fa]
def kitRow (K : PySem.W.Frag) (C : Addr) (cs : List Addr) (k : Nat) : Bool := cs.zipIdx.all fun y => PySem.W.kitOne K (.ref C) (.ref y.1) == some (decide (y.2 = k))
theorem kitRow.at {K : PySem.W.Frag} {C : Addr} {cs : List Addr} {k : Nat} (h : kitRow K C cs k = true) (j : Nat) (D : Addr) (hj : cs[j]? = some D) : PySem.W.kitOne K (.ref C) (.ref D) = some (decide (j = k)) := by
  unfold kitRow at h
  have m : (D, j) ∈ cs.zipIdx := List.mem_of_getElem? (i := j) (by rw [List.getElem?_zipIdx, hj]; simp)
  exact beq_iff_eq.mp (List.all_eq_true.mp h _ m)
structure Xr (K : PySem.W.Frag) (c : Xc) (C : Addr) (k : Nat) : Prop where
  xi : PySem.W.XIs K C
  kit : kitRow K C c.all k = true
  kR : PySem.W.kitOne K (.ref C) (.ref c.R) = some true
  kV : PySem.W.kitOne K (.ref C) (.type "ValueError") = some true
structure X38 (K : PySem.W.Frag) (mg : Str -> Option Value) (c : Xc) : Prop where
  nt : mg "NoText" = some (.ref c.nt)
  tw : mg "Twice" = some (.ref c.tw)
  un : mg "Unknown" = some (.ref c.un)
  mi : mg "Misfit" = some (.ref c.mi)
  uh : mg "Unheld" = some (.ref c.uh)
  la : mg "Lacking" = some (.ref c.la)
  nv : mg "NoValue" = some (.ref c.nv)
  go : mg "Gone" = some (.ref c.go)
  fu : mg "Full" = some (.ref c.fu)
  fa : mg "Fault" = some (.ref c.fa)
  R : mg "ReuseError" = some (.ref c.R)
  V : mg "ValueError" = none
  xu : Xr K c c.un 2
  xm : Xr K c c.mi 3
  xv : Xr K c c.nv 6
  e11 : PySem.W.exmOne K (.ref c.un) (.ref c.un) = some true
  e21 : PySem.W.exmOne K (.ref c.mi) (.ref c.un) = some false
  e22 : PySem.W.exmOne K (.ref c.mi) (.ref c.mi) = some true
  e31 : PySem.W.exmOne K (.ref c.nv) (.ref c.un) = some false
  e32 : PySem.W.exmOne K (.ref c.nv) (.ref c.mi) = some false
  e33 : PySem.W.exmOne K (.ref c.nv) (.ref c.nv) = some true
  fu' : PySem.W.findIn K (.ref c.un) "name" = some none
  fm' : PySem.W.findIn K (.ref c.mi) "name" = some none
  cu : ∃ f, XCl K c.un f
  cm : ∃ f, XCl K c.mi f
theorem Vs : bootBuiltins "ValueError" = some (.type "ValueError") := by decide +kernel
theorem ifT {b : Bool} {A B : Prop} (e : b = true) (h : A) : if b = true then A else B := by rw [if_pos e]; exact h
theorem ifF {b : Bool} {A B : Prop} (e : b = false) (h : B) : if b = true then A else B := by rw [if_neg (by rw [e]; decide)]; exact h
def X7 (K : PySem.W.Frag) (c : Xc) (e : Addr) (oe : Obj) : Sp := fun vs H Q _ => ∃ (k : Nat) (C : Addr), vs = [.ref e] /\ k < 10 /\ Xr K c C k /\ oe.cls = .ref C /\ DxOk H oe /\ (∃ ws, oe.data = .fields ws) /\ ∀ H', Same H H' -> Q (.bl true) H'
def GotV (H : Hp) (r : Addr) (n : Str) : Rf -> Prop
  | .unk => H r = some (.tup [.str "unknown", .str n])
  | .mis => H r = some (.tup [.str "misfit", .str n])
  | .nov => H r = some (.tup [.str "novalue", .str ""])
  | .ans o => Ans H r o
def VR (T : Addr) : Sp := fun vs H Q _ => ∃ (p al : Addr) (st : Int) (n : Str) (ks : List (List (Str × Nat))) (ds : List Dm) (as : List V) (os : List (Option (List V))), vs = [.ref p, .str n, .ref al, .int st] /\ IsPM H ks ds p /\ PMOk ks ds /\ ArgsX H ks al as os /\ os.length <= 1000 /\ Tb T H /\ ∀ H' r, KT T H H' -> Tb T H' -> GotV H' r n (rfE ds n os) -> Q (.ref r) H'
theorem len1 {k : Nat} (h : k < 10) : ((List.range 10).filter fun j => decide (j = k)).length = 1 := by
  have a : k = 0 \/ k = 1 \/ k = 2 \/ k = 3 \/ k = 4 \/ k = 5 \/ k = 6 \/ k = 7 \/ k = 8 \/ k = 9 := by omega
  rcases a with rfl | rfl | rfl | rfl | rfl | rfl | rfl | rfl | rfl | rfl <;> rfl
section
variable {P : Program} {w : World} {K : PySem.W.Frag} {mg : Str -> Option Value} {base : Heap} {f R C T : Addr} {fd : FuncData} {c : Xc}
theorem scOne : FnScope ["_law_e", "_law_some"] ["_law_e"] (zm sOne) := ⟨rfl, rfl, rfl, by decide +kernel, rfl, by decide +kernel, by decide +kernel⟩
theorem Qa : (["_law_e", "_law_some", "_law_one"] : List Str).Nodup := by decide +kernel
theorem qh (F : Fun K "_law_one_class" "_law_one_class" sOne f fd) (T : X38 K mg c) (m_isinstance : mg "isinstance" = none) (m_len : mg "len" = none) : FnOkH P w K mg base 1 f fd ["_law_e"] (X7 K c) := by
  refine F.byH scOne (fun e oe vs H Q E h => ?_) (fun cdv A outer s H vs Q e oe hr h hn => ?_)
  · obtain ⟨k, C, rfl, _⟩ := h
    rfl
  obtain ⟨k, C, rfl, k10, xr, hc, hdx, hda, q⟩ := h
  have xi := xr.xi
  have hh : ∀ pins σ H' s', Inv (wU P w K mg base ["_law_e", "_law_some"] "_law_one_class" (zm sOne) f cdv A outer s H) pins σ H' s' -> s'.heap.get? e = some oe := fun pins σ H' s' I => I.base.keep e oe hn.g hn.n hn.f (fun z => nomatch z)
  refine ⟨_,
    (zi (zt (i := 1) scOne.nd rfl (Or.inl rfl) (zA (ja_c (zE (yb (D := .ref c.nt) (c := .ref c.nt) (C := C) hh xi rfl (fun _ z => z)) rfl m_isinstance PyProof.Rows.boot_isinstance (ja_c (jv 0) (ja_c (ye (v := .ref c.nt) rfl T.nt rfl) zh))) (ja_c (zE (yb (D := .ref c.tw) (c := .ref c.tw) (C := C) hh xi rfl (fun _ z => z)) rfl m_isinstance PyProof.Rows.boot_isinstance (ja_c (jv 0) (ja_c (ye (v := .ref c.tw) rfl T.tw rfl) zh))) (ja_c (zE (yb (D := .ref c.un) (c := .ref c.un) (C := C) hh xi rfl (fun _ z => z)) rfl m_isinstance PyProof.Rows.boot_isinstance (ja_c (jv 0) (ja_c (ye (v := .ref c.un) rfl T.un rfl) zh))) (ja_c (zE (yb (D := .ref c.mi) (c := .ref c.mi) (C := C) hh xi rfl (fun _ z => z)) rfl m_isinstance PyProof.Rows.boot_isinstance (ja_c (jv 0) (ja_c (ye (v := .ref c.mi) rfl T.mi rfl) zh))) zh))))))
    (zi (zt (i := 1) scOne.nd rfl (Or.inl rfl) (zz jq (jv 1) (zA (ja_c (zE (yb (D := .ref c.uh) (c := .ref c.uh) (C := C) hh xi rfl (fun _ z => z)) rfl m_isinstance PyProof.Rows.boot_isinstance (ja_c (jv 0) (ja_c (ye (v := .ref c.uh) rfl T.uh rfl) zh))) (ja_c (zE (yb (D := .ref c.la) (c := .ref c.la) (C := C) hh xi rfl (fun _ z => z)) rfl m_isinstance PyProof.Rows.boot_isinstance (ja_c (jv 0) (ja_c (ye (v := .ref c.la) rfl T.la rfl) zh))) (ja_c (zE (yb (D := .ref c.nv) (c := .ref c.nv) (C := C) hh xi rfl (fun _ z => z)) rfl m_isinstance PyProof.Rows.boot_isinstance (ja_c (jv 0) (ja_c (ye (v := .ref c.nv) rfl T.nv rfl) zh))) (ja_c (zE (yb (D := .ref c.go) (c := .ref c.go) (C := C) hh xi rfl (fun _ z => z)) rfl m_isinstance PyProof.Rows.boot_isinstance (ja_c (jv 0) (ja_c (ye (v := .ref c.go) rfl T.go rfl) zh))) zh)))))))
    (zi (zt (i := 1) scOne.nd rfl (Or.inl rfl) (zz jq (jv 1) (zA (ja_c (zE (yb (D := .ref c.fu) (c := .ref c.fu) (C := C) hh xi rfl (fun _ z => z)) rfl m_isinstance PyProof.Rows.boot_isinstance (ja_c (jv 0) (ja_c (ye (v := .ref c.fu) rfl T.fu rfl) zh))) (ja_c (zE (yb (D := .ref c.fa) (c := .ref c.fa) (C := C) hh xi rfl (fun _ z => z)) rfl m_isinstance PyProof.Rows.boot_isinstance (ja_c (jv 0) (ja_c (ye (v := .ref c.fa) rfl T.fa rfl) zh))) zh)))))
    (zk (zw (xY (xh zS (zE zF rfl m_len PySem.boot_len (ja_c (Xw ["_law_one"] hn.p (jv 1) (fun _ _ _ _ _ => (zQ (i := 2) Qa rfl (Or.inl rfl))) (fun _ _ _ _ _ => (WK (yn (jv 2)))) (fun _ _ _ _ _ => (jv 2))) zh)) zj (zv _)) (xY (zE (yb (D := .ty "ValueError") (c := .type "ValueError") (C := C) hh xi rfl (fun _ z => z)) rfl m_isinstance PyProof.Rows.boot_isinstance (ja_c (jv 0) (ja_c (yr (v := .ty "ValueError") rfl T.V Vs rfl) zh))) (vd (zE (yb (D := .ref c.R) (c := .ref c.R) (C := C) hh xi rfl (fun _ z => z)) rfl m_isinstance PyProof.Rows.boot_isinstance (ja_c (jv 0) (ja_c (ye (v := .ref c.R) rfl T.R rfl) zh))))))))))), ?_⟩
  obtain ⟨bs, ebs⟩ : ∃ bs : Nat -> Bool, bs = fun j => decide (j = k) := ⟨_, rfl⟩
  have kt : ∀ (j : Nat) (D : Addr), c.all[j]? = some D -> PySem.W.kitOne K (.ref C) (.ref D) = some (bs j) := fun j D h => by rw [ebs]; exact kitRow.at xr.kit j D h
  refine ⟨_, rfl, rfl, hc, hdx, hda, _, kt 0 _ rfl, _, rfl, rfl, hc, hdx, hda, _, kt 1 _ rfl, _, rfl, rfl, hc, hdx, hda, _, kt 2 _ rfl, _, rfl, rfl, hc, hdx, hda, _, kt 3 _ rfl, by show 4 <= sizeLine; decide, fun p1 h1 => ?_⟩
  have s1 := same_new (o := .lst [.bl (bs 0), .bl (bs 1), .bl (bs 2), .bl (bs 3)]) h1
  have t1 := zg (H := H) (a := p1) (o := .lst [.bl (bs 0), .bl (bs 1), .bl (bs 2), .bl (bs 3)])
  show (tSeq _ _ : TS) _ _ (upd H p1 (.lst [.bl (bs 0), .bl (bs 1), .bl (bs 2), .bl (bs 3)]))
  generalize upd H p1 (.lst [.bl (bs 0), .bl (bs 1), .bl (bs 2), .bl (bs 3)]) = H1 at *
  have dx1 := hdx.same s1
  refine ⟨_, rfl, _, rfl, rfl, hc, dx1, hda, _, kt 4 _ rfl, _, rfl, rfl, hc, dx1, hda, _, kt 5 _ rfl, _, rfl, rfl, hc, dx1, hda, _, kt 6 _ rfl, _, rfl, rfl, hc, dx1, hda, _, kt 7 _ rfl, by show 4 <= sizeLine; decide, fun p2 h2 => ⟨p1, p2, _, _, rfl, rfl, old h2 t1, zg, by show 8 <= sizeLine; decide, fun p3 h3 => ?_⟩⟩
  have s3 := (s1.new (o := .lst [.bl (bs 4), .bl (bs 5), .bl (bs 6), .bl (bs 7)]) h2).new (o := .lst [.bl (bs 0), .bl (bs 1), .bl (bs 2), .bl (bs 3), .bl (bs 4), .bl (bs 5), .bl (bs 6), .bl (bs 7)]) h3
  have t3 := zg (H := upd H1 p2 (.lst [.bl (bs 4), .bl (bs 5), .bl (bs 6), .bl (bs 7)])) (a := p3) (o := .lst [.bl (bs 0), .bl (bs 1), .bl (bs 2), .bl (bs 3), .bl (bs 4), .bl (bs 5), .bl (bs 6), .bl (bs 7)])
  show (tSeq _ _ : TS) _ _ (upd (upd H1 p2 (.lst [.bl (bs 4), .bl (bs 5), .bl (bs 6), .bl (bs 7)])) p3 (.lst [.bl (bs 0), .bl (bs 1), .bl (bs 2), .bl (bs 3), .bl (bs 4), .bl (bs 5), .bl (bs 6), .bl (bs 7)]))
  generalize upd (upd H1 p2 (.lst [.bl (bs 4), .bl (bs 5), .bl (bs 6), .bl (bs 7)])) p3 (.lst [.bl (bs 0), .bl (bs 1), .bl (bs 2), .bl (bs 3), .bl (bs 4), .bl (bs 5), .bl (bs 6), .bl (bs 7)]) = H3 at *
  have dx3 := hdx.same s3
  refine ⟨_, rfl, _, rfl, rfl, hc, dx3, hda, _, kt 8 _ rfl, _, rfl, rfl, hc, dx3, hda, _, kt 9 _ rfl, by show 2 <= sizeLine; decide, fun p4 h4 => ⟨p3, p4, _, _, rfl, rfl, old h4 t3, zg, by show 10 <= sizeLine; decide, fun p5 h5 => ?_⟩⟩
  have s5 := (s3.new (o := .lst [.bl (bs 8), .bl (bs 9)]) h4).new (o := .lst ((List.range 10).map fun j => V.bl (bs j))) h5
  obtain ⟨H5, hH5⟩ : ∃ H5 : Hp, H5 = upd (upd H3 p4 (.lst [.bl (bs 8), .bl (bs 9)])) p5 (.lst ((List.range 10).map fun j => V.bl (bs j))) := ⟨_, rfl⟩
  have t5 : H5 p5 = some (.lst ((List.range 10).map fun j => V.bl (bs j))) := by rw [hH5]; exact zg
  rw [<- hH5] at s5
  refine ⟨_, rfl, p5, rfl, ⟨_, SqL.of zg⟩, xO (xs := (List.range 10).map fun j => V.bl (bs j)) (fun i τ ys H' => H' = H5 /\ (∃ x, τ = [some (.ref e), some (.ref p5), x]) /\ ys = ((List.range i).filter bs).map fun _ => V.bl true) ⟨hH5.symm, ⟨none, rfl⟩, rfl⟩ (fun i τ ys H' _ h => by rw [h.1]; exact SqL.of t5) ?_ ?_⟩
  clear hH5
  · rintro i x τ ys H' hx ⟨rfl, ⟨y, rfl⟩, rfl⟩
    rw [List.getElem?_map] at hx
    obtain ⟨j, hj, rfl⟩ := Option.map_eq_some_iff.mp hx
    have hi : i < 10 := by
      have := (List.getElem?_eq_some_iff.mp hj).1
      rwa [List.length_range] at this
    rw [List.getElem?_range hi] at hj
    cases hj
    cases c' : bs i with
    | false =>
      refine ⟨_, rfl, _, rfl, iteF ⟨rfl, ⟨_, rfl⟩, ?_⟩⟩
      rw [List.range_succ, List.filter_append, List.filter_cons, c']
      simp
    | true =>
      refine ⟨_, rfl, _, rfl, iteT ⟨_, rfl, ?_, rfl, ⟨_, rfl⟩, ?_⟩⟩
      · have := List.length_filter_le bs (List.range i)
        rw [List.length_range] at this
        rw [List.length_map]
        have : sizeLine ≥ 100 := by decide
        omega
      · rw [List.range_succ, List.filter_append, List.filter_cons, c', List.map_append]
        rfl
  · rintro τ ys H' ⟨rfl, _, rfl⟩ p6 h6
    rw [List.length_map, List.length_range]
    have s6 := s5.new (o := .lst (((List.range 10).filter bs).map fun _ => V.bl true)) h6
    have l1 : (((List.range 10).filter bs).map fun _ => V.bl true).length = 1 := by rw [List.length_map, ebs]; exact len1 k10
    have dx6 := hdx.same s6
    refine ⟨_, _, rfl, .inl (SqL.of zg), rfl, _, rfl, ifT (by rw [l1]; rfl) ?_⟩
    exact ⟨_, rfl, rfl, hc, dx6, hda, _, xr.kV, _, rfl, iteT ⟨_, rfl, rfl, hc, dx6, hda, _, xr.kR, q _ s6⟩⟩
end
end GN
namespace GN
open PySem L2 K11
section
variable {P : Program} {w : World} {K : PySem.W.Frag} {mg : Str -> Option Value} {base : Heap} {f R C T : Addr} {fd : FuncData} {c : Xc}
theorem scGot : FnScope ["_law_program", "_law_name_here", "_law_args", "_law_steps", "_law_said", "_law_found", "_law_e"] ["_law_program", "_law_name_here", "_law_args", "_law_steps"] (zm sGot) := ⟨rfl, rfl, rfl, by decide +kernel, rfl, by decide +kernel, by decide +kernel⟩
theorem qi (F : Fun K "_law_got" "_law_got" sGot f fd) (X : X38 K mg c) (GR : Ca P w K mg base (CXf P w) 7 "run" ["program", "name", "args", "steps"] (X6 c.un c.mi c.nv T)) (GO : CaH P w K mg base 1 "_law_one_class" ["_law_e"] (X7 K c)) : FnOk P w K mg base CX0 8 f fd ["_law_program", "_law_name_here", "_law_args", "_law_steps"] (VR T) := by
  refine F.by scGot (fun vs H Q E h => ?_) (fun cdv A outer s H vs Q E hr h => ?_)
  · obtain ⟨p, al, st, n, ks, ds, as, os, rfl, _⟩ := h
    rfl
  obtain ⟨p, al, st, n, ks, ds, as, os, rfl, hP, hOk, hA, l1000, hT, q⟩ := h
  obtain ⟨f1, M1⟩ := X.cu
  obtain ⟨f2, M2⟩ := X.cm
  have hr1 : Room 1 _ := hr.mono (by decide)
  refine ⟨_,
    (zi (zt (i := 4) scGot.nd rfl (Or.inl rfl) (zA zh))
    (zi (zt (i := 5) scGot.nd rfl (Or.inl rfl) xW)
    (zi (Vg (tb := fun E => _) (fun pins E => zk (zt (i := 5) scGot.nd rfl (Or.inl rfl) (zC GR hr rfl XS (ja_c (jv 0) (ja_c (jv 1) (ja_c (jv 2) (ja_c (jv 3) zh)))))))
      (ZD (i := 6) (th := fun e oe => _) (ZD (i := 6) (th := fun e oe => _) (ZD (i := 6) (th := fun e oe => _) XT
        scGot.nd rfl rfl X.nv (fun e oe => zk (zt (i := 4) scGot.nd rfl (Or.inl rfl) (zA (ja_c zu (ja_c zu (ja_c (jN (e := e) (oe := oe) GO (hr1.h _) rfl rfl List.mem_cons_self (ja_c (jv 6) zh)) zh)))))))
        scGot.nd rfl rfl X.mi (fun e oe => zk (zt (i := 4) scGot.nd rfl (Or.inl rfl) (zA (ja_c zu (ja_c (vn (e := e) (oe := oe) List.mem_cons_self M2 X.fm' X.xm.xi.hd (jv 6)) (ja_c (jN (e := e) (oe := oe) GO (hr1.h _) rfl rfl List.mem_cons_self (ja_c (jv 6) zh)) zh)))))))
        scGot.nd rfl rfl X.un (fun e oe => zk (zt (i := 4) scGot.nd rfl (Or.inl rfl) (zA (ja_c zu (ja_c (vn (e := e) (oe := oe) List.mem_cons_self M1 X.fu' X.xu.xi.hd (jv 6)) (ja_c (jN (e := e) (oe := oe) GO (hr1.h _) rfl rfl List.mem_cons_self (ja_c (jv 6) zh)) zh))))))))
    (zi (zK (zr (JI hr) (jv 4) (zA zh) (zv _))
      (zk (zw (jv 5))) zB)
    (zi (zK (xX (yn (zq zG (jv 4) zj (fun _ _ => rfl))))
      (zk (zw (zN (ja_c zu (ja_c zu zh))))) zB)
    (zk (zw (zN (ja_c (zq zG (jv 4) zj (fun _ _ => rfl)) (ja_c (zq zG (jv 4) zj (fun _ _ => rfl)) zh)))))))))), ?_⟩
  have sl := zX
  refine (show ∀ (u : TS) (D : Ends), (∀ (σ : St) (H3 : Hp) (l : Addr) (a b : Str), σ.length = 7 -> σ[4]? = some (some (.ref l)) -> Same H H3 -> H3 l = some (.lst [.str a, .str b, .bl true]) -> (∀ H' r, H' r = some (.tup [.str a, .str b]) -> GotV H' r n (rfE ds n os)) -> u D σ H3) ->
      (∀ (H3 : Hp) (r l0 : Addr), KT T H H3 -> Tb T H3 -> H3 l0 = some (.lst []) -> GotV H3 r n (rfE ds n os) -> u D [some (.ref p), some (.str n), some (.ref al), some (.int st), some (.ref l0), some (.ref r), none] H3) -> (tSeq _ (tSeq _ (tSeq _ u)) : TS) D [some (.ref p), some (.str n), some (.ref al), some (.int st), none, none, none] H from ?key) _ _ ?r1 ?r2
  case key =>
    intro u D q1 q2
    refine ⟨by show 0 <= sizeLine; decide, fun l0 h0 => ?_⟩
    have s0 := same_new (o := .lst []) h0
    have e0 := zg (H := H) (a := l0) (o := .lst [])
    have nT : l0 ≠ T := fun z => by
      obtain ⟨tb, ht⟩ := hT.tbl
      rw [z, ht] at h0
      cases h0
    refine ⟨_, rfl, _, rfl, _, rfl, _, rfl, p, al, st, n, ks, ds, as, os, rfl, hP.keep (.of s0), hOk, hA.same s0, l1000, hT.same s0, ?_⟩
    have sub : ∀ (a b : Str) (C : Addr) (k : Nat) (e : Addr) (oe : Obj) (ws : Array Value) (H2 : Hp) (σ : St), Same H H2 -> σ.length = 7 -> k < 10 -> Xr K c C k -> oe.cls = .ref C -> DxOk H2 oe -> oe.data = .fields ws -> ws[2]? = some .none -> (∀ H' r, H' r = some (.tup [.str a, .str b]) -> GotV H' r n (rfE ds n os)) ->
        (tCaH e oe (X7 K c) (xT (tVar 6) tNil) : TE) (σ.set 6 (some (.ref e))) H2 fun y H4 => 3 <= sizeLine /\ ∀ l, H4 l = none -> u D (((σ.set 6 (some (.ref e))).set 4 (some (.ref l))).set 6 none) (upd H4 l (.lst [.str a, .str b, y])) := by
      intro a b C k e oe ws H2 σ s2 hσ hk xr hc hdx hda hz hv
      refine ⟨_, by rw [List.getElem?_set_self (by omega)], ⟨ws, hda, hz⟩, k, C, rfl, hk, xr, hc, hdx, ⟨ws, hda⟩, fun H4 s4 => ⟨by decide, fun l hl => ?_⟩⟩
      refine q1 _ _ l a b (by rw [List.length_set, List.length_set, List.length_set]; exact hσ) ?_ ((s2.trans s4).new hl) zg hv
      rw [List.getElem?_set_ne (by decide), List.getElem?_set_self (by rw [List.length_set]; omega)]
    cases hq : rfE ds n os with
    | unk =>
      intro d H2 s2 hd
      refine .inl ⟨X.e11, fun e oe ws σ hσ hc hdx hda hz he => ?_⟩
      have hσ : σ.length = 7 := hσ
      refine ⟨_, by rw [List.getElem?_set_self (by omega)], rfl, hc, ⟨ws, hda⟩, d, _, _, hdx, hd, rfl, ?_⟩
      exact sub "unknown" n c.un 2 e oe ws H2 σ (s0.trans s2) hσ (by decide) X.xu hc (.inr ⟨d, _, hdx, hd⟩) hda hz (fun H' r h => by rw [hq]; exact h)
    | mis =>
      intro d H2 s2 hd
      refine .inr ⟨X.e21, .inl ⟨X.e22, fun e oe ws σ hσ hc hdx hda hz he => ?_⟩⟩
      have hσ : σ.length = 7 := hσ
      refine ⟨_, by rw [List.getElem?_set_self (by omega)], rfl, hc, ⟨ws, hda⟩, d, _, _, hdx, hd, rfl, ?_⟩
      exact sub "misfit" n c.mi 3 e oe ws H2 σ (s0.trans s2) hσ (by decide) X.xm hc (.inr ⟨d, _, hdx, hd⟩) hda hz (fun H' r h => by rw [hq]; exact h)
    | nov =>
      intro H2 s2
      refine .inr ⟨X.e31, .inr ⟨X.e32, .inl ⟨X.e33, fun e oe ws σ hσ hc hdx hda hz he => ?_⟩⟩⟩
      have hσ : σ.length = 7 := hσ
      exact sub "novalue" "" c.nv 6 e oe ws H2 σ (s0.trans s2) hσ (by decide) X.xv hc (.inl hdx) hda hz (fun H' r h => by rw [hq]; exact h)
    | ans o =>
      intro H2 r k2 T2 ha
      exact q2 _ r l0 ((KT.of s0).trans k2) T2 (k2 _ _ nT e0) (by rw [hq]; exact ha)
  case r1 =>
    intro σ H3 l a b hσ hl s3 e3 hv
    refine ⟨_, hl, by show 0 <= sizeLine; decide, fun pe he => ?_⟩
    have o1 := s3.new (o := .lst []) he
    have e4 := old (o := .lst []) he e3
    refine ⟨_, _, _, rfl, rfl, SqL.of e4, SqL.of zg, _, rfl, ifF rfl (nxt ?_)⟩
    refine ⟨_, hl, l, _, _, _, rfl, rfl, SqL.of e4, zp (j := 2) rfl, _, rfl, iteF (nxt ?_)⟩
    refine ⟨_, hl, l, _, _, _, rfl, rfl, SqL.of e4, rfl, _, hl, l, _, _, _, rfl, rfl, SqL.of e4, zp (j := 1) rfl, by show 2 <= sizeLine; decide, fun r hr => ?_⟩
    exact q _ r (KT.of (o1.new hr)) (hT.same (o1.new hr)) (hv _ _ zg)
  case r2 =>
    intro H3 r l0 k3 T3 e3 hv
    refine ⟨_, rfl, by show 0 <= sizeLine; decide, fun pe he => ?_⟩
    have o1 := same_new (o := .lst []) he
    refine ⟨_, _, _, rfl, rfl, SqL.of (o1 _ _ e3), SqL.of zg, _, rfl, ifT rfl ⟨_, rfl, q _ r (k3.trans (KT.of o1)) (T3.same o1) ?_⟩⟩
    cases hq : rfE ds n os with
    | unk => rw [hq] at hv; exact o1 _ _ hv
    | mis => rw [hq] at hv; exact o1 _ _ hv
    | nov => rw [hq] at hv; exact o1 _ _ hv
    | ans o => rw [hq] at hv; exact Ans.same hv o1
end
end GN
namespace L2
open PySem PySem.Spec PyProof.Rows PySem.SeqAt
open PySem.AutoSeq1 (wpAny_loadPart')
theorem Yp {prog : Program} {w : World} {A : Around} {E : Value -> Shared -> Prop} {s : Shared} {Q : Option PySem.Fin × Unit -> Shared -> Prop} (items : Array Value) (x : Value) (e : Value -> Bool) (he : ∀ y, y ∈ items -> EqAt A s y x (e y)) (j : Nat) (hj : j < items.size) (hit : e items[j] = true) (hno : ∀ m (hm : m < items.size), m < j -> e items[m] = false)
    (hq : Q (some (.done (.ret (.int j s.toks))), ()) { s with toks := s.toks + 1 }) : ∀ (k i : Nat), i <= j -> i + k = items.size ->
    wpAny (model prog w) A (forIn (List.range' i k 1) ((none : Option PySem.Fin), ()) fun (i : Nat) __s =>
      match items[i]? with
      | some y => do
        let __do_lift <- eqBool y x
        if __do_lift = true then do
            let __do_lift <- retInt ((i : Nat) : Int)
            pure (ForInStep.done (some __do_lift, ()))
          else pure (ForInStep.yield (none, ()))
      | x => pure (ForInStep.yield (none, ()))) Q E s := by
  intro k
  induction k with
  | zero => intro i h1 h2; omega
  | succ k ih =>
    intro i h1 h2
    have hi : i < items.size := by omega
    rw [List.range'_succ, List.forIn_cons, Array.getElem?_eq_getElem hi]
    dsimp only
    refine wpAny_bind (wpAny_bind (he _ (Array.getElem_mem hi) prog w _ _ ?_))
    by_cases c : i = j
    · subst c
      rw [if_pos hit]
      obtain ⟨hp, g, d, tk, os⟩ := s
      wp_walk
      exact hq
    · rw [if_neg (by rw [hno i hi (by omega)]; decide)]
      exact wpAny_pure (ih (i + 1) (by omega) (by omega))
theorem tidx (t : Addr) (items : Array Value) (o : Obj) (n : Nat) (x : Value) (e : Value -> Bool) (j : Nat) (hj : j < items.size) (hit : e items[j] = true) (hno : ∀ m (hm : m < items.size), m < j -> e items[m] = false) :
    Meets (Builtin.«tuple.index» ⟨[.ref t, x], []⟩)
      (fun A R s => s.heap.get? t = some o /\ o.data = .seq items n /\ (∀ y, y ∈ items -> EqAt A.in1 s y x (e y)) /\ R (.ok (.ret (.int j s.toks))) { s with toks := s.toks + 1 }) := by
  intro prog w A R s h
  obtain ⟨hp, g, d, tk, os⟩ := s; obtain ⟨hl, hd, he, h⟩ := h
  unfold Builtin.«tuple.index»
  wp_walk using wpAny_loadPart' hl
  rw [hd]
  refine wpAny_pure (wpAny_pure ?_)
  refine wpAny_bind (wpAny_pure (wpAny_bind (wpAny_pure (wpAny_bind ?_))))
  rw [Std.Legacy.Range.forIn_eq_forIn_range']
  show wpAny _ _ (forIn (List.range' 0 ((min items.size items.size - 0 + 1 - 1) / 1) 1) _ _) _ _ _
  rw [show ((min items.size items.size - 0 + 1 - 1) / 1) = items.size by rw [Nat.min_self]; omega]
  refine Yp items x e he j hj hit hno ?_ items.size 0 (Nat.zero_le _) (by omega)
  exact wpAny_pure h
def rIdx (K : PySem.W.Frag) : V -> List V -> Hp -> VK -> Prop := fun x vs H Q => ∃ (p : Addr) (ns : List Str) (n : Str) (j : Nat), x = .ref p /\ vs = [.str n] /\ SqT K H p (ns.map V.str) /\ ns[j]? = some n /\ ns.Nodup /\ Q (.int (j : Nat)) H
section
variable {X : Cx}
theorem X8 : jMt X "tuple.index" (rIdx X.K) := by
  constructor
  intro pins s σ H x vs v us Q I rx rv h
  obtain ⟨p, ns, n, j, rfl, rfl, hS, hj, hn, q⟩ := h
  cases rx
  obtain ⟨u, rfl, ru⟩ := wB rv
  obtain ⟨t, rfl⟩ := ru
  obtain ⟨its, r, ⟨o, ho, hc, m, hd⟩, hz⟩ := I.tuple hS
  have fl : (ns.map V.str).all yp = true := by
    rw [List.all_map]
    exact List.all_eq_true.mpr fun _ _ => rfl
  have hl := r.length
  rw [List.length_map] at hl
  have hjl := (List.getElem?_eq_some_iff.mp hj).1
  have at_ : ∀ (i : Nat) (hi : i < its.length), ∃ z t', ns[i]? = some z /\ its[i] = .str z t' := fun i hi => by
    have hn' : (ns.map V.str)[i]? = some (.str (ns[i]'(by omega))) := by rw [List.getElem?_map, List.getElem?_eq_getElem (by omega)]; rfl
    obtain ⟨u, e1, t', rfl⟩ := r.get hn'
    rw [List.getElem?_eq_getElem hi] at e1
    exact ⟨_, t', List.getElem?_eq_getElem _, Option.some.inj e1⟩
  refine call_meets PySem.F.slot_tuple_index ⟨_, ho, hc⟩ PySem.F.entry_tuple_index (PySem.F.args_tuple_index_2 _ _)
    (tidx p its.toArray o m (.str n t) (eqU (.str n)) j (by rw [List.size_toArray]; omega) ?_ fun i hi hij => ?_) ⟨ho, hd, fun y hy => xg (x := .str n) ⟨t, rfl⟩ rfl r fl y (by simpa using hy), ?_⟩
  · obtain ⟨z, t', e1, e2⟩ := at_ j (by omega)
    rw [hj] at e1
    cases e1
    rw [List.getElem_toArray, e2]
    show (decide _) = true
    simp
  · have hi' : i < its.length := by simpa using hi
    obtain ⟨z, t', e1, e2⟩ := at_ i hi'
    rw [List.getElem_toArray, e2]
    show (decide _) = false
    refine decide_eq_false fun e => ?_
    subst e
    have := yD hn e1 hj
    omega
  · exact ⟨.int _, H, I.tok _, ⟨_, rfl⟩, q⟩
end
end L2
namespace GN
open PySem L2 K11
theorem VS {z : Str} {b : Bool} {k : Nat} : z.length + 3 <= (nm z b k).length /\ (nm z b k).length <= z.length + 4 := by
  have h1 := wk k
  have h2 := jK k
  unfold nm
  split
  · rw [zZ, zZ]; omega
  · rw [zZ, zZ]; omega
def IsT2 (H : Hp) (tg : Addr) (t0 t1 : Str) : Prop := ∃ ta tb, H tg = some (.lst [.ref ta, .ref tb]) /\ H ta = some (.tup [.str t0, .int 0]) /\ H tb = some (.tup [.str t1, .int 1])
theorem IsT2.same {H H' : Hp} {tg : Addr} {t0 t1 : Str} (h : IsT2 H tg t0 t1) (s : Same H H') : IsT2 H' tg t0 t1 := let ⟨a, b, x, y, z⟩ := h; ⟨a, b, s _ _ x, s _ _ y, s _ _ z⟩
theorem IsT2.kp {H H' : Hp} {st tg : Addr} {t0 t1 : Str} (h : IsT2 H tg t0 t1) (k : Kp st H H') (n : tg ≠ st) {xs : List V} (e : H st = some (.lst xs)) : IsT2 H' tg t0 t1 := let ⟨a, b, x, y, z⟩ := h; ⟨a, b, k.k _ _ n x, k.k _ _ (zM y e (by intro q; cases q)) y, k.k _ _ (zM z e (by intro q; cases q)) z⟩
def ks2 (t0 t1 : Str) : List (List (Str × Nat)) := [[(t0, 0)], [(t1, 1)]]
theorem _root_.L2.Sme.same {H H' : Hp} (s : Same H H') : ∀ {n : Nat} {x y : V}, Sme n H x y -> Sme n H' x y
  | 0, _, _, h => h
  | n + 1, _, _, .inl h => .inl h
  | n + 1, _, _, .inr ⟨a, b, xs, ys, e1, e2, h, hl, g⟩ => .inr ⟨a, b, xs, ys, e1, e2, h.imp (fun ⟨p, q⟩ => ⟨s _ _ p, s _ _ q⟩) (fun ⟨p, q⟩ => ⟨s _ _ p, s _ _ q⟩), hl, fun i u v h1 h2 => L2.Sme.same s (g i u v h1 h2)⟩
theorem _root_.L2.Sme.kt {T : Addr} {H H' : Hp} (k : KT T H H') (t : Tb T H) : ∀ {n : Nat} {x y : V}, Sme n H x y -> Sme n H' x y
  | 0, _, _, h => h
  | n + 1, _, _, .inl h => .inl h
  | n + 1, _, _, .inr ⟨a, b, xs, ys, e1, e2, h, hl, g⟩ => .inr ⟨a, b, xs, ys, e1, e2, by
      obtain ⟨tb, ht⟩ := t.tbl
      exact h.imp (fun ⟨p, q⟩ => ⟨k _ _ (zM p ht (by intro z; cases z)) p, k _ _ (zM q ht (by intro z; cases z)) q⟩) (fun ⟨p, q⟩ => ⟨k _ _ (zM p ht (by intro z; cases z)) p, k _ _ (zM q ht (by intro z; cases z)) q⟩), hl, fun i u v h1 h2 => L2.Sme.kt k t (g i u v h1 h2)⟩
theorem z9 {H : Hp} {n : Nat} {xs : List V} {a b : Addr} (h : (H a = some (.lst xs) /\ H b = some (.lst xs)) \/ (H a = some (.tup xs) /\ H b = some (.tup xs))) (f : ∀ x ∈ xs, yp x = true) : Sme (n + 2) H (.ref a) (.ref b) :=
  .inr ⟨a, b, xs, xs, rfl, rfl, h, rfl, fun i u v h1 h2 => .inl ⟨f u (List.mem_of_getElem? h1), by rw [h1] at h2; exact Option.some.inj h2⟩⟩
theorem vA {H : Hp} {n : Nat} {v : V} (f : yp v = true) : Sme (n + 1) H v v := .inl ⟨f, rfl⟩
theorem sz2 {t0 t1 t : Str} (hn : t0 ≠ t1) : szOf (puts (ks2 t0 t1).flatten []) t = if t = t1 then some 1 else if t = t0 then some 0 else none := by
  have : valV (puts (ks2 t0 t1).flatten []) (.inr t) = if t = t1 then some (.int ((1 : Nat) : Int)) else if t = t0 then some (.int ((0 : Nat) : Int)) else none := by
    show valV (putK (putK [] (Sum.inr t0 : Key) (.int ((0 : Nat) : Int))) (Sum.inr t1 : Key) (.int ((1 : Nat) : Int))) (Sum.inr t : Key) = _
    rw [xn, xn]
    by_cases c : t = t1
    · rw [if_pos (by rw [c]), if_pos c]
    · rw [if_neg (fun z => c (Sum.inr.inj z)), if_neg c]
      by_cases c' : t = t0
      · rw [if_pos (by rw [c']), if_pos c']
      · rw [if_neg (fun z => c' (Sum.inr.inj z)), if_neg c']
        rfl
  unfold szOf
  rw [this]
  split
  · rename_i h; split at h
    · cases h; rw [if_pos (by assumption)]; rfl
    · split at h
      · cases h; rw [if_neg (by assumption), if_pos (by assumption)]; rfl
      · cases h
  · rename_i h
    by_cases c : t = t1
    · exact absurd (by rw [if_pos c]; rfl) (h 1)
    · by_cases c' : t = t0
      · exact absurd (by rw [if_neg c, if_pos c']; rfl) (h 0)
      · rw [if_neg c, if_neg c']
theorem ZI {zs : List Str} {k : Int} (h0 : 0 <= k) (h1 : k < ((zs.length : Nat) : Int)) : ∃ z, z ∈ zs /\ atI (zs.map V.str) k = some (.str z) := by
  obtain ⟨r, rfl⟩ : ∃ r : Nat, k = (r : Int) := ⟨k.toNat, by omega⟩
  have hr : r < zs.length := by omega
  exact ⟨zs[r], List.getElem_mem _, zp (by rw [List.getElem?_map, List.getElem?_eq_getElem hr]; rfl)⟩
def Fl4 : V -> Prop
  | .int _ => True
  | .str _ => True
  | .non => True
  | .bl _ => True
  | _ => False
theorem Fl4.th {H : Hp} {x : V} (h : Fl4 x) : ∃ b, Th H b x := by
  match x, h with
  | .int i, _ => exact ⟨_, .int i⟩
  | .str i, _ => exact ⟨_, .str i⟩
  | .non, _ => exact ⟨_, .non⟩
  | .bl i, _ => exact ⟨_, .bl i⟩
theorem Fl4.fl {x : V} (h : Fl4 x) : yp x = true := by
  match x, h with
  | .int i, _ => rfl
  | .str i, _ => rfl
  | .non, _ => rfl
  | .bl i, _ => rfl
theorem vB {kvs : Kvs} {i : Int} (h : Sm i) : dl kvs (.int i) = some 0 := if_pos h
theorem X9 {kvs : Kvs} {i : Int} (h : ¬ Sm i) : dl kvs (.int i) = none := if_neg h
theorem fls0 : ∀ x ∈ ([] : List V), Fl4 x := fun _ h => nomatch h
theorem fls {a : V} {xs : List V} (h : Fl4 a) (g : ∀ x ∈ xs, Fl4 x) : ∀ x ∈ a :: xs, Fl4 x := fun x hx => by
  rcases List.mem_cons.mp hx with rfl | hx
  · exact h
  · exact g x hx
theorem ya (kvs : Kvs) (x : V) (xs : List V) : hgt kvs (x :: xs) = match hgt kvs xs, dl kvs x with
    | some n, some s => if s <= n then some (n - s + 1) else none
    | _, _ => none := rfl
theorem wn (k : Nat) : cl (core k) = [97 + k / 2 % 26, 122, 97 + k / 52 % 26] := by
  unfold core
  rw [yc, yc]
  rfl
theorem ZJ (k : Nat) : cl (ys k) = List.replicate (k % 2) 121 := by
  unfold ys
  rcases (show k % 2 = 0 \/ k % 2 = 1 by omega) with e | e
  · rw [e]; decide +kernel
  · rw [e]; decide +kernel
theorem xp {z : Str} {b : Bool} {j k : Nat} (hj : j < 1352) (hk : k < 1352) (h : nm z b j = nm z b k) : j = k := by
  have hl : ∀ i : Nat, (cl (core i)).length = 3 := fun i => by rw [wn]; rfl
  have cinj : cl (core j) = cl (core k) -> j % 2 = k % 2 -> j = k := fun e e0 => by
    rw [wn, wn] at e
    injection e with e1 e2
    injection e2 with _ e3
    injection e3 with e3 _
    omega
  have e := congrArg cl h
  unfold nm at e
  cases b with
  | true =>
    rw [if_pos rfl, if_pos rfl, yc, yc, yc, yc] at e
    have el := congrArg List.length e
    rw [List.length_append, List.length_append, List.length_append, List.length_append, hl, hl, ZJ, ZJ, List.length_replicate, List.length_replicate] at el
    rw [List.append_assoc, List.append_assoc] at e
    exact cinj (List.append_inj_left e (by rw [hl, hl])) (by omega)
  | false =>
    rw [if_neg (by decide), if_neg (by decide), yc, yc, yc, yc] at e
    have el := congrArg List.length e
    rw [List.length_append, List.length_append, List.length_append, List.length_append, hl, hl, ZJ, ZJ, List.length_replicate, List.length_replicate] at el
    exact cinj (List.append_inj_right' e (by rw [hl, hl])) (by omega)
def wo (K : PySem.W.Frag) : Sp := fun vs H Q _ => ∃ (st wp : Addr) (B : Nat) (z n : Str) (b : Bool), vs = [.ref st, .ref wp, .str n] /\ Sta K H st B /\ B < LIM /\ H wp = some (.lst [.str z, .bl b]) /\ wp ≠ st /\ z.length <= 6 /\ n.length <= 20 /\ ∀ H' x, Kp st H H' -> Sta K H' st (B + 1) -> Q (.str x) H'
def VT (K : PySem.W.Frag) : Sp := fun vs H Q _ => ∃ (st tg : Addr) (B : Nat) (z : Str) (b : Bool), vs = [.ref st, .ref tg] /\ Sta K H st B /\ B < LIM /\ IsT2 H tg (nm z b 0) (nm z b 1) /\ tg ≠ st /\ z.length <= 6 /\ ∀ H' v, Kp st H H' -> Sta K H' st (B + 1) -> (∀ H2 : Hp, (∀ p u, H p = none -> H' p = some u -> H2 p = some u) -> ArgX H2 (ks2 (nm z b 0) (nm z b 1)) v none /\ Sme 4 H2 v v) -> (∀ p, v = .ref p -> H p = none) -> Q v H'
section
variable {P : Program} {w : World} {K : PySem.W.Frag} {mg : Str -> Option Value} {base : Heap} {f T : Addr} {fd : FuncData}
theorem scStranger : FnScope ["_law_state", "_law_world", "_law_name_here", "_law_some"] ["_law_state", "_law_world", "_law_name_here"] (zm xB) := ⟨rfl, rfl, rfl, by decide +kernel, rfl, by decide +kernel, by decide +kernel⟩
theorem v7 (F : Fun K "_law_stranger" "_law_stranger" xB f fd) (GD : Ca P w K mg base CX0 1 "_law_draw" ["_law_state", "_law_many"] (xb K)) (GM : Ca P w K mg base CX0 1 "_law_name" ["_law_world", "_law_k"] spNm) : FnOk P w K mg base CX0 2 f fd ["_law_state", "_law_world", "_law_name_here"] (wo K) := by
  refine F.by scStranger (fun vs H Q E h => ?_) (fun cdv A outer s H vs Q E hr h => ?_)
  · obtain ⟨st, wp, B, z, n, b, rfl, _⟩ := h
    rfl
  obtain ⟨st, wp, B, z, n, b, rfl, S0, hB, hw, nw, hz, hn, q⟩ := h
  refine ⟨_,
    (zi (zt (i := 3) scStranger.nd rfl (Or.inl rfl) (zA (ja_c (zz zU (jv 2) zu) (ja_c (vJ YW (jv 2) Ze (Zf (jk zj))) (ja_c (vJ YW (jv 2) (Zf zj) Ze) (ja_c (zC GM hr rfl zJ (ja_c (jv 1) (ja_c zj zh))) (ja_c (zC GM hr rfl zJ (ja_c (jv 1) (ja_c zj zh))) (ja_c (zC GM hr rfl zJ (ja_c (jv 1) (ja_c zj zh))) (ja_c zu (ja_c zu zh))))))))))
    (zk (zw (zq zG (jv 3) (zC GD hr rfl zJ (ja_c (jv 0) (ja_c zj zh))) (fun _ _ => rfl))))), ?_⟩
  have sl := zX
  refine ⟨_, rfl, _, _, rfl, rfl, by show n.length + 1 <= sizeLine; omega, ?_⟩
  refine ⟨_, rfl, _, rfl, _, rfl, n, rfl, by omega, ?_⟩
  refine ⟨_, rfl, _, rfl, n, rfl, by omega, ?_⟩
  refine ⟨_, rfl, wp, z, b, [], 0, rfl, hw, hz, _, rfl, wp, z, b, [], 1, rfl, hw, hz, _, rfl, wp, z, b, [], 9, rfl, hw, hz, by show 8 <= sizeLine; decide, fun l hl => ?_⟩
  have n1 := same_new hl (.lst [V.str (n ++ ("a" : Str)), V.str (Txt.slice n none (some (-1))), V.str (Txt.slice n (some 1) none), V.str (nm z b 0), V.str (nm z b 1), V.str (nm z b 9), V.str "", V.str "def"])
  have e1 := zg (H := H) (a := l) (o := .lst [V.str (n ++ ("a" : Str)), V.str (Txt.slice n none (some (-1))), V.str (Txt.slice n (some 1) none), V.str (nm z b 0), V.str (nm z b 1), V.str (nm z b 9), V.str "", V.str "def"])
  refine ⟨_, rfl, _, rfl, st, 8, B, rfl, S0.same n1, hB, by decide, fun H1 r k1 S1 r0 r8 => ?_⟩
  obtain ⟨x, _, hx⟩ := ZI (zs := [n ++ ("a" : Str), Txt.slice n none (some (-1)), Txt.slice n (some 1) none, nm z b 0, nm z b 1, nm z b 9, "", "def"]) r0 r8
  exact ⟨l, _, _, _, rfl, rfl, SqL.of (k1.k _ _ (S0.ne hl) e1), hx, q _ x ((Kp.of n1).trans k1) S1⟩
theorem scOdd : FnScope ["_law_state", "_law_tags", "_law_some"] ["_law_state", "_law_tags"] (zm sOdd) := ⟨rfl, rfl, rfl, by decide +kernel, rfl, by decide +kernel, by decide +kernel⟩
theorem qj (F : Fun K "_law_odd" "_law_odd" sOdd f fd) (GD : Ca P w K mg base CX0 1 "_law_draw" ["_law_state", "_law_many"] (xb K)) : FnOk P w K mg base CX0 2 f fd ["_law_state", "_law_tags"] (VT K) := by
  refine F.by scOdd (fun vs H Q E h => ?_) (fun cdv A outer s H vs Q E hr h => ?_)
  · obtain ⟨st, tg, B, z, b, rfl, _⟩ := h
    rfl
  obtain ⟨st, tg, B, z, b, rfl, S0, hB, ⟨ta, tb, e1, e2, e3⟩, ng, hz, q⟩ := h
  refine ⟨_,
    (zi (zt (i := 2) scOdd.nd rfl (Or.inl rfl) (zA (ja_c (zA zh) (ja_c (zA (ja_c zj (ja_c zj zh))) (ja_c (zA (ja_c (zq zx (zq zG (jv 1) zj (fun _ _ => rfl)) zj (fun _ _ => rfl)) (ja_c zj zh))) (ja_c (zA (ja_c (zq zx (zq zG (jv 1) zj (fun _ _ => rfl)) zj (fun _ _ => rfl)) zh)) (ja_c (zA (ja_c xW zh)) (ja_c xW (ja_c (zq zx (zq zG (jv 1) zj (fun _ _ => rfl)) zj (fun _ _ => rfl)) (ja_c (zN (ja_c zj zh)) (ja_c (zA (ja_c YS zh)) (ja_c (zA (ja_c (zz xy zj zj) zh)) zh))))))))))))
    (zi (zt (i := 2) scOdd.nd rfl (Or.inl rfl) (zz jq (jv 2) (zA (ja_c (zA (ja_c (zz jo zj (zz xy zj zj)) zh)) (ja_c (zA (ja_c (zz zU (zz zU zu (zq zx (zq zG (jv 1) zj (fun _ _ => rfl)) zj (fun _ _ => rfl))) zu) zh)) (ja_c (zA (ja_c zu zh)) (ja_c (zA (ja_c (zq zx (zq zG (jv 1) zj (fun _ _ => rfl)) zj (fun _ _ => rfl)) (ja_c zj (ja_c zj zh)))) (ja_c (zA (ja_c (zA (ja_c zj zh)) zh)) (ja_c zj zh)))))))))
    (zk (zw (zq zG (jv 2) (zC GD hr rfl zJ (ja_c (jv 0) (ja_c zj zh))) (fun _ _ => rfl)))))), ?_⟩
  have sl := zX
  have c0 : Same H H := Same.refl H
  have sS := S0
  refine ⟨by show 0 <= sizeLine; decide, fun q1 h1 => ?_⟩
  have s1 := same_new h1 (.lst [])
  have g1 := zg (H := H) (a := q1) (o := .lst [])
  have m1 : q1 ≠ st := (sS.same c0).ne h1
  have f1 : H q1 = none := c0.free h1
  generalize upd H q1 (.lst []) = H1 at *
  have c1 : Same H H1 := c0.trans s1
  refine ⟨by show 2 <= sizeLine; decide, fun q2 h2 => ?_⟩
  have s2 := same_new h2 (.lst [V.int 5, V.int 5])
  have g2 := zg (H := H1) (a := q2) (o := .lst [V.int 5, V.int 5])
  have m2 : q2 ≠ st := (sS.same c1).ne h2
  have f2 : H q2 = none := c1.free h2
  generalize upd H1 q2 (.lst [V.int 5, V.int 5]) = H2 at *
  have c2 : Same H H2 := c1.trans s2
  refine ⟨_, rfl, tg, _, _, _, rfl, rfl, SqL.of (c2 _ _ e1), zp (j := 0) rfl, ta, _, _, _, rfl, rfl, SqT.of (c2 _ _ e2), zp (j := 0) rfl, by show 2 <= sizeLine; decide, fun q3 h3 => ?_⟩
  have s3 := same_new h3 (.lst [V.str (nm z b 0), V.int 5])
  have g3 := zg (H := H2) (a := q3) (o := .lst [V.str (nm z b 0), V.int 5])
  have m3 : q3 ≠ st := (sS.same c2).ne h3
  have f3 : H q3 = none := c2.free h3
  generalize upd H2 q3 (.lst [V.str (nm z b 0), V.int 5]) = H3 at *
  have c3 : Same H H3 := c2.trans s3
  refine ⟨_, rfl, tg, _, _, _, rfl, rfl, SqL.of (c3 _ _ e1), zp (j := 1) rfl, tb, _, _, _, rfl, rfl, SqT.of (c3 _ _ e3), zp (j := 0) rfl, by show 1 <= sizeLine; decide, fun q4 h4 => ?_⟩
  have s4 := same_new h4 (.lst [V.str (nm z b 1)])
  have g4 := zg (H := H3) (a := q4) (o := .lst [V.str (nm z b 1)])
  have m4 : q4 ≠ st := (sS.same c3).ne h4
  have f4 : H q4 = none := c3.free h4
  generalize upd H3 q4 (.lst [V.str (nm z b 1)]) = H4 at *
  have c4 : Same H H4 := c3.trans s4
  refine ⟨by show 1 <= sizeLine; decide, fun q5 h5 => ?_⟩
  have s5 := same_new h5 (.lst [V.non])
  have g5 := zg (H := H4) (a := q5) (o := .lst [V.non])
  have m5 : q5 ≠ st := (sS.same c4).ne h5
  have f5 : H q5 = none := c4.free h5
  generalize upd H4 q5 (.lst [V.non]) = H5 at *
  have c5 : Same H H5 := c4.trans s5
  refine ⟨_, rfl, tg, _, _, _, rfl, rfl, SqL.of (c5 _ _ e1), zp (j := 0) rfl, ta, _, _, _, rfl, rfl, SqT.of (c5 _ _ e2), zp (j := 0) rfl, by show 1 <= sizeLine; decide, fun q6 h6 => ?_⟩
  have s6 := same_new h6 (.tup [V.int 5])
  have g6 := zg (H := H5) (a := q6) (o := .tup [V.int 5])
  have m6 : q6 ≠ st := (sS.same c5).ne h6
  have f6 : H q6 = none := c5.free h6
  generalize upd H5 q6 (.tup [V.int 5]) = H6 at *
  have c6 : Same H H6 := c5.trans s6
  refine ⟨by show 1 <= sizeLine; decide, fun q7 h7 => ?_⟩
  have s7 := same_new h7 (.lst [V.bl true])
  have g7 := zg (H := H6) (a := q7) (o := .lst [V.bl true])
  have m7 : q7 ≠ st := (sS.same c6).ne h7
  have f7 : H q7 = none := c6.free h7
  generalize upd H6 q7 (.lst [V.bl true]) = H7 at *
  have c7 : Same H H7 := c6.trans s7
  refine ⟨_, _, rfl, rfl, ⟨by decide, by decide, by decide⟩, by show 1 <= sizeLine; decide, fun q8 h8 => ?_⟩
  have s8 := same_new h8 (.lst [V.int (10 ^ (30 : Int).toNat)])
  have g8 := zg (H := H7) (a := q8) (o := .lst [V.int (10 ^ (30 : Int).toNat)])
  have m8 : q8 ≠ st := (sS.same c7).ne h8
  have f8 : H q8 = none := c7.free h8
  generalize upd H7 q8 (.lst [V.int (10 ^ (30 : Int).toNat)]) = H8 at *
  have c8 : Same H H8 := c7.trans s8
  refine ⟨by show 10 <= sizeLine; decide, fun q9 h9 => ?_⟩
  have s9 := same_new h9 (.lst [V.ref q1, V.ref q2, V.ref q3, V.ref q4, V.ref q5, V.non, V.str (nm z b 0), V.ref q6, V.ref q7, V.ref q8])
  have g9 := zg (H := H8) (a := q9) (o := .lst [V.ref q1, V.ref q2, V.ref q3, V.ref q4, V.ref q5, V.non, V.str (nm z b 0), V.ref q6, V.ref q7, V.ref q8])
  have m9 : q9 ≠ st := (sS.same c8).ne h9
  have f9 : H q9 = none := c8.free h9
  generalize upd H8 q9 (.lst [V.ref q1, V.ref q2, V.ref q3, V.ref q4, V.ref q5, V.non, V.str (nm z b 0), V.ref q6, V.ref q7, V.ref q8]) = H9 at *
  have c9 : Same H H9 := c8.trans s9
  have l0 : (nm z b 0).length <= 10 := Xk hz
  have lf : ("func " : Str).length = 5 := by decide +kernel
  have lz : (" 0" : Str).length = 2 := by decide +kernel
  have l1 : ("func " : Str).length + (nm z b 0).length <= sizeLine := by omega
  have l2 : (("func " : Str) ++ nm z b 0).length + (" 0" : Str).length <= sizeLine := by rw [zZ]; omega
  refine ⟨_, rfl, ?_⟩
  refine ⟨_, _, rfl, rfl, ⟨by decide, by decide, by decide⟩, _, _, rfl, rfl, by show 1 <= sizeLine; decide, fun q10 h10 => ?_⟩
  have s10 := same_new h10 (.lst [V.int (0 - 10 ^ (30 : Int).toNat)])
  have g10 := zg (H := H9) (a := q10) (o := .lst [V.int (0 - 10 ^ (30 : Int).toNat)])
  have m10 : q10 ≠ st := (sS.same c9).ne h10
  have f10 : H q10 = none := c9.free h10
  generalize upd H9 q10 (.lst [V.int (0 - 10 ^ (30 : Int).toNat)]) = H10 at *
  have c10 : Same H H10 := c9.trans s10
  refine ⟨_, rfl, tg, _, _, _, rfl, rfl, SqL.of (c10 _ _ e1), zp (j := 0) rfl, ta, _, _, _, rfl, rfl, SqT.of (c10 _ _ e2), zp (j := 0) rfl, _, _, rfl, rfl, l1, _, _, rfl, rfl, l2, by show 1 <= sizeLine; decide, fun q11 h11 => ?_⟩
  have s11 := same_new h11 (.lst [V.str (("func " : Str) ++ nm z b 0 ++ (" 0" : Str))])
  have g11 := zg (H := H10) (a := q11) (o := .lst [V.str (("func " : Str) ++ nm z b 0 ++ (" 0" : Str))])
  have m11 : q11 ≠ st := (sS.same c10).ne h11
  have f11 : H q11 = none := c10.free h11
  generalize upd H10 q11 (.lst [V.str (("func " : Str) ++ nm z b 0 ++ (" 0" : Str))]) = H11 at *
  have c11 : Same H H11 := c10.trans s11
  refine ⟨by show 1 <= sizeLine; decide, fun q12 h12 => ?_⟩
  have s12 := same_new h12 (.lst [V.str ""])
  have g12 := zg (H := H11) (a := q12) (o := .lst [V.str ""])
  have m12 : q12 ≠ st := (sS.same c11).ne h12
  have f12 : H q12 = none := c11.free h12
  generalize upd H11 q12 (.lst [V.str ""]) = H12 at *
  have c12 : Same H H12 := c11.trans s12
  refine ⟨_, rfl, tg, _, _, _, rfl, rfl, SqL.of (c12 _ _ e1), zp (j := 1) rfl, tb, _, _, _, rfl, rfl, SqT.of (c12 _ _ e3), zp (j := 0) rfl, by show 3 <= sizeLine; decide, fun q13 h13 => ?_⟩
  have s13 := same_new h13 (.lst [V.str (nm z b 1), V.int 5, V.int 5])
  have g13 := zg (H := H12) (a := q13) (o := .lst [V.str (nm z b 1), V.int 5, V.int 5])
  have m13 : q13 ≠ st := (sS.same c12).ne h13
  have f13 : H q13 = none := c12.free h13
  generalize upd H12 q13 (.lst [V.str (nm z b 1), V.int 5, V.int 5]) = H13 at *
  have c13 : Same H H13 := c12.trans s13
  refine ⟨by show 1 <= sizeLine; decide, fun q14 h14 => ?_⟩
  have s14 := same_new h14 (.lst [V.int 5])
  have g14 := zg (H := H13) (a := q14) (o := .lst [V.int 5])
  have m14 : q14 ≠ st := (sS.same c13).ne h14
  have f14 : H q14 = none := c13.free h14
  generalize upd H13 q14 (.lst [V.int 5]) = H14 at *
  have c14 : Same H H14 := c13.trans s14
  refine ⟨by show 1 <= sizeLine; decide, fun q15 h15 => ?_⟩
  have s15 := same_new h15 (.lst [V.ref q14])
  have g15 := zg (H := H14) (a := q15) (o := .lst [V.ref q14])
  have m15 : q15 ≠ st := (sS.same c14).ne h15
  have f15 : H q15 = none := c14.free h15
  generalize upd H14 q15 (.lst [V.ref q14]) = H15 at *
  have c15 : Same H H15 := c14.trans s15
  refine ⟨by show 6 <= sizeLine; decide, fun q16 h16 => ?_⟩
  have s16 := same_new h16 (.lst [V.ref q10, V.ref q11, V.ref q12, V.ref q13, V.ref q15, V.int 5])
  have g16 := zg (H := H15) (a := q16) (o := .lst [V.ref q10, V.ref q11, V.ref q12, V.ref q13, V.ref q15, V.int 5])
  have m16 : q16 ≠ st := (sS.same c15).ne h16
  have f16 : H q16 = none := c15.free h16
  generalize upd H15 q16 (.lst [V.ref q10, V.ref q11, V.ref q12, V.ref q13, V.ref q15, V.int 5]) = H16 at *
  have c16 : Same H H16 := c15.trans s16
  refine ⟨q9, q16, _, _, rfl, rfl, (((((((s10.trans s11).trans s12).trans s13).trans s14).trans s15).trans s16) _ _ g9), g16, by show 16 <= sizeLine; decide, fun q17 h17 => ?_⟩
  have s17 := same_new h17 (.lst ([V.ref q1, V.ref q2, V.ref q3, V.ref q4, V.ref q5, V.non, V.str (nm z b 0), V.ref q6, V.ref q7, V.ref q8] ++ [V.ref q10, V.ref q11, V.ref q12, V.ref q13, V.ref q15, V.int 5]))
  have g17 := zg (H := H16) (a := q17) (o := .lst ([V.ref q1, V.ref q2, V.ref q3, V.ref q4, V.ref q5, V.non, V.str (nm z b 0), V.ref q6, V.ref q7, V.ref q8] ++ [V.ref q10, V.ref q11, V.ref q12, V.ref q13, V.ref q15, V.int 5]))
  have m17 : q17 ≠ st := (sS.same c16).ne h17
  generalize upd H16 q17 (.lst ([V.ref q1, V.ref q2, V.ref q3, V.ref q4, V.ref q5, V.non, V.str (nm z b 0), V.ref q6, V.ref q7, V.ref q8] ++ [V.ref q10, V.ref q11, V.ref q12, V.ref q13, V.ref q15, V.int 5])) = H17 at *
  have c17 : Same H H17 := c16.trans s17
  refine ⟨_, rfl, _, rfl, st, 16, B, rfl, S0.same c17, hB, by decide, fun H18 r k18 S18 r0 r16 => ?_⟩
  have G1 : ∀ H2 : Hp, (∀ p u, H p = none -> H18 p = some u -> H2 p = some u) -> H2 q1 = some (.lst _) := fun H2 hk => hk _ _ f1 (k18.k _ _ m1 ((((((((((((((((s2.trans s3).trans s4).trans s5).trans s6).trans s7).trans s8).trans s9).trans s10).trans s11).trans s12).trans s13).trans s14).trans s15).trans s16).trans s17) _ _ g1))
  have G2 : ∀ H2 : Hp, (∀ p u, H p = none -> H18 p = some u -> H2 p = some u) -> H2 q2 = some (.lst _) := fun H2 hk => hk _ _ f2 (k18.k _ _ m2 (((((((((((((((s3.trans s4).trans s5).trans s6).trans s7).trans s8).trans s9).trans s10).trans s11).trans s12).trans s13).trans s14).trans s15).trans s16).trans s17) _ _ g2))
  have G3 : ∀ H2 : Hp, (∀ p u, H p = none -> H18 p = some u -> H2 p = some u) -> H2 q3 = some (.lst _) := fun H2 hk => hk _ _ f3 (k18.k _ _ m3 ((((((((((((((s4.trans s5).trans s6).trans s7).trans s8).trans s9).trans s10).trans s11).trans s12).trans s13).trans s14).trans s15).trans s16).trans s17) _ _ g3))
  have G4 : ∀ H2 : Hp, (∀ p u, H p = none -> H18 p = some u -> H2 p = some u) -> H2 q4 = some (.lst _) := fun H2 hk => hk _ _ f4 (k18.k _ _ m4 (((((((((((((s5.trans s6).trans s7).trans s8).trans s9).trans s10).trans s11).trans s12).trans s13).trans s14).trans s15).trans s16).trans s17) _ _ g4))
  have G5 : ∀ H2 : Hp, (∀ p u, H p = none -> H18 p = some u -> H2 p = some u) -> H2 q5 = some (.lst _) := fun H2 hk => hk _ _ f5 (k18.k _ _ m5 ((((((((((((s6.trans s7).trans s8).trans s9).trans s10).trans s11).trans s12).trans s13).trans s14).trans s15).trans s16).trans s17) _ _ g5))
  have G6 : ∀ H2 : Hp, (∀ p u, H p = none -> H18 p = some u -> H2 p = some u) -> H2 q6 = some (.tup _) := fun H2 hk => hk _ _ f6 (k18.k _ _ m6 (((((((((((s7.trans s8).trans s9).trans s10).trans s11).trans s12).trans s13).trans s14).trans s15).trans s16).trans s17) _ _ g6))
  have G7 : ∀ H2 : Hp, (∀ p u, H p = none -> H18 p = some u -> H2 p = some u) -> H2 q7 = some (.lst _) := fun H2 hk => hk _ _ f7 (k18.k _ _ m7 ((((((((((s8.trans s9).trans s10).trans s11).trans s12).trans s13).trans s14).trans s15).trans s16).trans s17) _ _ g7))
  have G8 : ∀ H2 : Hp, (∀ p u, H p = none -> H18 p = some u -> H2 p = some u) -> H2 q8 = some (.lst _) := fun H2 hk => hk _ _ f8 (k18.k _ _ m8 (((((((((s9.trans s10).trans s11).trans s12).trans s13).trans s14).trans s15).trans s16).trans s17) _ _ g8))
  have G10 : ∀ H2 : Hp, (∀ p u, H p = none -> H18 p = some u -> H2 p = some u) -> H2 q10 = some (.lst _) := fun H2 hk => hk _ _ f10 (k18.k _ _ m10 (((((((s11.trans s12).trans s13).trans s14).trans s15).trans s16).trans s17) _ _ g10))
  have G11 : ∀ H2 : Hp, (∀ p u, H p = none -> H18 p = some u -> H2 p = some u) -> H2 q11 = some (.lst _) := fun H2 hk => hk _ _ f11 (k18.k _ _ m11 ((((((s12.trans s13).trans s14).trans s15).trans s16).trans s17) _ _ g11))
  have G12 : ∀ H2 : Hp, (∀ p u, H p = none -> H18 p = some u -> H2 p = some u) -> H2 q12 = some (.lst _) := fun H2 hk => hk _ _ f12 (k18.k _ _ m12 (((((s13.trans s14).trans s15).trans s16).trans s17) _ _ g12))
  have G13 : ∀ H2 : Hp, (∀ p u, H p = none -> H18 p = some u -> H2 p = some u) -> H2 q13 = some (.lst _) := fun H2 hk => hk _ _ f13 (k18.k _ _ m13 ((((s14.trans s15).trans s16).trans s17) _ _ g13))
  have G14 : ∀ H2 : Hp, (∀ p u, H p = none -> H18 p = some u -> H2 p = some u) -> H2 q14 = some (.lst _) := fun H2 hk => hk _ _ f14 (k18.k _ _ m14 (((s15.trans s16).trans s17) _ _ g14))
  have G15 : ∀ H2 : Hp, (∀ p u, H p = none -> H18 p = some u -> H2 p = some u) -> H2 q15 = some (.lst _) := fun H2 hk => hk _ _ f15 (k18.k _ _ m15 ((s16.trans s17) _ _ g15))
  have hn : nm z b 0 ≠ nm z b 1 := fun e => by
    have h1 := xp (by decide) (by decide) e
    cases h1
  obtain ⟨kvs, ekv⟩ : ∃ kvs, kvs = puts (ks2 (nm z b 0) (nm z b 1)).flatten [] := ⟨_, rfl⟩
  have sz : ∀ t, szOf kvs t = if t = nm z b 1 then some 1 else if t = nm z b 0 then some 0 else none := fun t => by rw [ekv]; exact sz2 hn
  have d5 : dl kvs (.int 5) = some 0 := vB (show Sm 5 from ⟨by decide, by decide⟩)
  have dP : dl kvs (.int (10 ^ (30 : Int).toNat)) = none := X9 (fun h => absurd h.2 (by decide))
  have dM : dl kvs (.int (0 - 10 ^ (30 : Int).toNat)) = none := X9 (fun h => absurd h.1 (by decide))
  have d0 : dl kvs (.str (nm z b 0)) = some 0 := by show szOf kvs _ = _; rw [sz, if_neg hn, if_pos rfl]
  have d1 : dl kvs (.str (nm z b 1)) = some 1 := by show szOf kvs _ = _; rw [sz, if_pos rfl]
  have lo0 := VS (z := z) (b := b) (k := 0)
  have lo1 := VS (z := z) (b := b) (k := 1)
  have dF : dl kvs (.str (("func " : Str) ++ nm z b 0 ++ (" 0" : Str))) = none := by
    show szOf kvs _ = _
    have le : (("func " : Str) ++ nm z b 0 ++ (" 0" : Str)).length = 7 + (nm z b 0).length := by rw [zZ, zZ]; omega
    rw [sz, if_neg (fun e => by rw [e] at le; omega), if_neg (fun e => by rw [e] at le; omega)]
  have dE : dl kvs (.str "") = none := by
    show szOf kvs _ = _
    have le : ("" : Str).length = 0 := by decide +kernel
    rw [sz, if_neg (fun e => by rw [e] at le; omega), if_neg (fun e => by rw [e] at le; omega)]
  have h5 : hgt kvs [.int 5] = some 1 := by rw [ya, d5]; rfl
  have h55 : hgt kvs [.int 5, .int 5] = some 2 := by rw [ya, h5, d5]; rfl
  have nonH : ∀ (x : V) (xs : List V), dl kvs x = none -> hgt kvs (x :: xs) ≠ some 1 := fun x xs e => by
    rw [ya, e]
    cases hgt kvs xs <;> (intro z; cases z)
  have fl : ∀ (H2 : Hp) (p : Addr) (xs : List V), H2 p = some (.lst xs) -> xs.length <= 300 -> (∀ x ∈ xs, Fl4 x) -> hgt kvs xs ≠ some 1 -> ArgX H2 (ks2 (nm z b 0) (nm z b 1)) (.ref p) none /\ Sme 4 H2 (.ref p) (.ref p) := fun H2 p xs g hl hf hh =>
    ⟨.inr ⟨p, xs, rfl, g, hl, fun x hx => (hf x hx).th, by rw [<- ekv]; exact hh⟩, z9 (n := 2) (.inl ⟨g, g⟩) fun x hx => (hf x hx).fl⟩
  obtain ⟨v, hv, a1, a2⟩ : ∃ v, atI ([V.ref q1, V.ref q2, V.ref q3, V.ref q4, V.ref q5, V.non, V.str (nm z b 0), V.ref q6, V.ref q7, V.ref q8] ++ [V.ref q10, V.ref q11, V.ref q12, V.ref q13, V.ref q15, V.int 5]) r = some v /\ (∀ H2 : Hp, (∀ p u, H p = none -> H18 p = some u -> H2 p = some u) -> ArgX H2 (ks2 (nm z b 0) (nm z b 1)) v none /\ Sme 4 H2 v v) /\ ∀ p, v = .ref p -> H p = none := by
    have cs : r = 0 \/ r = 1 \/ r = 2 \/ r = 3 \/ r = 4 \/ r = 5 \/ r = 6 \/ r = 7 \/ r = 8 \/ r = 9 \/ r = 10 \/ r = 11 \/ r = 12 \/ r = 13 \/ r = 14 \/ r = 15 := by omega
    rcases cs with rfl | rfl | rfl | rfl | rfl | rfl | rfl | rfl | rfl | rfl | rfl | rfl | rfl | rfl | rfl | rfl
    · exact ⟨_, zp (j := 0) rfl, fun H2 hk => fl H2 q1 _ (G1 H2 hk) (by show 0 <= 300; decide) fls0 (by intro z; cases z), fun p e => by cases e; exact f1⟩
    · exact ⟨_, zp (j := 1) rfl, fun H2 hk => fl H2 q2 _ (G2 H2 hk) (by show 2 <= 300; decide) (fls trivial (fls trivial fls0)) (by rw [h55]; intro z; cases z), fun p e => by cases e; exact f2⟩
    · exact ⟨_, zp (j := 2) rfl, fun H2 hk => fl H2 q3 _ (G3 H2 hk) (by show 2 <= 300; decide) (fls trivial (fls trivial fls0)) (by rw [ya, h5, d0]; intro z; cases z), fun p e => by cases e; exact f3⟩
    · exact ⟨_, zp (j := 3) rfl, fun H2 hk => fl H2 q4 _ (G4 H2 hk) (by show 1 <= 300; decide) (fls trivial fls0) (by rw [ya, d1]; intro z; cases z), fun p e => by cases e; exact f4⟩
    · exact ⟨_, zp (j := 4) rfl, fun H2 hk => fl H2 q5 _ (G5 H2 hk) (by show 1 <= 300; decide) (fls trivial fls0) (nonH _ _ rfl), fun p e => by cases e; exact f5⟩
    · exact ⟨_, zp (j := 5) rfl, fun H2 hk => ⟨.inl (.inl rfl), vA rfl⟩, (fun p e => by cases e)⟩
    · exact ⟨_, zp (j := 6) rfl, fun H2 hk => ⟨.inl (.inr (.inr (.inl ⟨_, rfl⟩))), vA rfl⟩, (fun p e => by cases e)⟩
    · exact ⟨_, zp (j := 7) rfl, fun H2 hk => ⟨.inl (.inr (.inr (.inr (.inl ⟨q6, _, rfl, G6 H2 hk, fun x hx => by rw [List.mem_singleton.mp hx]; trivial⟩)))), z9 (n := 2) (.inr ⟨G6 H2 hk, G6 H2 hk⟩) (fun x hx => by rw [List.mem_singleton.mp hx]; rfl)⟩, fun p e => by cases e; exact f6⟩
    · exact ⟨_, zp (j := 8) rfl, fun H2 hk => fl H2 q7 _ (G7 H2 hk) (by show 1 <= 300; decide) (fls trivial fls0) (nonH _ _ rfl), fun p e => by cases e; exact f7⟩
    · exact ⟨_, zp (j := 9) rfl, fun H2 hk => fl H2 q8 _ (G8 H2 hk) (by show 1 <= 300; decide) (fls trivial fls0) (nonH _ _ dP), fun p e => by cases e; exact f8⟩
    · exact ⟨_, zp (j := 10) rfl, fun H2 hk => fl H2 q10 _ (G10 H2 hk) (by show 1 <= 300; decide) (fls trivial fls0) (nonH _ _ dM), fun p e => by cases e; exact f10⟩
    · exact ⟨_, zp (j := 11) rfl, fun H2 hk => fl H2 q11 _ (G11 H2 hk) (by show 1 <= 300; decide) (fls trivial fls0) (nonH _ _ dF), fun p e => by cases e; exact f11⟩
    · exact ⟨_, zp (j := 12) rfl, fun H2 hk => fl H2 q12 _ (G12 H2 hk) (by show 1 <= 300; decide) (fls trivial fls0) (nonH _ _ dE), fun p e => by cases e; exact f12⟩
    · exact ⟨_, zp (j := 13) rfl, fun H2 hk => fl H2 q13 _ (G13 H2 hk) (by show 3 <= 300; decide) (fls trivial (fls trivial (fls trivial fls0))) (by rw [ya, h55, d1]; intro z; cases z), fun p e => by cases e; exact f13⟩
    · exact ⟨_, zp (j := 14) rfl, fun H2 hk => ⟨.inr ⟨q15, _, rfl, G15 H2 hk, by show 1 <= 300; decide, fun x hx => by rw [List.mem_singleton.mp hx]; exact ⟨_, .lst (G14 H2 hk)⟩, by rw [<- ekv]; exact nonH _ _ rfl⟩, .inr ⟨q15, q15, _, _, rfl, rfl, .inl ⟨G15 H2 hk, G15 H2 hk⟩, rfl, fun i u v h1 h2 => by rw [h1] at h2; cases h2; rw [List.mem_singleton.mp (List.mem_of_getElem? h1)]; exact z9 (n := 1) (.inl ⟨G14 H2 hk, G14 H2 hk⟩) (fun x hx => by rw [List.mem_singleton.mp hx]; rfl)⟩⟩, fun p e => by cases e; exact f15⟩
    · exact ⟨_, zp (j := 15) rfl, fun H2 hk => ⟨.inl (.inr (.inl ⟨_, rfl⟩)), vA rfl⟩, (fun p e => by cases e)⟩
  exact ⟨q17, _, _, v, rfl, rfl, SqL.of (k18.k _ _ m17 g17), hv, q _ v ((Kp.of c17).trans k18) S18 a1 a2⟩
end
end GN
namespace GN
open PySem L2 K11
def IsDm (H : Hp) (d : Dm) (o : Addr) : Prop := ∃ pp pb, H o = some (.tup [.str d.n, .ref pp, .ref pb]) /\ H pp = some (.tup (d.ps.map V.str)) /\ IsBy H d.rows d.x pb
theorem IsDm.keep {H H' : Hp} (t : Tups H H') {d : Dm} {o : Addr} (h : IsDm H d o) : IsDm H' d o := let ⟨pp, pb, a, b, c⟩ := h; ⟨pp, pb, t _ _ a, t _ _ b, c.keep t⟩
def DmOk (z : Str) (b : Bool) (d : Dm) : Prop := ∃ m : Nat, m <= 9 /\ d.ps = (List.range m).map (nm z b) /\ ((∃ i : Nat, i <= 100 /\ d.rows = [(nm z b 9, .num i)] /\ d.x = nm z b 9) \/ (d.rows = [] /\ d.x ∈ d.ps))
theorem Yq {z : Str} {b : Bool} {m : Nat} (h : m <= 1000) : ((List.range m).map (nm z b)).Nodup := by
  refine List.pairwise_map.mpr ?_
  refine List.Pairwise.imp_of_mem ?_ List.nodup_range
  intro i j hi hj hne e
  have := List.mem_range.mp hi
  have := List.mem_range.mp hj
  exact hne (xp (by omega) (by omega) e)
theorem DmOk.nd {z : Str} {b : Bool} {d : Dm} (h : DmOk z b d) : d.ps.Nodup := by
  obtain ⟨m, hm, e, _⟩ := h
  rw [e]
  exact Yq (by omega)
theorem DmOk.len {z : Str} {b : Bool} {d : Dm} (h : DmOk z b d) : d.ps.length <= 9 := by
  obtain ⟨m, hm, e, _⟩ := h
  rw [e, List.length_map, List.length_range]
  exact hm
theorem DmOk.ok {z : Str} {b : Bool} {d : Dm} (h : DmOk z b d) : d.ps.Nodup /\ d.ps.length <= 100 /\ d.rows.length <= 200 /\ OkB d.ps d.rows d.x := by
  refine ⟨h.nd, by have := h.len; omega, ?_⟩
  obtain ⟨m, hm, e, h | h⟩ := h
  · obtain ⟨i, hi, e1, e2⟩ := h
    rw [e1, e2]
    refine ⟨by show 1 <= 200; decide, ⟨show Sm _ from ⟨by omega, by omega⟩, ?_⟩⟩
    exact List.mem_append_right _ (List.mem_singleton.mpr rfl)
  · rw [h.1]
    exact ⟨Nat.zero_le _, h.2⟩
theorem Yr (n : Str) (v : List V) (e : En) : valE (putE e n v) n = some v := by
  unfold putE
  by_cases a : (e.any fun p => decide (p.1 = n)) = true
  · rw [if_pos a]
    induction e with
    | nil => cases a
    | cons p r ih =>
      rw [List.map_cons]
      unfold valE
      rw [List.find?_cons]
      by_cases c : p.1 = n
      · rw [if_pos c]
        simp [c]
      · rw [if_neg c, decide_eq_false c]
        rw [List.any_cons, decide_eq_false c, Bool.false_or] at a
        exact ih a
  · rw [if_neg a]
    unfold valE
    rw [List.find?_append]
    have : e.find? (fun p => decide (p.1 = n)) = none := by
      rw [List.find?_eq_none]
      intro p hp hd
      exact a (List.any_eq_true.mpr ⟨p, hp, hd⟩)
    rw [this]
    simp
theorem wq : ∀ {ps : List Str} {xss : List (List V)} {j : Nat} {x : Str} {xs : List V}, ps.Nodup -> ps[j]? = some x -> xss[j]? = some xs -> valE (ps.zip xss) x = some xs
  | [], _, _, _, _, _, h, _ => by simp at h
  | _ :: _, [], _, _, _, _, _, h => by simp at h
  | p :: ps, y :: xss, 0, x, xs, _, h1, h2 => by
    cases h1; cases h2
    unfold valE
    rw [List.zip_cons_cons, List.find?_cons]
    simp
  | p :: ps, y :: xss, j + 1, x, xs, hn, h1, h2 => by
    have h1 : ps[j]? = some x := by simpa using h1
    have h2 : xss[j]? = some xs := by simpa using h2
    have hn' := List.nodup_cons.mp hn
    have hne : p ≠ x := fun e => hn'.1 (by rw [e]; exact List.mem_of_getElem? h1)
    unfold valE
    rw [List.zip_cons_cons, List.find?_cons, decide_eq_false hne]
    exact wq hn'.2 h1 h2
theorem ZK (e : En) (n : Str) (i : Int) : goE e [(n, .num i)] n = .inl [.int i] := by
  show Sum.inl ((valE (putE e n [.int i]) n).getD []) = _
  rw [Yr]
  rfl
def xQ : Sp := fun vs H Q _ => ∃ (o al : Addr) (d : Dm) (z : Str) (b : Bool) (ks : List (List (Str × Nat))) (as : List Addr) (xss : List (List V)), vs = [.ref o, .ref al] /\ IsDm H d o /\ DmOk z b d /\ Args H ks al as xss /\ d.ps.length = xss.length /\ (∀ xs ∈ xss, xs.length <= 2) /\ ∀ H' r, Same H H' -> Ans H' r (goE (d.ps.zip xss) d.rows d.x) -> Q (.ref r) H'
section
variable {P : Program} {w : World} {K : PySem.W.Frag} {mg : Str -> Option Value} {base : Heap} {f T : Addr} {fd : FuncData}
theorem scGiven : FnScope ["_law_one", "_law_args", "_law_body"] ["_law_one", "_law_args"] (zm jH) := ⟨rfl, rfl, rfl, by decide +kernel, rfl, by decide +kernel, by decide +kernel⟩
theorem Wa (F : Fun K "_law_given" "_law_given" jH f fd) : FnOk P w K mg base CX0 1 f fd ["_law_one", "_law_args"] xQ := by
  refine F.by scGiven (fun vs H Q E h => ?_) (fun cdv A outer s H vs Q E hr h => ?_)
  · obtain ⟨o, al, d, z, b, ks, as, xss, rfl, _⟩ := h
    rfl
  obtain ⟨o, al, d, z, b, ks, as, xss, rfl, ⟨pp, pb, h1, h2, h3⟩, hOk, hA, ll, hx2, q⟩ := h
  refine ⟨_,
    (zi (zt (i := 2) scGiven.nd rfl (Or.inl rfl) (zq zx (jv 0) zj (fun _ _ => rfl)))
    (zi (zK (zr zS (zq zx (jv 2) zj (fun _ _ => rfl)) zu (zv _))
      (zk (zw (zN (ja_c zu (ja_c (zA (ja_c (zq zx (zq zx (jv 2) zj (fun _ _ => rfl)) zj (fun _ _ => rfl)) zh)) zh))))) zB)
    (zk (zw (zN (ja_c zu (ja_c (zq zG (jv 1) (y3 PySem.F.plainAttrs_tuple PySem.F.slot_tuple_index PySem.F.type_tuple_index X8 (zq zx (jv 0) zj (fun _ _ => rfl)) (ja_c (zq zx (jv 2) zj (fun _ _ => rfl)) zh)) (fun _ _ => rfl)) zh))))))), ?_⟩
  have sl := zX
  refine ⟨_, rfl, o, _, _, _, rfl, rfl, SqT.of h1, zp (j := 2) rfl, ?_⟩
  have nd := hOk.nd
  obtain ⟨m, hm, em, hc⟩ := hOk
  obtain ⟨dn, ps, rows, x⟩ := d
  dsimp only at h1 h2 h3 em hc ll q nd
  rcases hc with ⟨i, hi, rfl, rfl⟩ | ⟨rfl, hx⟩
  · obtain ⟨pd, pb', b1, b2, b3⟩ := h3
    have b2 : H pd = some (.tup [.str "num", .int i]) := b2
    refine ⟨_, rfl, pb, _, _, _, rfl, rfl, SqT.of b1, zp (j := 0) rfl, rfl, _, rfl, yq (by decide +kernel) ?_⟩
    refine ⟨_, rfl, pb, _, _, _, rfl, rfl, SqT.of b1, zp (j := 2) rfl, pd, _, _, _, rfl, rfl, SqT.of b2, zp (j := 1) rfl, by show 1 <= sizeLine; decide, fun l hl => ⟨by show 2 <= sizeLine; decide, fun r hr' => ?_⟩⟩
    refine q _ r ((same_new hl _).new hr') ?_
    rw [ZK]
    exact ⟨l, zg, old hr' zg⟩
  · have h3 : H pb = some (.tup [.str "give", .str x]) := h3
    obtain ⟨j, hj⟩ := List.getElem?_of_mem hx
    have hjl := (List.getElem?_eq_some_iff.mp hj).1
    have la := hA.2.1
    obtain ⟨xs, hxs⟩ : ∃ xs, xss[j]? = some xs := ⟨_, List.getElem?_eq_getElem (by omega)⟩
    obtain ⟨a, ha⟩ : ∃ a, as[j]? = some a := ⟨_, List.getElem?_eq_getElem (by omega)⟩
    obtain ⟨g1, g2⟩ := hA.2.2 j a xs ha hxs
    refine ⟨_, rfl, pb, _, _, _, rfl, rfl, SqT.of h3, zp (j := 0) rfl, rfl, _, rfl, yh (by decide +kernel) (nxt ?_)⟩
    refine ⟨_, rfl, _, rfl, o, _, _, _, rfl, rfl, SqT.of h1, zp (j := 1) rfl, ?_⟩
    refine ⟨.inr (.inl ⟨rfl, .inr ⟨_, h2⟩⟩), _, rfl, pb, _, _, _, rfl, rfl, SqT.of h3, zp (j := 1) rfl, pp, ps, x, j, rfl, rfl, SqT.of h2, hj, nd, al, _, _, _, rfl, rfl, SqL.of hA.1, zp (by rw [List.getElem?_map, ha]; rfl), by show 2 <= sizeLine; decide, fun r hr' => ?_⟩
    refine q _ r (same_new hr' _) ?_
    have e : goE (ps.zip xss) [] x = .inl xs := by
      show Sum.inl ((valE (ps.zip xss) x).getD []) = _
      rw [wq nd hj hxs]
      rfl
    rw [e]
    exact ⟨a, zg, by rw [List.take_of_length_le (by have := hx2 xs (List.mem_of_getElem? hxs); omega)]; exact old hr' g1⟩
end
end GN
namespace GN
open PySem L2 K11
def Wb (K : PySem.W.Frag) : Sp := fun vs H Q _ => ∃ (st wp : Addr) (B : Nat) (z : Str) (b : Bool), vs = [.ref st, .ref wp] /\ Sta K H st B /\ B + 1000 < LIM /\ H wp = some (.lst [.str z, .bl b]) /\ wp ≠ st /\ z.length <= 6 /\
  ∀ (H' : Hp) (l : Addr) (ones : List Addr) (ds : List Dm), Kp st H H' -> Sta K H' st (B + 100) -> H l = none -> H' l = some (.lst (ones.map V.ref)) -> ones.length = ds.length -> 0 < ds.length -> ds.length <= 12 -> (∀ (i : Nat) o d, ones[i]? = some o -> ds[i]? = some d -> IsDm H' d o) -> (∀ (i : Nat) d, ds[i]? = some d -> d.n = nm z b (3 + i) /\ DmOk z b d) -> Q (.ref l) H'
section
variable {P : Program} {w : World} {K : PySem.W.Frag} {mg : Str -> Option Value} {base : Heap} {f T : Addr} {fd : FuncData}
theorem scDefs : FnScope ["_law_state", "_law_world", "_law_defs_here", "_law_k", "_law_params", "_law_last", "_law_body"] ["_law_state", "_law_world"] (zm Xj) := ⟨rfl, rfl, rfl, by decide +kernel, rfl, by decide +kernel, by decide +kernel⟩
theorem qk : (["_law_state", "_law_world", "_law_defs_here", "_law_k", "_law_params", "_law_last", "_law_body", "_law_j"] : List Str).Nodup := by decide +kernel
theorem Vt (F : Fun K "_law_defs" "_law_defs" Xj f fd) (GD : Ca P w K mg base CX0 1 "_law_draw" ["_law_state", "_law_many"] (xb K)) (GM : Ca P w K mg base CX0 1 "_law_name" ["_law_world", "_law_k"] spNm) (m_len : mg "len" = none) (m_range : mg "range" = none) (m_tuple : mg "tuple" = none) : FnOk P w K mg base CX0 2 f fd ["_law_state", "_law_world"] (Wb K) := by
  refine F.by scDefs (fun vs H Q E h => ?_) (fun cdv A outer s H vs Q E hr h => ?_)
  · obtain ⟨st, wp, B, z, b, rfl, _⟩ := h
    rfl
  obtain ⟨st, wp, B, z, b, rfl, S0, hB, hw, nw, hz, q⟩ := h
  refine ⟨_,
    (zi (zt (i := 2) scDefs.nd rfl (Or.inl rfl) (zA zh))
    (zi (y8 PassesOwn.never rfl (yE rfl m_range (ja_c (zz yQ zj (zC GD hr rfl zJ (ja_c (jv 0) (ja_c zj zh)))) zh)) (zQ (i := 3) scDefs.nd rfl (Or.inl rfl))
      (zi (vg ["_law_j"] (i := 4) scDefs.nd rfl (Or.inl rfl) rfl (yE rfl m_range (ja_c (zC GD hr rfl zJ (ja_c (jv 0) (ja_c zj zh))) zh)) (fun _ _ _ _ _ => (zQ (i := 7) qk rfl (Or.inl rfl))) (fun _ _ _ _ _ => yA) (fun _ _ _ _ _ => (zC GM hr rfl zJ (ja_c (jv 1) (ja_c (jv 7) zh)))))
      (zi (zt (i := 5) scDefs.nd rfl (Or.inl rfl) (zC GM hr rfl zJ (ja_c (jv 1) (ja_c zj zh))))
      (zi (zt (i := 6) scDefs.nd rfl (Or.inl rfl) (zN (ja_c zu (ja_c (jv 5) (ja_c (zN (ja_c zu (ja_c (jv 3) zh))) (ja_c (zN (ja_c zu (ja_c (jv 5) zh))) zh))))))
      (zi (zK (jW.pt (yP (zr (wf hr) (jv 4) (zA zh) (zv _)) (yz (zr Zg (zC GD hr rfl zJ (ja_c (jv 0) (ja_c zj zh))) zj (zv _)))))
        (zk (zt (i := 6) scDefs.nd rfl (Or.inl rfl) (zN (ja_c zu (ja_c (zq zG (jv 4) (zC GD hr rfl zJ (ja_c (jv 0) (ja_c (zE zF rfl m_len PySem.boot_len (ja_c (jv 4) zh)) zh))) (fun _ _ => rfl)) zh))))) zB)
      (zk (zT (y3 PySem.F.plainAttrs_list PySem.F.slot_list_append PySem.F.type_list_append yu (jv 2) (ja_c (zN (ja_c (zC GM hr rfl zJ (ja_c (jv 1) (ja_c (zz yQ zj (jv 3)) zh))) (ja_c (yI yB rfl m_tuple PyProof.Rows.boot_tuple (ja_c (jv 4) zh)) (ja_c (jv 6) zh)))) zh)))))))))
    (zk (zw (jv 2))))), ?_⟩
  have sl := zX
  have LM : LIM = 4611686018427387904 := rfl
  refine ⟨by show 0 <= sizeLine; decide, fun l2 h2 => ?_⟩
  have s0 := same_new h2 (.lst [])
  have n2 : l2 ≠ st := S0.ne h2
  have S1 := S0.same s0
  have e2 := zg (H := H) (a := l2) (o := .lst [])
  show (tSeq _ _ : TS) _ _ (upd H l2 (.lst []))
  have k1 : Kp st H (upd H l2 (.lst [])) := .of s0
  generalize upd H l2 (.lst []) = H1 at *
  refine ⟨_, rfl, st, 12, B, rfl, S1, by omega, by decide, fun H2 mi k2 S2 m0 m12 => ?_⟩
  obtain ⟨m, rfl⟩ : ∃ m : Nat, mi = (m : Int) := ⟨mi.toNat, by omega⟩
  refine ⟨_, _, rfl, rfl, _, rfl, by show -(2 ^ 62) <= (1 + (m : Int)); omega, by show (1 + (m : Int)) < 2 ^ 62; omega, wA (fun i σ H' => Kp st H H' /\ Sta K H' st (B + 1 + 4 * i) /\ (∃ x3 x4 x5 x6, σ = [some (.ref st), some (.ref wp), some (.ref l2), x3, x4, x5, x6]) /\ ∃ (ones : List Addr) (ds : List Dm), H' l2 = some (.lst (ones.map V.ref)) /\ ones.length = i /\ ds.length = i /\ (∀ (j : Nat) o d, ones[j]? = some o -> ds[j]? = some d -> IsDm H' d o) /\ ∀ (j : Nat) d, ds[j]? = some d -> d.n = nm z b (3 + j) /\ DmOk z b d) ⟨k1.trans k2, S2.mono (by omega), ⟨none, none, none, none, rfl⟩, [], [], k2.k _ _ n2 e2, rfl, rfl, fun j o d h => by simp at h, fun j d h => by simp at h⟩ ?_ ?_⟩
  · rintro i σ H3 hi ⟨k3, S3, ⟨x3, x4, x5, x6, rfl⟩, ones, ds, e3, lo, ld, hI, hD⟩
    have hi' : i < 1 + m := by
      have : (1 + ((m : Nat) : Int)).toNat = 1 + m := by omega
      rw [<- this]; exact hi
    have ez : ((0 : Int) + ((i : Nat) : Int)) = ((i : Nat) : Int) := by omega
    rw [ez]
    have hw3 := k3.k _ _ nw hw
    refine (show ∀ (u : TS) (D : Ends), (∀ (H4 : Hp) (pp bd : Addr) (ps : List Str) (rows : List (Str × Dd)) (x : Str) (y5 : Option V), Kp st H3 H4 -> Sta K H4 st (B + 1 + 4 * i + 3) -> H4 pp = some (.lst (ps.map V.str)) -> pp ≠ st -> IsBy H4 rows x bd -> DmOk z b ⟨nm z b (3 + i), ps, rows, x⟩ ->
        u D [some (.ref st), some (.ref wp), some (.ref l2), some (.int (i : Nat)), some (.ref pp), y5, some (.ref bd)] H4) -> vE 3 (V.int (i : Nat)) [some (.ref st), some (.ref wp), some (.ref l2), x3, x4, x5, x6] H3 (fun σ2 H2 => (tSeq _ (tSeq _ (tSeq _ (tSeq _ u))) : TS) D σ2 H2) from ?key) _ _ ?rest
    case key =>
      intro u D hU
      refine ⟨_, rfl, st, 10, _, rfl, S3, by omega, by decide, fun H4 ni k4 S4 n0 n10 => ?_⟩
      obtain ⟨n, rfl⟩ : ∃ n : Nat, ni = (n : Int) := ⟨ni.toNat, by omega⟩
      have hw4 := k4.k _ _ nw hw3
      refine ⟨_, rfl, by show -(2 ^ 62) <= (n : Int); omega, by show (n : Int) < 2 ^ 62; omega, xU (fun j τ ys H' => H' = H4 /\ (∃ v, τ = [some (.ref st), some (.ref wp), some (.ref l2), some (.int (i : Nat)), x4, x5, x6, v]) /\ ys = ((List.range j).map (nm z b)).map V.str) ⟨rfl, ⟨none, rfl⟩, rfl⟩ ?_ ?_⟩
      · rintro j τ ys H7 hj ⟨rfl, ⟨v, rfl⟩, rfl⟩
        have ez : ((0 : Int) + ((j : Nat) : Int)) = ((j : Nat) : Int) := by omega
        have hj' : j < n := by
          have : ((n : Nat) : Int).toNat = n := by omega
          rw [<- this]; exact hj
        rw [ez]
        refine ⟨_, rfl, _, rfl, wp, z, b, [], j, rfl, hw4, hz, by rw [List.length_map, List.length_map, List.length_range]; omega, rfl, ⟨_, rfl⟩, ?_⟩
        rw [List.range_succ, List.map_append, List.map_append]
        rfl
      rintro τ ys H7 ⟨rfl, _, rfl⟩ pp hpp
      rw [show ((n : Nat) : Int).toNat = n by omega]
      obtain ⟨ps, eps⟩ : ∃ ps, ps = (List.range n).map (nm z b) := ⟨_, rfl⟩
      rw [<- eps]
      have lps : ps.length = n := by rw [eps, List.length_map, List.length_range]
      have n5 := same_new hpp (.lst (ps.map V.str))
      have epp := zg (H := H7) (a := pp) (o := .lst (ps.map V.str))
      have npp : pp ≠ st := S4.ne hpp
      have S5 := S4.same n5
      have k5 : Kp st H3 (upd H7 pp (.lst (ps.map V.str))) := k4.trans (.of n5)
      have hw5 := n5 _ _ hw4
      generalize upd H7 pp (.lst (ps.map V.str)) = H5 at *
      refine ⟨_, rfl, wp, z, b, [], 9, rfl, hw5, hz, ?_⟩
      refine ⟨_, rfl, _, rfl, by show 2 <= sizeLine; decide, fun t1 h1 => ⟨_, rfl, by show 2 <= sizeLine; decide, fun t2 h2' => ⟨by show 4 <= sizeLine; decide, fun t3 h3 => ?_⟩⟩⟩
      have n6 := ((same_new h1 (.tup [.str "num", .int (i : Nat)])).new (o := .tup [.str "give", .str (nm z b 9)]) h2').new (o := .tup [.str "let", .str (nm z b 9), .ref t1, .ref t2]) h3
      have w1 := old (o := .tup [.str "let", .str (nm z b 9), .ref t1, .ref t2]) h3 (old (o := .tup [.str "give", .str (nm z b 9)]) h2' (zg (H := H5) (a := t1) (o := .tup [.str "num", .int (i : Nat)])))
      have w2 := old (o := .tup [.str "let", .str (nm z b 9), .ref t1, .ref t2]) h3 (zg (H := upd H5 t1 (.tup [.str "num", .int (i : Nat)])) (a := t2) (o := .tup [.str "give", .str (nm z b 9)]))
      have w3 := zg (H := upd (upd H5 t1 (.tup [.str "num", .int (i : Nat)])) t2 (.tup [.str "give", .str (nm z b 9)])) (a := t3) (o := .tup [.str "let", .str (nm z b 9), .ref t1, .ref t2])
      generalize upd (upd (upd H5 t1 (.tup [.str "num", .int (i : Nat)])) t2 (.tup [.str "give", .str (nm z b 9)])) t3 (.tup [.str "let", .str (nm z b 9), .ref t1, .ref t2]) = H6 at *
      have S6 := S5.same n6
      have by6 : IsBy H6 [(nm z b 9, .num (i : Nat))] (nm z b 9) t3 := ⟨t1, t2, w3, w1, w2⟩
      have ok1 : DmOk z b ⟨nm z b (3 + i), ps, [(nm z b 9, .num (i : Nat))], nm z b 9⟩ := ⟨n, by omega, eps, .inl ⟨i, by omega, rfl, rfl⟩⟩
      have k6 : Kp st H3 H6 := k5.trans (.of n6)
      refine ⟨_, rfl, by show 0 <= sizeLine; decide, fun pe he => ?_⟩
      have o1 := same_new he (.lst [])
      have S7 := S6.same o1
      refine ⟨_, _, _, rfl, rfl, SqL.of (o1 _ _ (n6 _ _ epp)), SqL.of zg, _, rfl, ?_⟩
      show if (if true = true then !(ps.map V.str).isEmpty else (ps.map V.str).isEmpty) = true then _ else _
      by_cases c : ps = []
      · rw [show (ps.map V.str).isEmpty = true by rw [c]; rfl]
        exact iteF (iteF (nxt (hU _ pp t3 ps _ _ _ (k6.trans (.of o1)) (S7.mono (by omega)) (o1 _ _ (n6 _ _ epp)) npp (by6.keep (.of o1)) ok1)))
      rw [show (ps.map V.str).isEmpty = false by cases ps with | nil => exact absurd rfl c | cons _ _ => rfl]
      have npos : 0 < ps.length := by
        cases ps with
        | nil => exact absurd rfl c
        | cons _ _ => exact Nat.succ_pos _
      refine iteT ⟨_, rfl, st, 4, _, rfl, S7, by omega, by decide, fun H8 r k8 S8 r0 r4 => ⟨_, _, rfl, rfl, _, rfl, ?_⟩⟩
      have k38 : Kp st H3 H8 := (k6.trans (.of o1)).trans k8
      have epp8 := k8.k _ _ npp (o1 _ _ (n6 _ _ epp))
      refine ite2 (fun _ => ?_) (fun _ => nxt (hU _ pp t3 ps _ _ _ k38 (S8.mono (by omega)) epp8 npp ((by6.keep (.of o1)).keep (k8.tups S7)) ok1))
      refine ⟨_, rfl, _, rfl, _, rfl, pp, _, rfl, .inl (SqL.of epp8), st, _, _, rfl, S8, by omega, by rw [List.length_map]; omega, fun H9 r' k9 S9 a0 a1 => ?_⟩
      obtain ⟨x, hx, e⟩ := ZI (zs := ps) a0 (by rw [List.length_map] at a1; exact a1)
      have epp9 := k9.k _ _ npp epp8
      refine ⟨pp, _, _, _, rfl, rfl, SqL.of epp9, e, by show 2 <= sizeLine; decide, fun t4 h4 => ?_⟩
      have o4 := same_new h4 (.tup [.str "give", .str x])
      exact hU _ pp t4 ps [] x _ ((k38.trans k9).trans (.of o4)) ((S9.same o4).mono (by omega)) (o4 _ _ epp9) npp zg ⟨n, by omega, eps, .inr ⟨rfl, hx⟩⟩
    case rest =>
      intro H4 pp bd ps rows x y5 k4 S4 epp npp hby ok
      have hw4 := k4.k _ _ nw hw3
      have e4 := k4.k _ _ n2 e3
      refine ⟨_, rfl, .inl ⟨rfl, _, SqL.of e4⟩, _, rfl, _, rfl, _, _, rfl, rfl, wp, z, b, [], 3 + i, by rw [show ((3 + i : Nat) : Int) = 3 + ((i : Nat) : Int) by omega]; rfl, hw4, hz, _, rfl, pp, _, rfl, .inl ⟨SqL.of epp, fun tp htp => ⟨_, rfl, by show 3 <= sizeLine; decide, fun one hone => ?_⟩⟩⟩
      have n5 := (same_new htp (.tup (ps.map V.str))).new (o := .tup [.str (nm z b (3 + i)), .ref tp, .ref bd]) hone
      have f1 := old (o := .tup [.str (nm z b (3 + i)), .ref tp, .ref bd]) hone (zg (H := H4) (a := tp) (o := .tup (ps.map V.str)))
      have f2 := zg (H := upd H4 tp (.tup (ps.map V.str))) (a := one) (o := .tup [.str (nm z b (3 + i)), .ref tp, .ref bd])
      generalize upd (upd H4 tp (.tup (ps.map V.str))) one (.tup [.str (nm z b (3 + i)), .ref tp, .ref bd]) = H5 at *
      have e5 := n5 _ _ e4
      have one_l2 : ∀ {c : Addr} {xs : List V}, H5 c = some (.tup xs) -> c ≠ l2 := fun {c xs} h e => by
        rw [e, e5] at h
        cases h
      refine ⟨l2, _, _, rfl, rfl, e5, by rw [List.length_map]; omega, ?_⟩
      have kk : Kp st H (upd H5 l2 (.lst (ones.map V.ref ++ [V.ref one]))) := ((k3.trans k4).trans (.of n5)).put h2
      have tu : Tups H5 (upd H5 l2 (.lst (ones.map V.ref ++ [V.ref one]))) := fun c xs h => by rw [zn (one_l2 h)]; exact h
      have SS : Sta K (upd H5 l2 (.lst (ones.map V.ref ++ [V.ref one]))) st (B + 1 + 4 * (i + 1)) := (S0.put h2 ((k3.trans k4).trans (.of n5)) (S4.same n5)).mono (by omega)
      refine ⟨kk, SS, ⟨_, _, _, _, rfl⟩, ones ++ [one], ds ++ [⟨nm z b (3 + i), ps, rows, x⟩], by rw [zg, List.map_append]; rfl, by rw [List.length_append, lo]; rfl, by rw [List.length_append, ld]; rfl, fun j o d h1 h2' => ?_, fun j d h => ?_⟩
      · by_cases c : j < i
        · rw [List.getElem?_append_left (by omega)] at h1 h2'
          exact (((hI j o d h1 h2').keep (k4.tups S3)).keep (.of n5)).keep tu
        · rw [List.getElem?_append_right (by omega)] at h1 h2'
          have hj : j = i := by
            have := (List.getElem?_eq_some_iff.mp h1).1
            simp at this
            omega
          subst hj
          rw [lo, Nat.sub_self] at h1
          rw [ld, Nat.sub_self] at h2'
          cases h1
          cases h2'
          exact IsDm.keep tu ⟨tp, bd, f2, f1, hby.keep (.of n5)⟩
      · by_cases c : j < i
        · rw [List.getElem?_append_left (by omega)] at h
          exact hD j d h
        · rw [List.getElem?_append_right (by omega)] at h
          have hj : j = i := by
            have := (List.getElem?_eq_some_iff.mp h).1
            simp at this
            omega
          subst hj
          rw [ld, Nat.sub_self] at h
          cases h
          exact ⟨rfl, ok⟩
  · rintro σ H3 ⟨k3, S3, ⟨x3, x4, x5, x6, rfl⟩, ones, ds, e3, lo, ld, hI, hD⟩
    have : (1 + ((m : Nat) : Int)).toNat = 1 + m := by omega
    rw [this] at lo ld S3
    exact ⟨_, rfl, q _ l2 ones ds k3 (S3.mono (by omega)) h2 e3 (by omega) (by omega) (by omega) hI hD⟩
end
end GN
namespace GN
open PySem L2 K11
theorem Qb {j n : Nat} (h : j < n) : seqIndex? (j : Int) n = some j := by
  unfold seqIndex?
  simp
  omega
theorem Wc {X : Cx} : jMt X "list.pop" YO := ⟨YQ⟩
def Stab (st l : Addr) (H : Hp) (ks : List (List (Str × Nat))) (v : V) (o : Option (List V)) : Prop := ∀ H2 : Hp, (∀ p u, p ≠ st -> p ≠ l -> H p = some u -> H2 p = some u) -> ArgX H2 ks v o /\ Sme 4 H2 v v
theorem Stab.on {st l : Addr} {H H' : Hp} {ks : List (List (Str × Nat))} {v : V} {o : Option (List V)} (h : Stab st l H ks v o) (k : ∀ p u, p ≠ st -> p ≠ l -> H p = some u -> H' p = some u) : Stab st l H' ks v o := fun H2 g => h H2 fun p u a b c => g p u a b (k p u a b c)
structure SpS (st l : Addr) (H : Hp) (ks : List (List (Str × Nat))) (as : List V) (os : List (Option (List V))) : Prop where
  e : H l = some (.lst as)
  n : as.length = os.length
  s : ∀ (j : Nat) v o, as[j]? = some v -> os[j]? = some o -> Stab st l H ks v o
theorem SpS.on {st l : Addr} {H H' : Hp} {ks : List (List (Str × Nat))} {as : List V} {os : List (Option (List V))} (h : SpS st l H ks as os) (n : l ≠ st) (k : ∀ p u, p ≠ st -> H p = some u -> H' p = some u) : SpS st l H' ks as os := ⟨k _ _ n h.e, h.n, fun j v o a b => (h.s j v o a b).on fun p u x _ y => k p u x y⟩
def SpR (way : Int) (xss : List (List V)) (os : List (Option (List V))) : Prop := if way / 4 % 2 = 1 then os.length ≠ xss.length else os.length = xss.length /\ (if xss ≠ [] /\ way / 2 % 2 = 1 then none ∈ os else os = xss.map some)
theorem grw1 {ks : List (List (Str × Nat))} : Grw ks [.int 1] := ⟨by show 1 <= 300; decide, fun x hx => by rw [List.mem_singleton.mp hx]; trivial, by
  rw [ya, vB (show Sm 1 from ⟨by decide, by decide⟩)]
  rfl⟩
def ZM (K : PySem.W.Frag) : Sp := fun vs H Q _ => ∃ (st o al tg : Addr) (B : Nat) (z : Str) (b : Bool) (way : Int) (as : List Addr) (xss : List (List V)), vs = [.ref st, .ref o, .ref al, .ref tg, .int way] /\ Sta K H st B /\ B + 20 < LIM /\ IsT2 H tg (nm z b 0) (nm z b 1) /\ tg ≠ st /\ z.length <= 6 /\ Args H (ks2 (nm z b 0) (nm z b 1)) al as xss /\ xss.length <= 9 /\ al ≠ st /\ (∀ a ∈ as, a ≠ st) /\ 0 <= way /\ way < 100 /\
  ∀ (H' : Hp) (l : Addr) (as' : List V) (os' : List (Option (List V))), Kp st H H' -> Sta K H' st (B + 20) -> H l = none -> SpS st l H' (ks2 (nm z b 0) (nm z b 1)) as' os' -> os'.length <= 10 -> SpR way xss os' -> Q (.ref l) H'
section
variable {P : Program} {w : World} {K : PySem.W.Frag} {mg : Str -> Option Value} {base : Heap} {f T : Addr} {fd : FuncData}
theorem scSpoil : FnScope ["_law_state", "_law_one", "_law_args", "_law_tags", "_law_way", "_law_some"] ["_law_state", "_law_one", "_law_args", "_law_tags", "_law_way"] (zm jJ) := ⟨rfl, rfl, rfl, by decide +kernel, rfl, by decide +kernel, by decide +kernel⟩
theorem Wd (F : Fun K "_law_spoil" "_law_spoil" jJ f fd) (GD : Ca P w K mg base CX0 1 "_law_draw" ["_law_state", "_law_many"] (xb K)) (GO : Ca P w K mg base CX0 2 "_law_odd" ["_law_state", "_law_tags"] (VT K)) (m_len : mg "len" = none) (m_list : mg "list" = none) : FnOk P w K mg base CX0 3 f fd ["_law_state", "_law_one", "_law_args", "_law_tags", "_law_way"] (ZM K) := by
  refine F.by scSpoil (fun vs H Q E h => ?_) (fun cdv A outer s H vs Q E hr h => ?_)
  · obtain ⟨st, o, al, tg, B, z, b, way, as, xss, rfl, _⟩ := h
    rfl
  obtain ⟨st, o, al, tg, B, z, b, way, as, xss, rfl, S0, hB, hT, ng, hz, hA, l9, nal, nas, w0, w1, q⟩ := h
  have r1 : Room 1 _ := hr.mono (by decide)
  refine ⟨_,
    (zi (zt (i := 5) scSpoil.nd rfl (Or.inl rfl) (yI y9 rfl m_list PyProof.Rows.boot_list (ja_c (jv 2) zh)))
    (zi (zK (jW.pt (yP (zr (wf hr) (jv 5) (zA zh) (zv _)) (yz (zr zS (zz yf (zz xj (jv 4) zj) zj) zj (zv _)))))
      (zk (jn (zC GO hr rfl zJ (ja_c (jv 0) (ja_c (jv 3) zh))) (vv (jv 5) (zC GD r1 rfl zJ (ja_c (jv 0) (ja_c (zE zF rfl m_len PySem.boot_len (ja_c (jv 5) zh)) zh)))))) zB)
    (zi (zK (zr zS (zz yf (zz xj (jv 4) zj) zj) zj (zv _))
      (zk (zK (jW.pt (yP (zr (wf hr) (jv 5) (zA zh) (zv _)) (yz (zr zS (zC GD r1 rfl zJ (ja_c (jv 0) (ja_c zj zh))) zj (zv _)))))
        (zk (zT (y3 PySem.F.plainAttrs_list PySem.F.slot_list_pop PySem.F.type_list_pop Wc (jv 5) (ja_c (zC GD r1 rfl zJ (ja_c (jv 0) (ja_c (zE zF rfl m_len PySem.boot_len (ja_c (jv 5) zh)) zh))) zh))))
        (zk (zT (y3 PySem.F.plainAttrs_list PySem.F.slot_list_insert PySem.F.type_list_insert Z5 (jv 5) (ja_c (zC GD r1 rfl zJ (ja_c (jv 0) (ja_c (zz yQ (zE zF rfl m_len PySem.boot_len (ja_c (jv 5) zh)) zj) zh))) (ja_c (zA (ja_c zj zh)) zh))))))) zB)
    (zk (zw (jv 5)))))), ?_⟩
  have sl := zX
  have LM : LIM = 4611686018427387904 := rfl
  have la := hA.2.1
  have CD : CDiv way 2 := ⟨by omega, by omega⟩
  have CD4 : CDiv way 4 := ⟨by omega, by omega⟩
  refine (show ∀ (u : TS) (D : Ends), (∀ (H' : Hp) (l : Addr) (as' : List V) (os' : List (Option (List V))), H l = none -> l ≠ st -> Kp st H H' -> Sta K H' st (B + 2) -> SpS st l H' (ks2 (nm z b 0) (nm z b 1)) as' os' -> os'.length = xss.length -> (if xss ≠ [] /\ way / 2 % 2 = 1 then none ∈ os' else os' = xss.map some) -> u D [some (.ref st), some (.ref o), some (.ref al), some (.ref tg), some (.int way), some (.ref l)] H') -> (tSeq _ (tSeq _ u) : TS) D [some (.ref st), some (.ref o), some (.ref al), some (.ref tg), some (.int way), none] H from ?key) _ _ ?rest
  case key =>
    intro u D hU
    refine ⟨_, rfl, al, _, rfl, .inl (SqL.of hA.1), fun l hl => ?_⟩
    have s1 := same_new hl (.lst (as.map V.ref))
    have nl : l ≠ st := S0.ne hl
    have S1 := S0.same s1
    have hT1 := hT.same s1
    have k1 : Kp st H (upd H l (.lst (as.map V.ref))) := .of s1
    have P1 : SpS st l (upd H l (.lst (as.map V.ref))) (ks2 (nm z b 0) (nm z b 1)) (as.map V.ref) (xss.map some) := by
      refine ⟨zg, by rw [List.length_map, List.length_map]; exact la, fun j v o h1 h2 H2 hk => ?_⟩
      rw [List.getElem?_map] at h1 h2
      obtain ⟨a, ha, rfl⟩ := Option.map_eq_some_iff.mp h1
      obtain ⟨xs, hxs, rfl⟩ := Option.map_eq_some_iff.mp h2
      obtain ⟨g1, g2⟩ := hA.2.2 j a xs ha hxs
      have g := hk a _ (nas a (List.mem_of_getElem? ha)) (zo g1 hl) (s1 _ _ g1)
      exact ⟨⟨a, rfl, g, g2⟩, z9 (n := 2) (.inl ⟨g, g⟩) fun x hx => by
        have := g2.2.1 x hx
        match x, this with
        | .int i, _ => rfl
        | .str i, _ => rfl⟩
    generalize upd H l (.lst (as.map V.ref)) = H1 at *
    refine ⟨_, rfl, by show 0 <= sizeLine; decide, fun pe he => ?_⟩
    have o1 := same_new he (.lst [])
    have S2 := S1.same o1
    have k2 : Kp st H (upd H1 pe (.lst [])) := k1.trans (.of o1)
    have P2 := P1.on nl fun p u _ h => o1 p u h
    have hT2 := hT1.same o1
    refine ⟨_, _, _, rfl, rfl, SqL.of (o1 _ _ P1.e), SqL.of zg, _, rfl, ?_⟩
    show if (if true = true then !(as.map V.ref).isEmpty else (as.map V.ref).isEmpty) = true then _ else _
    generalize upd H1 pe (.lst []) = H2 at *
    by_cases c : xss = []
    · have : as = [] := by cases as with | nil => rfl | cons _ _ => rw [c] at la; simp at la
      rw [show (as.map V.ref).isEmpty = true by rw [this]; rfl]
      exact iteF (iteF (nxt (hU _ l _ _ hl nl k2 (S2.mono (by omega)) P2 (by rw [List.length_map]) (by rw [if_neg (fun h => h.1 c)]))))
    have lp : 0 < xss.length := by cases xss with | nil => exact absurd rfl c | cons _ _ => exact Nat.succ_pos _
    rw [show (as.map V.ref).isEmpty = false by cases as with | nil => simp at la; rw [<- la] at lp; exact absurd lp (by decide) | cons _ _ => rfl]
    refine iteT ⟨_, rfl, _, _, rfl, rfl, CD, _, _, rfl, rfl, (by decide : (0 : Int) < 2), rfl, _, rfl, ?_⟩
    by_cases cw : way / 2 % 2 = 1
    · refine yq (decide_eq_true (by show V.int (way / 2 % 2) = _; rw [cw])) ?_
      refine ⟨_, rfl, _, rfl, st, tg, B, z, b, rfl, S2, by omega, hT2, ng, hz, fun H3 v k3 S3 hv hf => ?_⟩
      have P3 := P2.on nl fun p u n h => k3.k p u n h
      refine ⟨_, rfl, _, rfl, _, rfl, l, _, rfl, .inl (SqL.of P3.e), st, _, _, rfl, S3, by omega, by rw [List.length_map, la]; omega, fun H4 r k4 S4 r0 r1' => ?_⟩
      have P4 := P3.on nl fun p u n h => k4.k p u n h
      rw [List.length_map, la] at r1'
      obtain ⟨j, rfl⟩ : ∃ j : Nat, r = (j : Int) := ⟨r.toNat, by omega⟩
      refine ⟨l, _, _, j, rfl, rfl, P4.e, by unfold ixN; rw [if_pos r0, if_pos (by rw [List.length_map, la]; exact r1')]; rfl, ?_⟩
      have k4' : Kp st H (upd H4 l (.lst ((as.map V.ref).set j v))) := ((k2.trans k3).trans k4).put hl
      have kl : ∀ p u, p ≠ st -> p ≠ l -> H4 p = some u -> upd H4 l (.lst ((as.map V.ref).set j v)) p = some u := fun p u _ n h => by rw [zn n]; exact h
      refine hU _ l ((as.map V.ref).set j v) ((xss.map some).set j none) hl nl k4' ((S0.put hl ((k2.trans k3).trans k4) S4).mono (by omega)) ⟨zg, by rw [List.length_set, List.length_set]; exact P4.n, fun i v' o' h1 h2 => ?_⟩ (by rw [List.length_set, List.length_map]) (by rw [if_pos ⟨c, cw⟩]; exact List.mem_of_getElem? (i := j) (by rw [List.getElem?_set_self (by rw [List.length_map]; omega)]))
      by_cases ci : j = i
      · subst ci
        rw [List.getElem?_set_self (by rw [List.length_map]; omega)] at h1 h2
        cases h1
        cases h2
        intro H5 hk
        refine hv H5 fun p u hn h => hk p u ?_ ?_ ?_
        · intro e
          obtain ⟨o', ho⟩ := S2.ex
          rw [e, ho] at hn
          cases hn
        · intro e
          rw [e, P2.e] at hn
          cases hn
        · refine kl p u ?_ ?_ (k4.k _ _ ?_ h)
          · intro e
            obtain ⟨o', ho⟩ := S2.ex
            rw [e, ho] at hn
            cases hn
          · intro e
            rw [e, P2.e] at hn
            cases hn
          · intro e
            obtain ⟨o', ho⟩ := S2.ex
            rw [e, ho] at hn
            cases hn
      · rw [List.getElem?_set_ne ci] at h1 h2
        exact (P4.s i v' o' h1 h2).on kl
    · refine yh (decide_eq_false (by show ¬ V.int (way / 2 % 2) = _; intro e; injection e with e; exact cw e)) (nxt ?_)
      exact hU _ l _ _ hl nl k2 (S2.mono (by omega)) P2 (by rw [List.length_map]) (by rw [if_neg (fun h => cw h.2)])
  case rest =>
    intro H' l as' os' hl nl k' S' P' ln hno
    refine ⟨_, rfl, _, _, rfl, rfl, CD4, _, _, rfl, rfl, (by decide : (0 : Int) < 2), rfl, _, rfl, ?_⟩
    by_cases cw : way / 4 % 2 = 1
    · refine yq (decide_eq_true (by show V.int (way / 4 % 2) = _; rw [cw])) ?_
      have spr : ∀ os2 : List (Option (List V)), os2.length ≠ xss.length -> SpR way xss os2 := fun os2 h => by
        unfold SpR
        rw [if_pos cw]
        exact h
      refine ⟨_, rfl, by show 0 <= sizeLine; decide, fun pe he => ?_⟩
      have o1 := same_new he (.lst [])
      have S2 := S'.same o1
      have k2 : Kp st H (upd H' pe (.lst [])) := k'.trans (.of o1)
      have P2 := P'.on nl fun p u _ h => o1 p u h
      refine ⟨_, _, _, rfl, rfl, SqL.of (o1 _ _ P'.e), SqL.of zg, _, rfl, ?_⟩
      show if (if true = true then !as'.isEmpty else as'.isEmpty) = true then _ else _
      generalize upd H' pe (.lst []) = H2 at *
      suffices ins : ∀ (H3 : Hp) (B3 : Nat), Kp st H2 H3 -> Sta K H3 st B3 -> B3 <= B + 3 -> (tDrop _ : TS) _ [some (.ref st), some (.ref o), some (.ref al), some (.ref tg), some (.int way), some (.ref l)] H3 by
        by_cases c : as' = []
        · rw [show as'.isEmpty = true by rw [c]; rfl]
          exact iteF (iteF (ins H2 _ Kp.refl S2 (by omega)))
        have lp : 0 < as'.length := by cases as' with | nil => exact absurd rfl c | cons _ _ => exact Nat.succ_pos _
        rw [show as'.isEmpty = false by cases as' with | nil => exact absurd rfl c | cons _ _ => rfl]
        refine iteT ⟨_, rfl, st, 2, _, rfl, S2, by omega, by decide, fun H3 r k3 S3 r0 r2 => ⟨rfl, _, rfl, ite2 (fun _ => ?_) (fun _ => ins H3 _ k3 S3 (by omega))⟩⟩
        have P3 := P2.on nl fun p u n h => k3.k p u n h
        refine ⟨_, rfl, .inl ⟨rfl, _, SqL.of P3.e⟩, _, rfl, _, rfl, l, _, rfl, .inl (SqL.of P3.e), st, _, _, rfl, S3, by omega, by omega, fun H4 r' k4 S4 a0 a1 => ?_⟩
        have P4 := P3.on nl fun p u n h => k4.k p u n h
        obtain ⟨j, rfl⟩ : ∃ j : Nat, r' = (j : Int) := ⟨r'.toNat, by omega⟩
        have hj : j < as'.length := by omega
        have kk : Kp st H (upd H4 l (.lst (as'.eraseIdx j))) := ((k2.trans k3).trans k4).put hl
        have lm : as'.length <= 9 := by rw [P4.n]; omega
        refine ⟨l, _, _, j, _, rfl, rfl, P4.e, by omega, by omega, Qb hj, List.getElem?_eq_getElem hj, ?_⟩
        have hjo : j < os'.length := by rw [<- P4.n]; exact hj
        refine ⟨_, rfl, q _ l _ (os'.eraseIdx j) kk ((S0.put hl ((k2.trans k3).trans k4) S4).mono (by omega)) hl ⟨zg, by rw [List.length_eraseIdx, List.length_eraseIdx, P4.n], fun i v o' h1 h2 => ?_⟩ (by rw [List.length_eraseIdx, if_pos hjo]; omega) (spr _ (by rw [List.length_eraseIdx, if_pos hjo]; omega))⟩
        rw [List.getElem?_eraseIdx] at h1 h2
        have kl : ∀ p u, p ≠ st -> p ≠ l -> H4 p = some u -> upd H4 l (.lst (as'.eraseIdx j)) p = some u := fun p u _ n h => by rw [zn n]; exact h
        by_cases ci : i < j
        · rw [if_pos ci] at h1 h2
          exact (P4.s i v o' h1 h2).on kl
        · rw [if_neg ci] at h1 h2
          exact (P4.s (i + 1) v o' h1 h2).on kl
      intro H3 B3 k3 S3 hB3
      have P3 := P2.on nl fun p u n h => k3.k p u n h
      refine ⟨_, rfl, .inl ⟨rfl, _, SqL.of P3.e⟩, _, rfl, _, rfl, l, _, rfl, .inl (SqL.of P3.e), _, _, rfl, rfl, st, _, _, rfl, S3, by omega, by omega, fun H4 r' k4 S4 a0 a1 => ⟨by show 1 <= sizeLine; decide, fun p1 hp1 => ?_⟩⟩
      have o4 := same_new hp1 (.lst [V.int 1])
      have e4 := zg (H := H4) (a := p1) (o := .lst [V.int 1])
      have P4 := (P3.on nl fun p u n h => k4.k p u n h).on nl fun p u _ h => o4 p u h
      have S5 := S4.same o4
      have n1 : p1 ≠ st := S4.ne hp1
      have n1l : p1 ≠ l := fun e => by
        have := (P3.on nl fun p u n h => k4.k p u n h).e
        rw [<- e, hp1] at this
        cases this
      have k5 : Kp st H (upd H4 p1 (.lst [V.int 1])) := ((k2.trans k3).trans k4).trans (.of o4)
      generalize upd H4 p1 (.lst [V.int 1]) = H5 at *
      obtain ⟨j, rfl⟩ : ∃ j : Nat, r' = (j : Int) := ⟨r'.toNat, by omega⟩
      have hj : j <= as'.length := by omega
      have hjo : j <= os'.length := by rw [<- P4.n]; exact hj
      have lm : as'.length <= 9 := by rw [P4.n]; omega
      refine ⟨l, _, j, _, _, rfl, rfl, rfl, P4.e, by omega, hj, ?_⟩
      have lins : ∀ {α : Type} (ys : List α) (y : α), j <= ys.length -> (ys.take j ++ y :: ys.drop j).length = ys.length + 1 := fun ys y h => by
        rw [List.length_append, List.length_cons, List.length_take, List.length_drop]
        omega
      have gins : ∀ {α : Type} (ys : List α) (y v : α) (i : Nat), j <= ys.length -> (ys.take j ++ y :: ys.drop j)[i]? = some v -> (i = j /\ v = y) \/ (i ≠ j /\ ys[if i < j then i else i - 1]? = some v) := fun ys y v i h e => by
        by_cases ci : i < j
        · rw [List.getElem?_append_left (by rw [List.length_take]; omega), List.getElem?_take, if_pos ci] at e
          exact .inr ⟨by omega, by rw [if_pos ci]; exact e⟩
        · rw [List.getElem?_append_right (by rw [List.length_take]; omega), List.length_take, Nat.min_eq_left h] at e
          by_cases c0 : i = j
          · rw [c0, Nat.sub_self] at e
            cases e
            exact .inl ⟨c0, rfl⟩
          · obtain ⟨k, hk⟩ : ∃ k, i - j = k + 1 := ⟨i - j - 1, by omega⟩
            rw [hk, List.getElem?_cons_succ, List.getElem?_drop] at e
            refine .inr ⟨c0, ?_⟩
            rw [if_neg ci, show i - 1 = j + k by omega]
            exact e
      have kl : ∀ p u, p ≠ st -> p ≠ l -> H5 p = some u -> upd H5 l (.lst (as'.take j ++ V.ref p1 :: as'.drop j)) p = some u := fun p u _ n h => by rw [zn n]; exact h
      refine ⟨_, rfl, q _ l _ (os'.take j ++ some [V.int 1] :: os'.drop j) (k5.put hl) ((S0.put hl k5 S5).mono (by omega)) hl ⟨zg, by rw [lins _ _ hj, lins _ _ hjo, P4.n], fun i v o' h1 h2 => ?_⟩ (by rw [lins _ _ hjo]; omega) (spr _ (by rw [lins _ _ hjo]; omega))⟩
      rcases gins _ _ _ _ hj h1 with ⟨e1, rfl⟩ | ⟨e1, g1⟩
      · rcases gins _ _ _ _ hjo h2 with ⟨_, rfl⟩ | ⟨e2, _⟩
        · intro H6 hk
          have g := hk p1 _ n1 n1l (kl _ _ n1 n1l e4)
          exact ⟨⟨p1, rfl, g, grw1⟩, z9 (n := 2) (.inl ⟨g, g⟩) fun x hx => by rw [List.mem_singleton.mp hx]; rfl⟩
        · exact absurd e1 e2
      · rcases gins _ _ _ _ hjo h2 with ⟨e2, _⟩ | ⟨_, g2⟩
        · exact absurd e2 e1
        · exact (P4.s _ v o' g1 g2).on kl
    · refine yh (decide_eq_false (by show ¬ V.int (way / 4 % 2) = _; intro e; injection e with e; exact cw e)) (nxt ?_)
      refine ⟨_, rfl, q _ l as' os' k' (S'.mono (by omega)) hl P' (by omega) ?_⟩
      unfold SpR
      rw [if_neg cw]
      exact ⟨ln, hno⟩
end
end GN
namespace GN
open PySem L2 K11
def dueR (way : Int) (d : Dm) (n : Nat) (xss : List (List V)) : Rf := if way % 2 = 1 then .unk else if n ≠ xss.length then .mis else if xss ≠ [] /\ way / 2 % 2 = 1 then .nov else .ans (goE (d.ps.zip xss) d.rows d.x)
def We : Sp := fun vs H Q _ => ∃ (o l al : Addr) (d : Dm) (z n : Str) (b : Bool) (ks : List (List (Str × Nat))) (way : Int) (as' : List V) (as : List Addr) (xss : List (List V)), vs = [.str n, .ref o, .ref l, .ref al, .int way] /\ IsDm H d o /\ DmOk z b d /\ H l = some (.lst as') /\ Args H ks al as xss /\ d.ps.length = xss.length /\ (∀ xs ∈ xss, xs.length <= 2) /\ 0 <= way /\ way < 100 /\ as'.length <= 100 /\
  ∀ H' r, Same H H' -> GotV H' r (if way % 2 = 1 then n else d.n) (dueR way d as'.length xss) -> Q (.ref r) H'
section
variable {P : Program} {w : World} {K : PySem.W.Frag} {mg : Str -> Option Value} {base : Heap} {f T : Addr} {fd : FuncData}
theorem ql : FnScope ["_law_name_here", "_law_one", "_law_some", "_law_args", "_law_way"] ["_law_name_here", "_law_one", "_law_some", "_law_args", "_law_way"] (zm sDue) := ⟨rfl, rfl, rfl, by decide +kernel, rfl, by decide +kernel, by decide +kernel⟩
theorem Vu (F : Fun K "_law_due" "_law_due" sDue f fd) (GG : Ca P w K mg base CX0 1 "_law_given" ["_law_one", "_law_args"] xQ) (m_len : mg "len" = none) : FnOk P w K mg base CX0 2 f fd ["_law_name_here", "_law_one", "_law_some", "_law_args", "_law_way"] We := by
  refine F.by ql (fun vs H Q E h => ?_) (fun cdv A outer s H vs Q E hr h => ?_)
  · obtain ⟨o, l, al, d, z, n, b, ks, way, as', as, xss, rfl, _⟩ := h
    rfl
  obtain ⟨o, l, al, d, z, n, b, ks, way, as', as, xss, rfl, hI, hOk, hl, hA, ll, hx2, w0, w1, l100, q⟩ := h
  refine ⟨_,
    (zi (zK (zr zS (zz yf (jv 4) zj) zj (zv _))
      (zk (zw (zN (ja_c zu (ja_c (jv 0) zh))))) zB)
    (zi (zK (zr YV (zE zF rfl m_len PySem.boot_len (ja_c (jv 2) zh)) (zE zF rfl m_len PySem.boot_len (ja_c (jv 3) zh)) (zv _))
      (zk (zw (zN (ja_c zu (ja_c (zq zx (jv 1) zj (fun _ _ => rfl)) zh))))) zB)
    (zi (zK (jW.pt (yP (zr (wf hr) (jv 3) (zA zh) (zv _)) (yz (zr zS (zz yf (zz xj (jv 4) zj) zj) zj (zv _)))))
      (zk (zw (zN (ja_c zu (ja_c zu zh))))) zB)
    (zk (zw (zC GG hr rfl zJ (ja_c (jv 1) (ja_c (jv 3) zh)))))))), ?_⟩
  have sl := zX
  have la := hA.2.1
  have CD : CDiv way 2 := ⟨by omega, by omega⟩
  obtain ⟨pp, pb, h1, h2, h3⟩ := hI
  unfold dueR at q
  refine ⟨_, rfl, _, _, rfl, rfl, (by decide : (0 : Int) < 2), rfl, _, rfl, ?_⟩
  by_cases c1 : way % 2 = 1
  · refine yq (decide_eq_true (by show V.int (way % 2) = _; rw [c1])) ?_
    rw [if_pos c1, if_pos c1] at q
    exact ⟨_, rfl, by show 2 <= sizeLine; decide, fun r hr' => q _ r (same_new hr' _) zg⟩
  refine yh (decide_eq_false (by show ¬ V.int (way % 2) = _; intro e; injection e with e; exact c1 e)) (nxt ?_)
  rw [if_neg c1, if_neg c1] at q
  refine ⟨_, rfl, l, _, rfl, .inl (SqL.of hl), _, rfl, al, _, rfl, .inl (SqL.of hA.1), rfl, _, rfl, ?_⟩
  by_cases c2 : as'.length ≠ xss.length
  · refine yq ?_ ?_
    · rw [List.length_map, la]
      have : ¬ ((as'.length : Nat) : Int) = ((xss.length : Nat) : Int) := by omega
      simp [this]
    rw [if_pos c2] at q
    exact ⟨_, rfl, o, _, _, _, rfl, rfl, SqT.of h1, zp (j := 0) rfl, by show 2 <= sizeLine; decide, fun r hr' => q _ r (same_new hr' _) zg⟩
  rw [if_neg c2] at q
  have c2' : as'.length = xss.length := Classical.not_not.mp c2
  refine yh (by rw [List.length_map, la, c2']; simp) (nxt ?_)
  refine ⟨_, rfl, by show 0 <= sizeLine; decide, fun pe he => ?_⟩
  have o1 := same_new he (.lst [])
  refine ⟨_, _, _, rfl, rfl, SqL.of (o1 _ _ hA.1), SqL.of zg, _, rfl, ?_⟩
  show if (if true = true then !(as.map V.ref).isEmpty else (as.map V.ref).isEmpty) = true then _ else _
  have fin : ∀ {σ : St}, σ[1]? = some (some (.ref o)) -> σ[3]? = some (some (.ref al)) -> ¬ (xss ≠ [] /\ way / 2 % 2 = 1) -> (tRet (wE xQ [] E0 (xT (tVar 1) (xT (tVar 3) tNil))) : TS) { nx := fun _ H' => Q .non H', rt := Q } σ (upd H pe (.lst [])) := fun {σ} e1 e3 c => by
    rw [if_neg c] at q
    exact ⟨_, e1, _, e3, o, al, d, z, b, ks, as, xss, rfl, ⟨pp, pb, o1 _ _ h1, o1 _ _ h2, h3.keep (.of o1)⟩, hOk, hA.same o1, ll, hx2, fun H' r s' ha => q _ r (o1.trans s') ha⟩
  by_cases c : xss = []
  · have : as = [] := by cases as with | nil => rfl | cons _ _ => rw [c] at la; simp at la
    rw [show (as.map V.ref).isEmpty = true by rw [this]; rfl]
    exact iteF (iteF (nxt (fin rfl rfl fun z => z.1 c)))
  have lp : 0 < xss.length := by cases xss with | nil => exact absurd rfl c | cons _ _ => exact Nat.succ_pos _
  rw [show (as.map V.ref).isEmpty = false by cases as with | nil => simp at la; rw [<- la] at lp; exact absurd lp (by decide) | cons _ _ => rfl]
  refine iteT ⟨_, rfl, _, _, rfl, rfl, CD, _, _, rfl, rfl, (by decide : (0 : Int) < 2), rfl, _, rfl, ?_⟩
  by_cases cw : way / 2 % 2 = 1
  · refine yq (decide_eq_true (by show V.int (way / 2 % 2) = _; rw [cw])) ?_
    rw [if_pos ⟨c, cw⟩] at q
    exact ⟨by show 2 <= sizeLine; decide, fun r hr' => q _ r (o1.new hr') zg⟩
  · exact yh (decide_eq_false (by show ¬ V.int (way / 2 % 2) = _; intro e; injection e with e; exact cw e)) (nxt (fin rfl rfl fun z => cw z.2))
end
end GN
namespace GN
open PySem L2 K11
def spTopT (K : PySem.W.Frag) (T : Addr) : Sp := fun vs H Q _ => ∃ (a : Addr) (ns : List Int), vs = [.ref a] /\ SqL K H a (ns.map V.int) /\ ns.length <= 63 /\ H T = some (.tbl #[]) /\ ∀ H', Q (.bl true) H'
theorem Th.kt {T : Addr} {H H' : Hp} {b : Bool} {v : V} (k : KT T H H') (t : Tb T H) (h : Th H b v) : Th H' b v := by
  obtain ⟨tb, ht⟩ := t.tbl
  cases h with
  | int i => exact .int i
  | bl b => exact .bl b
  | non => exact .non
  | str x => exact .str x
  | lst h => exact .lst (k _ _ (zM h ht (by intro z; cases z)) h)
  | tup h => exact .tup (k _ _ (zM h ht (by intro z; cases z)) h)
  | dK h => exact .dK (k _ _ (zM h ht (by intro z; cases z)) h)
theorem ArgX.kt {T : Addr} {H H' : Hp} {ks : List (List (Str × Nat))} {v : V} (k : KT T H H') (t : Tb T H) : ∀ {o : Option (List V)}, ArgX H ks v o -> ArgX H' ks v o := by
  intro o h
  obtain ⟨tb, ht⟩ := t.tbl
  match o, h with
  | some xs, ⟨a, e, h, g⟩ => exact ⟨a, e, k _ _ (zM h ht (by intro z; cases z)) h, g⟩
  | none, .inr ⟨l, xs, e, h, z, th, g⟩ => exact .inr ⟨l, xs, e, k _ _ (zM h ht (by intro z; cases z)) h, z, fun x hx => let ⟨b, q⟩ := th x hx; ⟨b, q.kt k t⟩, g⟩
  | none, .inl h =>
    rcases h with h | h | h | ⟨p, xs, e, g, r⟩ | ⟨p, e, g⟩
    · exact .inl (.inl h)
    · exact .inl (.inr (.inl h))
    · exact .inl (.inr (.inr (.inl h)))
    · exact .inl (.inr (.inr (.inr (.inl ⟨p, xs, e, k _ _ (zM g ht (by intro z; cases z)) g, r⟩))))
    · exact .inl (.inr (.inr (.inr (.inr ⟨p, e, k _ _ (zM g ht (by intro z; cases z)) g⟩))))
theorem GotV.same {H H' : Hp} {r : Addr} {n : Str} {q : Rf} (h : GotV H r n q) (s : Same H H') : GotV H' r n q := by
  match q, h with
  | .unk, h => exact s _ _ h
  | .mis, h => exact s _ _ h
  | .nov, h => exact s _ _ h
  | .ans o, h => exact Ans.same h s
theorem GotV.kt {T : Addr} {H H' : Hp} {r : Addr} {n : Str} {q : Rf} (h : GotV H r n q) (k : KT T H H') (t : Tb T H) : GotV H' r n q := by
  obtain ⟨tb, ht⟩ := id t.tbl
  match q, h with
  | .unk, h => exact k _ _ (zM h ht (by intro z; cases z)) h
  | .mis, h => exact k _ _ (zM h ht (by intro z; cases z)) h
  | .nov, h => exact k _ _ (zM h ht (by intro z; cases z)) h
  | .ans o, h => exact Ans.kt h k t
theorem _root_.L2.Sme.up {H : Hp} : ∀ {n : Nat} {x y : V}, Sme n H x y -> Sme (n + 1) H x y
  | 0, _, _, h => h.elim
  | n + 1, _, _, .inl h => .inl h
  | n + 1, _, _, .inr ⟨a, b, xs, ys, e1, e2, h, hl, g⟩ => .inr ⟨a, b, xs, ys, e1, e2, h, hl, fun i u v h1 h2 => L2.Sme.up (g i u v h1 h2)⟩
def AtQ : Rf -> Prop
  | .ans (.inl f) => ∀ x ∈ f, At x
  | _ => True
theorem Qc {v : V} (h : At v) : yp v = true := by
  match v, h with
  | .int _, _ => rfl
  | .str _, _ => rfl
theorem vC {H : Hp} {r u : Addr} {n : Str} {q : Rf} (h1 : GotV H r n q) (h2 : GotV H u n q) (hq : AtQ q) : Sme 6 H (.ref r) (.ref u) := by
  have two : ∀ a b : Str, ∀ x ∈ [V.str a, V.str b], yp x = true := fun a b x hx => by
    rcases List.mem_cons.mp hx with rfl | hx
    · rfl
    · rw [List.mem_singleton.mp hx]; rfl
  match q, h1, h2, hq with
  | .unk, h1, h2, _ => exact z9 (n := 4) (.inr ⟨h1, h2⟩) (two _ _)
  | .mis, h1, h2, _ => exact z9 (n := 4) (.inr ⟨h1, h2⟩) (two _ _)
  | .nov, h1, h2, _ => exact z9 (n := 4) (.inr ⟨h1, h2⟩) (two _ _)
  | .ans (.inr w), h1, h2, _ => exact z9 (n := 4) (.inr ⟨h1, h2⟩) (two _ _)
  | .ans (.inl f), ⟨l1, a1, b1⟩, ⟨l2, a2, b2⟩, hq =>
    refine .inr ⟨r, u, _, _, rfl, rfl, .inr ⟨a1, a2⟩, rfl, fun i x y e1 e2 => ?_⟩
    match i, e1, e2 with
    | 0, e1, e2 => cases e1; cases e2; exact .inl ⟨rfl, rfl⟩
    | 1, e1, e2 =>
      cases e1; cases e2
      exact z9 (n := 3) (.inl ⟨b1, b2⟩) fun x hx => Qc (hq x (List.mem_of_mem_take hx))
    | i + 2, e1, _ => simp at e1
theorem Wf {z : Str} {b : Bool} {d : Dm} {xss : List (List V)} (h : DmOk z b d) (ll : d.ps.length = xss.length) (hx : ∀ xs ∈ xss, ∀ x ∈ xs, At x) : AtQ (.ans (goE (d.ps.zip xss) d.rows d.x)) := by
  have nd := h.nd
  obtain ⟨m, hm, em, ⟨i, hi, e1, e2⟩ | ⟨e1, e2⟩⟩ := h
  · rw [e1, e2, ZK]
    intro x hx
    rw [List.mem_singleton.mp hx]
    trivial
  · obtain ⟨j, hj⟩ := List.getElem?_of_mem e2
    have hjl := (List.getElem?_eq_some_iff.mp hj).1
    obtain ⟨xs, hxs⟩ : ∃ xs, xss[j]? = some xs := ⟨_, List.getElem?_eq_getElem (by omega)⟩
    have e : goE (d.ps.zip xss) d.rows d.x = .inl xs := by
      rw [e1]
      show Sum.inl ((valE (d.ps.zip xss) d.x).getD []) = _
      rw [wq nd hj hxs]
      rfl
    rw [e]
    exact hx xs (List.mem_of_getElem? hxs)
theorem ZN {ds : List Dm} {i : Nat} {d : Dm} (hn : (ds.map (·.n)).Nodup) (h : ds[i]? = some d) : ds.find? (fun x => decide (x.n = d.n)) = some d := by
  cases hf : ds.find? (fun x => decide (x.n = d.n)) with
  | none =>
    have := List.find?_eq_none.mp hf d (List.mem_of_getElem? h)
    simp at this
  | some d' =>
    have hm := List.mem_of_find?_eq_some hf
    have en : d'.n = d.n := by simpa using List.find?_some hf
    obtain ⟨j, hj⟩ := List.getElem?_of_mem hm
    have : j = i := yD hn (x := d.n) (by rw [List.getElem?_map, hj, <- en]; rfl) (by rw [List.getElem?_map, h]; rfl)
    subst this
    rw [hj] at h
    exact h
theorem Wg {ds : List Dm} {i : Nat} {d : Dm} {n : Str} {way : Int} {xss : List (List V)} {os : List (Option (List V))} (hn : (ds.map (·.n)).Nodup) (h : ds[i]? = some d) (h1 : way % 2 = 1 -> n ∉ ds.map (·.n)) (h2 : way % 2 ≠ 1 -> n = d.n) (lx : d.ps.length = xss.length) (sp : SpR way xss os) : rfE ds n os = dueR way d os.length xss := by
  unfold dueR rfE
  by_cases c : way % 2 = 1
  · rw [if_pos c]
    have : ds.find? (fun x => decide (x.n = n)) = none := List.find?_eq_none.mpr fun x hx e => h1 c (List.mem_map.mpr ⟨x, hx, by simpa using e⟩)
    rw [this]
  · rw [if_neg c, h2 c, ZN hn h]
    show rfD d os = _
    unfold rfD SpR at *
    by_cases c4 : way / 4 % 2 = 1
    · rw [if_pos c4] at sp
      rw [if_neg (show ¬ os.length = d.ps.length by omega), if_pos sp]
    · rw [if_neg c4] at sp
      rw [if_pos (show os.length = d.ps.length by omega), if_neg (show ¬ (os.length ≠ xss.length) from fun z => z sp.1)]
      by_cases c2 : xss ≠ [] /\ way / 2 % 2 = 1
      · rw [if_pos c2] at sp ⊢
        rw [if_pos (show os.any Option.isNone = true from List.any_eq_true.mpr ⟨none, sp.2, rfl⟩)]
      · rw [if_neg c2] at sp ⊢
        rw [if_neg (show ¬ os.any Option.isNone = true by rw [(yG sp.2).1]; decide), (yG sp.2).2]
theorem qm {ds : List Dm} {i : Nat} {d : Dm} {xss : List (List V)} (hn : (ds.map (·.n)).Nodup) (h : ds[i]? = some d) (lx : d.ps.length = xss.length) : rfE ds d.n (xss.map some) = .ans (goE (d.ps.zip xss) d.rows d.x) := by
  unfold rfE
  rw [ZN hn h]
  show rfD d _ = _
  unfold rfD
  rw [if_pos (by rw [List.length_map]; omega), if_neg (by rw [(yG rfl).1]; decide), (yG rfl).2]
theorem v9 {z : Str} {b : Bool} {ds : List Dm} (l12 : ds.length <= 12) (h : ∀ (j : Nat) d, ds[j]? = some d -> d.n = nm z b (3 + j)) : (ds.map (·.n)).Nodup := by
  have e : ds.map (·.n) = (List.range ds.length).map fun j => nm z b (3 + j) := by
    refine List.ext_getElem? fun j => ?_
    rw [List.getElem?_map, List.getElem?_map]
    by_cases c : j < ds.length
    · rw [List.getElem?_eq_getElem c, List.getElem?_range c]
      show some (ds[j].n) = some (nm z b (3 + j))
      rw [h j _ (List.getElem?_eq_getElem c)]
    · rw [List.getElem?_eq_none (by omega), List.getElem?_eq_none (by rw [List.length_range]; omega)]
      rfl
  rw [e]
  refine List.pairwise_map.mpr ?_
  refine List.Pairwise.imp_of_mem ?_ List.nodup_range
  intro i j hi hj hne e
  have := List.mem_range.mp hi
  have := List.mem_range.mp hj
  have := xp (by omega) (by omega) e
  omega
theorem qo (t0 t1 : Str) : KsOk (ks2 t0 t1) := ⟨by show 2 <= 9; decide, fun a ha => by
  have ha : a ∈ [(t0, 0), (t1, 1)] := ha
  simp only [List.mem_cons, List.not_mem_nil, or_false] at ha
  rcases ha with rfl | rfl <;> simp⟩
structure LS (T st wp tg dl al : Addr) (z : Str) (b : Bool) (ones : List Addr) (ds : List Dm) (o : Addr) (d : Dm) (as : List Addr) (xss : List (List V)) : Prop where
  nT : T ≠ st
  nw : wp ≠ st
  ng : tg ≠ st
  nd : dl ≠ st
  na : al ≠ st
  ns : ∀ a ∈ as, a ≠ st
  hz : z.length <= 6
  lo : ones.length = ds.length
  l0 : 0 < ds.length
  l12 : ds.length <= 12
  hD : ∀ (j : Nat) d, ds[j]? = some d -> d.n = nm z b (3 + j) /\ DmOk z b d
  hi : ∃ i : Nat, ones[i]? = some o /\ ds[i]? = some d
  lx : d.ps.length = xss.length
  x2 : ∀ xs ∈ xss, xs.length <= 2
structure LA (T wp tg dl al : Addr) (z : Str) (b : Bool) (ones : List Addr) (ds : List Dm) (as : List Addr) (xss : List (List V)) (H : Hp) : Prop where
  t : H T = some (.tbl #[])
  w : H wp = some (.lst [.str z, .bl b])
  tg : IsT2 H tg (nm z b 0) (nm z b 1)
  dl : H dl = some (.lst (ones.map V.ref))
  ii : ∀ (j : Nat) o d, ones[j]? = some o -> ds[j]? = some d -> IsDm H d o
  ar : Args H (ks2 (nm z b 0) (nm z b 1)) al as xss
theorem LA.same {T wp tg dl al : Addr} {z : Str} {b : Bool} {ones : List Addr} {ds : List Dm} {as : List Addr} {xss : List (List V)} {H H' : Hp} (h : LA T wp tg dl al z b ones ds as xss H) (s : Same H H') : LA T wp tg dl al z b ones ds as xss H' :=
  ⟨s _ _ h.t, s _ _ h.w, h.tg.same s, s _ _ h.dl, fun j o d h1 h2 => (h.ii j o d h1 h2).keep (.of s), h.ar.same s⟩
theorem LA.kp {K : PySem.W.Frag} {T st wp tg dl al : Addr} {z : Str} {b : Bool} {ones : List Addr} {ds : List Dm} {o : Addr} {d : Dm} {as : List Addr} {xss : List (List V)} {H H' : Hp} {B : Nat} (h : LA T wp tg dl al z b ones ds as xss H) (l : LS T st wp tg dl al z b ones ds o d as xss) (k : Kp st H H') (S : Sta K H st B) : LA T wp tg dl al z b ones ds as xss H' := by
  have S' : Sta K H st B := S
  obtain ⟨a', ns, kk, e, _⟩ := S
  exact ⟨k.k _ _ l.nT h.t, k.k _ _ l.nw h.w, h.tg.kp k l.ng e, k.k _ _ l.nd h.dl, fun j o d h1 h2 => (h.ii j o d h1 h2).keep (k.tups S'), k.k _ _ l.na h.ar.1, h.ar.2.1, fun j a xs h1 h2 => ⟨k.k _ _ (l.ns a (List.mem_of_getElem? h1)) (h.ar.2.2 j a xs h1 h2).1, (h.ar.2.2 j a xs h1 h2).2⟩⟩
theorem VU {ks : List (List (Str × Nat))} {n : Int} (h : Sm n) : Grw ks [.int n] := ⟨by show 1 <= 300; decide, fun x hx => by rw [List.mem_singleton.mp hx]; trivial, by
  rw [ya, vB h]
  rfl⟩
theorem Qd {t0 t1 : Str} {n : Int} (hn : t0 ≠ t1) (h : Sm n) : Grw (ks2 t0 t1) [.str t1, .int n] := ⟨by show 2 <= 300; decide, fun x hx => by
  rcases List.mem_cons.mp hx with rfl | hx
  · trivial
  · rw [List.mem_singleton.mp hx]; trivial, by
  rw [ya, ya, vB h]
  show (match some 1, dl _ (.str t1) with | some n, some s => if s <= n then some (n - s + 1) else none | _, _ => none) = some 1
  rw [show dl (puts (ks2 t0 t1).flatten []) (.str t1) = some 1 by show szOf _ _ = _; rw [sz2 hn, if_pos rfl]]
  rfl⟩
section
variable {P : Program} {w : World} {K : PySem.W.Frag} {mg : Str -> Option Value} {base : Heap} {f T : Addr} {fd : FuncData} {c : Xc}
theorem scLaw : FnScope ["_law_script", "_law_state", "_law_world", "_law_tags", "_law_defs_here", "_law_one", "_law_args", "_law_way", "_law_name_here", "_law_some", "_law_due_here", "_law_program", "_law_handed", "_law_k"] ["_law_script"] (zm sLaw) := ⟨rfl, rfl, rfl, by decide +kernel, rfl, by decide +kernel, by decide +kernel⟩
theorem qp : (["_law_script", "_law_state", "_law_world", "_law_tags", "_law_defs_here", "_law_one", "_law_args", "_law_way", "_law_name_here", "_law_some", "_law_due_here", "_law_program", "_law_handed", "_law_k", "_law_param"] : List Str).Nodup := by decide +kernel
theorem qr : (["_law_script", "_law_state", "_law_world", "_law_tags", "_law_defs_here", "_law_one", "_law_args", "_law_way", "_law_name_here", "_law_some", "_law_due_here", "_law_program", "_law_handed", "_law_k", "_law_other"] : List Str).Nodup := by decide +kernel
theorem qt : (["_law_script", "_law_state", "_law_world", "_law_tags", "_law_defs_here", "_law_one", "_law_args", "_law_way", "_law_name_here", "_law_some", "_law_due_here", "_law_program", "_law_handed", "_law_k", "_law_parts"] : List Str).Nodup := by decide +kernel
theorem qu (F : Fun K "law" "law" sLaw f fd) (GD : Ca P w K mg base CX0 1 "_law_draw" ["_law_state", "_law_many"] (xb K)) (GM : Ca P w K mg base CX0 1 "_law_name" ["_law_world", "_law_k"] spNm) (GS : Ca P w K mg base CX0 2 "_law_stem" ["_law_state"] (XA K)) (GF : Ca P w K mg base CX0 2 "_law_defs" ["_law_state", "_law_world"] (Wb K)) (GR : Ca P w K mg base CX0 2 "_law_stranger" ["_law_state", "_law_world", "_law_name_here"] (wo K)) (GP : Ca P w K mg base CX0 3 "_law_spoil" ["_law_state", "_law_one", "_law_args", "_law_tags", "_law_way"] (ZM K)) (GU : Ca P w K mg base CX0 2 "_law_due" ["_law_name_here", "_law_one", "_law_some", "_law_args", "_law_way"] We) (GG : Ca P w K mg base CX0 1 "_law_given" ["_law_one", "_law_args"] xQ) (GT : Ca P w K mg base CX0 8 "_law_got" ["_law_program", "_law_name_here", "_law_args", "_law_steps"] (VR T)) (m_len : mg "len" = none) (m_list : mg "list" = none) (m_range : mg "range" = none) (m_tuple : mg "tuple" = none) : FnOk P w K mg base CX0 9 f fd ["_law_script"] (spTopT K T) := by
  refine F.by scLaw (fun vs H Q E h => ?_) (fun cdv A outer s H vs Q E hr h => ?_)
  · obtain ⟨a, ns, rfl, _⟩ := h
    rfl
  obtain ⟨a, ns, rfl, hS, h63, hT, q⟩ := h
  have r1 : Room 1 _ := hr.mono (by decide)
  have r2 : Room 2 _ := hr.mono (by decide)
  have r3 : Room 3 _ := hr.mono (by decide)
  refine ⟨_,
    (zi (zt (i := 1) scLaw.nd rfl (by first | exact Or.inl rfl | exact Or.inr rfl) (zA (ja_c (jv 0) (ja_c zj zh))))
    (zi (zt (i := 2) scLaw.nd rfl (Or.inl rfl) (zC GS r2 rfl zJ (ja_c (jv 1) zh)))
    (zi (zt (i := 3) scLaw.nd rfl (Or.inl rfl) (zA (ja_c (zN (ja_c (zC GM r1 rfl zJ (ja_c (jv 2) (ja_c zj zh))) (ja_c zj zh))) (ja_c (zN (ja_c (zC GM r1 rfl zJ (ja_c (jv 2) (ja_c zj zh))) (ja_c zj zh))) zh))))
    (zi (zt (i := 4) scLaw.nd rfl (Or.inl rfl) (zC GF r2 rfl zJ (ja_c (jv 1) (ja_c (jv 2) zh))))
    (zi (zt (i := 5) scLaw.nd rfl (Or.inl rfl) (zq zG (jv 4) (zC GD r1 rfl zJ (ja_c (jv 1) (ja_c (zE zF rfl m_len PySem.boot_len (ja_c (jv 4) zh)) zh))) (fun _ _ => rfl)))
    (zi (vg ["_law_param"] (i := 6) scLaw.nd rfl (Or.inl rfl) rfl (x0 (zq zx (jv 5) zj (fun _ _ => rfl))) (fun _ _ _ _ _ => (zQ (i := 14) qp rfl (Or.inl rfl))) (fun _ _ _ _ _ => yA) (fun _ _ _ _ _ => (zA (ja_c (zC GD r1 rfl zJ (ja_c (jv 1) (ja_c zj zh))) zh))))
    (zi (zK (jW.pt (yP (zr (wf hr) (jv 6) (zA zh) (zv _)) (yz (zr zS (zC GD r1 rfl zJ (ja_c (jv 1) (ja_c zj zh))) zj (zv _)))))
      (zk (jn (zA (ja_c (zq zx (zq zG (jv 3) zj (fun _ _ => rfl)) zj (fun _ _ => rfl)) (ja_c (zC GD r1 rfl zJ (ja_c (jv 1) (ja_c zj zh))) zh))) (vv (jv 6) (zC GD r1 rfl zJ (ja_c (jv 1) (ja_c (zE zF rfl m_len PySem.boot_len (ja_c (jv 6) zh)) zh)))))) zB)
    (zi (zt (i := 7) scLaw.nd rfl (Or.inl rfl) (zC GD r1 rfl zJ (ja_c (jv 1) (ja_c zj zh))))
    (zi (zt (i := 8) scLaw.nd rfl (Or.inl rfl) (zq zx (jv 5) zj (fun _ _ => rfl)))
    (zi (zK (zr zS (zz yf (jv 7) zj) zj (zv _))
      (zk (zt (i := 8) scLaw.nd rfl (Or.inl rfl) (zC GR r2 rfl zJ (ja_c (jv 1) (ja_c (jv 2) (ja_c (jv 8) zh)))))) zB)
    (zi (zK (zr wM (jv 8) (xP ["_law_other"] rfl (vf (jv 4)) (fun _ _ _ _ _ => (zQ (i := 14) qr rfl (Or.inl rfl))) (fun _ _ _ _ _ => yA) (fun _ _ _ _ _ => (zq (WZ K) (jv 14) zj (fun _ _ => rfl)))) (by with_unfolding_all rfl))
      (zi (zt (i := 7) scLaw.nd rfl (Or.inl rfl) (zz jo (jv 7) (zz yf (jv 7) zj)))
      (zk (zt (i := 8) scLaw.nd rfl (Or.inl rfl) (zq zx (jv 5) zj (fun _ _ => rfl))))) zB)
    (zi (zt (i := 9) scLaw.nd rfl (Or.inl rfl) (zC GP r3 rfl zJ (ja_c (jv 1) (ja_c (jv 5) (ja_c (jv 6) (ja_c (jv 3) (ja_c (jv 7) zh)))))))
    (zi (zt (i := 10) scLaw.nd rfl (Or.inl rfl) (zC GU r2 rfl zJ (ja_c (jv 8) (ja_c (jv 5) (ja_c (jv 9) (ja_c (jv 6) (ja_c (jv 7) zh)))))))
    (zi (zt (i := 11) scLaw.nd rfl (Or.inl rfl) (zN (ja_c (zN (ja_c (zN (ja_c (zq zG (jv 3) zj (fun _ _ => rfl)) zh)) (ja_c (zN (ja_c (zq zG (jv 3) zj (fun _ _ => rfl)) zh)) zh))) (ja_c (yI yB rfl m_tuple PyProof.Rows.boot_tuple (ja_c (jv 4) zh)) zh))))
    (zi (zt (i := 12) scLaw.nd rfl (Or.inl rfl) (yI y9 rfl m_list PyProof.Rows.boot_list (ja_c (jv 9) zh)))
    (zi (y8 PassesOwn.never rfl (yE rfl m_range (ja_c zj zh)) (zQ (i := 13) scLaw.nd rfl (Or.inl rfl))
      (zi (zK (jW.pt (YT (zr (jQ (n := 6) (by decide) hr) (zC GT hr rfl zJ (ja_c (jv 11) (ja_c (jv 8) (ja_c (jv 12) (ja_c zj zh))))) (jv 10) (zv _)) (jl (zr (jQ (n := 6) (by decide) hr) (jv 12) (jv 9) (zv _)))))
        (zk (zw YS)) zB)
      (zk (zK (zr (jQ (n := 6) (by decide) hr) (zC GT hr rfl zJ (ja_c (jv 11) (ja_c (zq zx (jv 5) zj (fun _ _ => rfl)) (ja_c (xP ["_law_parts"] rfl (vf (jv 6)) (fun _ _ _ _ _ => (zQ (i := 14) qt rfl (Or.inl rfl))) (fun _ _ _ _ _ => yA) (fun _ _ _ _ _ => (yI (vS K) rfl m_list PyProof.Rows.boot_list (ja_c (jv 14) zh)))) (ja_c zj zh))))) (zC GG r1 rfl zJ (ja_c (jv 5) (ja_c (jv 6) zh))) (zv _))
        (zk (zw YS)) zB))))
    (zk (zw (xh (J0 (n := 6) (by decide) hr) (zC GT hr rfl zJ (ja_c (jv 11) (ja_c (jv 8) (ja_c (jv 12) (ja_c zj zh))))) (jv 10) (zv _)))))))))))))))))))), ?_⟩
  have sl := zX
  have LM : LIM = 4611686018427387904 := rfl
  refine (show ∀ (u : TS) (D : Ends), (∀ (H' : Hp) (st wp tg dl al o : Addr) (z : Str) (b : Bool) (ones : List Addr) (ds : List Dm) (d : Dm) (as : List Addr) (xss : List (List V)), LS T st wp tg dl al z b ones ds o d as xss -> LA T wp tg dl al z b ones ds as xss H' -> Sta K H' st 200 ->
      u D [some (.ref a), some (.ref st), some (.ref wp), some (.ref tg), some (.ref dl), some (.ref o), some (.ref al), none, none, none, none, none, none, none] H') -> (tSeq _ (tSeq _ (tSeq _ (tSeq _ (tSeq _ (tSeq _ (tSeq _ u)))))) : TS) D [some (.ref a), none, none, none, none, none, none, none, none, none, none, none, none, none] H from ?keyA) _ _ ?restA
  case keyA =>
    intro u D hU
    refine ⟨_, rfl, by show 2 <= sizeLine; decide, fun st h1 => ?_⟩
    have S1 : Sta K (upd H st (.lst [.ref a, .int ((0 : Nat) : Int)])) st 0 := by
      refine ⟨a, ns, 0, zg, fun e => ?_, (same_new h1 _).seq hS, Nat.le_refl _⟩
      rcases hS with (h | ⟨o, h⟩) | h
      · exact absurd e (zo h h1)
      · exact absurd e (zo h h1)
      · exact fun _ => .inr h
    have hT1 := old (o := .lst [.ref a, .int ((0 : Nat) : Int)]) h1 hT
    have nTs : T ≠ st := fun e => by
      rw [e, h1] at hT
      cases hT
    generalize upd H st (.lst [.ref a, .int ((0 : Nat) : Int)]) = H1 at *
    refine ⟨_, rfl, st, 0, rfl, S1, by omega, fun H2 wp z b k2 S2 hw hz => ?_⟩
    have nws := S2.neW hw
    refine ⟨_, rfl, wp, z, b, [], 0, rfl, hw, hz, by show 2 <= sizeLine; decide, fun ta hta => ?_⟩
    have o1 := same_new hta (.tup [.str (nm z b 0), .int 0])
    refine ⟨_, rfl, wp, z, b, [], 1, rfl, o1 _ _ hw, hz, by show 2 <= sizeLine; decide, fun tb htb => ⟨by show 2 <= sizeLine; decide, fun tg htg => ?_⟩⟩
    have o3 := (o1.new (o := .tup [.str (nm z b 1), .int 1]) htb).new (o := .lst [.ref ta, .ref tb]) htg
    have v1 := old (o := .lst [.ref ta, .ref tb]) htg (old (o := .tup [.str (nm z b 1), .int 1]) htb (zg (H := H2) (a := ta) (o := .tup [.str (nm z b 0), .int 0])))
    have v2 := old (o := .lst [.ref ta, .ref tb]) htg (zg (H := upd H2 ta (.tup [.str (nm z b 0), .int 0])) (a := tb) (o := .tup [.str (nm z b 1), .int 1]))
    have v3 := zg (H := upd (upd H2 ta (.tup [.str (nm z b 0), .int 0])) tb (.tup [.str (nm z b 1), .int 1])) (a := tg) (o := .lst [.ref ta, .ref tb])
    have ntg : tg ≠ st := ((S2.new hta _).new htb (.tup [.str (nm z b 1), .int 1])).ne htg
    generalize upd (upd (upd H2 ta (.tup [.str (nm z b 0), .int 0])) tb (.tup [.str (nm z b 1), .int 1])) tg (.lst [.ref ta, .ref tb]) = H3 at *
    have S3 := S2.same o3
    have k13 : Kp st H1 H3 := k2.trans (.of o3)
    have hT3 : IsT2 H3 tg (nm z b 0) (nm z b 1) := ⟨ta, tb, v3, v1, v2⟩
    refine ⟨_, rfl, _, rfl, st, wp, _, z, b, rfl, S3, by omega, o3 _ _ hw, nws, hz, fun H5 dl ones ds k5 S5 fl el lo l0 l12 hI hD => ?_⟩
    have ndl : dl ≠ st := S3.ne fl
    refine ⟨_, rfl, _, rfl, _, rfl, dl, _, rfl, .inl (SqL.of el), st, _, _, rfl, S5, by omega, by rw [List.length_map]; omega, fun H6 r k6 S6 r0 r1' => ?_⟩
    rw [List.length_map] at r1'
    obtain ⟨i, rfl⟩ : ∃ i : Nat, r = (i : Int) := ⟨r.toNat, by omega⟩
    have hi : i < ones.length := by omega
    obtain ⟨o, ho⟩ : ∃ o, ones[i]? = some o := ⟨_, List.getElem?_eq_getElem hi⟩
    obtain ⟨d, hd⟩ : ∃ d, ds[i]? = some d := ⟨_, List.getElem?_eq_getElem (by omega)⟩
    refine ⟨dl, _, _, _, rfl, rfl, SqL.of (k6.k _ _ ndl el), zp (by rw [List.getElem?_map, ho]; rfl), ?_⟩
    have hI6 : ∀ (j : Nat) o d, ones[j]? = some o -> ds[j]? = some d -> IsDm H6 d o := fun j o d h1 h2 => (hI j o d h1 h2).keep (k6.tups S5)
    obtain ⟨pp, pb, g1, g2, g3⟩ := hI6 i o d ho hd
    have dOk := (hD i d hd).2
    have dlen := dOk.len
    refine ⟨_, rfl, o, _, _, _, rfl, rfl, SqT.of g1, zp (j := 1) rfl, pp, rfl, ⟨_, SqT.of g2⟩, Y1 (xs := d.ps.map V.str) (fun j τ ys H' => Kp st H6 H' /\ Sta K H' st (110 + j) /\ (∃ v, τ = [some (.ref a), some (.ref st), some (.ref wp), some (.ref tg), some (.ref dl), some (.ref o), none, none, none, none, none, none, none, none, v]) /\ ∃ (as : List Addr) (xss : List (List V)), ys = as.map V.ref /\ as.length = j /\ xss.length = j /\ ∀ (i : Nat) a xs, as[i]? = some a -> xss[i]? = some xs -> H' a = some (.lst xs) /\ a ≠ st /\ ∃ n, xs = [.int n] /\ Sm n) ⟨Kp.refl, S6.mono (by omega), ⟨none, rfl⟩, [], [], rfl, rfl, rfl, fun i a xs h => by simp at h⟩ (fun j τ ys H' _ h => SqT.of (h.1.tups S6 _ _ g2)) ?_ ?_⟩
    · rintro j v τ ys H7 hv ⟨k7, S7, ⟨y, rfl⟩, as, xss, rfl, la, lx, hO⟩
      have hj : j < d.ps.length := by
        have := (List.getElem?_eq_some_iff.mp hv).1
        rwa [List.length_map] at this
      refine ⟨_, rfl, st, 99, _, rfl, S7, by omega, by decide, fun Hx n kx Sx n0 n99 => ⟨by show 1 <= sizeLine; decide, fun l hl => ⟨by rw [List.length_map]; omega, (k7.trans kx).new hl, Sx.new hl _, ⟨_, rfl⟩, as ++ [l], xss ++ [[.int n]], by rw [List.map_append]; rfl, by rw [List.length_append, la]; rfl, by rw [List.length_append, lx]; rfl, fun i a' xs h1 h2 => ?_⟩⟩⟩
      by_cases ci : i < as.length
      · rw [List.getElem?_append_left ci] at h1
        rw [List.getElem?_append_left (by omega)] at h2
        obtain ⟨e1, e2, e3⟩ := hO i a' xs h1 h2
        exact ⟨old hl (kx.k _ _ e2 e1), e2, e3⟩
      · rw [List.getElem?_append_right (by omega)] at h1
        rw [List.getElem?_append_right (by omega)] at h2
        have : i - as.length = 0 := by
          have := (List.getElem?_eq_some_iff.mp h1).1
          simp at this
          omega
        rw [this] at h1
        rw [show i - xss.length = 0 by omega] at h2
        cases h1
        cases h2
        exact ⟨zg, Sx.ne hl, n, rfl, by omega, by omega⟩
    rintro τ ys H7 ⟨k7, S7, _, as, xss, rfl, la, lx, hO⟩ al hal
    rw [List.length_map] at la lx S7
    have n8 := same_new hal (.lst (as.map V.ref))
    have eal := zg (H := H7) (a := al) (o := .lst (as.map V.ref))
    have nal : al ≠ st := S7.ne hal
    have S8 := S7.same n8
    have k8 : Kp st H6 (upd H7 al (.lst (as.map V.ref))) := k7.trans (.of n8)
    have hO8 : ∀ (i : Nat) a xs, as[i]? = some a -> xss[i]? = some xs -> upd H7 al (.lst (as.map V.ref)) a = some (.lst xs) /\ a ≠ st /\ a ≠ al /\ ∃ n, xs = [.int n] /\ Sm n := fun i a' xs h1 h2 => by
      obtain ⟨e1, e2, e3⟩ := hO i a' xs h1 h2
      exact ⟨old hal e1, e2, zo e1 hal, e3⟩
    generalize upd H7 al (.lst (as.map V.ref)) = H8 at *
    dsimp only [List.set]
    have k18 : Kp st H1 H8 := ((k13.trans k5).trans k6).trans k8
    have k38 : Kp st H3 H8 := (k5.trans k6).trans k8
    obtain ⟨aa, nss, kk, e3s, _⟩ := id S3
    have base8 : ∀ (H9 : Hp) (as' : List Addr) (xss' : List (List V)), Kp st H3 H9 -> Kp st H6 H9 -> H9 al = some (.lst (as'.map V.ref)) -> as'.length = xss'.length -> (∀ (i : Nat) a xs, as'[i]? = some a -> xss'[i]? = some xs -> H9 a = some (.lst xs) /\ Grw (ks2 (nm z b 0) (nm z b 1)) xs) -> LA T wp tg dl al z b ones ds as' xss' H9 := fun H9 as' xss' k9 k9' e9 l9 h9 =>
      ⟨k9.k _ _ nTs (k13.k _ _ nTs hT1), k9.k _ _ nws (o3 _ _ hw), hT3.kp k9 ntg e3s, k9'.k _ _ ndl (k6.k _ _ ndl el), fun j o d h1 h2 => (hI6 j o d h1 h2).keep (k9'.tups S6), e9, l9, h9⟩
    refine ⟨_, rfl, by show 0 <= sizeLine; decide, fun pe he => ?_⟩
    have o9 := same_new he (.lst [])
    have S9 := S8.same o9
    refine ⟨_, _, _, rfl, rfl, SqL.of (o9 _ _ eal), SqL.of zg, _, rfl, ?_⟩
    show if (if true = true then !(as.map V.ref).isEmpty else (as.map V.ref).isEmpty) = true then _ else _
    have plain : ∀ (H9 : Hp) (B9 : Nat), Kp st H8 H9 -> Sta K H9 st B9 -> B9 <= 200 -> u D [some (.ref a), some (.ref st), some (.ref wp), some (.ref tg), some (.ref dl), some (.ref o), some (.ref al), none, none, none, none, none, none, none] H9 := fun H9 B9 k9 S9 hB9 =>
      hU H9 st wp tg dl al o z b ones ds d as xss ⟨nTs, nws, ntg, ndl, nal, fun a' ha => by
        obtain ⟨i, hi'⟩ := List.getElem?_of_mem ha
        have hil := (List.getElem?_eq_some_iff.mp hi').1
        exact (hO8 i a' _ hi' (List.getElem?_eq_getElem (by omega))).2.1, hz, lo, l0, l12, hD, ⟨i, ho, hd⟩, by omega, fun xs hxs => by
        obtain ⟨i, hi'⟩ := List.getElem?_of_mem hxs
        have hil := (List.getElem?_eq_some_iff.mp hi').1
        obtain ⟨_, _, _, n, e, _⟩ := hO8 i _ xs (List.getElem?_eq_getElem (by omega)) hi'
        rw [e]
        show 1 <= 2
        decide⟩ (base8 H9 as xss (k38.trans k9) (k8.trans k9) (k9.k _ _ nal eal) (by omega) fun i a' xs h1 h2 => by
          obtain ⟨e1, e2, _, n, e, hn⟩ := hO8 i a' xs h1 h2
          exact ⟨k9.k _ _ e2 e1, by rw [e]; exact VU hn⟩) (S9.mono hB9)
    by_cases cc : as = []
    · rw [show (as.map V.ref).isEmpty = true by rw [cc]; rfl]
      exact iteF (iteF (nxt (plain _ _ (.of o9) S9 (by omega))))
    have lp : 0 < as.length := by cases as with | nil => exact absurd rfl cc | cons _ _ => exact Nat.succ_pos _
    rw [show (as.map V.ref).isEmpty = false by cases as with | nil => exact absurd rfl cc | cons _ _ => rfl]
    refine iteT ⟨_, rfl, st, 2, _, rfl, S9, by omega, by decide, fun H10 r k10 S10 q0 q1 => ⟨rfl, _, rfl, ite2 (fun _ => ?_) (fun _ => nxt (plain _ _ ((Kp.of o9).trans k10) S10 (by omega)))⟩⟩
    have k8a : Kp st H8 H10 := (Kp.of o9).trans k10
    obtain ⟨ta', tb', w1, w2, w3⟩ := (hT3.kp (k38.trans k8a) ntg e3s)
    refine ⟨_, rfl, tg, _, _, _, rfl, rfl, SqL.of w1, zp (j := 1) rfl, tb', _, _, _, rfl, rfl, SqT.of w3, rfl, _, rfl, st, 99, _, rfl, S10, by omega, by decide, fun H11 n k11 S11 n0 n99 => ⟨by show 2 <= sizeLine; decide, fun l hl => ?_⟩⟩
    have o11 := same_new hl (.lst [.str (nm z b 1), .int n])
    have e11 := zg (H := H11) (a := l) (o := .lst [.str (nm z b 1), .int n])
    have nl : l ≠ st := S11.ne hl
    have S12 := S11.same o11
    have k8b : Kp st H8 (upd H11 l (.lst [.str (nm z b 1), .int n])) := (k8a.trans k11).trans (.of o11)
    have nlal : l ≠ al := fun e => by
      have := (k8a.trans k11).k _ _ nal eal
      rw [<- e, hl] at this
      cases this
    generalize upd H11 l (.lst [.str (nm z b 1), .int n]) = H12 at *
    have eal12 := k8b.k _ _ nal eal
    refine ⟨_, rfl, _, rfl, _, rfl, al, _, rfl, .inl (SqL.of eal12), st, _, _, rfl, S12, by omega, by rw [List.length_map]; omega, fun H13 r' k13' S13 a0 a1 => ?_⟩
    rw [List.length_map] at a1
    obtain ⟨j, rfl⟩ : ∃ j : Nat, r' = (j : Int) := ⟨r'.toNat, by omega⟩
    have eal13 := k13'.k _ _ nal eal12
    have k8c : Kp st H8 H13 := k8b.trans k13'
    refine ⟨al, _, _, j, rfl, rfl, eal13, by unfold ixN; rw [if_pos a0, if_pos (by rw [List.length_map]; exact a1)]; rfl, ?_⟩
    have em : (as.map V.ref).set j (.ref l) = (as.set j l).map V.ref := by rw [List.map_set]
    rw [em]
    have k7c : Kp st H7 H13 := (Kp.of n8).trans k8c
    have fin : ∀ c' u', c' ≠ al -> H13 c' = some u' -> upd H13 al (.lst ((as.set j l).map V.ref)) c' = some u' := fun c' u' n h => by rw [zn n]; exact h
    have nmne : nm z b 0 ≠ nm z b 1 := fun e => by
      have h1 := xp (by decide) (by decide) e
      cases h1
    refine hU _ st wp tg dl al o z b ones ds d (as.set j l) (xss.set j [.str (nm z b 1), .int n]) ⟨nTs, nws, ntg, ndl, nal, fun a' ha => ?_, hz, lo, l0, l12, hD, ⟨i, ho, hd⟩, by rw [List.length_set]; omega, fun xs hxs => ?_⟩ ?_ ((S7.put hal k7c S13).mono (by omega))
    · rcases List.mem_or_eq_of_mem_set ha with ha | rfl
      · obtain ⟨i, hi'⟩ := List.getElem?_of_mem ha
        have hil := (List.getElem?_eq_some_iff.mp hi').1
        exact (hO8 i a' _ hi' (List.getElem?_eq_getElem (by omega))).2.1
      · exact nl
    · rcases List.mem_or_eq_of_mem_set hxs with hxs | rfl
      · obtain ⟨i, hi'⟩ := List.getElem?_of_mem hxs
        have hil := (List.getElem?_eq_some_iff.mp hi').1
        obtain ⟨_, _, _, n', e, _⟩ := hO8 i _ xs (List.getElem?_eq_getElem (by omega)) hi'
        rw [e]
        show 1 <= 2
        decide
      · show 2 <= 2
        decide
    · have f7 : H6 al = none := k7.free nal hal
      have f3 : H3 al = none := (k5.trans k6).free nal f7
      refine base8 _ _ _ ((k38.trans k8c).put f3) ((k8.trans k8c).put f7) zg (by rw [List.length_set, List.length_set]; omega) fun i' a' xs h1 h2 => ?_
      by_cases ci : j = i'
      · subst ci
        rw [List.getElem?_set_self (by omega)] at h1
        rw [List.getElem?_set_self (by omega)] at h2
        cases h1
        cases h2
        exact ⟨fin _ _ nlal (k13'.k _ _ nl e11), Qd nmne ⟨by omega, by omega⟩⟩
      · rw [List.getElem?_set_ne ci] at h1 h2
        obtain ⟨e1, e2, e3, n', e, hn⟩ := hO8 i' a' xs h1 h2
        exact ⟨fin _ _ e3 (k8c.k _ _ e2 e1), by rw [e]; exact VU hn⟩
  case restA =>
    intro H' st wp tg dl al o z b ones ds d as xss L A1 S1
    obtain ⟨i, ho, hd⟩ := L.hi
    have lo := L.lo
    refine (show ∀ (u : TS) (D : Ends), (∀ (H' : Hp) (way : Int) (n : Str), LA T wp tg dl al z b ones ds as xss H' -> Sta K H' st 210 -> 0 <= way -> way < 8 -> (way % 2 ≠ 1 -> n = d.n) ->
        u D [some (.ref a), some (.ref st), some (.ref wp), some (.ref tg), some (.ref dl), some (.ref o), some (.ref al), some (.int way), some (.str n), none, none, none, none, none] H') -> (tSeq _ (tSeq _ (tSeq _ u)) : TS) D [some (.ref a), some (.ref st), some (.ref wp), some (.ref tg), some (.ref dl), some (.ref o), some (.ref al), none, none, none, none, none, none, none] H' from ?keyB) _ _ ?restB
    case keyB =>
      intro u D hU
      refine ⟨_, rfl, st, 8, _, rfl, S1, by omega, by decide, fun H2 way k2 S2 w0 w8 => ?_⟩
      have A2 := A1.kp L k2 S1
      obtain ⟨pp, pb, g1, g2, g3⟩ := A2.ii i o d ho hd
      refine ⟨_, rfl, o, _, _, _, rfl, rfl, SqT.of g1, zp (j := 0) rfl, ?_⟩
      refine ⟨_, rfl, _, _, rfl, rfl, (by decide : (0 : Int) < 2), rfl, _, rfl, ?_⟩
      by_cases c1 : way % 2 = 1
      · refine yq (decide_eq_true (by show V.int (way % 2) = _; rw [c1])) ?_
        refine ⟨_, rfl, _, rfl, _, rfl, st, wp, _, z, d.n, b, rfl, S2, by omega, A2.w, L.nw, L.hz, by rw [(L.hD i d hd).1]; have := Xk (b := b) (k := 3 + i) L.hz; omega, fun H3 x k3 S3 => ?_⟩
        exact hU H3 way x (A2.kp L k3 S2) (S3.mono (by omega)) w0 w8 fun h => absurd c1 h
      · refine yh (decide_eq_false (by show ¬ V.int (way % 2) = _; intro e; injection e with e; exact c1 e)) (nxt ?_)
        exact hU H2 way d.n A2 (S2.mono (by omega)) w0 w8 fun _ => rfl
    case restB =>
    intro H2 way n A2 S2 w0 w8 hn
    refine (show ∀ (u : TS) (D : Ends), (∀ (H' : Hp) (way : Int) (n : Str), LA T wp tg dl al z b ones ds as xss H' -> Sta K H' st 210 -> 0 <= way -> way < 8 -> (way % 2 = 1 -> n ∉ ds.map (·.n)) -> (way % 2 ≠ 1 -> n = d.n) ->
        u D [some (.ref a), some (.ref st), some (.ref wp), some (.ref tg), some (.ref dl), some (.ref o), some (.ref al), some (.int way), some (.str n), none, none, none, none, none] H') -> (tSeq _ u : TS) D [some (.ref a), some (.ref st), some (.ref wp), some (.ref tg), some (.ref dl), some (.ref o), some (.ref al), some (.int way), some (.str n), none, none, none, none, none] H2 from ?keyC) _ _ ?restC
    case keyC =>
      intro u D hU
      refine ⟨_, rfl, _, rfl, dl, rfl, ⟨_, SqL.of A2.dl⟩, xO (K := K) (xs := ones.map V.ref) (fun j τ ys H' => H' = H2 /\ (∃ v, τ = [some (.ref a), some (.ref st), some (.ref wp), some (.ref tg), some (.ref dl), some (.ref o), some (.ref al), some (.int way), some (.str n), none, none, none, none, none, v]) /\ ys = ((ds.take j).map (·.n)).map V.str) ⟨rfl, ⟨none, rfl⟩, rfl⟩ (fun j τ ys H' _ h => by rw [h.1]; exact SqL.of A2.dl) ?_ ?_⟩
      · rintro j v τ ys H3 hv ⟨rfl, ⟨y, rfl⟩, rfl⟩
        rw [List.getElem?_map] at hv
        obtain ⟨o', ho', rfl⟩ := Option.map_eq_some_iff.mp hv
        have hj := (List.getElem?_eq_some_iff.mp ho').1
        have hd' : ds[j]? = some (ds[j]'(by omega)) := List.getElem?_eq_getElem _
        generalize ds[j]'(by omega) = d' at hd'
        obtain ⟨pp, pb, g1, g2, g3⟩ := A2.ii j o' d' ho' hd'
        have l12 := L.l12
        refine ⟨_, rfl, o', _, _, _, rfl, rfl, SqT.of g1, zp (j := 0) rfl, by rw [List.length_map, List.length_map, List.length_take]; omega, rfl, ⟨_, rfl⟩, ?_⟩
        rw [List.take_add_one, hd', List.map_append, List.map_append]
        rfl
      · rintro τ ys H3 ⟨rfl, _, rfl⟩ pl hpl
        rw [List.length_map, lo, List.take_of_length_le (Nat.le_refl _)]
        have o3 := same_new hpl (.lst ((ds.map (·.n)).map V.str))
        have A3 := A2.same o3
        have S3 := S2.same o3
        refine ⟨pl, _, rfl, .inl (SqL.of zg), rfl, by rw [List.all_map]; exact List.all_eq_true.mpr fun _ _ => rfl, _, rfl, ?_⟩
        generalize upd H3 pl (.lst ((ds.map (·.n)).map V.str)) = H4 at *
        have e2 : (if false = true then !inV (.str n) ((ds.map (·.n)).map V.str) else inV (.str n) ((ds.map (·.n)).map V.str)) = decide (n ∈ ds.map (·.n)) := K31.in_strs
        by_cases ci : n ∈ ds.map (·.n)
        · refine yq (e2.trans (decide_eq_true ci)) ?_
          obtain ⟨pp, pb, g1, g2, g3⟩ := A3.ii i o d ho hd
          refine ⟨_, rfl, _, rfl, _, _, rfl, rfl, (by decide : (0 : Int) < 2), _, _, rfl, rfl, ?_⟩
          refine ⟨_, rfl, o, _, _, _, rfl, rfl, SqT.of g1, zp (j := 0) rfl, ?_⟩
          exact hU H4 (way - way % 2) d.n A3 S3 (by omega) (by omega) (fun h => absurd h (by omega)) fun _ => rfl
        · exact yh (e2.trans (decide_eq_false ci)) (nxt (hU H4 way n A3 S3 w0 w8 (fun _ => ci) hn))
    case restC =>
    clear hn
    intro H3 way n A3 S3 w0 w8 hno hn
    have l12 := L.l12
    have dOk := (L.hD i d hd).2
    have dlen := dOk.len
    have lx := L.lx
    have hnd : (ds.map (·.n)).Nodup := v9 l12 fun j d' h => (L.hD j d' h).1
    refine ⟨_, rfl, _, rfl, _, rfl, _, rfl, _, rfl, st, o, al, tg, _, z, b, way, as, xss, rfl, S3, by omega, A3.tg, L.ng, L.hz, A3.ar, by omega, L.na, L.ns, w0, by omega, fun H4 l as' os' k4 S4 fl P4 l10 spr => ?_⟩
    have A4 := A3.kp L k4 S3
    have ln := P4.n
    refine ⟨_, rfl, _, rfl, _, rfl, _, rfl, _, rfl, o, l, al, d, z, n, b, _, way, as', as, xss, rfl, A4.ii i o d ho hd, dOk, P4.e, A4.ar, lx, L.x2, w0, by omega, by omega, fun H5 u5 s5 hv => ?_⟩
    have hv5 : GotV H5 u5 n (rfE ds n os') := by
      rw [Wg hnd hd hno hn lx spr, <- ln]
      by_cases c1 : way % 2 = 1
      · rw [if_pos c1] at hv; exact hv
      · rw [if_neg c1] at hv; rw [hn c1]; exact hv
    have A5 := A4.same s5
    obtain ⟨ta, tb, w1, w2, w3⟩ := A5.tg
    refine ⟨_, rfl, tg, _, _, _, rfl, rfl, SqL.of w1, zp (j := 0) rfl, by show 1 <= sizeLine; decide, fun q1 g1 => ?_⟩
    have m1 := same_new g1 (.tup [.ref ta])
    refine ⟨_, rfl, tg, _, _, _, rfl, rfl, SqL.of (m1 _ _ w1), zp (j := 1) rfl, by show 1 <= sizeLine; decide, fun q2 g2 => ⟨by show 2 <= sizeLine; decide, fun pk g3 => ?_⟩⟩
    have m3 := (m1.new (o := .tup [.ref tb]) g2).new (o := .tup [.ref q1, .ref q2]) g3
    have v1 := old (o := .tup [.ref q1, .ref q2]) g3 (old (o := .tup [.ref tb]) g2 (zg (H := H5) (a := q1) (o := .tup [.ref ta])))
    have v2 := old (o := .tup [.ref q1, .ref q2]) g3 (zg (H := upd H5 q1 (.tup [.ref ta])) (a := q2) (o := .tup [.ref tb]))
    have v3 := zg (H := upd (upd H5 q1 (.tup [.ref ta])) q2 (.tup [.ref tb])) (a := pk) (o := .tup [.ref q1, .ref q2])
    generalize upd (upd (upd H5 q1 (.tup [.ref ta])) q2 (.tup [.ref tb])) pk (.tup [.ref q1, .ref q2]) = H6 at *
    have A6 := A5.same m3
    have hK6 : Kn H6 pk (ks2 (nm z b 0) (nm z b 1)) := ⟨[q1, q2], v3, rfl, fun j q' l' e1 e2 => by
      match j, e1, e2 with
      | 0, e1, e2 =>
        cases e1; cases e2
        refine ⟨[ta], v1, rfl, fun j t a e1 e2 => ?_⟩
        match j, e1, e2 with
        | 0, e1, e2 => cases e1; cases e2; exact m3 _ _ w2
        | j + 1, e1, _ => simp at e1
      | 1, e1, e2 =>
        cases e1; cases e2
        refine ⟨[tb], v2, rfl, fun j t a e1 e2 => ?_⟩
        match j, e1, e2 with
        | 0, e1, e2 => cases e1; cases e2; exact m3 _ _ w3
        | j + 1, e1, _ => simp at e1
      | j + 2, e1, _ => simp at e1⟩
    refine ⟨_, rfl, dl, _, rfl, .inl ⟨SqL.of A6.dl, fun pd g4 => ⟨by show 2 <= sizeLine; decide, fun p g5 => ?_⟩⟩⟩
    have m5 := (same_new g4 (.tup (ones.map V.ref))).new (o := .tup [.ref pk, .ref pd]) g5
    have v4 := old (o := .tup [.ref pk, .ref pd]) g5 (zg (H := H6) (a := pd) (o := .tup (ones.map V.ref)))
    have v5 := zg (H := upd H6 pd (.tup (ones.map V.ref))) (a := p) (o := .tup [.ref pk, .ref pd])
    generalize upd (upd H6 pd (.tup (ones.map V.ref))) p (.tup [.ref pk, .ref pd]) = H7 at *
    have A7 := A6.same m5
    have hP7 : IsPM H7 (ks2 (nm z b 0) (nm z b 1)) ds p := ⟨pk, pd, ones, v5, hK6.keep (.of m5), v4, lo, fun j o' d' h1 h2 => A7.ii j o' d' h1 h2⟩
    have hOk : PMOk (ks2 (nm z b 0) (nm z b 1)) ds := ⟨qo _ _, hnd, by omega, fun d' hd' => by
      obtain ⟨j, hj⟩ := List.getElem?_of_mem hd'
      exact (L.hD j d' hj).2.ok⟩
    have s47 : Same H4 H7 := (s5.trans m3).trans m5
    refine ⟨_, rfl, l, _, rfl, .inl (SqL.of (s47 _ _ P4.e)), fun lh hlh => ?_⟩
    have m8 := same_new hlh (.lst as')
    have e8 := zg (H := H7) (a := lh) (o := .lst as')
    have A8 := A7.same m8
    have s48 := s47.trans m8
    have hP8 := hP7.keep (.of m8)
    generalize upd H7 lh (.lst as') = H8 at *
    have el8 := s48 _ _ P4.e
    have hx8 : ∀ (j : Nat) v o, as'[j]? = some v -> os'[j]? = some o -> ArgX H8 (ks2 (nm z b 0) (nm z b 1)) v o /\ Sme 4 H8 v v := fun j v o h1 h2 => P4.s j v o h1 h2 H8 fun p u _ _ h => s48 p u h
    have T8 : Tb T H8 := ⟨#[], A8.t, .inl rfl⟩
    have hv8 : GotV H8 u5 n (rfE ds n os') := hv5.same ((m3.trans m5).trans m8)
    have atA : ∀ xs ∈ xss, ∀ x ∈ xs, At x := fun xs hxs x hx => by
      obtain ⟨j, hj⟩ := List.getElem?_of_mem hxs
      have hjl := (List.getElem?_eq_some_iff.mp hj).1
      have la := A8.ar.2.1
      exact (A8.ar.2.2 j _ xs (List.getElem?_eq_getElem (by omega)) hj).2.2.1 x hx
    have atO : AtQ (.ans (goE (d.ps.zip xss) d.rows d.x)) := Wf dOk lx atA
    have atQ : AtQ (rfE ds n os') := by
      rw [Wg hnd hd hno hn lx spr]
      unfold dueR
      split
      · trivial
      · split
        · trivial
        · split
          · trivial
          · exact atO
    have tup8 : ∀ {H9 : Hp}, KT T H8 H9 -> Tups H8 H9 := fun {H9} k c xs h => k _ _ (fun e => by rw [e, A8.t] at h; cases h) h
    have argX9 : ∀ {H9 : Hp}, KT T H8 H9 -> ArgsX H9 (ks2 (nm z b 0) (nm z b 1)) lh as' os' := fun {H9} k => ⟨k.lst T8 e8, ln, fun j v o h1 h2 => (hx8 j v o h1 h2).1.kt k T8⟩
    have args9 : ∀ {H9 : Hp}, KT T H8 H9 -> Args H9 (ks2 (nm z b 0) (nm z b 1)) al as xss := fun {H9} k => ⟨k.lst T8 A8.ar.1, A8.ar.2.1, fun j a xs h1 h2 => ⟨k.lst T8 (A8.ar.2.2 j a xs h1 h2).1, (A8.ar.2.2 j a xs h1 h2).2⟩⟩
    refine ⟨_, rfl, by show -(2 ^ 62) <= (2 : Int); decide, by show (2 : Int) < 2 ^ 62; decide, wA (fun j σ H' => KT T H8 H' /\ Tb T H' /\ ∃ v, σ = [some (.ref a), some (.ref st), some (.ref wp), some (.ref tg), some (.ref dl), some (.ref o), some (.ref al), some (.int way), some (.str n), some (.ref l), some (.ref u5), some (.ref p), some (.ref lh), v]) ⟨KT.of (Same.refl _), T8, none, rfl⟩ ?_ ?_⟩
    · rintro j9 σ H9 hj ⟨k9, T9, v, rfl⟩
      have k10' : ∀ {H10 : Hp}, KT T H9 H10 -> KT T H8 H10 := fun k => k9.trans k
      refine ⟨_, rfl, _, rfl, _, rfl, p, lh, 5, n, _, ds, as', os', rfl, hP8.keep (tup8 k9), hOk, argX9 k9, by omega, T9, fun H10 r k10 T10 gv => ⟨_, rfl, r, u5, rfl, rfl, vC gv ((hv8.kt k9 T8).kt k10 T9) atQ, _, rfl, iteF ⟨_, rfl, _, rfl, lh, l, rfl, rfl, .inr ⟨lh, l, as', as', rfl, rfl, .inl ⟨(k9.trans k10).lst T8 e8, (k9.trans k10).lst T8 el8⟩, rfl, fun i' x y h1 h2 => ?same⟩, _, rfl, iteF (nxt ?_)⟩⟩⟩
      case same =>
        rw [h1] at h2
        cases h2
        have hl' := (List.getElem?_eq_some_iff.mp h1).1
        exact (L2.Sme.kt (k9.trans k10) T8 (hx8 i' x _ h1 (List.getElem?_eq_getElem (by omega))).2).up
      have k80 := k9.trans k10
      obtain ⟨pp, pb, g1', g2', g3'⟩ := (A8.ii i o d ho hd).keep (tup8 k80)
      have ar10 := args9 k80
      have la := ar10.2.1
      refine ⟨_, rfl, _, rfl, o, _, _, _, rfl, rfl, SqT.of g1', zp (j := 0) rfl, _, rfl, al, rfl, ⟨_, SqL.of ar10.1⟩, xO (K := K) (xs := as.map V.ref) (fun j τ ys H' => Same H10 H' /\ (∃ v, τ = [some (.ref a), some (.ref st), some (.ref wp), some (.ref tg), some (.ref dl), some (.ref o), some (.ref al), some (.int way), some (.str n), some (.ref l), some (.ref u5), some (.ref p), some (.ref lh), some (.int ((0 : Int) + (j9 : Nat))), v]) /\ ∃ bs : List Addr, ys = bs.map V.ref /\ bs.length = j /\ ∀ (i : Nat) b' xs, bs[i]? = some b' -> xss[i]? = some xs -> H' b' = some (.lst xs)) ⟨Same.refl _, ⟨none, rfl⟩, [], rfl, rfl, fun i b' xs h => by simp at h⟩ (fun j τ ys H' _ h => SqL.of (h.1 _ _ ar10.1)) ?_ ?_⟩
      · rintro j v' τ ys H11 hv' ⟨s11, ⟨y, rfl⟩, bs, rfl, lb, hbs⟩
        rw [List.getElem?_map] at hv'
        obtain ⟨a', ha', rfl⟩ := Option.map_eq_some_iff.mp hv'
        have hi' := (List.getElem?_eq_some_iff.mp ha').1
        obtain ⟨f1, f2⟩ := ar10.2.2 j a' _ ha' (List.getElem?_eq_getElem (by omega))
        refine ⟨_, rfl, a', _, rfl, .inl (SqL.of (s11 _ _ f1)), fun l' hl' => ⟨by rw [List.length_map]; omega, s11.new hl', ⟨_, rfl⟩, bs ++ [l'], by rw [List.map_append]; rfl, by rw [List.length_append, lb]; rfl, fun i' b' xs h1 h2 => ?_⟩⟩
        by_cases c' : i' < bs.length
        · rw [List.getElem?_append_left c'] at h1
          exact old hl' (hbs i' b' xs h1 h2)
        · rw [List.getElem?_append_right (by omega)] at h1
          have : i' - bs.length = 0 := by
            have := (List.getElem?_eq_some_iff.mp h1).1
            simp at this
            omega
          rw [this] at h1
          cases h1
          have e : i' = j := by omega
          subst e
          rw [List.getElem?_eq_getElem (by omega)] at h2
          cases h2
          exact zg
      · rintro τ ys H11 ⟨s11, _, bs, rfl, lb, hbs⟩ lc hlc
        rw [List.length_map] at lb
        have n12 := s11.new (o := .lst (bs.map V.ref)) hlc
        have e12 := zg (H := H11) (a := lc) (o := .lst (bs.map V.ref))
        have hbs12 : ∀ (i : Nat) b' xs, bs[i]? = some b' -> xss[i]? = some xs -> upd H11 lc (.lst (bs.map V.ref)) b' = some (.lst xs) := fun i b' xs h1 h2 => old hlc (hbs i b' xs h1 h2)
        generalize upd H11 lc (.lst (bs.map V.ref)) = H12 at *
        have T12 := T10.same n12
        have k812 : KT T H8 H12 := k80.trans (KT.of n12)
        refine ⟨p, lc, 0, d.n, _, ds, bs.map V.ref, xss.map some, rfl, hP8.keep (tup8 k812), hOk, ⟨e12, by rw [List.length_map, List.length_map]; omega, fun i' v' o' h1 h2 => ?arg⟩, by rw [List.length_map]; omega, T12, fun H13 r' k13 T13 gv' => ?_⟩
        case arg =>
          rw [List.getElem?_map] at h1 h2
          obtain ⟨b', hb', rfl⟩ := Option.map_eq_some_iff.mp h1
          obtain ⟨xs, hxs, rfl⟩ := Option.map_eq_some_iff.mp h2
          have hil := (List.getElem?_eq_some_iff.mp hxs).1
          exact ⟨b', rfl, hbs12 i' b' xs hb' hxs, (ar10.2.2 i' _ xs (List.getElem?_eq_getElem (by omega)) hxs).2⟩
        rw [qm hnd hd lx] at gv'
        have k813 : KT T H8 H13 := k812.trans k13
        refine ⟨_, rfl, _, rfl, o, al, d, z, b, _, as, xss, rfl, (A8.ii i o d ho hd).keep (tup8 k813), dOk, args9 k813, lx, L.x2, fun H14 r14 s14 ha14 => ?_⟩
        refine ⟨r', r14, rfl, rfl, vC (n := d.n) (q := .ans (goE (d.ps.zip xss) d.rows d.x)) (GotV.same gv' s14) ha14 atO, _, rfl, iteF (nxt ⟨k813.trans (KT.of s14), T13.same s14, _, rfl⟩)⟩
    · rintro σ H9 ⟨k9, T9, v, rfl⟩
      refine ⟨_, rfl, _, rfl, _, rfl, p, lh, 5, n, _, ds, as', os', rfl, hP8.keep (tup8 k9), hOk, argX9 k9, by omega, T9, fun H10 r k10 T10 gv => ?_⟩
      exact ⟨_, rfl, r, u5, rfl, rfl, vC gv ((hv8.kt k9 T8).kt k10 T9) atQ, q _⟩
end
end GN
namespace GN
open PySem L2 K11
structure TopK (K : PySem.W.Frag) (cR R nt tw un mi uh la nv go fu fA : Addr) : Prop where
  c_Run : OwnIn K "Run" cR
  a_Run_defs : PySem.W.findIn K (.ref cR) "defs" = some none
  a_Run_steps : PySem.W.findIn K (.ref cR) "steps" = some none
  a_Run_done : PySem.W.findIn K (.ref cR) "done" = some none
  a_Run_waiting : PySem.W.findIn K (.ref cR) "waiting" = some none
  a_Run_body : PySem.W.findIn K (.ref cR) "body" = some none
  a_Run_names : PySem.W.findIn K (.ref cR) "names" = some none
  a_Run_end : PySem.W.findIn K (.ref cR) "end" = some none
  d_parts_of : DdIn K "parts_of" yo 236 230
  dt : DtIn K 230 100
  hcT : PySem.W.codeHdIn K 236 232 = true
  n_ReuseError : PySem.W.nsIn K mainGlobals "ReuseError" = some (some (.ref R))
  v_in : xIn0 K nv = true
  r_sp : PySem.W.specialIn K (.ref R) "__getattribute__" = some (some (.builtin "type.__getattribute__"))
  r_rd : PySem.W.readsIn K R (.type "type") = true
  r_fi : PySem.W.findCls K (.ref R) (.type "type") "__init__" = some (.val (.builtin "ValueError.__init__"))
  x_gs : PySem.W.specialIn K (.builtin "object.__class__") "__get__" = some (some (.builtin "getset_descriptor.__get__"))
  x_tk : PySem.W.takesIn K (.builtin "object.__class__") = some true
  k_x : PySem.W.exmOne K (.ref fA) (.ref fA) = some true
  e11 : PySem.W.exmOne K (.ref un) (.ref un) = some true
  e21 : PySem.W.exmOne K (.ref mi) (.ref un) = some false
  e22 : PySem.W.exmOne K (.ref mi) (.ref mi) = some true
  e31 : PySem.W.exmOne K (.ref nv) (.ref un) = some false
  e32 : PySem.W.exmOne K (.ref nv) (.ref mi) = some false
  e33 : PySem.W.exmOne K (.ref nv) (.ref nv) = some true
  n_NoText : PySem.W.nsIn K mainGlobals "NoText" = some (some (.ref nt))
  n_Twice : PySem.W.nsIn K mainGlobals "Twice" = some (some (.ref tw))
  n_Unknown : PySem.W.nsIn K mainGlobals "Unknown" = some (some (.ref un))
  n_Misfit : PySem.W.nsIn K mainGlobals "Misfit" = some (some (.ref mi))
  n_Unheld : PySem.W.nsIn K mainGlobals "Unheld" = some (some (.ref uh))
  n_Lacking : PySem.W.nsIn K mainGlobals "Lacking" = some (some (.ref la))
  n_NoValue : PySem.W.nsIn K mainGlobals "NoValue" = some (some (.ref nv))
  n_Gone : PySem.W.nsIn K mainGlobals "Gone" = some (some (.ref go))
  n_Full : PySem.W.nsIn K mainGlobals "Full" = some (some (.ref fu))
  n_Fault : PySem.W.nsIn K mainGlobals "Fault" = some (some (.ref fA))
  f_init : MeIn K fA "__init__" "Fault.__init__" vp
  f_word : PySem.W.takerIn K fA "word" = some none
  f_find : PySem.W.findIn K (.ref fA) "word" = some none
  f_over : xA K fA = true
  f_sa : PySem.W.findIn K (.ref fA) "__setattr__" = some (some (.builtin "object.__setattr__"))
  f_any : (PySem.W.clsIn K fA).any (·.hasDict) = true
  f_cl : ∃ f, PySem.W.findIn K (.ref fA) "__init__" = some (some (.ref f)) /\ xIn K fA f = true /\ PySem.W.typeIn K (.ref f) = some (.type "function")
  f_hd : PySem.W.hasDictIn K fA = true
  f_kp : PySem.W.keepIn K (.ref fA) = true
  f_ga : PySem.W.findIn K (.ref fA) "__getattribute__" = some (some (.builtin "BaseException.__getattribute__"))
  f_ha : PySem.W.findIn K (.ref fA) "__getattr__" = some none
  f_sb : PySem.W.subIn K (.ref fA) (.type "BaseException") = some true
  u_init : MeIn K un "__init__" "Unknown.__init__" sUnk
  u_word : PySem.W.takerIn K un "name" = some none
  u_find : PySem.W.findIn K (.ref un) "name" = some none
  u_over : xA K un = true
  u_sa : PySem.W.findIn K (.ref un) "__setattr__" = some (some (.builtin "object.__setattr__"))
  u_any : (PySem.W.clsIn K un).any (·.hasDict) = true
  u_cl : ∃ f, PySem.W.findIn K (.ref un) "__init__" = some (some (.ref f)) /\ xIn K un f = true /\ PySem.W.typeIn K (.ref f) = some (.type "function")
  u_hd : PySem.W.hasDictIn K un = true
  u_kp : PySem.W.keepIn K (.ref un) = true
  u_ga : PySem.W.findIn K (.ref un) "__getattribute__" = some (some (.builtin "BaseException.__getattribute__"))
  u_ha : PySem.W.findIn K (.ref un) "__getattr__" = some none
  u_sb : PySem.W.subIn K (.ref un) (.type "BaseException") = some true
  u_class : PySem.W.findIn K (.ref un) "__class__" = some (some (.builtin "object.__class__"))
  u_mo : PySem.W.mroIn K un (.type "object") = some true
  u_kit : kitRow K un [nt, tw, un, mi, uh, la, nv, go, fu, fA] 2 = true
  u_kR : PySem.W.kitOne K (.ref un) (.ref R) = some true
  u_kV : PySem.W.kitOne K (.ref un) (.type "ValueError") = some true
  m_init : MeIn K mi "__init__" "Misfit.__init__" sMis
  m_word : PySem.W.takerIn K mi "name" = some none
  m_find : PySem.W.findIn K (.ref mi) "name" = some none
  m_over : xA K mi = true
  m_sa : PySem.W.findIn K (.ref mi) "__setattr__" = some (some (.builtin "object.__setattr__"))
  m_any : (PySem.W.clsIn K mi).any (·.hasDict) = true
  m_cl : ∃ f, PySem.W.findIn K (.ref mi) "__init__" = some (some (.ref f)) /\ xIn K mi f = true /\ PySem.W.typeIn K (.ref f) = some (.type "function")
  m_hd : PySem.W.hasDictIn K mi = true
  m_kp : PySem.W.keepIn K (.ref mi) = true
  m_ga : PySem.W.findIn K (.ref mi) "__getattribute__" = some (some (.builtin "BaseException.__getattribute__"))
  m_ha : PySem.W.findIn K (.ref mi) "__getattr__" = some none
  m_sb : PySem.W.subIn K (.ref mi) (.type "BaseException") = some true
  m_class : PySem.W.findIn K (.ref mi) "__class__" = some (some (.builtin "object.__class__"))
  m_mo : PySem.W.mroIn K mi (.type "object") = some true
  m_kit : kitRow K mi [nt, tw, un, mi, uh, la, nv, go, fu, fA] 3 = true
  m_kR : PySem.W.kitOne K (.ref mi) (.ref R) = some true
  m_kV : PySem.W.kitOne K (.ref mi) (.type "ValueError") = some true
  v_hd : PySem.W.hasDictIn K nv = true
  v_kp : PySem.W.keepIn K (.ref nv) = true
  v_ga : PySem.W.findIn K (.ref nv) "__getattribute__" = some (some (.builtin "BaseException.__getattribute__"))
  v_ha : PySem.W.findIn K (.ref nv) "__getattr__" = some none
  v_sb : PySem.W.subIn K (.ref nv) (.type "BaseException") = some true
  v_class : PySem.W.findIn K (.ref nv) "__class__" = some (some (.builtin "object.__class__"))
  v_mo : PySem.W.mroIn K nv (.type "object") = some true
  v_kit : kitRow K nv [nt, tw, un, mi, uh, la, nv, go, fu, fA] 6 = true
  v_kR : PySem.W.kitOne K (.ref nv) (.ref R) = some true
  v_kV : PySem.W.kitOne K (.ref nv) (.type "ValueError") = some true
  d_is_whole : DfIn K "is_whole" yU
  d_first_parts : DfIn K "first_parts" jB
  d_sizes : DfIn K "sizes" jx
  d_in_bounds : DfIn K "in_bounds" sIn
  d_shape : DfIn K "shape" jz
  d_grown : DfIn K "grown" jy
  d_result_of : DfIn K "result_of" sRes
  d_reckoned : DfIn K "reckoned" Zr
  d_by_name : DfIn K "by_name" sBy
  d_begun_with : DfIn K "begun_with" jC
  m_Run___init__ : MeIn K cR "__init__" "Run.__init__" jD
  m_Run_begin_def : MeIn K cR "begin_def" "Run.begin_def" jF
  m_Run_valued : MeIn K cR "valued" "Run.valued" vq
  m_Run_outcome : MeIn K cR "outcome" "Run.outcome" sOut
  m_Run_let : MeIn K cR "let" "Run.let" sLet
  m_Run_give : MeIn K cR "give" "Run.give" Xg
  m_Run_go_on : MeIn K cR "go_on" "Run.go_on" sGo
  d_run : DfIn K "run" sRun
  d__law_draw : DfIn K "_law_draw" Xh
  d__law_name : DfIn K "_law_name" sNm
  d__law_stem : DfIn K "_law_stem" Xi
  d__law_one_class : DfIn K "_law_one_class" sOne
  d__law_got : DfIn K "_law_got" sGot
  d__law_defs : DfIn K "_law_defs" Xj
  d__law_stranger : DfIn K "_law_stranger" xB
  d__law_odd : DfIn K "_law_odd" sOdd
  d__law_given : DfIn K "_law_given" jH
  d__law_spoil : DfIn K "_law_spoil" jJ
  d__law_due : DfIn K "_law_due" sDue
  d_law : DfIn K "law" sLaw
  z_len : PySem.W.nsIn K mainGlobals "len" = some none
  z_range : PySem.W.nsIn K mainGlobals "range" = some none
  z_isinstance : PySem.W.nsIn K mainGlobals "isinstance" = some none
  z_int : PySem.W.nsIn K mainGlobals "int" = some none
  z_bool : PySem.W.nsIn K mainGlobals "bool" = some none
  z_reversed : PySem.W.nsIn K mainGlobals "reversed" = some none
  z_list : PySem.W.nsIn K mainGlobals "list" = some none
  z_str : PySem.W.nsIn K mainGlobals "str" = some none
  z_tuple : PySem.W.nsIn K mainGlobals "tuple" = some none
  z_dict : PySem.W.nsIn K mainGlobals "dict" = some none
  z_zip : PySem.W.nsIn K mainGlobals "zip" = some none
  z_ValueError : PySem.W.nsIn K mainGlobals "ValueError" = some none
theorem top_ok {l : PySem.W.OpenLaw} {w : World} {K : PySem.W.Frag} {h : Heap} {mg : Str -> Option Value} {fa cR R nt tw un mi uh la nv go fu fA : Addr} (T : TopK K cR R nt tw un mi uh la nv go fu fA) (X : K.In h) (G : h.Ns mainGlobals mg) (hfa : mg "law" = some (.ref fa)) :
    ∃ fd : FuncData, (∀ (s : Shared) (u : Value), BindsTo s fd ⟨[u], []⟩ [("_law_script", u)]) /\ ∀ base : Heap, K.In base -> base.Ns mainGlobals mg -> BMn mg base -> FnOk l.prog w K mg base CX0 9 fa fd ["_law_script"] (spTopT K 232) := by
  refine W3 T.d_law X G hfa (fun _ _ _ _ _ _ s v => .of_eq rfl) fun base fd hBM FL => ?_
  have z_len : mg "len" = none := PySem.W.mg_none_of X G T.z_len
  have z_range : mg "range" = none := PySem.W.mg_none_of X G T.z_range
  have z_isinstance : mg "isinstance" = none := PySem.W.mg_none_of X G T.z_isinstance
  have z_int : mg "int" = none := PySem.W.mg_none_of X G T.z_int
  have z_bool : mg "bool" = none := PySem.W.mg_none_of X G T.z_bool
  have z_reversed : mg "reversed" = none := PySem.W.mg_none_of X G T.z_reversed
  have z_list : mg "list" = none := PySem.W.mg_none_of X G T.z_list
  have z_str : mg "str" = none := PySem.W.mg_none_of X G T.z_str
  have z_tuple : mg "tuple" = none := PySem.W.mg_none_of X G T.z_tuple
  have z_dict : mg "dict" = none := PySem.W.mg_none_of X G T.z_dict
  have z_zip : mg "zip" = none := PySem.W.mg_none_of X G T.z_zip
  have z_ValueError : mg "ValueError" = none := PySem.W.mg_none_of X G T.z_ValueError
  have n_Run : mg "Run" = some (.ref cR) := PySem.W.mg_of X G T.c_Run.n
  have n_NoText := PySem.W.mg_of X G T.n_NoText
  have n_Twice := PySem.W.mg_of X G T.n_Twice
  have n_Unknown := PySem.W.mg_of X G T.n_Unknown
  have n_Misfit := PySem.W.mg_of X G T.n_Misfit
  have n_Unheld := PySem.W.mg_of X G T.n_Unheld
  have n_Lacking := PySem.W.mg_of X G T.n_Lacking
  have n_NoValue := PySem.W.mg_of X G T.n_NoValue
  have n_Gone := PySem.W.mg_of X G T.n_Gone
  have n_Full := PySem.W.mg_of X G T.n_Full
  have n_Fault := PySem.W.mg_of X G T.n_Fault
  have n_ReuseError := PySem.W.mg_of X G T.n_ReuseError
  have xV : XCl0 K nv := ⟨T.v_in, T.v_kp⟩
  have B : XBase K R := ⟨T.r_sp, T.r_rd, T.r_fi⟩
  obtain ⟨fxf, axf, xinf, xtyf⟩ := T.f_cl
  have Mf : XCl K fA fxf := ⟨xinf, xtyf, T.f_kp, T.f_over, T.f_sa, T.f_any, T.f_ga, T.f_ha, T.f_sb⟩
  have GXf : Xa l.prog w K mg base 1 "Fault" fA ["self", "word"] (K31.spFault fA) := by
    obtain ⟨f, a, n, g⟩ := T.f_init
    obtain ⟨fd, F, kp⟩ := g.fn
    have e : f = fxf := by
      rw [axf] at a
      injection a with a
      injection a with a
      injection a with a
      exact a.symm
    subst e
    exact ⟨f, fd, Mf, K31.ok_fault F T.f_word Mf B n_ReuseError, F.binds (ps := ["self", "word"]) fun _ _ _ _ _ _ us hl => match us, hl with | [_, _], _ => rfl, n_Fault⟩
  obtain ⟨fxu, axu, xinu, xtyu⟩ := T.u_cl
  have Mu : XCl K un fxu := ⟨xinu, xtyu, T.u_kp, T.u_over, T.u_sa, T.u_any, T.u_ga, T.u_ha, T.u_sb⟩
  have GXu : Xa l.prog w K mg base 1 "Unknown" un ["self", "name"] (yM un) := by
    obtain ⟨f, a, n, g⟩ := T.u_init
    obtain ⟨fd, F, kp⟩ := g.fn
    have e : f = fxu := by
      rw [axu] at a
      injection a with a
      injection a with a
      injection a with a
      exact a.symm
    subst e
    exact ⟨f, fd, Mu, qe F T.u_word Mu B n_ReuseError, F.binds (ps := ["self", "name"]) fun _ _ _ _ _ _ us hl => match us, hl with | [_, _], _ => rfl, n_Unknown⟩
  obtain ⟨fxm, axm, xinm, xtym⟩ := T.m_cl
  have Mm : XCl K mi fxm := ⟨xinm, xtym, T.m_kp, T.m_over, T.m_sa, T.m_any, T.m_ga, T.m_ha, T.m_sb⟩
  have GXm : Xa l.prog w K mg base 1 "Misfit" mi ["self", "name"] (yM mi) := by
    obtain ⟨f, a, n, g⟩ := T.m_init
    obtain ⟨fd, F, kp⟩ := g.fn
    have e : f = fxm := by
      rw [axm] at a
      injection a with a
      injection a with a
      injection a with a
      exact a.symm
    subst e
    exact ⟨f, fd, Mm, qf F T.m_word Mm B n_ReuseError, F.binds (ps := ["self", "name"]) fun _ _ _ _ _ _ us hl => match us, hl with | [_, _], _ => rfl, n_Misfit⟩
  have N : Rn K cR := ⟨T.c_Run.cls, T.a_Run_defs, T.a_Run_steps, T.a_Run_done, T.a_Run_waiting, T.a_Run_body, T.a_Run_names, T.a_Run_end⟩
  have FT : Ft K mg fA := ⟨n_Fault, ⟨fxf, Mf⟩, T.f_find, T.f_hd, T.k_x⟩
  have XX : X38 K mg ⟨nt, tw, un, mi, uh, la, nv, go, fu, fA, R⟩ := ⟨n_NoText, n_Twice, n_Unknown, n_Misfit, n_Unheld, n_Lacking, n_NoValue, n_Gone, n_Full, n_Fault, n_ReuseError, z_ValueError, ⟨⟨T.u_ga, T.u_ha, T.u_sb, T.u_hd, T.u_class, T.x_gs, T.x_tk, T.u_mo⟩, T.u_kit, T.u_kR, T.u_kV⟩, ⟨⟨T.m_ga, T.m_ha, T.m_sb, T.m_hd, T.m_class, T.x_gs, T.x_tk, T.m_mo⟩, T.m_kit, T.m_kR, T.m_kV⟩, ⟨⟨T.v_ga, T.v_ha, T.v_sb, T.v_hd, T.v_class, T.x_gs, T.x_tk, T.v_mo⟩, T.v_kit, T.v_kR, T.v_kV⟩, T.e11, T.e21, T.e22, T.e31, T.e32, T.e33, T.u_find, T.m_find, ⟨fxu, Mu⟩, ⟨fxm, Mm⟩⟩
  have G1 := DfIn.ca (P := l.prog) (w := w) (base := base) X G T.d_is_whole (ps := ["thing"]) (fun _ _ _ _ _ _ us hl => match us, hl with | [_], _ => rfl) fun f fd F => ok_whole F z_isinstance z_int z_bool
  have G1B := DfIn.ca (P := l.prog) (w := w) (base := base) X G T.d_is_whole (ps := ["thing"]) (fun _ _ _ _ _ _ us hl => match us, hl with | [_], _ => rfl) fun f fd F => Yh F z_isinstance z_int z_bool
  have G1C := DfIn.ca (P := l.prog) (w := w) (base := base) X G T.d_is_whole (ps := ["thing"]) (fun _ _ _ _ _ _ us hl => match us, hl with | [_], _ => rfl) fun f fd F => K31.ok_whole F z_isinstance z_int z_bool
  have G2 := DfIn.ca (P := l.prog) (w := w) (base := base) X G T.d_first_parts (ps := ["value", "most", "shape_of"]) (fun _ _ _ _ _ _ us hl => match us, hl with | [_, _, _], _ => rfl) fun f fd F => Xs F G1 z_len z_reversed
  have G3 := DdIn.ca (P := l.prog) (w := w) (base := base) (dvs := [.int 100]) X G T.d_parts_of (ps := ["value", "most"]) (fun kV doc pm an ct => Ye T.dt kV doc pm an ct) (fun kV doc pm an ct => Yf T.dt kV doc pm an ct) fun f fd F => Xt F hBM T.hcT G2
  have G4 := DfIn.ca (P := l.prog) (w := w) (base := base) X G T.d_sizes (ps := ["kinds"]) (fun _ _ _ _ _ _ us hl => match us, hl with | [_], _ => rfl) fun f fd F => XH F
  have G5 := DfIn.ca (P := l.prog) (w := w) (base := base) X G T.d_in_bounds (ps := ["number"]) (fun _ _ _ _ _ _ us hl => match us, hl with | [_], _ => rfl) fun f fd F => ok_in F
  have G5B := DfIn.ca (P := l.prog) (w := w) (base := base) X G T.d_in_bounds (ps := ["number"]) (fun _ _ _ _ _ _ us hl => match us, hl with | [_], _ => rfl) fun f fd F => K31.ok_in F
  have G6 := DfIn.ca (P := l.prog) (w := w) (base := base) X G T.d_shape (ps := ["tag", "known_sizes", "values"]) (fun _ _ _ _ _ _ us hl => match us, hl with | [_, _, _], _ => rfl) fun f fd F => XI F n_NoValue xV z_len z_range z_tuple
  have G7 := DfIn.ca (P := l.prog) (w := w) (base := base) X G T.d_grown (ps := ["kinds", "parts"]) (fun _ _ _ _ _ _ us hl => match us, hl with | [_, _], _ => rfl) fun f fd F => XJ F n_NoValue xV z_len z_isinstance z_list z_str z_reversed G4 G6 G1B G5
  have R1 := DfIn.ca (P := l.prog) (w := w) (base := base) X G T.d_result_of (ps := ["word", "a", "b"]) (fun _ _ _ _ _ _ us hl => match us, hl with | [_, _, _], _ => rfl) fun f fd F => K31.ok_res F
  have R2 := DfIn.ca (P := l.prog) (w := w) (base := base) X G T.d_reckoned (ps := ["word", "a", "b"]) (fun _ _ _ _ _ _ us hl => match us, hl with | [_, _, _], _ => rfl) fun f fd F => K31.ok_reck F GXf G1C R1 G5B
  have R3 := DfIn.ca (P := l.prog) (w := w) (base := base) X G T.d_by_name (ps := ["defs"]) (fun _ _ _ _ _ _ us hl => match us, hl with | [_], _ => rfl) fun f fd F => qg F
  have R4 := DfIn.ca (P := l.prog) (w := w) (base := base) X G T.d_begun_with (ps := ["kinds", "defs", "name", "args"]) (fun _ _ _ _ _ _ us hl => match us, hl with | [_, _, _, _], _ => rfl) fun f fd F => Yo F GXu GXm G7 z_len
  have M0 := T.m_Run___init__.ma (P := l.prog) (w := w) (mg := mg) (base := base) (x := "Run") (ps := ["self", "defs", "steps"]) (fun _ _ _ _ _ _ us hl => match us, hl with | [_, _, _], _ => rfl) T.c_Run.mks T.c_Run.kp n_Run fun f fd F => X1 F N
  have M1 := T.m_Run_begin_def.me (P := l.prog) (w := w) (mg := mg) (base := base) (ps := ["self", "name", "values"]) (fun _ _ _ _ _ _ us hl => match us, hl with | [_, _, _], _ => rfl) fun f fd F => X2 F N z_dict z_zip
  have M2 := T.m_Run_valued.me (P := l.prog) (w := w) (mg := mg) (base := base) (ps := ["self", "names"]) (fun _ _ _ _ _ _ us hl => match us, hl with | [_, _], _ => rfl) fun f fd F => Yl F N
  have M3 := T.m_Run_outcome.me (P := l.prog) (w := w) (mg := mg) (base := base) (ps := ["self", "deed"]) (fun _ _ _ _ _ _ us hl => match us, hl with | [_, _], _ => rfl) fun f fd F => qb F N M2 R2 z_tuple
  have M4 := T.m_Run_let.me (P := l.prog) (w := w) (mg := mg) (base := base) (ps := ["self", "wants", "deed", "body"]) (fun _ _ _ _ _ _ us hl => match us, hl with | [_, _, _, _], _ => rfl) fun f fd F => qc F N M3
  have M5 := T.m_Run_give.me (P := l.prog) (w := w) (mg := mg) (base := base) (ps := ["self", "value"]) (fun _ _ _ _ _ _ us hl => match us, hl with | [_, _], _ => rfl) fun f fd F => Vj F N G3 z_len
  have M6 := T.m_Run_go_on.me (P := l.prog) (w := w) (mg := mg) (base := base) (ps := ["self"]) (fun _ _ _ _ _ _ us hl => match us, hl with | [_], _ => rfl) fun f fd F => qW F N M4 M5
  have R5 := DfIn.ca (P := l.prog) (w := w) (base := base) X G T.d_run (ps := ["program", "name", "args", "steps"]) (fun _ _ _ _ _ _ us hl => match us, hl with | [_, _, _, _], _ => rfl) fun f fd F => Vq F N FT R3 R4 M0 M1 M6
  have LD := DfIn.ca (P := l.prog) (w := w) (base := base) X G T.d__law_draw (ps := ["_law_state", "_law_many"]) (fun _ _ _ _ _ _ us hl => match us, hl with | [_, _], _ => rfl) fun f fd F => W2 F z_len
  have LN := DfIn.ca (P := l.prog) (w := w) (base := base) X G T.d__law_name (ps := ["_law_world", "_law_k"]) (fun _ _ _ _ _ _ us hl => match us, hl with | [_, _], _ => rfl) fun f fd F => qO F
  have LS_ := DfIn.ca (P := l.prog) (w := w) (base := base) X G T.d__law_stem (ps := ["_law_state"]) (fun _ _ _ _ _ _ us hl => match us, hl with | [_], _ => rfl) fun f fd F => Vb F LD z_range
  have LO := DfIn.caH (P := l.prog) (w := w) (base := base) X G T.d__law_one_class (ps := ["_law_e"]) (fun _ _ _ _ _ _ us hl => match us, hl with | [_], _ => rfl) fun f fd F => qh F XX z_isinstance z_len
  have LT := DfIn.ca (P := l.prog) (w := w) (base := base) X G T.d__law_got (ps := ["_law_program", "_law_name_here", "_law_args", "_law_steps"]) (fun _ _ _ _ _ _ us hl => match us, hl with | [_, _, _, _], _ => rfl) fun f fd F => qi F XX R5 LO
  have LF := DfIn.ca (P := l.prog) (w := w) (base := base) X G T.d__law_defs (ps := ["_law_state", "_law_world"]) (fun _ _ _ _ _ _ us hl => match us, hl with | [_, _], _ => rfl) fun f fd F => Vt F LD LN z_len z_range z_tuple
  have LR := DfIn.ca (P := l.prog) (w := w) (base := base) X G T.d__law_stranger (ps := ["_law_state", "_law_world", "_law_name_here"]) (fun _ _ _ _ _ _ us hl => match us, hl with | [_, _, _], _ => rfl) fun f fd F => v7 F LD LN
  have LE := DfIn.ca (P := l.prog) (w := w) (base := base) X G T.d__law_odd (ps := ["_law_state", "_law_tags"]) (fun _ _ _ _ _ _ us hl => match us, hl with | [_, _], _ => rfl) fun f fd F => qj F LD
  have LG := DfIn.ca (P := l.prog) (w := w) (base := base) X G T.d__law_given (ps := ["_law_one", "_law_args"]) (fun _ _ _ _ _ _ us hl => match us, hl with | [_, _], _ => rfl) fun f fd F => Wa F
  have LP := DfIn.ca (P := l.prog) (w := w) (base := base) X G T.d__law_spoil (ps := ["_law_state", "_law_one", "_law_args", "_law_tags", "_law_way"]) (fun _ _ _ _ _ _ us hl => match us, hl with | [_, _, _, _, _], _ => rfl) fun f fd F => Wd F LD LE z_len z_list
  have LU := DfIn.ca (P := l.prog) (w := w) (base := base) X G T.d__law_due (ps := ["_law_name_here", "_law_one", "_law_some", "_law_args", "_law_way"]) (fun _ _ _ _ _ _ us hl => match us, hl with | [_, _, _, _, _], _ => rfl) fun f fd F => Vu F LG z_len
  exact qu FL LD LN LS_ LF LR LP LU LG LT z_len z_list z_range z_tuple
end GN
def PySem.W.Fast.tw18338043389568785553 : Unit := ()
def PySem.W.Fast.tw726618910771797091 : Unit := ()
def PySem.W.Fast.tw2335824163247743845 : Unit := ()
def PySem.W.Fast.tw13746889999350297872 : Unit := ()
def PySem.W.Fast.tw9569278362694909726 : Unit := ()
def PySem.W.Fast.tw13105126422335886473 : Unit := ()
def PySem.W.Fast.tw3791412510219314253 : Unit := ()
def PySem.W.Fast.tw8361819277554215163 : Unit := ()
def PySem.W.Fast.tw4695477984096368349 : Unit := ()
def PySem.W.Fast.tw11338510235672593099 : Unit := ()
def PySem.W.Fast.tw455909816505071182 : Unit := ()
def PySem.W.Fast.tw5147023090856738490 : Unit := ()
def PySem.W.Fast.tw15272349499754935220 : Unit := ()
def PySem.W.Fast.tw8436628642161581055 : Unit := ()
def PySem.W.Fast.tw2964433754603939897 : Unit := ()
def PySem.W.Fast.tw4801137848304145884 : Unit := ()
def PySem.W.Fast.tw16498901898655873978 : Unit := ()
def PySem.W.Fast.tw1362198478018091239 : Unit := ()
def PySem.W.Fast.tw7594369170007172697 : Unit := ()
def PySem.W.Fast.tw14580419848992391580 : Unit := ()
def PySem.W.Fast.tw10877175054667745304 : Unit := ()
def PySem.W.Fast.tw5877489696004292144 : Unit := ()
def PySem.W.Fast.tw18125102717717662548 : Unit := ()
def PySem.W.Fast.tw1655083373072712640 : Unit := ()
def PySem.W.Fast.tw9954438690298037054 : Unit := ()
def PySem.W.Fast.tw2380109665801425810 : Unit := ()
def PySem.W.Fast.tw6978919270922533990 : Unit := ()
def PySem.W.Fast.tw12910296869609270992 : Unit := ()
def PySem.W.Fast.tw15588655101881470563 : Unit := ()
def PySem.W.Fast.tw8303289092331184565 : Unit := ()
def PySem.W.Fast.tw13657158262048819996 : Unit := ()
def PySem.W.Fast.tw6865602335357181667 : Unit := ()
def PySem.W.Fast.tw657035776530770901 : Unit := ()
def PySem.W.Fast.tw3106923868526027189 : Unit := ()
def PySem.W.Fast.tw13783524338962930191 : Unit := ()
def PySem.W.Fast.tw18294722977973026588 : Unit := ()
def PySem.W.Fast.tw12501546803887156079 : Unit := ()
def PySem.W.Fast.tw15876731465539645063 : Unit := ()
def PySem.W.Fast.tw12573232498996741245 : Unit := ()
def PySem.W.Fast.tw15805434111399300072 : Unit := ()
def PySem.W.Fast.tw12833408834617863871 : Unit := ()
def PySem.W.Fast.tw5826406409007207610 : Unit := ()
def PySem.W.Fast.tw11268119308886249559 : Unit := ()
def PySem.W.Fast.tw11868220069734971598 : Unit := ()
def PySem.W.Fast.tw1309778761953466065 : Unit := ()
def PySem.W.Fast.tw15277224507999955099 : Unit := ()
def PySem.W.Fast.tw4231925501520821511 : Unit := ()
def PySem.W.Fast.tw10404286394234991618 : Unit := ()
def PySem.W.Fast.tw3957933381896556353 : Unit := ()
def PySem.W.Fast.tw5678276406044365041 : Unit := ()
def PySem.W.Fast.tw1686629737332533821 : Unit := ()
def PySem.W.Fast.tw12303335247479770147 : Unit := ()
def PySem.W.Fast.tw2587908681074302259 : Unit := ()
def PySem.W.Fast.tw3572898587498955331 : Unit := ()
def PySem.W.Fast.tw18290276801862645463 : Unit := ()
def PySem.W.Fast.tw15468277474134155703 : Unit := ()
def PySem.W.Fast.tw3257526860886265018 : Unit := ()
def PySem.W.Fast.tw10126200271696412002 : Unit := ()
def PySem.W.Fast.tw3747368449323600541 : Unit := ()
def PySem.W.Fast.tw7523793860912152479 : Unit := ()
def PySem.W.Fast.tw8974697811045226276 : Unit := ()
def PySem.W.Fast.tw396789907295105795 : Unit := ()
def PySem.W.Fast.tw4169298416722439983 : Unit := ()
def PySem.W.Fast.tw9025028035458471381 : Unit := ()
def PySem.W.Fast.tw6896717420709259174 : Unit := ()
def PySem.W.Fast.tw17595541511164918970 : Unit := ()
def PySem.W.Fast.tw12454920880036809299 : Unit := ()
def PySem.W.Fast.tw18407995201776651582 : Unit := ()
def PySem.W.Fast.tw11486252700989893933 : Unit := ()
def PySem.W.Fast.tw9874502212548340832 : Unit := ()
def PySem.W.Fast.tw8173511424897217664 : Unit := ()
def PySem.W.Fast.tw14719969735433044464 : Unit := ()
def PySem.W.Fast.tw15073072801232210557 : Unit := ()
def PySem.W.Fast.tw4042127490533223551 : Unit := ()
def PySem.W.Fast.tw6302425914148430326 : Unit := ()
def PySem.W.Fast.tw993302374020040468 : Unit := ()
def PySem.W.Fast.tw8954354620761514309 : Unit := ()
def PySem.W.Fast.tw2933424000692433629 : Unit := ()
def PySem.W.Fast.tw9476928656236668112 : Unit := ()
def PySem.W.Fast.tw8038909615405807367 : Unit := ()
def PySem.W.Fast.tw8345956161968941303 : Unit := ()
def PySem.W.Fast.tw13768329759469736571 : Unit := ()
def PySem.W.Fast.tw9511493271207242737 : Unit := ()
def PySem.W.Fast.tw14161905883139390196 : Unit := ()
def PySem.W.Fast.tw10751862429448919151 : Unit := ()
def PySem.W.Fast.tw14330427286948947157 : Unit := ()
def PySem.W.Fast.tw1872768898019258670 : Unit := ()
def PySem.W.Fast.tw11717380189074302611 : Unit := ()
def PySem.W.Fast.tw14442305057346576272 : Unit := ()
def PySem.W.Fast.tw4396241750386227694 : Unit := ()
def PySem.W.Fast.tw3081197676196021680 : Unit := ()
def PySem.W.Fast.tw13717598508034538345 : Unit := ()
def PySem.W.Fast.tw17133610214475314209 : Unit := ()
def PySem.W.Fast.tw3960564759202909135 : Unit := ()
def PySem.W.Fast.tw7240747360001044892 : Unit := ()
def PySem.W.Fast.tw17690523727001974692 : Unit := ()
def PySem.W.Fast.tw17149369262357727420 : Unit := ()
def PySem.W.Fast.tw15341340540961938624 : Unit := ()
open PySem PySem.W PyProof.Rows
set_option maxRecDepth 100000 in
set_option maxHeartbeats 0 in
theorem PySem.Challenge.cw_reusewise_k38_runs_refused_holds : PySem.Challenge.rw_reusewise_k38_runs_refused.Holds := by
  w_on; o_law; k_head; (case hw => w_witness2)
  k_fill
  refine L2.walkT (l := PySem.Challenge.rw_reusewise_k38_runs_refused) (k := 9) (T := 232) (c := 236) rfl ⟨rfl, by decide, by decide⟩ rfl rfl (fun p => rfl) (fun p => rfl) ?F
  case F =>
    intro w mg fa h KX G hm
    refine' GN.top_ok (GN.TopK.mk ?c_Run ?a_Run_defs ?a_Run_steps ?a_Run_done ?a_Run_waiting ?a_Run_body ?a_Run_names ?a_Run_end ?d_parts_of ?dt ?hcT ?n_ReuseError ?v_in ?r_sp ?r_rd ?r_fi ?x_gs ?x_tk ?k_x ?e11 ?e21 ?e22 ?e31 ?e32 ?e33 ?n_NoText ?n_Twice ?n_Unknown ?n_Misfit ?n_Unheld ?n_Lacking ?n_NoValue ?n_Gone ?n_Full ?n_Fault ?f_init ?f_word ?f_find ?f_over ?f_sa ?f_any ?f_cl ?f_hd ?f_kp ?f_ga ?f_ha ?f_sb ?u_init ?u_word ?u_find ?u_over ?u_sa ?u_any ?u_cl ?u_hd ?u_kp ?u_ga ?u_ha ?u_sb ?u_class ?u_mo ?u_kit ?u_kR ?u_kV ?m_init ?m_word ?m_find ?m_over ?m_sa ?m_any ?m_cl ?m_hd ?m_kp ?m_ga ?m_ha ?m_sb ?m_class ?m_mo ?m_kit ?m_kR ?m_kV ?v_hd ?v_kp ?v_ga ?v_ha ?v_sb ?v_class ?v_mo ?v_kit ?v_kR ?v_kV ?d_is_whole ?d_first_parts ?d_sizes ?d_in_bounds ?d_shape ?d_grown ?d_result_of ?d_reckoned ?d_by_name ?d_begun_with ?m_Run___init__ ?m_Run_begin_def ?m_Run_valued ?m_Run_outcome ?m_Run_let ?m_Run_give ?m_Run_go_on ?d_run ?d__law_draw ?d__law_name ?d__law_stem ?d__law_one_class ?d__law_got ?d__law_defs ?d__law_stranger ?d__law_odd ?d__law_given ?d__law_spoil ?d__law_due ?d_law ?z_len ?z_range ?z_isinstance ?z_int ?z_bool ?z_reversed ?z_list ?z_str ?z_tuple ?z_dict ?z_zip ?z_ValueError) KX G hm
    (case c_Run => (refine' L2.OwnIn.mk ?n ?pg ?hd ?po ?sa ?mks ?kp; (case n => k_is); (case pg => k_is); (case hd => k_is); (case po => k_is); (case sa => k_is); (case mks => k_is); (case kp => k_is)))
    (case a_Run_defs => k_is)
    (case a_Run_steps => k_is)
    (case a_Run_done => k_is)
    (case a_Run_waiting => k_is)
    (case a_Run_body => k_is)
    (case a_Run_names => k_is)
    (case a_Run_end => k_is)
    (case d_parts_of => (refine' L2.DdIn.mk ?a ?l ?c ?k; (case a => k_is); (case l => k_is); (case c => k_is); (case k => k_is)))
    (case dt => (refine' L2.DtIn.mk ?a; (case a => k_is)))
    (case hcT => (exact rfl))
    (case n_ReuseError => k_is)
    (case v_in => (first | kernel_rfl | rfl | decide +kernel))
    (case r_sp => k_is)
    (case r_rd => k_is)
    (case r_fi => k_is)
    (case x_gs => k_is)
    (case x_tk => k_is)
    (case k_x => (first | kernel_rfl | rfl | decide +kernel))
    (case e11 => (first | kernel_rfl | rfl | decide +kernel))
    (case e21 => (first | kernel_rfl | rfl | decide +kernel))
    (case e22 => (first | kernel_rfl | rfl | decide +kernel))
    (case e31 => (first | kernel_rfl | rfl | decide +kernel))
    (case e32 => (first | kernel_rfl | rfl | decide +kernel))
    (case e33 => (first | kernel_rfl | rfl | decide +kernel))
    (case n_NoText => k_is)
    (case n_Twice => k_is)
    (case n_Unknown => k_is)
    (case n_Misfit => k_is)
    (case n_Unheld => k_is)
    (case n_Lacking => k_is)
    (case n_NoValue => k_is)
    (case n_Gone => k_is)
    (case n_Full => k_is)
    (case n_Fault => k_is)
    (case f_init => (refine' L2.MeIn.mk ?a ?l ?c ?k ?n; (case a => k_is); (case l => k_is); (case c => k_is); (case k => k_is); (case n => k_is)))
    (case f_word => k_is)
    (case f_find => k_is)
    (case f_over => (first | kernel_rfl | rfl | decide +kernel))
    (case f_sa => k_is)
    (case f_any => (first | kernel_rfl | rfl | decide +kernel))
    (case f_cl => (refine' L2.XcIn.mk ?a ?b ?c; (case a => k_is); (case b => (first | kernel_rfl | rfl | decide +kernel)); (case c => k_is)))
    (case f_hd => k_is)
    (case f_kp => k_is)
    (case f_ga => k_is)
    (case f_ha => k_is)
    (case f_sb => k_is)
    (case u_init => (refine' L2.MeIn.mk ?a ?l ?c ?k ?n; (case a => k_is); (case l => k_is); (case c => k_is); (case k => k_is); (case n => k_is)))
    (case u_word => k_is)
    (case u_find => k_is)
    (case u_over => (first | kernel_rfl | rfl | decide +kernel))
    (case u_sa => k_is)
    (case u_any => (first | kernel_rfl | rfl | decide +kernel))
    (case u_cl => (refine' L2.XcIn.mk ?a ?b ?c; (case a => k_is); (case b => (first | kernel_rfl | rfl | decide +kernel)); (case c => k_is)))
    (case u_hd => k_is)
    (case u_kp => k_is)
    (case u_ga => k_is)
    (case u_ha => k_is)
    (case u_sb => k_is)
    (case u_class => k_is)
    (case u_mo => k_is)
    (case u_kit => (first | kernel_rfl | rfl | decide +kernel))
    (case u_kR => (first | kernel_rfl | rfl | decide +kernel))
    (case u_kV => (first | kernel_rfl | rfl | decide +kernel))
    (case m_init => (refine' L2.MeIn.mk ?a ?l ?c ?k ?n; (case a => k_is); (case l => k_is); (case c => k_is); (case k => k_is); (case n => k_is)))
    (case m_word => k_is)
    (case m_find => k_is)
    (case m_over => (first | kernel_rfl | rfl | decide +kernel))
    (case m_sa => k_is)
    (case m_any => (first | kernel_rfl | rfl | decide +kernel))
    (case m_cl => (refine' L2.XcIn.mk ?a ?b ?c; (case a => k_is); (case b => (first | kernel_rfl | rfl | decide +kernel)); (case c => k_is)))
    (case m_hd => k_is)
    (case m_kp => k_is)
    (case m_ga => k_is)
    (case m_ha => k_is)
    (case m_sb => k_is)
    (case m_class => k_is)
    (case m_mo => k_is)
    (case m_kit => (first | kernel_rfl | rfl | decide +kernel))
    (case m_kR => (first | kernel_rfl | rfl | decide +kernel))
    (case m_kV => (first | kernel_rfl | rfl | decide +kernel))
    (case v_hd => k_is)
    (case v_kp => k_is)
    (case v_ga => k_is)
    (case v_ha => k_is)
    (case v_sb => k_is)
    (case v_class => k_is)
    (case v_mo => k_is)
    (case v_kit => (first | kernel_rfl | rfl | decide +kernel))
    (case v_kR => (first | kernel_rfl | rfl | decide +kernel))
    (case v_kV => (first | kernel_rfl | rfl | decide +kernel))
    (case d_is_whole => (refine' L2.DfIn.mk ?a ?l ?c ?k; (case a => k_is); (case l => k_is); (case c => k_is); (case k => k_is)))
    (case d_first_parts => (refine' L2.DfIn.mk ?a ?l ?c ?k; (case a => k_is); (case l => k_is); (case c => k_is); (case k => k_is)))
    (case d_sizes => (refine' L2.DfIn.mk ?a ?l ?c ?k; (case a => k_is); (case l => k_is); (case c => k_is); (case k => k_is)))
    (case d_in_bounds => (refine' L2.DfIn.mk ?a ?l ?c ?k; (case a => k_is); (case l => k_is); (case c => k_is); (case k => k_is)))
    (case d_shape => (refine' L2.DfIn.mk ?a ?l ?c ?k; (case a => k_is); (case l => k_is); (case c => k_is); (case k => k_is)))
    (case d_grown => (refine' L2.DfIn.mk ?a ?l ?c ?k; (case a => k_is); (case l => k_is); (case c => k_is); (case k => k_is)))
    (case d_result_of => (refine' L2.DfIn.mk ?a ?l ?c ?k; (case a => k_is); (case l => k_is); (case c => k_is); (case k => k_is)))
    (case d_reckoned => (refine' L2.DfIn.mk ?a ?l ?c ?k; (case a => k_is); (case l => k_is); (case c => k_is); (case k => k_is)))
    (case d_by_name => (refine' L2.DfIn.mk ?a ?l ?c ?k; (case a => k_is); (case l => k_is); (case c => k_is); (case k => k_is)))
    (case d_begun_with => (refine' L2.DfIn.mk ?a ?l ?c ?k; (case a => k_is); (case l => k_is); (case c => k_is); (case k => k_is)))
    (case m_Run___init__ => (refine' L2.MeIn.mk ?a ?l ?c ?k ?n; (case a => k_is); (case l => k_is); (case c => k_is); (case k => k_is); (case n => k_is)))
    (case m_Run_begin_def => (refine' L2.MeIn.mk ?a ?l ?c ?k ?n; (case a => k_is); (case l => k_is); (case c => k_is); (case k => k_is); (case n => k_is)))
    (case m_Run_valued => (refine' L2.MeIn.mk ?a ?l ?c ?k ?n; (case a => k_is); (case l => k_is); (case c => k_is); (case k => k_is); (case n => k_is)))
    (case m_Run_outcome => (refine' L2.MeIn.mk ?a ?l ?c ?k ?n; (case a => k_is); (case l => k_is); (case c => k_is); (case k => k_is); (case n => k_is)))
    (case m_Run_let => (refine' L2.MeIn.mk ?a ?l ?c ?k ?n; (case a => k_is); (case l => k_is); (case c => k_is); (case k => k_is); (case n => k_is)))
    (case m_Run_give => (refine' L2.MeIn.mk ?a ?l ?c ?k ?n; (case a => k_is); (case l => k_is); (case c => k_is); (case k => k_is); (case n => k_is)))
    (case m_Run_go_on => (refine' L2.MeIn.mk ?a ?l ?c ?k ?n; (case a => k_is); (case l => k_is); (case c => k_is); (case k => k_is); (case n => k_is)))
    (case d_run => (refine' L2.DfIn.mk ?a ?l ?c ?k; (case a => k_is); (case l => k_is); (case c => k_is); (case k => k_is)))
    (case d__law_draw => (refine' L2.DfIn.mk ?a ?l ?c ?k; (case a => k_is); (case l => k_is); (case c => k_is); (case k => k_is)))
    (case d__law_name => (refine' L2.DfIn.mk ?a ?l ?c ?k; (case a => k_is); (case l => k_is); (case c => k_is); (case k => k_is)))
    (case d__law_stem => (refine' L2.DfIn.mk ?a ?l ?c ?k; (case a => k_is); (case l => k_is); (case c => k_is); (case k => k_is)))
    (case d__law_one_class => (refine' L2.DfIn.mk ?a ?l ?c ?k; (case a => k_is); (case l => k_is); (case c => k_is); (case k => k_is)))
    (case d__law_got => (refine' L2.DfIn.mk ?a ?l ?c ?k; (case a => k_is); (case l => k_is); (case c => k_is); (case k => k_is)))
    (case d__law_defs => (refine' L2.DfIn.mk ?a ?l ?c ?k; (case a => k_is); (case l => k_is); (case c => k_is); (case k => k_is)))
    (case d__law_stranger => (refine' L2.DfIn.mk ?a ?l ?c ?k; (case a => k_is); (case l => k_is); (case c => k_is); (case k => k_is)))
    (case d__law_odd => (refine' L2.DfIn.mk ?a ?l ?c ?k; (case a => k_is); (case l => k_is); (case c => k_is); (case k => k_is)))
    (case d__law_given => (refine' L2.DfIn.mk ?a ?l ?c ?k; (case a => k_is); (case l => k_is); (case c => k_is); (case k => k_is)))
    (case d__law_spoil => (refine' L2.DfIn.mk ?a ?l ?c ?k; (case a => k_is); (case l => k_is); (case c => k_is); (case k => k_is)))
    (case d__law_due => (refine' L2.DfIn.mk ?a ?l ?c ?k; (case a => k_is); (case l => k_is); (case c => k_is); (case k => k_is)))
    (case d_law => (refine' L2.DfIn.mk ?a ?l ?c ?k; (case a => k_is); (case l => k_is); (case c => k_is); (case k => k_is)))
    (case z_len => k_is)
    (case z_range => k_is)
    (case z_isinstance => k_is)
    (case z_int => k_is)
    (case z_bool => k_is)
    (case z_reversed => k_is)
    (case z_list => k_is)
    (case z_str => k_is)
    (case z_tuple => k_is)
    (case z_dict => k_is)
    (case z_zip => k_is)
    (case z_ValueError => k_is)
#print axioms PySem.Challenge.cw_reusewise_k38_runs_refused_holds
