import PyProof.Rows.All
import Wide.All
import OpenK.AllK
import Wide.FinOn
import Lean
import PyProof.EqAt
import PyProof.EqKinds
import PyProof.TupleCall
import PyProof.PassesOwn
import PyProof.StationsW
import OpenK.KCls
import PyProof.ExcAttrAll.ValueError
import PyProof.ExcClass3
import PyProof.WalksEnum
import PyProof.EnumMake
import PyProof.EnumFor
import PyProof.EnumStmt
import KE.KRevIter
import PyProof.AutoSeq1
import PyProof.FactsAll.list
import PyProof.MeetsStr
import PyProof.StrLawsTight
import PyProof.NeKinds
import PyProof.Rows.SumAny
import PyProof.SeqI3
import PyProof.ZipIter
import PyProof.WalksMore
import PyProof.ListNew
import PyProof.IsRules
import PyProof.StrBlockL
import PyProof.StrBlockI
import PyProof.StrBlock2
import PyProof.StrLawsIn
import PyProof.StrLawsChain
import PyProof.Rows.StrLast
import PyProof.Rows.StrItems
import KE.IntTextText
import KE.KItemsList
import KE.KDictList
import KE.KLam
import KE.KNestM
import PyProof.IsiTupleOf
import KE.KDictSum
import PyProof.Rows.SortWalk
import KE.KDictOf
import KE.KIntText
import PyProof.AttrMissHeap
import PyProof.Walks
import PyProof.Rows.Range3
import PySem.Challenge.RW_reusewise_k25_deeds_looked_through
set_option Elab.async false
set_option linter.all false
set_option maxRecDepth 100000
set_option maxHeartbeats 4000000
namespace L2
open PySem PySem.Spec PyProof.Rows
abbrev Key := Sum Int Str
def keyIs : Key -> Value -> Bool
  | .inl k, v => Value.isInt k v
  | .inr x, v => Value.isStrOf x v
def keyH (w : World) : Key -> Int
  | .inl k => hashInt k
  | .inr x => hashStr w x
theorem keyIs_shape : ∀ {k : Key} {v : Value}, keyIs k v = true -> (∃ i t, k = Sum.inl i /\ v = Value.int i t) \/ (∃ x t, k = Sum.inr x /\ v = Value.str x t)
  | .inl i, v, h => by
    obtain ⟨t, e⟩ := Value.isInt_shape (k := i) (v := v) h
    exact .inl ⟨i, t, rfl, e⟩
  | .inr x, v, h => by
    obtain ⟨t, e⟩ := Value.isStrOf_shape (x := x) (v := v) h
    exact .inr ⟨x, t, rfl, e⟩
theorem keyIs_int (i : Int) (t : Tok) : keyIs (.inl i) (.int i t) = true := by simp [keyIs, Value.isInt]
theorem keyIs_str (x : Str) (t : Tok) : keyIs (.inr x) (.str x t) = true := by simp [keyIs, Value.isStrOf]
theorem key_ll (a b : Int) : decide ((Sum.inl a : Key) = Sum.inl b) = (a == b) := by
  by_cases e : a = b
  · subst e; simp
  · have h : ¬ (Sum.inl a : Key) = Sum.inl b := fun q => e (Sum.inl.inj q)
    rw [decide_eq_false h]
    exact (beq_eq_false_iff_ne.mpr e).symm
theorem key_rr (a b : Str) : decide ((Sum.inr a : Key) = Sum.inr b) = decide (a = b) := by
  by_cases e : a = b
  · subst e; simp
  · have h : ¬ (Sum.inr a : Key) = Sum.inr b := fun q => e (Sum.inr.inj q)
    rw [decide_eq_false h, decide_eq_false e]
theorem key_lr (a : Int) (b : Str) : decide ((Sum.inl a : Key) = Sum.inr b) = false := decide_eq_false (fun q => nomatch q)
theorem key_rl (a : Str) (b : Int) : decide ((Sum.inr a : Key) = Sum.inl b) = false := decide_eq_false (fun q => nomatch q)
def mixKind (prog : Program) (w : World) : PySem.KeyKind prog w Key where
  is := keyIs
  hash := keyH w
  inj := fun v a b ha hb => by
    rcases keyIs_shape ha with ⟨i, t, rfl, rfl⟩ | ⟨x, t, rfl, rfl⟩
    · rcases keyIs_shape hb with ⟨j, u, rfl, e⟩ | ⟨y, u, rfl, e⟩
      · injection e with e1 _; rw [e1]
      · exact nomatch e
    · rcases keyIs_shape hb with ⟨j, u, rfl, e⟩ | ⟨y, u, rfl, e⟩
      · exact nomatch e
      · injection e with e1 _; rw [e1]
  byValue := fun k v h => by
    rcases keyIs_shape h with ⟨i, t, rfl, rfl⟩ | ⟨x, t, rfl, rfl⟩ <;> rfl
  pyHash := fun hv h => by
    rcases keyIs_shape hv with ⟨i, t, rfl, rfl⟩ | ⟨x, t, rfl, rfl⟩
    · exact wpAny_pyHash_int h
    · exact wpAny_pyHash_str h
  eqBool := fun hu hv h => by
    rcases keyIs_shape hu with ⟨i, t, rfl, rfl⟩ | ⟨x, t, rfl, rfl⟩
    · rcases keyIs_shape hv with ⟨j, u, rfl, rfl⟩ | ⟨y, u, rfl, rfl⟩
      · rw [key_ll] at h; exact wpAny_eqBool_int h
      · rw [key_lr] at h; exact SeqAt.EqAt.int_str i t y u _ _ _ _ h
    · rcases keyIs_shape hv with ⟨j, u, rfl, rfl⟩ | ⟨y, u, rfl, rfl⟩
      · rw [key_rl] at h; exact SeqAt.EqAt.str_int x t j u _ _ _ _ h
      · rw [key_rr] at h; exact wpAny_eqBool_str h
  «strs» := fun k x t v h => by
    rcases keyIs_shape h with ⟨i, u, rfl, e⟩ | ⟨y, u, rfl, e⟩
    · exact nomatch e
    · injection e with e1 _
      subst e1
      cases v <;> rfl
theorem mixKind_int (prog : Program) (w : World) (i : Int) (t : Tok) : (mixKind prog w).is (.inl i) (.int i t) = true := keyIs_int i t
theorem mixKind_str (prog : Program) (w : World) (x : Str) (t : Tok) : (mixKind prog w).is (.inr x) (.str x t) = true := keyIs_str x t
end L2
namespace L2
open PySem PySem.Spec PyProof.Rows
inductive V where
  | non | bl (b : Bool) | int (i : Int) | str (x : Str) | byt (b : Array UInt8) | flt (b : UInt64) | ref (a : Addr) | ty (n : String)
  deriving DecidableEq
def RelV : V -> Value -> Prop
  | .non, u => u = Value.none
  | .bl b, u => u = Value.bool b
  | .int i, u => ∃ t, u = Value.int i t
  | .str x, u => ∃ t, u = Value.str x t
  | .byt b, u => ∃ t, u = Value.bytes b t
  | .flt b, u => ∃ t, u = Value.float b t
  | .ref a, u => u = Value.ref a
  | .ty n, u => u = Value.type n
abbrev Vals : List V -> List Value -> Prop := Paired RelV
theorem Vals.length {xs : List V} {us : List Value} (r : Vals xs us) : xs.length = us.length := Paired.length r
theorem Vals.get : ∀ {xs : List V} {us : List Value} {i : Nat} {x : V}, Vals xs us -> xs[i]? = some x -> ∃ u, us[i]? = some u /\ RelV x u
  | _, _, _, _, .nil, e => by simp at e
  | _, _, 0, _, .cons r _, e => by simp at e; subst e; exact ⟨_, rfl, r⟩
  | _, _, i + 1, x, .cons _ t, e => by
    obtain ⟨u, h1, h2⟩ := Vals.get (i := i) (x := x) t (by simpa using e)
    exact ⟨u, by simpa using h1, h2⟩
theorem Vals.set {x : V} {u : Value} (r : RelV x u) : ∀ {xs : List V} {us : List Value} (i : Nat), Vals xs us -> Vals (xs.set i x) (us.set i u)
  | _, _, _, .nil => .nil
  | _, _, 0, .cons _ t => .cons r t
  | _, _, i + 1, .cons q t => .cons q (Vals.set r i t)
theorem Vals.append : ∀ {xs ys : List V} {us ws : List Value}, Vals xs us -> Vals ys ws -> Vals (xs ++ ys) (us ++ ws)
  | _, _, _, _, .nil, s => s
  | _, _, _, _, .cons r t, s => .cons r (Vals.append t s)
theorem Vals.take : ∀ {xs : List V} {us : List Value} (n : Nat), Vals xs us -> Vals (xs.take n) (us.take n)
  | _, _, 0, _ => .nil
  | _, _, _ + 1, .nil => .nil
  | _, _, n + 1, .cons r t => .cons r (Vals.take n t)
theorem Vals.drop : ∀ {xs : List V} {us : List Value} (n : Nat), Vals xs us -> Vals (xs.drop n) (us.drop n)
  | _, _, 0, r => r
  | _, _, _ + 1, .nil => .nil
  | _, _, n + 1, .cons _ t => Vals.drop n t
def RelO : Option V -> Option Value -> Prop
  | some v, some u => RelV v u
  | none, none => True
  | _, _ => False
def KV {κ : Type} : List (κ × V) -> List (κ × Value) -> Prop := Paired fun (p : κ × V) (q : κ × Value) => p.1 = q.1 /\ RelV p.2 q.2
def kV : Key -> V
  | .inl i => .int i
  | .inr x => .str x
inductive HO where
  | lst (xs : List V)
  | tup (xs : List V)
  | dK (kvs : List (Key × V)) | dT (kvs : List (List Key × V))
  | set (S : Int -> Bool) (n : Nat)
  | ins (C dx : Addr) (fs : List (Str × V))
  | own (x : Addr)
  | xd (fs : List (Str × V))
  | met (f x : Addr)
  | rng (lo hi : Int)
  | frz (o : Obj) (u : HO)
  | tbl (ps : Array Value)
  | ext (φ : Heap -> Prop)
abbrev Hp := Addr -> Option HO
def upd (H : Hp) (a : Addr) (o : HO) : Hp := fun b => if b = a then some o else H b
theorem upd_same {H : Hp} {a : Addr} {o : HO} : upd H a o a = some o := by unfold upd; rw [if_pos rfl]
theorem upd_ne {H : Hp} {a b : Addr} {o : HO} (h : b ≠ a) : upd H a o b = H b := by unfold upd; rw [if_neg h]
theorem ne_of {H : Hp} {a b : Addr} {o u : HO} (h : H a = some o) (h' : H b = some u) (d : o ≠ u) : a ≠ b := by
  intro e; subst e; rw [h] at h'; exact d (Option.some.inj h')
theorem ne_of_none {H : Hp} {a b : Addr} {o : HO} (h : H a = some o) (h' : H b = none) : a ≠ b := by
  intro e; subst e; rw [h] at h'; cases h'
section
variable (P : Program) (w : World)
def ObjOk (H : Hp) (h : Heap) (a : Addr) : HO -> Prop
  | .lst xs => xs.length <= sizeLine /\ ∃ (its : List Value) (n : Nat), Vals xs its /\ h.get? a = some { cls := .type "list", data := .seq its.toArray n }
  | .tup xs => xs.length <= sizeLine /\ ∃ its : List Value, Vals xs its /\ IsTup h a its.toArray
  | .dK kvs => kvs.length <= sizeLine /\ (a == sysModules) = false /\ ∃ vs, KV kvs vs /\ h.DictOf (mixKind P w) a vs
  | .dT kvs => kvs.length <= sizeLine /\ (a == sysModules) = false /\ ∃ xs : List (List Key × Addr × Value),
      Paired (fun (p : List Key × V) (q : List Key × Addr × Value) => p.1 = q.1 /\ H q.2.1 = some (.tup (p.1.map kV)) /\ RelV p.2 q.2.2) kvs xs /\
      ∃ o es ep, h.get? a = some o /\ o.ExactDict /\ o.data = .dict es ep /\ es.toList = xs.map (entryOfKey (tupleKind (mixKind P w))) /\ (xs.map (·.1)).Nodup
  | .set S n => h.SetOf (intKind P w) a S n
  | .ins C dx fs => H dx = some (.own a) /\ fs.length <= 1000 /\ dx ≠ a /\ h.get? a = some (PySem.W.instObj C dx) /\
      ∃ mA, h.Ns1 dx mA /\ (∀ f, RelO (fs.lookup f) (mA f)) /\ PySem.Within mA (fs.map (·.1))
  | .own _ => ∃ o, h.get? a = some o
  | .xd fs => ∃ mA, h.Ns1 a mA /\ ∀ f, RelO (fs.lookup f) (mA f)
  | .rng lo hi => ∃ t u v, h.get? a = some { cls := .type "range", data := .fields #[.int lo t, .int hi u, .int 1 v] }
  | .frz o u => h.get? a = some o /\ ObjOk H h a u
  | .tbl ps => h.get? a = some { cls := .none, data := .fields ps }
  | .met f x => h.get? a = some (PySem.W.methodObj (.ref f) (.ref x))
  | .ext φ => φ h /\ (∃ o, h.get? a = some o) /\ ∀ h1 h2 : Heap, φ h1 -> (∀ o, h1.get? a = some o -> h2.get? a = some o) -> φ h2
def HOk (H : Hp) (h : Heap) : Prop := ∀ a o, H a = some o -> ObjOk P w H h a o
end
section
variable {P : Program} {w : World} {H H' : Hp} {h h' : Heap} {a : Addr} {o : HO}
theorem ObjOk.lt (x : ObjOk P w H h a o) : a < h.objs.size := by
  cases o with
  | lst xs => obtain ⟨_, _, _, _, e⟩ := x; exact Heap.lt_size e
  | tup xs => obtain ⟨_, _, _, p⟩ := x; exact p.lt
  | dK kvs => obtain ⟨_, _, _, _, o, _, _, e, _⟩ := x; exact Heap.lt_size e
  | dT kvs => obtain ⟨_, _, _, _, o, _, _, e, _⟩ := x; exact Heap.lt_size e
  | set S n => obtain ⟨o, _, _, _, e, _⟩ := x; exact Heap.lt_size e
  | ins C dx fs => obtain ⟨_, _, _, e, _⟩ := x; exact Heap.lt_size e
  | own y => obtain ⟨_, e⟩ := x; exact Heap.lt_size e
  | xd fs => obtain ⟨_, ⟨_, _, _, e, _⟩, _⟩ := x; exact Heap.lt_size e
  | rng lo hi => obtain ⟨_, _, _, e⟩ := x; exact Heap.lt_size e
  | frz ob u => obtain ⟨e, _⟩ := x; exact Heap.lt_size e
  | tbl ps => exact Heap.lt_size (show h.get? a = some _ from x)
  | met f y => exact Heap.lt_size (show h.get? a = some _ from x)
  | ext φ => obtain ⟨_, ⟨_, e⟩, _⟩ := x; exact Heap.lt_size e
theorem Paired.mapP {α β : Type} {F G : α -> β -> Prop} : ∀ {l₁ : List α} {l₂ : List β}, Paired F l₁ l₂ -> (∀ a b, F a b -> G a b) -> Paired G l₁ l₂
  | _, _, .nil, _ => .nil
  | _, _, .cons r t, f => .cons (f _ _ r) (Paired.mapP t f)
theorem ObjOk.stay (x : ObjOk P w H h a o) (k : ∀ b u, (b = a \/ H b = some (.own a)) -> h.get? b = some u -> h'.get? b = some u)
    (ho : ∀ b, H b = some (.own a) -> H' b = some (.own a)) (ht : ∀ b xs, H b = some (.tup xs) -> H' b = some (.tup xs)) : ObjOk P w H' h' a o := by
  induction o with
  | lst xs => obtain ⟨z, its, n, r, e⟩ := x; exact ⟨z, its, n, r, k _ _ (.inl rfl) e⟩
  | tup xs => obtain ⟨z, its, r, ob, e, c⟩ := x; exact ⟨z, its, r, ob, k _ _ (.inl rfl) e, c⟩
  | dK kvs => obtain ⟨z, y, vs, r, ob, es, ep, e, c⟩ := x; exact ⟨z, y, vs, r, ob, es, ep, k _ _ (.inl rfl) e, c⟩
  | dT kvs =>
    obtain ⟨z, y, xs, r, ob, es, ep, e, c⟩ := x
    exact ⟨z, y, xs, Paired.mapP r fun p q z => ⟨z.1, ht _ _ z.2.1, z.2.2⟩, ob, es, ep, k _ _ (.inl rfl) e, c⟩
  | set S n => obtain ⟨ob, es, ep, t, e, c⟩ := x; exact ⟨ob, es, ep, t, k _ _ (.inl rfl) e, c⟩
  | ins C dx fs =>
    obtain ⟨d, z, ne, e, mA, ⟨od, es, ep, e2, c⟩, r⟩ := x
    exact ⟨ho _ d, z, ne, k _ _ (.inl rfl) e, mA, ⟨od, es, ep, k _ _ (.inr d) e2, c⟩, r⟩
  | own y => obtain ⟨ob, e⟩ := x; exact ⟨ob, k _ _ (.inl rfl) e⟩
  | xd fs => obtain ⟨mA, ⟨od, es, ep, e, c⟩, r⟩ := x; exact ⟨mA, ⟨od, es, ep, k _ _ (.inl rfl) e, c⟩, r⟩
  | rng lo hi => obtain ⟨t, u, v, e⟩ := x; exact ⟨t, u, v, k _ _ (.inl rfl) e⟩
  | frz ob u ih => obtain ⟨e, q⟩ := x; exact ⟨k _ _ (.inl rfl) e, ih q⟩
  | tbl ps =>
    have e : h.get? a = some { cls := .none, data := .fields ps } := x
    show h'.get? a = some { cls := .none, data := .fields ps }
    exact k a _ (.inl rfl) e
  | met f y =>
    have e : h.get? a = some (PySem.W.methodObj (.ref f) (.ref y)) := x
    show h'.get? a = some (PySem.W.methodObj (.ref f) (.ref y))
    exact k a _ (.inl rfl) e
  | ext φ => obtain ⟨p, ⟨o, e⟩, st⟩ := x; exact ⟨st _ _ p fun o q => k _ _ (.inl rfl) q, ⟨o, k _ _ (.inl rfl) e⟩, st⟩
theorem HOk.lt (x : HOk P w H h) (e : H a = some o) : a < h.objs.size := (x a o e).lt
theorem HOk.fresh (x : HOk P w H h) (e : h.objs.size <= a) : H a = none := by
  cases q : H a with
  | none => rfl
  | some u => exact absurd (Nat.lt_of_lt_of_le (x.lt q) e) (Nat.lt_irrefl _)
theorem HOk.kept (x : HOk P w H h) (k : ∀ b u, h.get? b = some u -> h'.get? b = some u) : HOk P w H h' := fun a o e =>
  (x a o e).stay (fun b u _ q => k b u q) (fun _ q => q) fun _ _ q => q
theorem HOk.laid (x : HOk P w H h) (k : ∀ b u, h.get? b = some u -> h'.get? b = some u) (hp : h.objs.size <= a) (new : ObjOk P w (upd H a o) h' a o) : HOk P w (upd H a o) h' := fun b u e => by
  have hn := x.fresh hp
  by_cases hb : b = a
  · subst hb; rw [upd_same] at e; cases e; exact new
  · rw [upd_ne hb] at e
    exact (x b u e).stay (fun c v _ q => k c v q) (fun c q => by rw [upd_ne (ne_of_none q hn)]; exact q) fun c xs q => by rw [upd_ne (ne_of_none q hn)]; exact q
end
def Rd (H : Hp) (a : Addr) (u : HO) : Prop := H a = some u \/ ∃ o, H a = some (.frz o u)
theorem Rd.of {H : Hp} {a : Addr} {u : HO} (h : H a = some u) : Rd H a u := .inl h
theorem Rd.ok {P : Program} {w : World} {H : Hp} {h : Heap} {a : Addr} {u : HO} (r : Rd H a u) (x : HOk P w H h) : ObjOk P w H h a u := by
  rcases r with r | ⟨o, r⟩
  · exact x a u r
  · obtain ⟨_, q⟩ := x a _ r
    exact q
def Mut : Option HO -> Prop
  | some (.lst _) => True
  | some (.dK _) => True
  | some (.dT _) => True
  | some (.set _ _) => True
  | some (.ins _ _ _) => True
  | some (.ext _) => True
  | _ => False
section
variable {P : Program} {w : World} {H : Hp} {h h' : Heap} {x e : Addr} {o' : HO}
theorem HOk.write (ok : HOk P w H h) (mu : Mut (H x)) (he : e = x \/ H e = some (.own x)) (k : ∀ b u, b ≠ e -> h.get? b = some u -> h'.get? b = some u) (heo : ∃ u, h'.get? e = some u)
    (new : ObjOk P w (upd H x o') h' x o') : HOk P w (upd H x o') h' := fun b u q => by
  have nown : ∀ c y, H c = some (.own y) -> c ≠ x := fun c y r z => by subst z; rw [r] at mu; exact mu
  have ntup : ∀ c xs, H c = some (.tup xs) -> c ≠ x := fun c xs r z => by subst z; rw [r] at mu; exact mu
  by_cases hb : b = x
  · subst hb; rw [upd_same] at q; cases q; exact new
  · rw [upd_ne hb] at q
    by_cases hbe : b = e
    · have q' : H b = some (.own x) := by
        rcases he with z | z
        · exact absurd (hbe.trans z) hb
        · rw [hbe]; exact z
      rw [q] at q'; cases q'
      obtain ⟨v, hv⟩ := heo
      exact ⟨v, by rw [hbe]; exact hv⟩
    · refine (ok b u q).stay (fun c v hc r => k c v ?_ r) (fun c r => by rw [upd_ne (nown c b r)]; exact r) fun c xs r => by rw [upd_ne (ntup c xs r)]; exact r
      rcases hc with rfl | hc
      · exact hbe
      · rintro rfl
        rcases he with z | z
        · exact nown c b hc z
        · rw [hc] at z; cases z; exact hb rfl
end
structure Un (fs ex : List Addr) (H H' : Hp) (h h' : Heap) : Prop where
  keep : ∀ b o, h.get? b = some o -> H b = none -> b ∉ fs -> b ∉ ex -> h'.get? b = some o
  slot : ∀ b o, h.get? b = some o -> H b = none -> b ∈ fs -> b ∉ ex -> ∃ sl, h'.get? b = some { o with slots := sl }
  free : ∀ b o, h.get? b = some o -> H b = none -> b ∉ ex -> H' b = none
  there : ∀ b o, h.get? b = some o -> b ∉ ex -> ∃ o', h'.get? b = some o'
  tups : ∀ b xs, H b = some (.tup xs) -> H' b = some (.tup xs)
  frzs : ∀ b o u, H b = some (.frz o u) -> H' b = some (.frz o u)
  tbls : ∀ b ps, H b = some (.tbl ps) -> ∃ more, H' b = some (.tbl (ps ++ more))
section
variable {fs fs' ex ex' : List Addr} {H H1 H2 : Hp} {h h1 h2 h' : Heap} {a x e : Addr} {o : HO}
theorem Un.any (u : Un fs ex H H1 h h1) {b : Addr} {ob : Obj} (q : h.get? b = some ob) (n : H b = none) (hx : b ∉ ex) : ∃ sl, h1.get? b = some { ob with slots := sl } := by
  by_cases hb : b ∈ fs
  · exact u.slot b ob q n hb hx
  · exact ⟨ob.slots, u.keep b ob q n hb hx⟩
theorem Un.trans (a : Un fs ex H H1 h h1) (b : Un fs ex H1 H2 h1 h2) : Un fs ex H H2 h h2 where
  keep := fun c ob q n hc hx => b.keep c ob (a.keep c ob q n hc hx) (a.free c ob q n hx) hc hx
  slot := fun c ob q n hc hx => by
    obtain ⟨sl, e1⟩ := a.slot c ob q n hc hx
    obtain ⟨sl', e2⟩ := b.slot c _ e1 (a.free c ob q n hx) hc hx
    exact ⟨sl', e2⟩
  free := fun c ob q n hx => by
    obtain ⟨o', e1⟩ := a.there c ob q hx
    exact b.free c o' e1 (a.free c ob q n hx) hx
  there := fun c ob q hx => by
    obtain ⟨o', e1⟩ := a.there c ob q hx
    exact b.there c o' e1 hx
  tups := fun c xs q => b.tups c xs (a.tups c xs q)
  frzs := fun c ob xs q => b.frzs c ob xs (a.frzs c ob xs q)
  tbls := fun c ps q => by
    obtain ⟨m1, e1⟩ := a.tbls c ps q
    obtain ⟨m2, e2⟩ := b.tbls c _ e1
    exact ⟨m1 ++ m2, by rw [e2, Array.append_assoc]⟩
theorem Un.kept (k : ∀ b u, h.get? b = some u -> h'.get? b = some u) : Un fs ex H H h h' :=
  ⟨fun b ob q _ _ _ => k b ob q, fun b ob q _ _ _ => ⟨ob.slots, k b ob q⟩, fun _ _ _ n _ => n, fun b ob q _ => ⟨ob, k b ob q⟩, fun _ _ q => q, fun _ _ _ q => q, fun _ ps q => ⟨#[], by rw [q]; simp⟩⟩
theorem Un.refl : Un fs ex H H h h := Un.kept fun _ _ q => q
theorem Un.laid (k : ∀ b u, h.get? b = some u -> h'.get? b = some u) (hp : h.objs.size <= a) (hn : H a = none) : Un fs ex H (upd H a o) h h' where
  keep := fun b u q _ _ _ => k b u q
  slot := fun b u q _ _ _ => ⟨u.slots, k b u q⟩
  free := fun b u q n _ => by rw [upd_ne (Nat.ne_of_lt (Nat.lt_of_lt_of_le (Heap.lt_size q) hp))]; exact n
  there := fun b u q _ => ⟨u, k b u q⟩
  tups := fun b xs q => by rw [upd_ne (ne_of_none q hn)]; exact q
  frzs := fun b u xs q => by rw [upd_ne (ne_of_none q hn)]; exact q
  tbls := fun b ps q => ⟨#[], by rw [upd_ne (ne_of_none q hn), q]; simp⟩
theorem Un.write (mu : Mut (H x)) (he : e = x \/ H e = some (.own x)) (k : ∀ b u, b ≠ e -> h.get? b = some u -> h'.get? b = some u) (heo : ∃ u, h'.get? e = some u) : Un fs ex H (upd H x o) h h' := by
  have hx : ∀ b, H b = none -> b ≠ x := fun b n z => by subst z; rw [n] at mu; exact mu
  have hb : ∀ b, H b = none -> b ≠ e := fun b n z => by
    subst z
    rcases he with r | r
    · exact hx b n r
    · rw [n] at r; cases r
  have hm : ∀ b u, H b = some u -> ¬ Mut (some u) -> b ≠ x := fun b u q nm z => by subst z; rw [q] at mu; exact nm mu
  refine ⟨fun b u q n _ _ => k b u (hb b n) q, fun b u q n _ _ => ⟨u.slots, k b u (hb b n) q⟩, fun b u q n _ => by rw [upd_ne (hx b n)]; exact n, fun b u q _ => ?_,
    fun b xs q => by rw [upd_ne (hm b _ q fun z => z)]; exact q, fun b u xs q => by rw [upd_ne (hm b _ q fun z => z)]; exact q, fun b ps q => ⟨#[], by rw [upd_ne (hm b _ q fun z => z), q]; simp⟩⟩
  by_cases hbe : b = e
  · subst hbe; exact heo
  · exact ⟨u, k b u hbe q⟩
theorem Un.mono (u : Un fs ex H H1 h h1) (hs : ∀ b ∈ fs, b ∈ fs') (hx : ∀ b ∈ ex, b ∈ ex') : Un fs' ex' H H1 h h1 :=
  ⟨fun b ob q n hb he => u.keep b ob q n (fun z => hb (hs b z)) fun z => he (hx b z), fun _ _ q n _ he => u.any q n fun z => he (hx _ z), fun b ob q n he => u.free b ob q n fun z => he (hx b z), fun b ob q he => u.there b ob q fun z => he (hx b z), u.tups, u.frzs, u.tbls⟩
end
def trk (h : Heap) (H : Hp) : List Addr := (List.range h.objs.size).filter fun a => (H a).isSome
def hidT (h : Heap) (H : Hp) : Heap := PySem.W.hideAll h (trk h H)
theorem hidT_size (h : Heap) (H : Hp) : (hidT h H).objs.size = h.objs.size := PySem.W.hideAll_size _ _
theorem hidT_get {h : Heap} {H : Hp} {b : Addr} {o : Obj} (e : h.get? b = some o) (n : H b = none) : (hidT h H).get? b = some o :=
  PySem.W.hideAll_get _ e fun hm => by
    have q : (H b).isSome = true := (List.mem_filter.mp hm).2
    rw [n] at q; simp at q
theorem of_hidT {h : Heap} {H : Hp} {b : Addr} {o : Obj} (e : (hidT h H).get? b = some o) : h.get? b = some o /\ H b = none := by
  have e' : h.get? b = some o := PySem.W.of_hideAll (trk h H) e
  refine ⟨e', ?_⟩
  cases q : H b with
  | none => rfl
  | some x =>
    have hm : b ∈ trk h H := List.mem_filter.mpr ⟨List.mem_range.mpr (Heap.lt_size e'), by simp [q]⟩
    have z : (hidT h H).get? b = none := PySem.W.hideAll_none (trk h H) hm
    rw [z] at e; cases e
def allNews (g h : Heap) (L : Addr) : List (Addr × Obj) := (List.range h.objs.size).filterMap fun a => if a = L \/ (g.get? a).isSome = true then none else (h.get? a).map fun o => (a, o)
def rest (g h : Heap) (L d : Addr) : List (Addr × Obj) := (allNews g h L).filter fun p => decide (p.1 ≠ d)
end L2
namespace L2
open PySem PySem.Spec PyProof.Rows
structure Mod (K : PySem.W.Frag) (mg : Str -> Option Value) (base : Heap) : Prop where
  kin : K.In base
  glob : base.Ns mainGlobals mg
  blt : ∃ mb, base.Ns builtinsNs mb /\ ∀ x : Str, x ≠ "__name__" -> mb x = bootBuiltins x
  nolimit : base.NoLimit
/-- the context: a def's body (or a comprehension's block) running. base: fixed through the whole law; s₀, H₀: the entry; outer: the frames whose slots others may change (a def's callers); stack: all frames that run;
   ex: iterators that were made ahead of the entry and are walked here (a comprehension's); fn: the names whose cells were made at the entry (a def: all; a comprehension's block: its own); calm: not within an except suite; pn: pins that every state bears; xe: what is wanted of an exception that leaves the code -/
structure Cx where
  prog : Program
  w : World
  K : PySem.W.Frag
  mg : Str -> Option Value
  base : Heap
  A : Around
  N : List Str
  s₀ : Shared
  H₀ : Hp
  env : Env
  outer : List Env
  stack : List Env
  ex : List Addr
  fn : Str -> Bool
  calm : Bool
  pn : List (Addr × Obj)
  xe : Value -> Shared -> Prop
def frs (l : List Env) : List Addr := l.filterMap (·.frame)
abbrev Cx.fs (X : Cx) : List Addr := frs X.outer
def Vis (sc : Scope) (x : Str) : Prop := sc.names.lookup x = some .local \/ sc.names.lookup x = some .cell \/ sc.names.lookup x = some .free
def Loc (sc : Scope) (x : Str) : Prop := sc.names.lookup x = some .local \/ sc.names.lookup x = some .cell
def Look (env : Env) (h : Heap) (m : Str -> Option Value) (x : Str) (u : Value) : Prop :=
  (env.kindOf x = some .local /\ m x = some u) \/ ((env.kindOf x = some .cell \/ env.kindOf x = some .free) /\ ∃ c, env.cells.lookup x = some c /\ h.IsCell c (some u))
structure Cx.Ok (X : Cx) : Prop where
  mod : Mod X.K X.mg X.base
  kind : X.env.scope.kind = .function
  glob : X.env.globals = mainGlobals
  blt : X.env.builtins = builtinsNs
  above : X.s₀.heap.objs.size <= X.env.locals
  inj : ∀ x y c, X.env.cells.lookup x = some c -> X.env.cells.lookup y = some c -> x = y
  has : ∀ x, (X.env.kindOf x = some .cell \/ X.env.kindOf x = some .free) -> ∃ c, X.env.cells.lookup x = some c
  cab : ∀ x c, X.fn x = true -> X.env.cells.lookup x = some c -> X.s₀.heap.objs.size <= c
  hd : X.calm = true -> X.A.handled = none
  frames : X.A.frames = some X.stack
  stk : X.stack = X.outer \/ (X.stack = X.env :: X.outer /\ X.env.frame = some X.env.locals)
  exf : ∀ b ∈ X.ex, b ≠ X.env.locals /\ ∀ x c, X.env.cells.lookup x = some c -> c ≠ b
  bs : ∀ b o, X.base.get? b = some o -> X.s₀.heap.get? b = some o /\ X.H₀ b = none
  bsz : X.base.objs.size <= X.s₀.heap.objs.size
  noex : ∀ b o, X.base.get? b = some o -> b ∉ X.ex
  exfs : ∀ b ∈ X.ex, b ∉ X.fs
  funs : X.s₀.heap.FunFrames X.base X.outer
  frf : ∀ b ∈ X.fs, X.H₀ b = none
structure Inv (X : Cx) (pins : List (Addr × Obj)) (σ : List (Option V)) (H : Hp) (s : Shared) : Prop where
  ok : X.Ok
  os : s.os = X.s₀.os
  bare : AllBare s.gens
  base : Un X.fs X.ex X.H₀ H X.s₀.heap s.heap
  loc : ∃ m, s.heap.Ns X.env.locals m /\ ∀ (i : Nat) (x : Str) (v : V), X.N[i]? = some x -> σ[i]? = some (some v) -> Vis X.env.scope x -> ∃ u, RelV v u /\ Look X.env s.heap m x u
  cell : ∀ x c, X.env.cells.lookup x = some c -> ∃ v, s.heap.IsCell c v
  free : H X.env.locals = none
  freeC : ∀ x c, X.env.cells.lookup x = some c -> H c = none
  pin : ∀ p ∈ X.pn ++ pins, s.heap.get? p.1 = some p.2 /\ H p.1 = none /\ p.1 ≠ X.env.locals /\ p.1 ∉ X.fs /\ ∀ v, p.2.data ≠ .cell v
  hok : HOk X.prog X.w H s.heap
  len : σ.length = X.N.length
section
variable {X : Cx} {pins : List (Addr × Obj)} {σ : List (Option V)} {H H' : Hp} {s : Shared} {h' : Heap}
theorem Cx.Ok.nofr (ok : X.Ok) {b : Addr} {o : Obj} (e : X.base.get? b = some o) : b ∉ X.fs := fun hb => by
  have := (ok.funs.mem hb).1
  rw [e] at this; cases this
theorem Inv.bs (I : Inv X pins σ H s) : ∀ b o, X.base.get? b = some o -> s.heap.get? b = some o /\ H b = none := fun b o e =>
  ⟨I.base.keep b o (I.ok.bs b o e).1 (I.ok.bs b o e).2 (I.ok.nofr e) (I.ok.noex b o e), I.base.free b o (I.ok.bs b o e).1 (I.ok.bs b o e).2 (I.ok.noex b o e)⟩
theorem Inv.bk (I : Inv X pins σ H s) : ∀ b o, X.base.get? b = some o -> s.heap.get? b = some o := fun b o e => (I.bs b o e).1
theorem Inv.mod (I : Inv X pins σ H s) : Mod X.K X.mg X.base := I.ok.mod
theorem Inv.kIn (I : Inv X pins σ H s) : X.K.In s.heap := I.ok.mod.kin.keeps I.bk
theorem Inv.nolimit (I : Inv X pins σ H s) : s.heap.NoLimit := I.ok.mod.nolimit.keeps I.bk
theorem Inv.fr (I : Inv X pins σ H s) : ∃ m, Fr X.base X.env.locals s.heap m :=
  let ⟨m, hn, _⟩ := I.loc
  ⟨m, hn, I.bk, Nat.le_trans I.ok.bsz I.ok.above⟩
theorem Inv.lt (I : Inv X pins σ H s) : X.env.locals < s.heap.objs.size := let ⟨_, hn, _⟩ := I.loc; hn.lt
theorem Inv.sz (I : Inv X pins σ H s) : X.s₀.heap.objs.size <= s.heap.objs.size := Nat.le_trans I.ok.above (Nat.le_of_lt I.lt)
theorem Inv.nofs (I : Inv X pins σ H s) {a : Addr} (h : s.heap.objs.size <= a) : a ∉ X.fs := fun hb => by
  obtain ⟨_, o, ho, _⟩ := I.ok.funs.mem hb
  exact absurd (Nat.lt_of_lt_of_le (Heap.lt_size ho) (Nat.le_trans I.sz h)) (Nat.lt_irrefl _)
theorem Inv.cne (I : Inv X pins σ H s) : ∀ x c, X.env.cells.lookup x = some c -> c ≠ X.env.locals := fun x c e z => by
  obtain ⟨v, o, ho, hd⟩ := I.cell x c e
  obtain ⟨m, ⟨o', es, ep, ho', hd', _⟩, _⟩ := I.loc
  rw [z, ho'] at ho; cases ho; rw [hd'] at hd; cases hd
theorem Inv.funs (I : Inv X pins σ H s) : s.heap.FunFrames X.base X.outer := by
  have all : ∀ (l : List Env), (∀ b ∈ frs l, b ∈ X.fs) -> X.s₀.heap.FunFrames X.base l -> s.heap.FunFrames X.base l := by
    intro l
    induction l with
    | nil => intro _ _; trivial
    | cons env r ih =>
      intro hs hl
      obtain ⟨hk, ⟨L, o, hf, hn, ho, hd⟩, hr⟩ := hl
      have hL : L ∈ X.fs := hs L (by unfold frs; rw [List.filterMap_cons, hf]; exact List.mem_cons_self)
      obtain ⟨sl, e⟩ := I.base.slot L o ho (I.ok.frf L hL) hL fun z => I.ok.exfs L z hL
      exact ⟨hk, ⟨L, _, hf, hn, e, hd⟩, ih (fun b hb => hs b (by unfold frs; rw [List.filterMap_cons, hf]; exact List.mem_cons_of_mem _ hb)) hr⟩
  exact all X.outer (fun _ hb => hb) I.ok.funs
theorem Inv.stack (I : Inv X pins σ H s) : s.heap.FunFrames X.base X.stack := by
  rcases I.ok.stk with e | ⟨e, hf⟩
  · rw [e]; exact I.funs
  · rw [e]
    obtain ⟨m, hn, _⟩ := I.loc
    refine .cons (by rw [I.ok.kind]; decide) hf hn ?_ I.funs
    exact Heap.get?_none_of_le (Nat.le_trans I.ok.bsz I.ok.above)
theorem Inv.stkSub (I : Inv X pins σ H s) : ∀ b ∈ frs X.stack, b ∈ X.env.locals :: X.fs := fun b hb => by
  rcases I.ok.stk with e | ⟨e, hf⟩
  · rw [e] at hb; exact List.mem_cons_of_mem _ hb
  · rw [e] at hb
    unfold frs at hb
    rw [List.filterMap_cons, hf] at hb
    exact hb
theorem Inv.stkFree (I : Inv X pins σ H s) : ∀ b ∈ frs X.stack, H b = none := fun b hb => by
  rcases List.mem_cons.mp (I.stkSub b hb) with e | hb
  · rw [e]; exact I.free
  · obtain ⟨_, o, ho, _⟩ := I.ok.funs.mem hb
    exact I.base.free b o ho (I.ok.frf b hb) fun z => I.ok.exfs b z hb
theorem Inv.step {g' : Array GenState} {t' : Nat} {d' : Drawn} {ch : List Addr} (I : Inv X pins σ H s)
    (hch : ∀ b ∈ ch, (b ∈ X.ex \/ X.s₀.heap.objs.size <= b) /\ b ≠ X.env.locals /\ (∀ x c, X.env.cells.lookup x = some c -> c ≠ b) /\ ∀ p ∈ X.pn ++ pins, p.1 ≠ b)
    (keep : ∀ b o, b ≠ X.env.locals -> b ∉ X.fs -> b ∉ ch -> s.heap.get? b = some o -> H b = none -> h'.get? b = some o)
    (slot : ∀ b o, b ≠ X.env.locals -> b ∈ X.fs -> b ∉ ch -> s.heap.get? b = some o -> H b = none -> ∃ sl, h'.get? b = some { o with slots := sl }) (free : ∀ b o, b ∉ ch -> s.heap.get? b = some o -> H b = none -> H' b = none)
    (there : ∀ b o, b ∉ ch -> s.heap.get? b = some o -> ∃ o', h'.get? b = some o')
    (tups : ∀ b xs, H b = some (.tup xs) -> H' b = some (.tup xs)) (frzs : ∀ b o u, H b = some (.frz o u) -> H' b = some (.frz o u)) (tbls : ∀ b ps, H b = some (.tbl ps) -> ∃ more, H' b = some (.tbl (ps ++ more)))
    (ns : ∀ m, s.heap.Ns X.env.locals m -> h'.Ns X.env.locals m) (hok : HOk X.prog X.w H' h') (hg : AllBare g') :
    Inv X pins σ H' { s with heap := h', gens := g', drawn := d', toks := t' } := by
  have neL : ∀ b o, X.s₀.heap.get? b = some o -> b ≠ X.env.locals := fun b o e => Nat.ne_of_lt (Nat.lt_of_lt_of_le (Heap.lt_size e) I.ok.above)
  have neC : ∀ b o, X.s₀.heap.get? b = some o -> b ∉ X.ex -> b ∉ ch := fun b o e hx hb => by
    rcases (hch b hb).1 with z | z
    · exact hx z
    · exact absurd (Nat.lt_of_lt_of_le (Heap.lt_size e) z) (Nat.lt_irrefl _)
  have cellK : ∀ x c, X.env.cells.lookup x = some c -> ∀ v, s.heap.IsCell c v -> h'.IsCell c v := fun x c e v ⟨o, ho, hd⟩ => by
    have nch : c ∉ ch := fun z => (hch c z).2.2.1 x c e rfl
    by_cases hc : c ∈ X.fs
    · obtain ⟨sl, q⟩ := slot c o (I.cne x c e) hc nch ho (I.freeC x c e)
      exact ⟨_, q, hd⟩
    · exact ⟨o, keep c o (I.cne x c e) hc nch ho (I.freeC x c e), hd⟩
  refine ⟨I.ok, I.os, hg, ⟨fun b o e n hb hx => ?_, fun b o e n hb hx => ?_, fun b o e n hx => ?_, fun b o e hx => ?_, fun b xs e => tups b xs (I.base.tups b xs e), fun b o xs e => frzs b o xs (I.base.frzs b o xs e), fun b ps e => ?_⟩, ?_, fun x c e => ?_, ?_, fun x c e => ?_, fun p hp => ?_, hok, I.len⟩
  · exact keep b o (neL b o e) hb (neC b o e hx) (I.base.keep b o e n hb hx) (I.base.free b o e n hx)
  · obtain ⟨sl, e1⟩ := I.base.slot b o e n hb hx
    obtain ⟨sl', e2⟩ := slot b _ (neL b o e) hb (neC b o e hx) e1 (I.base.free b o e n hx)
    exact ⟨sl', e2⟩
  · obtain ⟨o', e1⟩ := I.base.there b o e hx
    exact free b o' (neC b o e hx) e1 (I.base.free b o e n hx)
  · obtain ⟨o', e1⟩ := I.base.there b o e hx
    exact there b o' (neC b o e hx) e1
  · obtain ⟨m1, e1⟩ := I.base.tbls b ps e
    obtain ⟨m2, e2⟩ := tbls b _ e1
    exact ⟨m1 ++ m2, by rw [e2, Array.append_assoc]⟩
  · obtain ⟨m, hn, hl⟩ := I.loc
    refine ⟨m, ns m hn, fun i x v e1 e2 e3 => ?_⟩
    obtain ⟨u, r, l⟩ := hl i x v e1 e2 e3
    refine ⟨u, r, ?_⟩
    rcases l with l | ⟨k, c, e, z⟩
    · exact .inl l
    · exact .inr ⟨k, c, e, cellK x c e _ z⟩
  · obtain ⟨v, z⟩ := I.cell x c e
    exact ⟨v, cellK x c e v z⟩
  · obtain ⟨m, ⟨o, _, _, ho, _⟩, _⟩ := I.loc
    exact free _ o (fun z => (hch _ z).2.1 rfl) ho I.free
  · obtain ⟨v, o, ho, hd⟩ := I.cell x c e
    exact free c o (fun z => (hch c z).2.2.1 x c e rfl) ho (I.freeC x c e)
  · obtain ⟨e, n, ne, nf, d⟩ := I.pin p hp
    have nch : p.1 ∉ ch := fun z => (hch p.1 z).2.2.2 p hp rfl
    exact ⟨keep p.1 p.2 ne nf nch e n, free p.1 p.2 nch e n, ne, nf, d⟩
theorem Inv.un {t' : Nat} (I : Inv X pins σ H s) (u : Un X.fs [] H H' s.heap h') (hok : HOk X.prog X.w H' h') : Inv X pins σ H' { s with heap := h', toks := t' } := by
  obtain ⟨m, ⟨o, es, ep, ho, r⟩, _⟩ := id I.loc
  obtain ⟨sl, hL⟩ := u.any ho I.free (by simp)
  exact I.step (g' := s.gens) (d' := s.drawn) (ch := []) (fun _ z => nomatch z) (fun b o _ hb _ e n => u.keep b o e n hb (by simp)) (fun b o _ hb _ e n => u.slot b o e n hb (by simp)) (fun b o _ e n => u.free b o e n (by simp)) (fun b o _ e => u.there b o e (by simp)) u.tups u.frzs u.tbls (fun m' hm => by
    obtain ⟨o', es', ep', ho', r'⟩ := hm
    rw [ho] at ho'; cases ho'
    exact ⟨_, es', ep', hL, r'⟩) hok I.bare
theorem Inv.call {g' : Array GenState} {t' : Nat} {d' : Drawn} {ch : List Addr} (I : Inv X pins σ H s) (u : Un (frs X.stack) ch H H' s.heap h') (hok : HOk X.prog X.w H' h') (hg : AllBare g')
    (hch : ∀ b ∈ ch, (b ∈ X.ex \/ X.s₀.heap.objs.size <= b) /\ b ≠ X.env.locals /\ (∀ x c, X.env.cells.lookup x = some c -> c ≠ b) /\ ∀ p ∈ X.pn ++ pins, p.1 ≠ b) :
    Inv X pins σ H' { s with heap := h', gens := g', drawn := d', toks := t' } := by
  obtain ⟨m, ⟨o, es, ep, ho, r⟩, _⟩ := id I.loc
  obtain ⟨sl, hL⟩ := u.any ho I.free fun z => (hch _ z).2.1 rfl
  exact I.step (ch := ch) hch (fun b o hL hb hc e n => u.keep b o e n (fun z => (List.mem_cons.mp (I.stkSub b z)).elim hL hb) hc) (fun b o _ _ hc e n => u.any e n hc) (fun b o hc e n => u.free b o e n hc) (fun b o hc e => u.there b o e hc) u.tups u.frzs u.tbls (fun m' hm => by
    obtain ⟨o', es', ep', ho', r'⟩ := hm
    rw [ho] at ho'; cases ho'
    exact ⟨_, es', ep', hL, r'⟩) hok hg
theorem Inv.turned {t' : Nat} {it : Addr} (I : Inv X pins σ H s) (k : ∀ b o, b ≠ it -> s.heap.get? b = some o -> h'.get? b = some o) (hn : H it = none) (hL : it ≠ X.env.locals)
    (h1 : it ∈ X.ex \/ X.s₀.heap.objs.size <= it) (h2 : ∀ x c, X.env.cells.lookup x = some c -> c ≠ it) (h3 : ∀ p ∈ X.pn ++ pins, p.1 ≠ it) : Inv X pins σ H { s with heap := h', toks := t' } := by
  have nit : ∀ b u, H b = some u -> b ≠ it := fun b u e z => by rw [z, hn] at e; cases e
  refine I.step (g' := s.gens) (d' := s.drawn) (ch := [it]) (fun b hb => ?_) (fun b o _ _ hc e _ => k b o (fun z => hc (by simp [z])) e) (fun b o _ _ hc e _ => ⟨o.slots, k b o (fun z => hc (by simp [z])) e⟩) (fun _ _ _ _ n => n)
    (fun b o hc e => ⟨o, k b o (fun z => hc (by simp [z])) e⟩) (fun _ _ e => e) (fun _ _ _ e => e) (fun b ps e => ⟨#[], by rw [e]; simp⟩) (fun m hm => ?_) (fun b u e => ?_) I.bare
  · have e : b = it := by simpa using hb
    subst e
    exact ⟨h1, hL, h2, h3⟩
  · obtain ⟨o, es, ep, ho, r⟩ := hm
    exact ⟨o, es, ep, k _ o (Ne.symm hL) ho, r⟩
  · refine (I.hok b u e).stay (fun c v hc q => k c v ?_ q) (fun _ q => q) fun _ _ q => q
    rcases hc with z | z
    · rw [z]; exact nit b u e
    · exact nit c _ z
theorem Inv.tok (I : Inv X pins σ H s) (t : Nat) : Inv X pins σ H { s with toks := t } := I.un (h' := s.heap) (t' := t) Un.refl I.hok
theorem Inv.kept {t' : Nat} (I : Inv X pins σ H s) (k : ∀ b u, s.heap.get? b = some u -> h'.get? b = some u) : Inv X pins σ H { s with heap := h', toks := t' } := I.un (Un.kept k) (I.hok.kept k)
theorem Inv.laid {a : Addr} {o : HO} {t' : Nat} (I : Inv X pins σ H s) (k : ∀ b u, s.heap.get? b = some u -> h'.get? b = some u) (hp : s.heap.objs.size <= a) (new : ObjOk X.prog X.w (upd H a o) h' a o) :
    Inv X pins σ (upd H a o) { s with heap := h', toks := t' } := I.un (Un.laid k hp (I.hok.fresh hp)) (I.hok.laid k hp new)
theorem Inv.write {x e : Addr} {o : HO} {t' : Nat} (I : Inv X pins σ H s) (mu : Mut (H x)) (he : e = x \/ H e = some (.own x)) (k : ∀ b u, b ≠ e -> s.heap.get? b = some u -> h'.get? b = some u) (heo : ∃ u, h'.get? e = some u)
    (new : ObjOk X.prog X.w (upd H x o) h' x o) : Inv X pins σ (upd H x o) { s with heap := h', toks := t' } := I.un (Un.write mu he k heo) (I.hok.write mu he k heo new)
theorem Inv.pins_of {pins' : List (Addr × Obj)} (I : Inv X pins σ H s) (h : ∀ p ∈ pins', s.heap.get? p.1 = some p.2 /\ H p.1 = none /\ p.1 ≠ X.env.locals /\ p.1 ∉ X.fs /\ ∀ v, p.2.data ≠ .cell v) : Inv X pins' σ H s :=
  ⟨I.ok, I.os, I.bare, I.base, I.loc, I.cell, I.free, I.freeC, fun p hp => (List.mem_append.mp hp).elim (fun z => I.pin p (List.mem_append_left _ z)) (h p), I.hok, I.len⟩
theorem nodup_ix {N : List Str} (hN : N.Nodup) {i j : Nat} {x : Str} (a : N[i]? = some x) (b : N[j]? = some x) : i = j := by
  obtain ⟨h1, e1⟩ := List.getElem?_eq_some_iff.mp a
  obtain ⟨h2, e2⟩ := List.getElem?_eq_some_iff.mp b
  exact (List.getElem_inj hN).mp (e1.trans e2.symm)
theorem store_ok2 {M : Model} {A : Around} {E : Value -> Shared -> Prop} {i : Nat} {x : Str} {v : V} {u : Value} {Q : Unit -> Shared -> Prop} (I : Inv X pins σ H s) (hN : X.N.Nodup) (hi : X.N[i]? = some x) (hx : Loc X.env.scope x) (r : RelV v u)
    (h : ∀ s', Inv X pins (σ.set i (some v)) H s' -> (∃ a, Heap.SameBut a s.heap s'.heap /\ (a = X.env.locals \/ X.env.cells.lookup x = some a)) -> Q () s') (hf : X.fn x = true \/ X.env.scope.names.lookup x = some .local := by first | exact .inl rfl | exact .inr rfl | assumption) : wpAny M A (storeName X.env x u) Q E s := by
  obtain ⟨m, hn, hl⟩ := id I.loc
  have hcls : (X.env.scope.kind == .class || (X.env.scope.kind == .module && X.env.locals != X.env.globals)) = false := by rw [I.ok.kind]; rfl
  have hiσ : i < σ.length := by rw [I.len]; exact (List.getElem?_eq_some_iff.mp hi).1
  have cne := I.cne
  have tracked : ∀ {a : Addr} {h' : Heap}, (∃ o, s.heap.get? a = some o /\ H a = none) -> Heap.SameBut a s.heap h' -> HOk X.prog X.w H h' := fun {a h'} ha hs b ob e => by
    obtain ⟨_, _, hfree⟩ := ha
    refine (I.hok b ob e).stay (fun c w' hc q => (hs.2 c ?_).trans q) (fun _ q => q) fun _ _ q => q
    rintro rfl
    rcases hc with rfl | hc
    · rw [hfree] at e; cases e
    · rw [hfree] at hc; cases hc
  rcases hx with hk | hk
  · refine wpAny_storeName_local hk hn (fun h' hn' hs => ?_) hcls
    obtain ⟨oL, _, _, hoL, _⟩ := id hn
    refine h _ ⟨I.ok, I.os, I.bare, ⟨fun b o e n hb hx => ?_, fun b o e n hb hx => ?_, I.base.free, fun b o e hx => ?_, I.base.tups, I.base.frzs, I.base.tbls⟩, ⟨_, hn', fun j y v' e1 e2 e3 => ?_⟩, fun y c e => ?_, I.free, I.freeC, fun p hp => ?_, tracked ⟨oL, hoL, I.free⟩ hs, by simpa using I.len⟩ ⟨_, hs, .inl rfl⟩
    · exact (hs.2 b (Nat.ne_of_lt (Nat.lt_of_lt_of_le (Heap.lt_size e) I.ok.above))).trans (I.base.keep b o e n hb hx)
    · obtain ⟨sl, e1⟩ := I.base.slot b o e n hb hx
      exact ⟨sl, (hs.2 b (Nat.ne_of_lt (Nat.lt_of_lt_of_le (Heap.lt_size e) I.ok.above))).trans e1⟩
    · obtain ⟨o', e1⟩ := I.base.there b o e hx
      exact ⟨o', (hs.2 b (Nat.ne_of_lt (Nat.lt_of_lt_of_le (Heap.lt_size e) I.ok.above))).trans e1⟩
    · by_cases hj : j = i
      · subst hj
        rw [hi] at e1; cases e1
        rw [List.getElem?_set_self hiσ] at e2
        cases e2
        exact ⟨u, r, .inl ⟨hk, by simp⟩⟩
      · rw [List.getElem?_set_ne (Ne.symm hj)] at e2
        obtain ⟨u', r', q⟩ := hl j y v' e1 e2 e3
        refine ⟨u', r', ?_⟩
        rcases q with ⟨k, e⟩ | ⟨k, c, e, z⟩
        · refine .inl ⟨k, ?_⟩
          have : y ≠ x := fun e => hj (nodup_ix hN e1 (e ▸ hi))
          simp [this, e]
        · exact .inr ⟨k, c, e, z.sameBut hs (cne y c e)⟩
    · obtain ⟨w', z⟩ := I.cell y c e
      exact ⟨w', z.sameBut hs (cne y c e)⟩
    · obtain ⟨e, n, ne, nf, d⟩ := I.pin p hp
      exact ⟨(hs.2 p.1 ne).trans e, n, ne, nf, d⟩
  · have hfn : X.fn x = true := by
      rcases hf with z | z
      · exact z
      · rw [z] at hk; cases hk
    obtain ⟨c, hc⟩ := I.ok.has x (.inl hk)
    obtain ⟨w', z⟩ := I.cell x c hc
    refine wpAny_storeName_cell I.ok.kind hk hc z (fun h' hc' hs => ?_)
    obtain ⟨oc, hoc, hocd⟩ := id z
    refine h { s with heap := h' } ⟨I.ok, I.os, I.bare, ⟨fun b o e n hb hx => ?_, fun b o e n hb hx => ?_, I.base.free, fun b o e hx => ?_, I.base.tups, I.base.frzs, I.base.tbls⟩, ⟨m, hn.sameBut hs (Ne.symm (cne x c hc)), fun j y v' e1 e2 e3 => ?_⟩, fun y c' e => ?_, I.free, I.freeC, fun p hp => ?_, tracked ⟨oc, hoc, I.freeC x c hc⟩ hs, by simpa using I.len⟩ ⟨c, hs, .inr hc⟩
    · exact (hs.2 b (Nat.ne_of_lt (Nat.lt_of_lt_of_le (Heap.lt_size e) (I.ok.cab x c hfn hc)))).trans (I.base.keep b o e n hb hx)
    · obtain ⟨sl, e1⟩ := I.base.slot b o e n hb hx
      exact ⟨sl, (hs.2 b (Nat.ne_of_lt (Nat.lt_of_lt_of_le (Heap.lt_size e) (I.ok.cab x c hfn hc)))).trans e1⟩
    · obtain ⟨o', e1⟩ := I.base.there b o e hx
      exact ⟨o', (hs.2 b (Nat.ne_of_lt (Nat.lt_of_lt_of_le (Heap.lt_size e) (I.ok.cab x c hfn hc)))).trans e1⟩
    · by_cases hj : j = i
      · subst hj
        rw [hi] at e1; cases e1
        rw [List.getElem?_set_self hiσ] at e2
        cases e2
        exact ⟨u, r, .inr ⟨.inl hk, c, hc, hc'⟩⟩
      · rw [List.getElem?_set_ne (Ne.symm hj)] at e2
        obtain ⟨u', r', q⟩ := hl j y v' e1 e2 e3
        refine ⟨u', r', ?_⟩
        rcases q with q | ⟨k, c', e, z'⟩
        · exact .inl q
        · refine .inr ⟨k, c', e, z'.sameBut hs ?_⟩
          rintro rfl
          exact hj (nodup_ix hN e1 (I.ok.inj _ _ _ e hc ▸ hi))
    · by_cases hcc : c' = c
      · subst hcc; exact ⟨_, hc'⟩
      · obtain ⟨w2, z2⟩ := I.cell y c' e
        exact ⟨w2, z2.sameBut hs hcc⟩
    · obtain ⟨e, n, ne, nf, d⟩ := I.pin p hp
      refine ⟨(hs.2 p.1 ?_).trans e, n, ne, nf, d⟩
      intro q
      rw [q, hoc] at e
      have q' : oc = p.2 := Option.some.inj e
      exact d w' (by rw [<- q']; exact hocd)
theorem store_ok {M : Model} {A : Around} {E : Value -> Shared -> Prop} {i : Nat} {x : Str} {v : V} {u : Value} {Q : Unit -> Shared -> Prop} (I : Inv X pins σ H s) (hN : X.N.Nodup) (hi : X.N[i]? = some x) (hx : Loc X.env.scope x) (r : RelV v u)
    (h : ∀ s', Inv X pins (σ.set i (some v)) H s' -> Q () s') (hf : X.fn x = true \/ X.env.scope.names.lookup x = some .local := by first | exact .inl rfl | exact .inr rfl | assumption) : wpAny M A (storeName X.env x u) Q E s :=
  store_ok2 I hN hi hx r (fun s' I' _ => h s' I') hf
theorem Inv.call' {s' : Shared} {ch : List Addr} (I : Inv X pins σ H s) (ho : s'.os = s.os) (u : Un (frs X.stack) ch H H' s.heap s'.heap) (hok : HOk X.prog X.w H' s'.heap) (hg : AllBare s'.gens)
    (hch : ∀ b ∈ ch, (b ∈ X.ex \/ X.s₀.heap.objs.size <= b) /\ b ≠ X.env.locals /\ (∀ x c, X.env.cells.lookup x = some c -> c ≠ b) /\ ∀ p ∈ X.pn ++ pins, p.1 ≠ b) : Inv X pins σ H' s' := by
  obtain ⟨h', g', d', t', o'⟩ := s'
  have e : o' = s.os := ho
  subst e
  exact I.call (g' := g') (t' := t') (d' := d') u hok hg hch
end
abbrev XK := Value -> Option Addr -> Hp -> Prop
abbrev St := List (Option V)
abbrev VK := V -> Hp -> Prop
abbrev TE := St -> Hp -> VK -> Prop
abbrev TT := St -> Hp -> (Bool -> Hp -> Prop) -> Prop
abbrev TA := St -> Hp -> (List V -> Hp -> Prop) -> Prop
structure Ends where
  nx : St -> Hp -> Prop
  rt : VK
  bk : St -> Hp -> Prop := fun _ _ => False
  ct : St -> Hp -> Prop := fun _ _ => False
abbrev TS := Ends -> St -> Hp -> Prop
def EP (X : Cx) (pins : List (Addr × Obj)) (σ : St) (Q : VK) (u : Value) (s' : Shared) : Prop := ∃ v H', Inv X pins σ H' s' /\ RelV v u /\ Q v H'
def TP (X : Cx) (pins : List (Addr × Obj)) (σ : St) (Q : Bool -> Hp -> Prop) (b : Bool) (s' : Shared) : Prop := ∃ H', Inv X pins σ H' s' /\ Q b H'
def AP (X : Cx) (pins : List (Addr × Obj)) (σ : St) (Q : List V -> Hp -> Prop) (us : List Value) (s' : Shared) : Prop := ∃ vs H', Inv X pins σ H' s' /\ Vals vs us /\ Q vs H'
def SP (X : Cx) (pins : List (Addr × Obj)) (D : Ends) (f : Flow) (s' : Shared) : Prop :=
  match f with
  | .next => ∃ σ' H', Inv X pins σ' H' s' /\ D.nx σ' H'
  | .brk => ∃ σ' H', Inv X pins σ' H' s' /\ D.bk σ' H'
  | .cont => ∃ σ' H', Inv X pins σ' H' s' /\ D.ct σ' H'
  | .ret u => ∃ v σ' H', Inv X pins σ' H' s' /\ RelV v u /\ D.rt v H'
def PE (X : Cx) (e : Expr) (t : TE) : Prop :=
  ∀ (pins : List (Addr × Obj)) (s : Shared) (σ : St) (H : Hp) (Q : VK), Inv X pins σ H s -> t σ H Q -> wpAny (model X.prog X.w) X.A (eval e X.env) (EP X pins σ Q) X.xe s
def PT (X : Cx) (e : Expr) (t : TT) : Prop :=
  ∀ (pins : List (Addr × Obj)) (s : Shared) (σ : St) (H : Hp) (Q : Bool -> Hp -> Prop), Inv X pins σ H s -> t σ H Q -> wpAny (model X.prog X.w) X.A (isTrue e X.env (eval e X.env)) (TP X pins σ Q) X.xe s
def PW (X : Cx) (e : Expr) (t : TT) : Prop :=
  ∀ (whole : Sem Value) (pins : List (Addr × Obj)) (s : Shared) (σ : St) (H : Hp) (Q : Bool -> Hp -> Prop), Inv X pins σ H s -> t σ H Q -> wpAny (model X.prog X.w) X.A (isTrue e X.env whole) (TP X pins σ Q) X.xe s
theorem PW.pt {X : Cx} {e : Expr} {t : TT} (h : PW X e t) : PT X e t := h _
def PA (X : Cx) (es : List Expr) (t : TA) : Prop :=
  ∀ (pos : Pos) (pins : List (Addr × Obj)) (s : Shared) (σ : St) (H : Hp) (Q : List V -> Hp -> Prop), Inv X pins σ H s -> t σ H Q -> wpAny (model X.prog X.w) X.A (spliced (backTo pos (starEach es X.env))) (AP X pins σ Q) X.xe s
def PS (X : Cx) (st : Stmt) (t : TS) : Prop :=
  ∀ (pins : List (Addr × Obj)) (s : Shared) (σ : St) (H : Hp) (D : Ends), Inv X pins σ H s -> t D σ H -> wpAny (model X.prog X.w) X.A (exec st X.env) (SP X pins D) X.xe s
def PSs (X : Cx) (st : List Stmt) (t : TS) : Prop :=
  ∀ (pins : List (Addr × Obj)) (s : Shared) (σ : St) (H : Hp) (D : Ends), Inv X pins σ H s -> t D σ H -> wpAny (model X.prog X.w) X.A (execs st X.env) (SP X pins D) X.xe s
theorem thn {α : Type} {t : Sem α} {Q Q' : α -> Shared -> Prop} {M : Model} {A : Around} {E : Value -> Shared -> Prop} {s : Shared} (h : wpAny M A t Q E s) (hQ : ∀ a s, Q a s -> Q' a s) : wpAny M A t Q' E s := wpAny_mono h hQ fun _ _ x => x
end L2
namespace L2
open PySem PySem.Spec PyProof.Rows
section
variable {X : Cx}
def tVar (i : Nat) : TE := fun σ H Q => ∃ v, σ[i]? = some (some v) /\ Q v H
def tC (v : V) : TE := fun _ H Q => Q v H
theorem pe_var {i : Nat} {x : Str} {pos : Pos} (hN : X.N[i]? = some x) (hv : Vis X.env.scope x) (hd : (x == ("__debug__" : Str)) = false := by decide) (hcd : (x == ("__classdict__" : Str)) = false := by decide) : PE X (.Name x pos) (tVar i) := by
  intro pins s σ H Q I h
  obtain ⟨v, e, h⟩ := h
  obtain ⟨m, hn, hl⟩ := I.loc
  obtain ⟨u, r, l⟩ := hl i x v hN e hv
  have fin : EP X pins σ Q u s := ⟨v, H, I, r, h⟩
  rcases l with ⟨hk, hm⟩ | ⟨hk, c, hc, hcell⟩
  · exact wpAny_Name (wpAny_loadName_local I.ok.kind hk hn hm fin) hd
  · rcases hk with hk | hk
    · exact wpAny_Name (wpAny_loadName_cell I.ok.kind hk hc hcell fin) hd
    · exact wpAny_Name (wpAny_loadName_free I.ok.kind hk hc hcell fin hcd) hd
theorem pe_int {i j pos} : PE X (.Constant (.int i) j pos) (tC (.int i)) := fun _ _ _ H _ I h => wpAny_Constant_int ⟨.int i, H, I.tok _, ⟨_, rfl⟩, h⟩
theorem pe_bl {b j pos} : PE X (.Constant (.bool b) j pos) (tC (.bl b)) := fun _ _ _ H _ I h => Constant_bool ⟨.bl b, H, I, rfl, h⟩
theorem pe_str {x j pos} : PE X (.Constant (.str x) j pos) (tC (.str x)) := fun _ _ _ H _ I h => Calls.Constant_str ⟨.str x, H, I.tok _, ⟨_, rfl⟩, h⟩
def Gl (X : Cx) (x : Str) : Prop := X.env.kindOf x = some .globalImplicit
theorem ld_glob {E : Value -> Shared -> Prop} {pins : List (Addr × Obj)} {s : Shared} {σ : St} {H : Hp} {x : Str} {u : Value} {pos : Pos} {Q : Value -> Shared -> Prop} (I : Inv X pins σ H s) (hg : Gl X x) (hm : X.mg x = some u) (h : Q u s)
    (hd : (x == ("__debug__" : Str)) = false := by decide) : wpAny (model X.prog X.w) X.A (eval (.Name x pos) X.env) Q E s :=
  Calls.Name_function_global I.ok.kind hg (Calls.loadGlobal_global (by rw [I.ok.glob]; exact I.mod.glob.keeps I.bk) hm h) hd
theorem ld_blt {E : Value -> Shared -> Prop} {pins : List (Addr × Obj)} {s : Shared} {σ : St} {H : Hp} {x : Str} {u : Value} {pos : Pos} {Q : Value -> Shared -> Prop} (I : Inv X pins σ H s) (hg : Gl X x) (hm : X.mg x = none) (hv : bootBuiltins x = some u) (h : Q u s)
    (hn : x ≠ "__name__" := by decide) (hd : (x == ("__debug__" : Str)) = false := by decide) : wpAny (model X.prog X.w) X.A (eval (.Name x pos) X.env) Q E s := by
  obtain ⟨mb, h1, h2⟩ := I.mod.blt
  exact Calls.Name_function_global I.ok.kind hg (Calls.loadGlobal_builtin (by rw [I.ok.glob]; exact I.mod.glob.keeps I.bk) hm (by rw [I.ok.blt]; exact h1.keeps I.bk) ((h2 x hn).trans hv) h) hd
theorem pe_glob {x : Str} {v : V} {u : Value} {pos : Pos} (hg : Gl X x) (hm : X.mg x = some u) (r : RelV v u) (hd : (x == ("__debug__" : Str)) = false := by decide) : PE X (.Name x pos) (tC v) :=
  fun _ _ _ H _ I h => ld_glob I hg hm ⟨v, H, I, r, h⟩ hd
theorem pe_bltn {x : Str} {v : V} {u : Value} {pos : Pos} (hg : Gl X x) (hm : X.mg x = none) (hv : bootBuiltins x = some u) (r : RelV v u) (hn : x ≠ "__name__" := by decide) (hd : (x == ("__debug__" : Str)) = false := by decide) : PE X (.Name x pos) (tC v) :=
  fun _ _ _ H _ I h => ld_blt I hg hm hv ⟨v, H, I, r, h⟩ hn hd
variable {a b : Expr} {ta tb : TE} {pos : Pos}
def PC (X : Cx) (op : CmpOp) (a b : Expr) (t : TE) : Prop :=
  ∀ (pins : List (Addr × Obj)) (s : Shared) (σ : St) (H : Hp) (Q : VK), Inv X pins σ H s -> t σ H Q ->
    wpAny (model X.prog X.w) X.A (eval a X.env) (fun v s₁ => wpAny (model X.prog X.w) X.A (eval b X.env) (fun u s₂ => wpAny (model X.prog X.w) X.A (compareOp op v u) (EP X pins σ Q) X.xe s₂) X.xe s₁) X.xe s
theorem nobehind (b : Expr) {op : CmpOp} (h : op ≠ .In) (h2 : op ≠ .NotIn) : behindInMarks op b = false := by
  have e1 : (op == CmpOp.In) = false := by cases op <;> first | rfl | exact absurd rfl h
  have e2 : (op == CmpOp.NotIn) = false := by cases op <;> first | rfl | exact absurd rfl h2
  cases b <;> simp [behindInMarks, e1, e2]
def tB (t : TE) : TT := fun σ H Q => t σ H fun x H1 => ∃ c, x = .bl c /\ Q c H1
theorem pt_cmp {op : CmpOp} {t : TE} (h : PC X op a b t) (h1 : behindInMarks op b = false := by first | exact nobehind _ (by decide) (by decide) | rfl) : PT X (.Compare a [op] [b] pos) (tB t) := by
  intro pins s σ H Q I hw
  refine wpAny_isTrue_Compare1 (thn (h pins s σ H _ I hw) fun v s1 h1 => thn h1 fun u s2 h2 => thn h2 fun c s3 ⟨x, H1, I1, r1, q1⟩ => ?_) h1
  obtain ⟨d, rfl, q⟩ := q1
  cases r1
  exact wpAny_truthy_bool ⟨H1, I1, q⟩
theorem pt_val {e : Expr} {t : TE} (h : PE X e t) (he : ∀ whole, isTrue e X.env whole = (do let v <- whole; standAt e.pos; holding [v] (truthy v)) := by intro _; rfl) : PT X e (tB t) := by
  intro pins s σ H Q I hw
  refine isTrue_plain (thn (h pins s σ H _ I hw) fun v s1 ⟨x, H1, I1, r1, q1⟩ => ?_) (he _)
  obtain ⟨d, rfl, q⟩ := q1
  cases r1
  exact wpAny_truthy_bool ⟨H1, I1, q⟩
variable {tA tB' : TT} {rest : List Expr}
def tAnd (t u : TT) : TT := fun σ H Q => t σ H fun c H1 => if c = true then u σ H1 Q else Q false H1
def tOr (t u : TT) : TT := fun σ H Q => t σ H fun c H1 => if c = true then Q true H1 else u σ H1 Q
def tNot (t : TT) : TT := fun σ H Q => t σ H fun c H1 => Q (!c) H1
theorem pw_and1 (ha : PT X a tA) : PW X (.BoolOp .And [a] pos) tA := by
  intro wh pins s σ H Q I h
  refine isTrue_and (thn (ha pins s σ H Q I h) fun c s1 e => ?_)
  cases c with
  | true => exact isTrue_and_nil e
  | false => exact e
theorem pw_or1 (ha : PT X a tA) : PW X (.BoolOp .Or [a] pos) tA := by
  intro wh pins s σ H Q I h
  refine isTrue_or (thn (ha pins s σ H Q I h) fun c s1 e => ?_)
  cases c with
  | false => exact isTrue_or_nil e
  | true => exact e
theorem pw_and (ha : PT X a tA) (hb : PW X (.BoolOp .And (b :: rest) pos) tB') : PW X (.BoolOp .And (a :: b :: rest) pos) (tAnd tA tB') := by
  intro wh pins s σ H Q I h
  refine isTrue_and (thn (ha pins s σ H _ I h) fun c s1 ⟨H1, I1, q1⟩ => ?_)
  cases c with
  | true => exact hb wh pins s1 σ H1 Q I1 q1
  | false => exact ⟨H1, I1, q1⟩
theorem pw_or (ha : PT X a tA) (hb : PW X (.BoolOp .Or (b :: rest) pos) tB') : PW X (.BoolOp .Or (a :: b :: rest) pos) (tOr tA tB') := by
  intro wh pins s σ H Q I h
  refine isTrue_or (thn (ha pins s σ H _ I h) fun c s1 ⟨H1, I1, q1⟩ => ?_)
  cases c with
  | true => exact ⟨H1, I1, q1⟩
  | false => exact hb wh pins s1 σ H1 Q I1 q1
theorem pt_not (ha : PT X a tA) : PT X (.UnaryOp .Not a pos) (tNot tA) := by
  intro pins s σ H Q I h
  exact isTrue_not (ha pins s σ H (fun c H1 => Q (!c) H1) I h)
def tAndV (ta tb : TE) : TE := fun σ H Q => ta σ H fun x H1 => ∃ c, x = .bl c /\ if c = true then tb σ H1 Q else Q (.bl false) H1
theorem pe_one {op} {t : TE} (h : PE X a t) : PE X (.BoolOp op [a] pos) t := fun pins s σ H Q I hw => BoolOp_one (h pins s σ H Q I hw)
theorem pe_and (ha : PE X a ta) (hb : PE X (.BoolOp .And (b :: rest) pos) tb) : PE X (.BoolOp .And (a :: b :: rest) pos) (tAndV ta tb) := by
  intro pins s σ H Q I h
  refine BoolOp_and (thn (ha pins s σ H _ I h) fun v s1 ⟨x, H1, I1, r1, q1⟩ => ?_)
  obtain ⟨c, rfl, q1⟩ := q1
  cases r1
  refine wpAny_truthy_bool ?_
  cases c with
  | true => exact hb pins s1 σ H1 Q I1 q1
  | false => exact ⟨.bl false, H1, I1, rfl, q1⟩
def tIf (t : TT) (ta tb : TE) : TE := fun σ H Q => t σ H fun c H1 => if c = true then ta σ H1 Q else tb σ H1 Q
theorem pe_ifExp {c : Expr} (hc : PT X c tA) (ha : PE X a ta) (hb : PE X b tb) : PE X (.IfExp c a b pos) (tIf tA ta tb) := by
  intro pins s σ H Q I h
  refine wpAny_IfExp (thn (hc pins s σ H _ I h) fun d s1 ⟨H1, I1, q1⟩ => ?_)
  cases d with
  | true => exact ha pins s1 σ H1 Q I1 q1
  | false => exact hb pins s1 σ H1 Q I1 q1
end
end L2
namespace L2
open PySem PySem.Spec PyProof.Rows
def SqL (K : PySem.W.Frag) (H : Hp) (a : Addr) (xs : List V) : Prop :=
  Rd H a (.lst xs) \/
    ∃ (o : Obj) (its : Array Value) (n : Nat), K.lookup a = some o /\ o.cls = .type "list" /\ o.dict = none /\ o.data = .seq its n /\ its.size <= sizeLine /\ Vals xs its.toList
def SqT (K : PySem.W.Frag) (H : Hp) (a : Addr) (xs : List V) : Prop :=
  Rd H a (.tup xs) \/
    ∃ (o : Obj) (its : Array Value) (n : Nat), K.lookup a = some o /\ o.cls = .type "tuple" /\ o.data = .seq its n /\ its.size <= sizeLine /\ Vals xs its.toList
def absV : Value -> Option V
  | .none => some .non
  | .bool b => some (.bl b)
  | .int i _ => some (.int i)
  | .str x _ => some (.str x)
  | .bytes b _ => some (.byt b)
  | .float b _ => some (.flt b)
  | .ref a => some (.ref a)
  | .type n => some (.ty n)
  | _ => none
theorem RelV.abs {x : V} {u : Value} (r : RelV x u) : absV u = some x := by
  cases x with
  | non => cases r; rfl
  | bl _ => cases r; rfl
  | int _ => obtain ⟨t, rfl⟩ := r; rfl
  | str _ => obtain ⟨t, rfl⟩ := r; rfl
  | byt _ => obtain ⟨t, rfl⟩ := r; rfl
  | flt _ => obtain ⟨t, rfl⟩ := r; rfl
  | ref _ => cases r; rfl
  | ty _ => cases r; rfl
theorem RelV.inj {x y : V} {u : Value} (r : RelV x u) (q : RelV y u) : x = y := Option.some.inj (r.abs.symm.trans q.abs)
theorem Vals.inj : ∀ {xs ys : List V} {us : List Value}, Vals xs us -> Vals ys us -> xs = ys
  | _, _, _, .nil, .nil => rfl
  | _, _, _, .cons r t, .cons r' t' => by rw [r.inj r', Vals.inj t t']
section
variable {X : Cx} {pins : List (Addr × Obj)} {σ : St} {H : Hp} {s : Shared} {a : Addr} {xs ys : List V}
theorem SqL.of {K : PySem.W.Frag} (h : H a = some (.lst xs)) : SqL K H a xs := .inl (.inl h)
theorem SqT.of {K : PySem.W.Frag} (h : H a = some (.tup xs)) : SqT K H a xs := .inl (.inl h)
theorem Inv.list (I : Inv X pins σ H s) (h : SqL X.K H a xs) : ∃ its : List Value, Vals xs its /\ PlainL s.heap a its.toArray /\ xs.length <= sizeLine := by
  rcases h with h | ⟨o, its, n, hk, hc, hd, hs, hz, r⟩
  · obtain ⟨z, its, n, r, e⟩ := h.ok I.hok
    exact ⟨its, r, ⟨_, n, e, rfl, rfl, rfl⟩, z⟩
  · refine ⟨its.toList, r, ⟨o, n, I.kIn a o hk, hc, hd, by simpa using hs⟩, ?_⟩
    have e := r.length
    simp only [Array.length_toList] at e
    omega
theorem Inv.tuple (I : Inv X pins σ H s) (h : SqT X.K H a xs) : ∃ its : List Value, Vals xs its /\ IsTup s.heap a its.toArray /\ xs.length <= sizeLine := by
  rcases h with h | ⟨o, its, n, hk, hc, hs, hz, r⟩
  · obtain ⟨z, its, r, p⟩ := h.ok I.hok
    exact ⟨its, r, p, z⟩
  · refine ⟨its.toList, r, ⟨o, I.kIn a o hk, hc, n, by simpa using hs⟩, ?_⟩
    have e := r.length
    simp only [Array.length_toList] at e
    omega
theorem Inv.list_inj (I : Inv X pins σ H s) (h : SqL X.K H a xs) (h' : SqL X.K H a ys) : xs = ys := by
  obtain ⟨its, r, ⟨o, n, e, _, _, d⟩, _⟩ := I.list h
  obtain ⟨its', r', ⟨o', n', e', _, _, d'⟩, _⟩ := I.list h'
  rw [e] at e'; cases e'
  rw [d] at d'
  injection d' with d1 _
  have : its = its' := by simpa using congrArg Array.toList d1
  subst this
  exact r.inj r'
theorem Inv.tuple_inj (I : Inv X pins σ H s) (h : SqT X.K H a xs) (h' : SqT X.K H a ys) : xs = ys := by
  obtain ⟨its, r, ⟨o, e, _, n, d⟩, _⟩ := I.tuple h
  obtain ⟨its', r', ⟨o', e', _, n', d'⟩, _⟩ := I.tuple h'
  rw [e] at e'; cases e'
  rw [d] at d'
  injection d' with d1 _
  have : its = its' := by simpa using congrArg Array.toList d1
  subst this
  exact r.inj r'
end
abbrev Cx.wish (X : Cx) (E : Value -> Shared -> Prop) : Cx := { X with xe := E }
abbrev Cx.nox (X : Cx) : Cx := X.wish fun _ _ => False
theorem Cx.Ok.wish {X : Cx} (ok : X.Ok) (E : Value -> Shared -> Prop) : (X.wish E).Ok :=
  ⟨ok.mod, ok.kind, ok.glob, ok.blt, ok.above, ok.inj, ok.has, ok.cab, ok.hd, ok.frames, ok.stk, ok.exf, ok.bs, ok.bsz, ok.noex, ok.exfs, ok.funs, ok.frf⟩
theorem Cx.Ok.unwish {X : Cx} {E : Value -> Shared -> Prop} (ok : (X.wish E).Ok) : X.Ok :=
  ⟨ok.mod, ok.kind, ok.glob, ok.blt, ok.above, ok.inj, ok.has, ok.cab, ok.hd, ok.frames, ok.stk, ok.exf, ok.bs, ok.bsz, ok.noex, ok.exfs, ok.funs, ok.frf⟩
section
variable {X : Cx} {pins : List (Addr × Obj)} {σ : St} {H : Hp} {s : Shared} {E : Value -> Shared -> Prop}
theorem Inv.wish (I : Inv X pins σ H s) (E : Value -> Shared -> Prop) : Inv (X.wish E) pins σ H s := ⟨I.ok.wish E, I.os, I.bare, I.base, I.loc, I.cell, I.free, I.freeC, I.pin, I.hok, I.len⟩
theorem Inv.unwish (I : Inv (X.wish E) pins σ H s) : Inv X pins σ H s := ⟨I.ok.unwish, I.os, I.bare, I.base, I.loc, I.cell, I.free, I.freeC, I.pin, I.hok, I.len⟩
theorem SP.unwish {D : Ends} {f : Flow} {s' : Shared} (h : SP (X.wish E) pins D f s') : SP X pins D f s' := by
  cases f with
  | next => obtain ⟨σ', H', I, q⟩ := h; exact ⟨σ', H', I.unwish, q⟩
  | brk => obtain ⟨σ', H', I, q⟩ := h; exact ⟨σ', H', I.unwish, q⟩
  | cont => obtain ⟨σ', H', I, q⟩ := h; exact ⟨σ', H', I.unwish, q⟩
  | ret u => obtain ⟨v, σ', H', I, r, q⟩ := h; exact ⟨v, σ', H', I.unwish, r, q⟩
theorem PE.nox {e : Expr} {t : TE} (h : PE X.nox e t) : PE X e t := fun pins s σ H Q I hw =>
  wpAny_mono (h pins s σ H Q (I.wish _) hw) (fun _ _ ⟨v, H', I', r, q⟩ => ⟨v, H', I'.unwish, r, q⟩) fun _ _ z => False.elim z
theorem PT.nox {e : Expr} {t : TT} (h : PT X.nox e t) : PT X e t := fun pins s σ H Q I hw =>
  wpAny_mono (h pins s σ H Q (I.wish _) hw) (fun _ _ ⟨H', I', q⟩ => ⟨H', I'.unwish, q⟩) fun _ _ z => False.elim z
theorem PSs.nox {st : List Stmt} {t : TS} (h : PSs X.nox st t) : PSs X st t := fun pins s σ H D I hw =>
  wpAny_mono (h pins s σ H D (I.wish _) hw) (fun _ _ q => q.unwish) fun _ _ z => False.elim z
end
section
variable {X : Cx} {st : Stmt} {rest : List Stmt} {t u : TS} {e : Expr} {te : TE} {pos : Pos}
def tNext : TS := fun D σ H => D.nx σ H
def tSeq (t u : TS) : TS := fun D σ H => t { D with nx := u D } σ H
theorem pss_nil : PSs X [] tNext := fun _ _ σ H _ I h => wpAny_execs_nil ⟨σ, H, I, h⟩
theorem pss_cons (h1 : PS X st t) (h2 : PSs X rest u) : PSs X (st :: rest) (tSeq t u) := by
  intro pins s σ H D I h
  refine wpAny_execs_cons (thn (h1 pins s σ H { D with nx := u D } I h) fun f s1 q => ?_)
  cases f with
  | next =>
    obtain ⟨σ', H', I', q⟩ := q
    exact h2 pins s1 σ' H' D I' q
  | ret v => exact q
  | brk => exact q
  | cont => exact q
theorem pss_one (h1 : PS X st t) : PSs X [st] t := by
  intro pins s σ H D I h
  refine wpAny_execs_cons (thn (h1 pins s σ H D I h) fun f s1 q => ?_)
  cases f with
  | next => exact wpAny_execs_nil q
  | ret v => exact q
  | brk => exact q
  | cont => exact q
theorem Inv.quiet {pins : List (Addr × Obj)} {σ : St} {H : Hp} {s : Shared} (I : Inv X pins σ H s) : interactive X.env = false := by simp [interactive, I.ok.kind]
def tDrop (te : TE) : TS := fun D σ H => te σ H fun _ H1 => D.nx σ H1
theorem ps_expr (he : PE X e te) (hs : swapsWith e none pos.line X.env = pure false := by rfl) : PS X (.Expr e pos) (tDrop te) := by
  intro pins s σ H D I h
  exact wpAny_Expr_any (thn (he pins s σ H _ I h) fun v s1 ⟨x, H1, I1, r1, q1⟩ => ⟨σ, H1, I1, q1⟩) I.quiet hs
def tRet (te : TE) : TS := fun D σ H => te σ H D.rt
theorem ps_ret (he : PE X e te) : PS X (.Return (some e) pos) (tRet te) := by
  intro pins s σ H D I h
  exact wpAny_Return_some (thn (he pins s σ H _ I h) fun v s1 ⟨x, H1, I1, r1, q1⟩ => ⟨x, σ, H1, I1, r1, q1⟩)
def tIfS (c : TT) (t u : TS) : TS := fun D σ H => c σ H fun b H1 => if b = true then t D σ H1 else u D σ H1
theorem ps_if {c : Expr} {a b : List Stmt} {tc : TT} (hc : PT X c tc) (ha : PSs X a t) (hb : PSs X b u) : PS X (.If c a b pos) (tIfS tc t u) := by
  intro pins s σ H D I h
  refine wpAny_If (thn (hc pins s σ H _ I h) fun d s1 ⟨H1, I1, q1⟩ => ?_)
  cases d with
  | true => exact ha pins s1 σ H1 D I1 q1
  | false => exact hb pins s1 σ H1 D I1 q1
end
abbrev TG := V -> St -> Hp -> (St -> Hp -> Prop) -> Prop
abbrev TGs := List V -> St -> Hp -> (St -> Hp -> Prop) -> Prop
def PG (X : Cx) (target : Expr) (t : TG) : Prop :=
  ∀ (pins : List (Addr × Obj)) (s : Shared) (σ : St) (H : Hp) (v : V) (u : Value) (Q : St -> Hp -> Prop), Inv X pins σ H s -> RelV v u -> t v σ H Q ->
    wpAny (model X.prog X.w) X.A (assign target X.env u) (fun _ s' => ∃ σ' H', Inv X pins σ' H' s' /\ Q σ' H') X.xe s
def PGs (X : Cx) (ts : List Expr) (t : TGs) : Prop :=
  ∀ (pins : List (Addr × Obj)) (s : Shared) (σ : St) (H : Hp) (vs : List V) (us : List Value) (Q : St -> Hp -> Prop), Inv X pins σ H s -> Vals vs us -> t vs σ H Q ->
    wpAny (model X.prog X.w) X.A (assignInOrder ((assignEach ts X.env).map (·.2)) us) (fun _ s' => ∃ σ' H', Inv X pins σ' H' s' /\ Q σ' H') X.xe s
section
variable {X : Cx} {pos : Pos}
def gName (i : Nat) : TG := fun v σ H Q => Q (σ.set i (some v)) H
theorem pg_name {i : Nat} {x : Str} (hN : X.N.Nodup) (hi : X.N[i]? = some x) (hx : Loc X.env.scope x) (hf : X.fn x = true \/ X.env.scope.names.lookup x = some .local := by first | exact .inl rfl | exact .inr rfl | assumption) : PG X (.Name x pos) (gName i) := by
  intro pins s σ H v u Q I r h
  exact wpAny_assign_Name (store_ok I hN hi hx r (fun s' I' => ⟨_, H, I', h⟩) hf)
def gNil : TGs := fun vs σ H Q => vs = [] /\ Q σ H
def gCons (t : TG) (u : TGs) : TGs := fun vs σ H Q => ∃ v r, vs = v :: r /\ t v σ H fun σ' H' => u r σ' H' Q
theorem pgs_nil : PGs X [] gNil := by
  intro pins s σ H vs us Q I r h
  obtain ⟨e, h⟩ := h
  subst e
  cases r
  exact assignInOrder_nil ⟨σ, H, I, h⟩
theorem pgs_cons {e : Expr} {es : List Expr} {t : TG} {u : TGs} (h1 : PG X e t) (h2 : PGs X es u)
    (hs : (assignEach (e :: es) X.env).map (·.2) = assign e X.env :: (assignEach es X.env).map (·.2) := by rfl) : PGs X (e :: es) (gCons t u) := by
  intro pins s σ H vs us Q I r h
  obtain ⟨v, vr, e1, h⟩ := h
  subst e1
  cases r with
  | cons r rr =>
    rw [hs]
    refine assignInOrder_cons (thn (h1 pins s σ H _ _ _ I r h) fun _ s1 ⟨σ1, H1, I1, q1⟩ => ?_)
    exact h2 pins s1 σ1 H1 _ _ Q I1 rr q1
def gTup (K : PySem.W.Frag) (n : Nat) (t : TGs) : TG := fun v σ H Q => ∃ a xs, v = .ref a /\ SqT K H a xs /\ xs.length = n /\ t xs σ H Q
theorem pg_tup {es : List Expr} {k : Nat} {t : TGs} {n : Nat} (hc : X.calm = true) (h : PGs X es t)
    (hn : (assignEach es X.env).length = n := by rfl) (hst : (assignEach es X.env).findIdx? (·.1) = none := by rfl) : PG X (.Tuple es k pos) (gTup X.K n t) := by
  intro pins s σ H v u Q I r hw
  obtain ⟨a, xs, e1, hq, hl, hw⟩ := hw
  subst e1
  cases r
  obtain ⟨its, rv, ht, hz⟩ := I.tuple hq
  refine assign_Tuple_tuple (I.ok.hd hc) ht (by simp [hn, <- hl, rv.length]) hst fun h' hx => ?_
  have I1 : Inv X pins σ H { s with heap := h' } := I.kept (t' := s.toks) fun b o e => hx b o (Nat.ne_of_lt (Heap.lt_size e)) e
  exact h pins _ σ H xs _ Q I1 (by simpa using rv) hw
def tAsg (te : TE) (g : TG) : TS := fun D σ H => te σ H fun x H1 => g x σ H1 D.nx
theorem ps_asg {tg e : Expr} {te : TE} {g : TG} (he : PE X e te) (hg : PG X tg g) (hs : swapsWithSole [tg] e pos.line X.env = pure false := by rfl) (hw : swappedStores [tg] e X.env = pure none := by rfl)
    (h1 : (assignEach [tg] X.env).map (·.2) = [assign tg X.env] := by rfl) : PS X (.Assign [tg] e pos) (tAsg te g) := by
  intro pins s σ H D I h
  refine wpAny_Assign_stores (thn (he pins s σ H _ I h) fun v s1 ⟨x, H1, I1, r1, q1⟩ => ?_) hs hw
  rw [h1]
  exact thn (hg pins s1 σ H1 x v _ I1 r1 q1) fun _ s2 q => q
theorem ps_set {i : Nat} {x : Str} {e : Expr} {te : TE} {pos' : Pos} (hN : X.N.Nodup) (hi : X.N[i]? = some x) (hx : Loc X.env.scope x) (he : PE X e te) (hs : swapsWith e (some (.Name x pos')) pos.line X.env = pure false := by rfl) (hf : X.fn x = true \/ X.env.scope.names.lookup x = some .local := by first | exact .inl rfl | exact .inr rfl | assumption) :
    PS X (.Assign [.Name x pos'] e pos) (tAsg te (gName i)) := by
  intro pins s σ H D I h
  refine wpAny_Assign_Name (thn (he pins s σ H _ I h) fun v s1 ⟨y, H1, I1, r1, q1⟩ => ?_) hs
  exact store_ok I1 hN hi hx r1 (fun s2 I2 => ⟨_, H1, I2, q1⟩) hf
end
section
variable {X : Cx} {pos : Pos}
def tWhile (c : TT) (tb : TS) : TS := fun D σ H => ∃ W : Nat -> St -> Hp -> Prop, (∃ m, W m σ H) /\ ∀ m σ H, W m σ H ->
  c σ H fun b H1 => if b = true then ∃ N : St -> Hp -> Prop, (∀ σ' H', N σ' H' -> ∃ m', m' < m /\ W m' σ' H') /\ tb { D with nx := N, ct := N, bk := D.nx } σ H1 else D.nx σ H1
theorem ps_while {c : Expr} {body : List Stmt} {tc : TT} {tb : TS} (hp : PassesOwn (model X.prog X.w) X.A X.env X.xe) (hc : PT X c tc) (hb : PSs X body tb) : PS X (.While c body [] pos) (tWhile tc tb) := by
  intro pins s σ H D I h
  obtain ⟨W, ⟨m0, w0⟩, turn⟩ := h
  refine wpAny_While (codeAny_whileLoop (fun n s' => ∃ σ' H', Inv X pins σ' H' s' /\ W n σ' H') ?_ m0 ⟨σ, H, I, w0⟩)
  rintro n s1 ⟨σ1, H1, I1, w1⟩
  refine wpAny_passesOwn hp (thn (hc pins s1 σ1 H1 _ I1 (turn n σ1 H1 w1)) fun b s2 ⟨H2, I2, q2⟩ => ?_)
  cases b with
  | true =>
    obtain ⟨N, hN, q2⟩ := q2
    rw [if_pos rfl]
    refine wpAny_passesOwn hp (thn (hb pins s2 σ1 H2 _ I2 q2) fun f s3 q3 => ?_)
    cases f with
    | next =>
      obtain ⟨σ3, H3, I3, n3⟩ := q3
      obtain ⟨m', hm, w3⟩ := hN σ3 H3 n3
      exact ⟨m', hm, σ3, H3, I3, w3⟩
    | cont =>
      obtain ⟨σ3, H3, I3, n3⟩ := q3
      obtain ⟨m', hm, w3⟩ := hN σ3 H3 n3
      exact ⟨m', hm, σ3, H3, I3, w3⟩
    | brk => exact q3
    | ret v => exact q3
  | false =>
    rw [if_neg Bool.false_ne_true]
    exact wpAny_execs_nil ⟨σ1, H2, I2, q2⟩
end
structure It where
  go : Nat -> Hp -> Prop
  yld : Nat -> Hp -> V -> Hp -> Prop
  stop : Nat -> Hp -> Prop
def FpOk (X : Cx) (pins : List (Addr × Obj)) (H : Hp) (b : Addr) : Prop :=
  H b = none /\ b ≠ X.env.locals /\ b ∉ X.fs /\ (b ∈ X.ex \/ X.s₀.heap.objs.size <= b) /\ (∀ x c, X.env.cells.lookup x = some c -> c ≠ b) /\ ∀ p ∈ X.pn ++ pins, p.1 ≠ b
theorem Inv.fpOk {X : Cx} {pins : List (Addr × Obj)} {σ : St} {H H' : Hp} {s : Shared} {b : Addr} (I : Inv X pins σ H s) (hb : s.heap.objs.size <= b) (hn : H' b = none) : FpOk X pins H' b := by
  refine ⟨hn, Nat.ne_of_gt (Nat.lt_of_lt_of_le I.lt hb), I.nofs hb, .inr (Nat.le_trans I.sz hb), fun x c e z => ?_, fun p hp z => ?_⟩
  · obtain ⟨v, q⟩ := I.cell x c e
    exact absurd (Nat.lt_of_lt_of_le q.lt (by rw [z]; exact hb)) (Nat.lt_irrefl _)
  · exact absurd (Nat.lt_of_lt_of_le (Heap.lt_size (I.pin p hp).1) (by rw [z]; exact hb)) (Nat.lt_irrefl _)
structure Turn (P : Program) (w : World) (K : PySem.W.Frag) (tg : Expr) (J : It) (fp : List Addr) (it : Addr) (tn : Nat -> Heap -> Prop) : Prop where
  mem : it ∈ fp
  obj : ∀ i h, tn i h -> ∀ b ∈ fp, ∃ o, h.get? b = some o /\ ∀ v, o.data ≠ .cell v
  keep : ∀ i h h', tn i h -> (∀ b ∈ fp, ∀ o, h.get? b = some o -> h'.get? b = some o) -> tn i h'
  item : ∀ (X : Cx), X.prog = P -> X.w = w -> X.K = K -> X.calm = true -> ∀ (i : Nat) (pins : List (Addr × Obj)) (s : Shared) (σ : St) (H : Hp) (E : Value -> Shared -> Prop), Inv X pins σ H s -> (∀ b ∈ fp, FpOk X pins H b) -> tn i s.heap -> J.go i H ->
    wpAny (model P w) X.A (pyNext (.ref it)) (fun r s1 => ∃ u, r = some u /\
      wpAny (model P w) X.A (letOwnedTupleGo tg (.ref it) u) (fun _ s2 => ∃ x H', Inv X pins σ H' s2 /\ RelV x u /\ J.yld i H x H' /\ tn (i + 1) s2.heap /\ ∀ b ∈ fp, H' b = none) E s1) E s
  done : ∀ (X : Cx), X.prog = P -> X.w = w -> X.K = K -> X.calm = true -> ∀ (i : Nat) (pins : List (Addr × Obj)) (s : Shared) (σ : St) (H : Hp) (E : Value -> Shared -> Prop), Inv X pins σ H s -> (∀ b ∈ fp, FpOk X pins H b) -> tn i s.heap -> J.stop i H ->
    wpAny (model P w) X.A (pyNext (.ref it)) (fun r s1 => r = none /\ Inv X pins σ H s1) E s
  self : ∀ (A : Around) (i : Nat) (s : Shared) (Q : Value -> Shared -> Prop) (E : Value -> Shared -> Prop), tn i s.heap -> Q (.ref it) s -> wpAny (model P w) A (pyIter (.ref it)) Q E s
abbrev TI := St -> Hp -> (It -> Hp -> Prop) -> Prop
def PIE (X : Cx) (pins : List (Addr × Obj)) (σ : St) (tg : Expr) (R : It -> Hp -> Prop) (itv : Value) (s2 : Shared) : Prop :=
  ∃ (it : Addr) (fp : List Addr) (tn : Nat -> Heap -> Prop) (J : It) (H' : Hp), itv = .ref it /\ Inv X pins σ H' s2 /\ Turn X.prog X.w X.K tg J fp it tn /\ tn 0 s2.heap /\ (∀ b ∈ fp, FpOk X pins H' b) /\ R J H'
def PI (X : Cx) (tg iter : Expr) (wi : TI) : Prop :=
  ∀ (pins : List (Addr × Obj)) (s : Shared) (σ : St) (H : Hp) (R : It -> Hp -> Prop), Inv X pins σ H s -> wi σ H R ->
    wpAny (model X.prog X.w) X.A (eval iter X.env) (fun v s1 => wpAny (model X.prog X.w) X.A (pyIter v) (PIE X pins σ tg R) X.xe s1) X.xe s
theorem go_of {M : Model} {A : Around} {E : Value -> Shared -> Prop} {s : Shared} {tg : Expr} {it : Addr} {u : Value} {o : Obj} {n : String} {vs : Array Value} {Q : Unit -> Shared -> Prop} (ho : s.heap.get? it = some o) (hc : o.cls = .type n) (hd : o.data = .fields vs)
    (hn : ["enumerate", "zip", "dict_itemiterator", "dict_reverseitemiterator", "odict_iterator", "itertools.zip_longest", "itertools.pairwise"].contains n = false) (hQ : Q () s) : wpAny M A (letOwnedTupleGo tg (.ref it) u) Q E s := by
  unfold letOwnedTupleGo
  cases tg <;> first
    | exact wpAny_pure hQ
    | (cases u <;> first
        | exact wpAny_pure hQ
        | (refine wpAny_bind (wpAny_load ho ?_)
           rw [hc, hd]
           show wpAny M A (if (["enumerate", "zip", "dict_itemiterator", "dict_reverseitemiterator", "odict_iterator", "itertools.zip_longest", "itertools.pairwise"].contains n && vs[0]? == some (rawInt _)) = true then _ else _) Q E s
           rw [if_neg (by intro h; rw [hn, Bool.false_and] at h; cases h)]
           exact wpAny_pure hQ))
def Itl (K : PySem.W.Frag) (a : Addr) : It :=
  ⟨fun i H => ∃ xs x, SqL K H a xs /\ xs[i]? = some x, fun i H x H' => H' = H /\ ∀ xs, SqL K H a xs -> xs[i]? = some x, fun i H => ∃ xs, SqL K H a xs /\ xs.length <= i⟩
def Itt (K : PySem.W.Frag) (a : Addr) : It :=
  ⟨fun i H => ∃ xs x, SqT K H a xs /\ xs[i]? = some x, fun i H x H' => H' = H /\ ∀ xs, SqT K H a xs -> xs[i]? = some x, fun i H => ∃ xs, SqT K H a xs /\ xs.length <= i⟩
def Itr (lo : Int) (n : Nat) : It := ⟨fun i _ => i < n, fun i H x H' => H' = H /\ x = .int (lo + i), fun i _ => n <= i⟩
theorem turn_list {P : Program} {w : World} {K : PySem.W.Frag} {tg : Expr} (a it : Addr) : Turn P w K tg (Itl K a) [it] it (fun i h => h.IsListIter it a i) where
  mem := by simp
  obj := fun i h st b hb => by
    have e : b = it := by simpa using hb
    subst e
    obtain ⟨o, e, c, d⟩ := st
    exact ⟨o, e, fun v z => by rw [d] at z; cases z⟩
  keep := fun i h h' st k => st.at fun o e => k it (by simp) o e
  item := by
    intro X hP hw hK hc i pins s σ H E I hf st hg
    subst hP hw hK
    obtain ⟨xs, x, hq, hx⟩ := hg
    obtain ⟨its, rv, p, hz⟩ := I.list hq
    obtain ⟨u, hu, ru⟩ := rv.get hx
    obtain ⟨f0, f1, f2, f3, f4, f5⟩ := hf it (by simp)
    refine wpAny_pyNext_list_item st p.isList (x := u) (by simpa using hu) fun h' st' sb => ?_
    have I1 : Inv X pins σ H { s with heap := h' } := I.turned (t' := s.toks) (fun b o hb e => (sb.2 b hb).trans e) f0 f1 f3 f4 f5
    obtain ⟨o, e, c, d⟩ := id st'
    exact ⟨u, rfl, go_of (s := { s with heap := h' }) e c d (by decide) ⟨x, H, I1, ru, ⟨rfl, fun ys hy => by rw [I.list_inj hy hq]; exact hx⟩, st', fun b hb => (hf b hb).1⟩⟩
  done := by
    intro X hP hw hK hc i pins s σ H E I hf st hg
    subst hP hw hK
    obtain ⟨xs, hq, hx⟩ := hg
    obtain ⟨its, rv, p, hz⟩ := I.list hq
    obtain ⟨f0, f1, f2, f3, f4, f5⟩ := hf it (by simp)
    have hl := rv.length
    exact wpAny_pyNext_list_end (I.ok.hd hc) st p.isList (by simp; omega) fun h' eb => ⟨rfl, I.turned (t' := s.toks) (fun b o hb e => eb b o hb e) f0 f1 f3 f4 f5⟩
  self := fun _ _ _ _ _ st h => wpAny_pyIter_listiter st h
theorem turn_tuple {P : Program} {w : World} {K : PySem.W.Frag} {tg : Expr} (a it : Addr) : Turn P w K tg (Itt K a) [it] it (fun i h => h.IsTupleIter it a i) where
  mem := by simp
  obj := fun i h st b hb => by
    have e : b = it := by simpa using hb
    subst e
    obtain ⟨o, e, c, d⟩ := st
    exact ⟨o, e, fun v z => by rw [d] at z; cases z⟩
  keep := fun i h h' st k => st.at fun o e => k it (by simp) o e
  item := by
    intro X hP hw hK hc i pins s σ H E I hf st hg
    subst hP hw hK
    obtain ⟨xs, x, hq, hx⟩ := hg
    obtain ⟨its, rv, p, hz⟩ := I.tuple hq
    obtain ⟨u, hu, ru⟩ := rv.get hx
    obtain ⟨f0, f1, f2, f3, f4, f5⟩ := hf it (by simp)
    refine wpAny_pyNext_tuple_item st (show s.heap.IsTuple a its.toArray from p) (x := u) (by simpa using hu) fun h' st' sb => ?_
    have I1 : Inv X pins σ H { s with heap := h' } := I.turned (t' := s.toks) (fun b o hb e => (sb.2 b hb).trans e) f0 f1 f3 f4 f5
    obtain ⟨o, e, c, d⟩ := id st'
    exact ⟨u, rfl, go_of (s := { s with heap := h' }) e c d (by decide) ⟨x, H, I1, ru, ⟨rfl, fun ys hy => by rw [I.tuple_inj hy hq]; exact hx⟩, st', fun b hb => (hf b hb).1⟩⟩
  done := by
    intro X hP hw hK hc i pins s σ H E I hf st hg
    subst hP hw hK
    obtain ⟨xs, hq, hx⟩ := hg
    obtain ⟨its, rv, p, hz⟩ := I.tuple hq
    obtain ⟨f0, f1, f2, f3, f4, f5⟩ := hf it (by simp)
    have hl := rv.length
    exact wpAny_pyNext_tuple_end (I.ok.hd hc) st (show s.heap.IsTuple a its.toArray from p) (by simp; omega) fun h' eb => ⟨rfl, I.turned (t' := s.toks) (fun b o hb e => eb b o hb e) f0 f1 f3 f4 f5⟩
  self := fun _ _ _ _ _ st h => wpAny_pyIter_tupleiter st h
theorem turn_range {P : Program} {w : World} {K : PySem.W.Frag} {tg : Expr} (it : Addr) (lo : Int) (n : Nat) : Turn P w K tg (Itr lo n) [it] it (fun i h => IsRangeIter h it (lo + (i : Nat) * 1) ((n : Int) - (i : Nat)) 1) where
  mem := by simp
  obj := fun i h st b hb => by
    have e : b = it := by simpa using hb
    subst e
    exact ⟨_, st, fun v z => by
      have z' : Data.fields _ = Data.cell v := z
      cases z'⟩
  keep := fun i h h' st k => k it (by simp) _ st
  item := by
    intro X hP hw hK hc i pins s σ H E I hf st hg
    subst hP hw hK
    obtain ⟨f0, f1, f2, f3, f4, f5⟩ := hf it (by simp)
    have W := Walks.range (prog := X.prog) (w := X.w) (I.ok.hd hc) it lo 1 n
    refine W.item i s _ _ hg st fun v h' tk hv st' kk => ?_
    obtain ⟨t, rfl⟩ := hv
    have I1 : Inv X pins σ H { s with heap := h', toks := tk } := I.turned (fun b o hb e => kk b o (by simpa using hb) e) f0 f1 f3 f4 f5
    refine ⟨_, rfl, go_of (s := { s with heap := h', toks := tk }) (n := "range_iterator") st' rfl rfl (by decide) ⟨.int (lo + i), H, I1, ⟨t, ?_⟩, ⟨rfl, rfl⟩, st', fun b hb => (hf b hb).1⟩⟩
    rw [Int.mul_one]
  done := by
    intro X hP hw hK hc i pins s σ H E I hf st hg
    subst hP hw hK
    obtain ⟨f0, f1, f2, f3, f4, f5⟩ := hf it (by simp)
    exact wpAny_pyNext_range_end (I.ok.hd hc) st (by have : n <= i := hg; omega) fun h' eb => ⟨rfl, I.turned (t' := s.toks) (fun b o hb e => eb b o hb e) f0 f1 f3 f4 f5⟩
  self := fun _ _ _ _ _ st h => wpAny_pyIter_rangeiter st h
end L2
namespace L2
open PySem PySem.Spec PyProof.Rows
section
variable {X : Cx} {tg : Expr}
def iList (K : PySem.W.Frag) (tl : TE) : TI := fun σ H R => tl σ H fun x H1 => ∃ a, x = .ref a /\ (∃ xs, SqL K H1 a xs) /\ R (Itl K a) H1
def iTup (K : PySem.W.Frag) (tl : TE) : TI := fun σ H R => tl σ H fun x H1 => ∃ a, x = .ref a /\ (∃ xs, SqT K H1 a xs) /\ R (Itt K a) H1
theorem pi_list {l : Expr} {tl : TE} (hl : PE X l tl) : PI X tg l (iList X.K tl) := by
  intro pins s σ H R I h
  refine thn (hl pins s σ H _ I h) fun v s1 ⟨x, H1, I1, r1, q1⟩ => ?_
  obtain ⟨a, e, ⟨xs, hq⟩, q⟩ := q1
  subst e
  cases r1
  obtain ⟨its, rv, p, hz⟩ := I1.list hq
  refine wpAny_pyIter_list p.isList ?_
  refine ⟨s1.heap.objs.size, [s1.heap.objs.size], _, _, H1, rfl, I1.kept (t' := s1.toks) fun b o e => Heap.get?_push_of_some _ e, turn_list a _, ⟨_, Heap.get?_push_size _ rfl, rfl, rfl⟩, fun b hb => ?_, q⟩
  have e : b = s1.heap.objs.size := by simpa using hb
  subst e
  exact I1.fpOk (Nat.le_refl _) (I1.hok.fresh (Nat.le_refl _))
theorem pi_tup {l : Expr} {tl : TE} (hl : PE X l tl) : PI X tg l (iTup X.K tl) := by
  intro pins s σ H R I h
  refine thn (hl pins s σ H _ I h) fun v s1 ⟨x, H1, I1, r1, q1⟩ => ?_
  obtain ⟨a, e, ⟨xs, hq⟩, q⟩ := q1
  subst e
  cases r1
  obtain ⟨its, rv, p, hz⟩ := I1.tuple hq
  refine wpAny_pyIter_tuple (show s1.heap.IsTuple a its.toArray from p) ?_
  refine ⟨s1.heap.objs.size, [s1.heap.objs.size], _, _, H1, rfl, I1.kept (t' := s1.toks) fun b o e => Heap.get?_push_of_some _ e, turn_tuple a _, ⟨_, Heap.get?_push_size _ rfl, rfl, rfl⟩, fun b hb => ?_, q⟩
  have e : b = s1.heap.objs.size := by simpa using hb
  subst e
  exact I1.fpOk (Nat.le_refl _) (I1.hok.fresh (Nat.le_refl _))
theorem range_it {pins : List (Addr × Obj)} {σ : St} {H : Hp} {s : Shared} {R : It -> Hp -> Prop} {E : Value -> Shared -> Prop} {lo hi : Int} {t u v : Tok} {tk : Nat} (I : Inv X pins σ H s) (h1 : -(2 ^ 62) <= lo) (h2 : lo < 2 ^ 62) (h3 : -(2 ^ 62) <= hi) (h4 : hi < 2 ^ 62)
    (q : R (Itr lo (hi - lo).toNat) H) : wpAny (model X.prog X.w) X.A (pyIter (.ref s.heap.objs.size)) (PIE X pins σ tg R) E { s with heap := s.heap.push { cls := .type "range", data := .fields #[.int lo t, .int hi u, .int 1 v] }, toks := tk } := by
  refine wpAny_pyIter_range (IsRange.new ..) (small_one h1 h2 h3 h4) ?_
  have I1 : Inv X pins σ H { s with heap := s.heap.push { cls := .type "range", data := .fields #[.int lo t, .int hi u, .int 1 v] }, toks := tk } := I.kept fun b o e => Heap.get?_push_of_some _ e
  refine ⟨(s.heap.push { cls := .type "range", data := .fields #[.int lo t, .int hi u, .int 1 v] }).objs.size, [(s.heap.push { cls := .type "range", data := .fields #[.int lo t, .int hi u, .int 1 v] }).objs.size], _, _, H, rfl,
    I1.kept (t' := tk) fun b o e => Heap.get?_push_of_some _ e, turn_range _ lo (hi - lo).toNat, ?_, fun b hb => ?_, q⟩
  · have e1 : lo + ((0 : Nat) : Int) * 1 = lo := by simp
    have e2 : (((hi - lo).toNat : Nat) : Int) - ((0 : Nat) : Int) = Builtin.Range.rangeSize lo hi 1 := by rw [rangeSize_one]; split <;> omega
    show IsRangeIter _ _ (lo + ((0 : Nat) : Int) * 1) ((((hi - lo).toNat : Nat) : Int) - ((0 : Nat) : Int)) 1
    rw [e1, e2]
    exact Heap.get?_push_size _ rfl
  · have e : b = (s.heap.push { cls := .type "range", data := .fields #[.int lo t, .int hi u, .int 1 v] }).objs.size := by simpa using hb
    subst e
    exact I1.fpOk (Nat.le_refl _) (I1.hok.fresh (Nat.le_refl _))
def iRng1 (ta : TA) : TI := fun σ H R => ta σ H fun vs H1 => ∃ j : Int, vs = [.int j] /\ -(2 ^ 62) <= j /\ j < 2 ^ 62 /\ R (Itr 0 j.toNat) H1
theorem pi_range1 {a : Expr} {ta : TA} {p pos : Pos} (hg : Gl X "range") (hm : X.mg "range" = none) (ha : PA X [a] ta) (hs : starEach [a] X.env = [(false, eval a X.env)] := by rfl) : PI X tg (.Call (.Name "range" p) [a] [] pos) (iRng1 ta) := by
  intro pins s σ H R I h
  refine Call_ (ld_blt I hg hm boot_range (PyProof.Rows.callWith_type1 (thn (ha pos pins s σ H _ I h) fun us s1 ⟨vs, H1, I1, r1, q1⟩ => ?_) hs rfl))
  obtain ⟨j, e, q1, q2, q⟩ := q1
  subst e
  cases r1 with
  | cons r rr =>
    cases rr
    obtain ⟨t, rfl⟩ := r
    exact call_range_1 (range_it I1 (by omega) (by omega) q1 q2 (by simpa using q))
def tFor (wi : TI) (g : TG) (tb : TS) : TS := fun D σ H => wi σ H fun J H1 => ∃ W : Nat -> Nat -> St -> Hp -> Prop, (∃ m, W 0 m σ H1) /\ ∀ i m σ H, W i m σ H ->
  (J.stop i H /\ D.nx σ H) \/ (J.go i H /\ ∃ N : St -> Hp -> Prop, (∀ σ' H', N σ' H' -> ∃ m', m' < m /\ W (i + 1) m' σ' H') /\ ∀ x H', J.yld i H x H' -> g x σ H' fun σ2 H2 => tb { D with nx := N, ct := N, bk := D.nx } σ2 H2)
def pinsAt (fp : List Addr) (h : Heap) : List (Addr × Obj) := fp.filterMap fun b => (h.get? b).map fun o => (b, o)
theorem mem_pinsAt {fp : List Addr} {h : Heap} {b : Addr} {o : Obj} (hb : b ∈ fp) (e : h.get? b = some o) : (b, o) ∈ pinsAt fp h := List.mem_filterMap.mpr ⟨b, hb, by rw [e]; rfl⟩
theorem of_pinsAt {fp : List Addr} {h : Heap} {p : Addr × Obj} (hp : p ∈ pinsAt fp h) : p.1 ∈ fp /\ h.get? p.1 = some p.2 := by
  obtain ⟨b, hb, e⟩ := List.mem_filterMap.mp hp
  cases q : h.get? b with
  | none => rw [q] at e; cases e
  | some o =>
    rw [q] at e
    have e' : (b, o) = p := Option.some.inj e
    subst e'
    exact ⟨hb, q⟩
theorem Inv.pinned {pins : List (Addr × Obj)} {σ : St} {H : Hp} {s : Shared} {fp : List Addr} (I : Inv X pins σ H s) (hf : ∀ b ∈ fp, FpOk X pins H b) (ho : ∀ b ∈ fp, ∃ o, s.heap.get? b = some o /\ ∀ v, o.data ≠ .cell v) : Inv X (pins ++ pinsAt fp s.heap) σ H s :=
  I.pins_of fun p hp => (List.mem_append.mp hp).elim (fun z => I.pin p (List.mem_append_right _ z)) fun z => by
    obtain ⟨hb, e⟩ := of_pinsAt z
    obtain ⟨f0, f1, f2, _⟩ := hf p.1 hb
    obtain ⟨o, e', d⟩ := ho p.1 hb
    rw [e] at e'; cases e'
    exact ⟨e, f0, f1, f2, d⟩
theorem Inv.unpinned {pins pl : List (Addr × Obj)} {σ : St} {H : Hp} {s : Shared} (I : Inv X (pins ++ pl) σ H s) : Inv X pins σ H s := I.pins_of fun p hp => I.pin p (List.mem_append_right _ (List.mem_append_left _ hp))
theorem ps_for {iter : Expr} {body : List Stmt} {wi : TI} {g : TG} {tb : TS} {pos : Pos} (hp : PassesOwn (model X.prog X.w) X.A X.env X.xe) (hc : X.calm = true) (hi : PI X tg iter wi) (hg : PG X tg g) (hb : PSs X body tb)
    (hs : ∀ x, foldedSetIterable iter X.env x = pure x := by intro _; rfl) : PS X (.For tg iter body [] pos) (tFor wi g tb) := by
  intro pins s σ H D I h
  refine wpAny_For (thn (hi pins s σ H _ I h) fun v s1 h1 => thn h1 fun itv s2 h2 => ?_) hs
  obtain ⟨it, fp, tn, J, H2, e, I2, T, st2, f2, W, ⟨m0, w0⟩, turn⟩ := h2
  subst e
  -- what stays true of the iterator's objects through the loop
  have stat : ∀ {H' : Hp}, (∀ b ∈ fp, H' b = none) -> ∀ b ∈ fp, FpOk X pins H' b := fun hn b hb => ⟨hn b hb, (f2 b hb).2⟩
  refine codeAny_forLoop_any (fun n s' => ∃ i σ' H', Inv X pins σ' H' s' /\ tn i s'.heap /\ (∀ b ∈ fp, H' b = none) /\ W i n σ' H') ?_ m0 ⟨0, σ, H2, I2, st2, fun b hb => (f2 b hb).1, w0⟩
  rintro n s3 ⟨i, σ3, H3, I3, st3, fr3, w3⟩
  rcases turn i n σ3 H3 w3 with ⟨stop, qn⟩ | ⟨go, N, hN, step⟩
  · refine wpAny_passesOwn hp (thn (T.done X rfl rfl rfl hc i pins s3 σ3 H3 X.xe I3 (stat fr3) st3 stop) fun r s4 ⟨hr, I4⟩ => ?_)
    subst hr
    exact wpAny_execs_nil ⟨σ3, H3, I4, qn⟩
  · refine wpAny_passesOwn hp (thn (T.item X rfl rfl rfl hc i pins s3 σ3 H3 X.xe I3 (stat fr3) st3 go) fun r s4 ⟨u, hr, h4⟩ => ?_)
    subst hr
    refine wpAny_passesOwn hp (thn h4 fun _ s5 ⟨x, H5, I5, r5, y5, st5, fr5⟩ => ?_)
    have I5' := I5.pinned (stat fr5) (T.obj _ _ st5)
    refine wpAny_passesOwn hp (thn (hg _ s5 σ3 H5 x u _ I5' r5 (step x H5 y5)) fun _ s6 ⟨σ6, H6, I6, q6⟩ => ?_)
    refine wpAny_passesOwn hp (thn (hb _ s6 σ6 H6 _ I6 q6) fun f s7 q7 => ?_)
    have again : ∀ {σ7 : St} {H7 : Hp}, Inv X (pins ++ pinsAt fp s5.heap) σ7 H7 s7 -> N σ7 H7 -> ∃ m, m < n /\ ∃ i σ' H', Inv X pins σ' H' s7 /\ tn i s7.heap /\ (∀ b ∈ fp, H' b = none) /\ W i m σ' H' := fun {σ7 H7} I7 n7 => by
      obtain ⟨m', hm, w7⟩ := hN σ7 H7 n7
      refine ⟨m', hm, i + 1, σ7, H7, I7.unpinned, T.keep _ _ _ st5 fun b hb o e => (I7.pin (b, o) (List.mem_append_right _ (List.mem_append_right _ (mem_pinsAt hb e)))).1, fun b hb => ?_, w7⟩
      obtain ⟨o, e, d⟩ := T.obj _ _ st5 b hb
      exact (I7.pin (b, o) (List.mem_append_right _ (List.mem_append_right _ (mem_pinsAt hb e)))).2.1
    cases f with
    | next => obtain ⟨σ7, H7, I7, n7⟩ := q7; exact again I7 n7
    | cont => obtain ⟨σ7, H7, I7, n7⟩ := q7; exact again I7 n7
    | brk => obtain ⟨σ7, H7, I7, q7⟩ := q7; exact ⟨σ7, H7, I7.unpinned, q7⟩
    | ret v => obtain ⟨x7, σ7, H7, I7, r7, q7⟩ := q7; exact ⟨x7, σ7, H7, I7.unpinned, r7, q7⟩
end
theorem for_list {K : PySem.W.Frag} {a : Addr} {xs : List V} {g : TG} {tb : TS} {D : Ends} {σ : St} {H : Hp} (Pv : Nat -> St -> Hp -> Prop) (h0 : Pv 0 σ H) (hl : ∀ i σ H, i <= xs.length -> Pv i σ H -> SqL K H a xs)
    (hs : ∀ i x σ H, xs[i]? = some x -> Pv i σ H -> g x σ H fun σ2 H2 => tb { D with nx := Pv (i + 1), ct := Pv (i + 1), bk := D.nx } σ2 H2) (hd : ∀ σ H, Pv xs.length σ H -> D.nx σ H) :
    ∃ W : Nat -> Nat -> St -> Hp -> Prop, (∃ m, W 0 m σ H) /\ ∀ i m σ H, W i m σ H ->
      ((Itl K a).stop i H /\ D.nx σ H) \/ ((Itl K a).go i H /\ ∃ N : St -> Hp -> Prop, (∀ σ' H', N σ' H' -> ∃ m', m' < m /\ W (i + 1) m' σ' H') /\ ∀ x H', (Itl K a).yld i H x H' -> g x σ H' fun σ2 H2 => tb { D with nx := N, ct := N, bk := D.nx } σ2 H2) := by
  refine ⟨fun i m σ H => m = xs.length - i /\ i <= xs.length /\ Pv i σ H, ⟨xs.length, by simp, Nat.zero_le _, h0⟩, ?_⟩
  rintro i m σ H ⟨rfl, hi, p⟩
  have q := hl i σ H hi p
  by_cases hlt : i < xs.length
  · refine .inr ⟨⟨xs, xs[i], q, by simp [hlt]⟩, Pv (i + 1), fun σ' H' p' => ⟨xs.length - (i + 1), by omega, rfl, hlt, p'⟩, fun x H' y => ?_⟩
    obtain ⟨e, y⟩ := y
    subst e
    exact hs i x σ _ (y xs q) p
  · have e : i = xs.length := by omega
    subst e
    exact .inl ⟨⟨xs, q, Nat.le_refl _⟩, hd σ H p⟩
theorem for_tup {K : PySem.W.Frag} {a : Addr} {xs : List V} {g : TG} {tb : TS} {D : Ends} {σ : St} {H : Hp} (Pv : Nat -> St -> Hp -> Prop) (h0 : Pv 0 σ H) (hl : ∀ i σ H, i <= xs.length -> Pv i σ H -> SqT K H a xs)
    (hs : ∀ i x σ H, xs[i]? = some x -> Pv i σ H -> g x σ H fun σ2 H2 => tb { D with nx := Pv (i + 1), ct := Pv (i + 1), bk := D.nx } σ2 H2) (hd : ∀ σ H, Pv xs.length σ H -> D.nx σ H) :
    ∃ W : Nat -> Nat -> St -> Hp -> Prop, (∃ m, W 0 m σ H) /\ ∀ i m σ H, W i m σ H ->
      ((Itt K a).stop i H /\ D.nx σ H) \/ ((Itt K a).go i H /\ ∃ N : St -> Hp -> Prop, (∀ σ' H', N σ' H' -> ∃ m', m' < m /\ W (i + 1) m' σ' H') /\ ∀ x H', (Itt K a).yld i H x H' -> g x σ H' fun σ2 H2 => tb { D with nx := N, ct := N, bk := D.nx } σ2 H2) := by
  refine ⟨fun i m σ H => m = xs.length - i /\ i <= xs.length /\ Pv i σ H, ⟨xs.length, by simp, Nat.zero_le _, h0⟩, ?_⟩
  rintro i m σ H ⟨rfl, hi, p⟩
  have q := hl i σ H hi p
  by_cases hlt : i < xs.length
  · refine .inr ⟨⟨xs, xs[i], q, by simp [hlt]⟩, Pv (i + 1), fun σ' H' p' => ⟨xs.length - (i + 1), by omega, rfl, hlt, p'⟩, fun x H' y => ?_⟩
    obtain ⟨e, y⟩ := y
    subst e
    exact hs i x σ _ (y xs q) p
  · have e : i = xs.length := by omega
    subst e
    exact .inl ⟨⟨xs, q, Nat.le_refl _⟩, hd σ H p⟩
theorem for_range {lo : Int} {n : Nat} {g : TG} {tb : TS} {D : Ends} {σ : St} {H : Hp} (Pv : Nat -> St -> Hp -> Prop) (h0 : Pv 0 σ H)
    (hs : ∀ i σ H, i < n -> Pv i σ H -> g (.int (lo + i)) σ H fun σ2 H2 => tb { D with nx := Pv (i + 1), ct := Pv (i + 1), bk := D.nx } σ2 H2) (hd : ∀ σ H, Pv n σ H -> D.nx σ H) :
    ∃ W : Nat -> Nat -> St -> Hp -> Prop, (∃ m, W 0 m σ H) /\ ∀ i m σ H, W i m σ H ->
      ((Itr lo n).stop i H /\ D.nx σ H) \/ ((Itr lo n).go i H /\ ∃ N : St -> Hp -> Prop, (∀ σ' H', N σ' H' -> ∃ m', m' < m /\ W (i + 1) m' σ' H') /\ ∀ x H', (Itr lo n).yld i H x H' -> g x σ H' fun σ2 H2 => tb { D with nx := N, ct := N, bk := D.nx } σ2 H2) := by
  refine ⟨fun i m σ H => m = n - i /\ i <= n /\ Pv i σ H, ⟨n, by simp, Nat.zero_le _, h0⟩, ?_⟩
  rintro i m σ H ⟨rfl, hi, p⟩
  by_cases hlt : i < n
  · refine .inr ⟨hlt, Pv (i + 1), fun σ' H' p' => ⟨n - (i + 1), by omega, rfl, hlt, p'⟩, fun x H' y => ?_⟩
    obtain ⟨e, y⟩ := y
    subst e y
    exact hs i σ _ hlt p
  · have e : i = n := by omega
    subst e
    exact .inl ⟨Nat.le_refl _, hd σ H p⟩
end L2
namespace L2
open PySem PySem.Spec PyProof.Rows
abbrev R2 := V -> V -> Hp -> VK -> Prop
def OpR (X : Cx) (f : Value -> Value -> Sem Value) (r : R2) : Prop :=
  ∀ (pins : List (Addr × Obj)) (s : Shared) (σ : St) (H : Hp) (x y : V) (v u : Value) (Q : VK), Inv X pins σ H s -> RelV x v -> RelV y u -> r x y H Q ->
    wpAny (model X.prog X.w) X.A (f v u) (EP X pins σ Q) X.xe s
def CallR (X : Cx) (f : Value) (r : List V -> Hp -> VK -> Prop) : Prop :=
  ∀ (pins : List (Addr × Obj)) (s : Shared) (σ : St) (H : Hp) (xs : List V) (us : List Value) (Q : VK), Inv X pins σ H s -> Vals xs us -> r xs H Q ->
    wpAny (model X.prog X.w) X.A (call f us) (EP X pins σ Q) X.xe s
def tOp (r : R2) (ta tb : TE) : TE := fun σ H Q => ta σ H fun x H1 => tb σ H1 fun y H2 => r x y H2 Q
def rI (C : Int -> Int -> Prop) (g : Int -> Int -> V) : R2 := fun x y H Q => ∃ i j, x = .int i /\ y = .int j /\ C i j /\ Q (g i j) H
def rI0 (g : Int -> Int -> V) : R2 := fun x y H Q => ∃ i j, x = .int i /\ y = .int j /\ Q (g i j) H
section
variable {X : Cx} {a b c : Expr} {ta tb tc : TE} {pos : Pos}
theorem binT (ha : PE X a ta) (hb : PE X b tb) {pins : List (Addr × Obj)} {s : Shared} {σ : St} {H : Hp} {R : V -> V -> Hp -> Prop} (I : Inv X pins σ H s)
    (h : ta σ H fun x H1 => tb σ H1 fun y H2 => R x y H2) {Q : Value -> Shared -> Prop} {f : Value -> Value -> Sem Value}
    (hf : ∀ v u s2 x y H2, Inv X pins σ H2 s2 -> RelV x v -> RelV y u -> R x y H2 -> wpAny (model X.prog X.w) X.A (f v u) Q X.xe s2) :
    wpAny (model X.prog X.w) X.A (eval a X.env) (fun v s₁ => wpAny (model X.prog X.w) X.A (eval b X.env) (fun u s₂ => wpAny (model X.prog X.w) X.A (f v u) Q X.xe s₂) X.xe s₁) X.xe s := by
  refine thn (ha pins s σ H _ I h) fun v s1 ⟨x, H1, I1, r1, q1⟩ => ?_
  refine thn (hb pins s1 σ H1 _ I1 q1) fun u s2 ⟨y, H2, I2, r2, q2⟩ => ?_
  exact hf v u s2 x y H2 I2 r1 r2 q2
theorem pe_op {op : Operator} {r : R2} (ho : OpR X (binaryOp op) r) (ha : PE X a ta) (hb : PE X b tb) : PE X (.BinOp a op b pos) (tOp r ta tb) := by
  intro pins s σ H Q I h
  exact wpAny_BinOp (binT ha hb I h fun v u s2 x y H2 I2 rx ry q => ho pins s2 σ H2 x y v u Q I2 rx ry q)
theorem opI {f : Value -> Value -> Sem Value} {C : Int -> Int -> Prop} {g : Int -> Int -> Int}
    (rule : ∀ (i j : Int) (t u : Tok) (s : Shared) (Q : Value -> Shared -> Prop) (E : Value -> Shared -> Prop), C i j -> Q (.int (g i j) s.toks) { s with toks := s.toks + 1 } -> wpAny (model X.prog X.w) X.A (f (.int i t) (.int j u)) Q E s) :
    OpR X f (rI C fun i j => .int (g i j)) := by
  intro pins s σ H x y v u Q I rx ry h
  obtain ⟨i, j, rfl, rfl, hc, q⟩ := h
  obtain ⟨t, rfl⟩ := rx
  obtain ⟨t', rfl⟩ := ry
  exact rule i j t t' s _ _ hc ⟨.int (g i j), H, I.tok _, ⟨_, rfl⟩, q⟩
theorem opI0 {f : Value -> Value -> Sem Value} {g : Int -> Int -> Int}
    (rule : ∀ (i j : Int) (t u : Tok) (s : Shared) (Q : Value -> Shared -> Prop) (E : Value -> Shared -> Prop), Q (.int (g i j) s.toks) { s with toks := s.toks + 1 } -> wpAny (model X.prog X.w) X.A (f (.int i t) (.int j u)) Q E s) :
    OpR X f (rI0 fun i j => .int (g i j)) := by
  intro pins s σ H x y v u Q I rx ry h
  obtain ⟨i, j, rfl, rfl, q⟩ := h
  obtain ⟨t, rfl⟩ := rx
  obtain ⟨t', rfl⟩ := ry
  exact rule i j t t' s _ _ ⟨.int (g i j), H, I.tok _, ⟨_, rfl⟩, q⟩
theorem opB0 {f : Value -> Value -> Sem Value} {g : Int -> Int -> Bool}
    (rule : ∀ (i j : Int) (t u : Tok) (s : Shared) (Q : Value -> Shared -> Prop) (E : Value -> Shared -> Prop), Q (.bool (g i j)) s -> wpAny (model X.prog X.w) X.A (f (.int i t) (.int j u)) Q E s) :
    OpR X f (rI0 fun i j => .bl (g i j)) := by
  intro pins s σ H x y v u Q I rx ry h
  obtain ⟨i, j, rfl, rfl, q⟩ := h
  obtain ⟨t, rfl⟩ := rx
  obtain ⟨t', rfl⟩ := ry
  exact rule i j t t' s _ _ ⟨.bl (g i j), H, I, rfl, q⟩
def CDiv (i j : Int) : Prop := 0 < j /\ j < 1073741824
def CPow (i j : Int) : Prop := 0 <= j /\ j <= 1000000 /\ i.natAbs < 2 ^ 64
def CMul (i j : Int) : Prop := (-(2 ^ 64) < i /\ i < 2 ^ 64) \/ (-(2 ^ 64) < j /\ j < 2 ^ 64)
theorem CMul.ok {i j : Int} (h : CMul i j) : IntMulOk i j := by
  rcases h with ⟨h1, h2⟩ | ⟨h1, h2⟩
  · exact .of_left (intBits_le_64 h1 h2)
  · exact .of_right (intBits_le_64 h1 h2)
theorem op_add : OpR X (binaryOp .Add) (rI0 fun i j => .int (i + j)) := opI0 fun _ _ _ _ _ _ _ q => add_int q
theorem op_sub : OpR X (binaryOp .Sub) (rI0 fun i j => .int (i - j)) := opI0 fun _ _ _ _ _ _ _ q => sub_int q
theorem op_mul : OpR X (binaryOp .Mult) (rI CMul fun i j => .int (i * j)) := opI fun _ _ _ _ _ _ _ hc q => mul_int q hc.ok
theorem op_fdiv : OpR X (binaryOp .FloorDiv) (rI CDiv fun i j => .int (i / j)) := opI fun i j _ _ _ _ _ hc q => by
  have h1 : (0 : Int) < j := hc.1
  have h2 : j < 1073741824 := hc.2
  exact floordiv_int (by omega) (by rw [Int.fdiv_eq_ediv_of_nonneg i (by omega)]; exact q) (.inl (PyProof.noPylong_small (by omega)))
theorem op_mod : OpR X (binaryOp .Mod) (rI (fun _ j => 0 < j) fun i j => .int (i % j)) := opI fun i j _ _ _ _ _ hc q => by
  have h1 : (0 : Int) < j := hc
  exact mod_int' (by omega) (by rw [Int.fmod_eq_emod_of_nonneg i (by omega)]; exact q)
theorem op_pow : OpR X (binaryOp .Pow) (rI CPow fun i j => .int (i ^ j.toNat)) := opI fun _ _ _ _ _ _ _ hc q => pow_int_small hc.1 hc.2.1 hc.2.2 q
end
def scal : V -> V -> Bool
  | .non, .non => true | .non, .int _ => true | .int _, .non => true | .non, .bl _ => true | .bl _, .non => true | .non, .str _ => true | .str _, .non => true
  | .int _, .int _ => true | .bl _, .bl _ => true | .str _, .str _ => true | .byt _, .byt _ => true
  | .int _, .str _ => true | .str _, .int _ => true | .bl _, .str _ => true | .str _, .bl _ => true
  | _, _ => false
def rEq : R2 := fun x y H Q => scal x y = true /\ Q (.bl (decide (x = y))) H
def rNe : R2 := fun x y H Q => scal x y = true /\ Q (.bl (!decide (x = y))) H
theorem dec_int {i j : Int} : decide (V.int i = V.int j) = (i == j) := by
  rw [Bool.eq_iff_iff]
  simp
theorem dec_bl {i j : Bool} : decide (V.bl i = V.bl j) = (i == j) := by
  rw [Bool.eq_iff_iff]
  simp
theorem dec_str {i j : Str} : decide (V.str i = V.str j) = (i == j) := by
  rw [Bool.eq_iff_iff]
  simp
theorem dec_byt {i j : Array UInt8} : decide (V.byt i = V.byt j) = (i.toList == j.toList) := by
  rw [Bool.eq_iff_iff]
  cases i
  cases j
  simp
section
variable {X : Cx} {a b c : Expr} {ta tb tc : TE} {pos : Pos}
theorem fin_bl {pins : List (Addr × Obj)} {σ : St} {H : Hp} {s : Shared} {Q : VK} {k k' : Bool} (I : Inv X pins σ H s) (q : Q (.bl k) H) (e : k = k') : EP X pins σ Q (.bool k') s := by
  subst e
  exact ⟨.bl k, H, I, rfl, q⟩
theorem op_eq : OpR X (compareOp .Eq) rEq := by
  intro pins s σ H x y v u Q I rx ry h
  obtain ⟨hs, q⟩ := h
  cases x with
  | non =>
    cases rx
    cases y with
    | non => cases ry; exact PySem.EqNone.eq_none_none (fin_bl I q (by simp))
    | bl j => cases ry; exact PySem.EqNone.eq_none_bool (fin_bl I q (by simp))
    | int j => obtain ⟨t', rfl⟩ := ry; exact PySem.EqNone.eq_none_int (fin_bl I q (by simp))
    | str j => obtain ⟨t', rfl⟩ := ry; exact PySem.EqNone.eq_none_str (fin_bl I q (by simp))
    | _ => exact absurd (show false = true from hs) Bool.false_ne_true
  | bl i =>
    cases rx
    cases y with
    | non => cases ry; exact PySem.EqNone.eq_bool_none (fin_bl I q (by simp))
    | bl j => cases ry; exact eq_bool (fin_bl I q dec_bl)
    | str j => obtain ⟨t', rfl⟩ := ry; exact PySem.EqMixed.eq_bool_str (fin_bl I q (by simp))
    | _ => exact absurd (show false = true from hs) Bool.false_ne_true
  | int i =>
    obtain ⟨t, rfl⟩ := rx
    cases y with
    | non => cases ry; exact PySem.EqNone.eq_int_none (fin_bl I q (by simp))
    | int j => obtain ⟨t', rfl⟩ := ry; exact eq_int (fin_bl I q dec_int)
    | str j => obtain ⟨t', rfl⟩ := ry; exact PySem.EqMixed.eq_int_str (fin_bl I q (by simp))
    | _ => exact absurd (show false = true from hs) Bool.false_ne_true
  | str i =>
    obtain ⟨t, rfl⟩ := rx
    cases y with
    | non => cases ry; exact PySem.EqNone.eq_str_none (fin_bl I q (by simp))
    | bl j => cases ry; exact PySem.EqMixed.eq_str_bool (fin_bl I q (by simp))
    | int j => obtain ⟨t', rfl⟩ := ry; exact PySem.EqMixed.eq_str_int (fin_bl I q (by simp))
    | str j => obtain ⟨t', rfl⟩ := ry; exact eq_str (fin_bl I q dec_str)
    | _ => exact absurd (show false = true from hs) Bool.false_ne_true
  | byt i =>
    obtain ⟨t, rfl⟩ := rx
    cases y with
    | byt j => obtain ⟨t', rfl⟩ := ry; exact PySem.W.eq_bytes (fin_bl I q dec_byt)
    | _ => exact absurd (show false = true from hs) Bool.false_ne_true
  | _ => cases y <;> exact absurd (show false = true from hs) Bool.false_ne_true
theorem op_ne : OpR X (compareOp .NotEq) rNe := by
  intro pins s σ H x y v u Q I rx ry h
  obtain ⟨hs, q⟩ := h
  cases x with
  | non =>
    cases rx
    cases y with
    | non => cases ry; exact PySem.EqNone.ne_none_none (fin_bl I q (by simp))
    | bl j => cases ry; exact PySem.EqNone.ne_none_bool (fin_bl I q (by simp))
    | int j => obtain ⟨t', rfl⟩ := ry; exact PySem.EqNone.ne_none_int (fin_bl I q (by simp))
    | str j => obtain ⟨t', rfl⟩ := ry; exact PySem.EqNone.ne_none_str (fin_bl I q (by simp))
    | _ => exact absurd (show false = true from hs) Bool.false_ne_true
  | bl i =>
    cases rx
    cases y with
    | non => cases ry; exact PySem.EqNone.ne_bool_none (fin_bl I q (by simp))
    | bl j => cases ry; exact ne_bool (fin_bl I q (congrArg not dec_bl))
    | str j => obtain ⟨t', rfl⟩ := ry; exact PySem.EqMixed.ne_bool_str (fin_bl I q (by simp))
    | _ => exact absurd (show false = true from hs) Bool.false_ne_true
  | int i =>
    obtain ⟨t, rfl⟩ := rx
    cases y with
    | non => cases ry; exact PySem.EqNone.ne_int_none (fin_bl I q (by simp))
    | int j => obtain ⟨t', rfl⟩ := ry; exact ne_int (fin_bl I q (congrArg not dec_int))
    | str j => obtain ⟨t', rfl⟩ := ry; exact PySem.EqMixed.ne_int_str (fin_bl I q (by simp))
    | _ => exact absurd (show false = true from hs) Bool.false_ne_true
  | str i =>
    obtain ⟨t, rfl⟩ := rx
    cases y with
    | non => cases ry; exact PySem.EqNone.ne_str_none (fin_bl I q (by simp))
    | bl j => cases ry; exact PySem.EqMixed.ne_str_bool (fin_bl I q (by simp))
    | int j => obtain ⟨t', rfl⟩ := ry; exact PySem.EqMixed.ne_str_int (fin_bl I q (by simp))
    | str j => obtain ⟨t', rfl⟩ := ry; exact ne_str (fin_bl I q (congrArg not dec_str))
    | _ => exact absurd (show false = true from hs) Bool.false_ne_true
  | byt i =>
    obtain ⟨t, rfl⟩ := rx
    cases y with
    | byt j => obtain ⟨t', rfl⟩ := ry; exact PySem.W.ne_bytes (fin_bl I q (congrArg not dec_byt))
    | _ => exact absurd (show false = true from hs) Bool.false_ne_true
  | _ => cases y <;> exact absurd (show false = true from hs) Bool.false_ne_true
theorem op_lt : OpR X (compareOp .Lt) (rI0 fun i j => .bl (decide (i < j))) := opB0 fun _ _ _ _ _ _ _ q => lt_int q
theorem op_le : OpR X (compareOp .LtE) (rI0 fun i j => .bl (decide (i <= j))) := opB0 fun _ _ _ _ _ _ _ q => le_int q
theorem op_gt : OpR X (compareOp .Gt) (rI0 fun i j => .bl (decide (j < i))) := opB0 fun _ _ _ _ _ _ _ q => gt_int q
theorem OpR.or {f : Value -> Value -> Sem Value} {r r' : R2} (h : OpR X f r) (h' : OpR X f r') : OpR X f (fun x y H Q => r x y H Q \/ r' x y H Q) := by
  intro pins s σ H x y v u Q I rx ry q
  rcases q with q | q
  · exact h pins s σ H x y v u Q I rx ry q
  · exact h' pins s σ H x y v u Q I rx ry q
theorem nomark (b : Expr) {op : CmpOp} (h : op ≠ .In := by decide) (h2 : op ≠ .NotIn := by decide) : behindInMarks op b = false := by
  have e1 : (op == CmpOp.In) = false := by cases op <;> first | rfl | exact absurd rfl h
  have e2 : (op == CmpOp.NotIn) = false := by cases op <;> first | rfl | exact absurd rfl h2
  cases b <;> simp [behindInMarks, e1, e2]
theorem pe_cmpR {op : CmpOp} {r : R2} (ho : OpR X (compareOp op) r) (ha : PE X a ta) (hb : PE X b tb) (hm : behindInMarks op b = false) : PE X (.Compare a [op] [b] pos) (tOp r ta tb) := by
  intro pins s σ H Q I h
  exact wpAny_Compare1 (binT ha hb I h fun v u s2 x y H2 I2 rx ry q => ho pins s2 σ H2 x y v u Q I2 rx ry q) hm
def tTest (t : TE) : TT := fun σ H Q => t σ H fun x H' => ∃ k, x = .bl k /\ Q k H'
theorem pt_cmpR {op : CmpOp} {r : R2} (ho : OpR X (compareOp op) r) (ha : PE X a ta) (hb : PE X b tb) (hm : behindInMarks op b = false) : PT X (.Compare a [op] [b] pos) (tTest (tOp r ta tb)) := by
  intro pins s σ H Q I h
  refine wpAny_isTrue_Compare1 (thn (ha pins s σ H _ I h) fun v s1 ⟨x, H1, I1, r1, q1⟩ => thn (hb pins s1 σ H1 _ I1 q1) fun u s2 ⟨y, H2, I2, r2, q2⟩ =>
    thn (ho pins s2 σ H2 x y v u _ I2 r1 r2 q2) fun c s3 ⟨z, H3, I3, r3, k, e, q3⟩ => ?_) hm
  subst e
  cases r3
  exact wpAny_truthy_bool ⟨H3, I3, q3⟩
theorem line63 : (sizeLine : Nat) < 2 ^ 63 := by rw [sizeLine_eq]; decide
theorem op_add_str : OpR X (binaryOp .Add) (fun x y H Q => ∃ i j, x = .str i /\ y = .str j /\ i.length + j.length <= sizeLine /\ Q (.str (i ++ j)) H) := by
  intro pins s σ H x y v u Q I rx ry h
  obtain ⟨i, j, rfl, rfl, hz, q⟩ := h
  obtain ⟨t, rfl⟩ := rx
  obtain ⟨t', rfl⟩ := ry
  exact add_str (fun t' tk => ⟨.str (i ++ j), H, I.tok _, ⟨_, rfl⟩, q⟩) hz
theorem vals1 {x : V} {us : List Value} (r : Vals [x] us) : ∃ u, us = [u] /\ RelV x u := by
  cases r with
  | cons r1 r2 => cases r2; exact ⟨_, rfl, r1⟩
theorem vals2 {x y : V} {us : List Value} (r : Vals [x, y] us) : ∃ u w', us = [u, w'] /\ RelV x u /\ RelV y w' := by
  cases r with
  | cons r1 r2 =>
    cases r2 with
    | cons r3 r4 => cases r4; exact ⟨_, _, rfl, r1, r3⟩
theorem call_max2 (hc : X.calm = true) : CallR X (.builtin "max") (fun xs H Q => ∃ i j, xs = [.int i, .int j] /\ Q (.int (if j > i then j else i)) H) := by
  intro pins s σ H xs us Q I r h
  obtain ⟨i, j, rfl, q⟩ := h
  obtain ⟨u, w', rfl, ⟨t, rfl⟩, ⟨t', rfl⟩⟩ := vals2 r
  refine max_two_ints (I.ok.hd hc) fun h' tk k => ⟨_, H, I.kept k, ?_, q⟩
  by_cases hj : j > i
  · rw [if_pos hj, if_pos hj]; exact ⟨_, rfl⟩
  · rw [if_neg hj, if_neg hj]; exact ⟨_, rfl⟩
theorem call_min2 (hc : X.calm = true) : CallR X (.builtin "min") (fun xs H Q => ∃ i j, xs = [.int i, .int j] /\ Q (.int (if j < i then j else i)) H) := by
  intro pins s σ H xs us Q I r h
  obtain ⟨i, j, rfl, q⟩ := h
  obtain ⟨u, w', rfl, ⟨t, rfl⟩, ⟨t', rfl⟩⟩ := vals2 r
  refine min_two_ints (I.ok.hd hc) fun h' tk k => ⟨_, H, I.kept k, ?_, q⟩
  by_cases hj : j < i
  · rw [if_pos hj, if_pos hj]; exact ⟨_, rfl⟩
  · rw [if_neg hj, if_neg hj]; exact ⟨_, rfl⟩
theorem call_int1 : CallR X (.type "int") (fun xs H Q => (∃ i, xs = [.int i] /\ Q (.int i) H) \/ ∃ k, xs = [.bl k] /\ Q (.int (if k then 1 else 0)) H) := by
  intro pins s σ H xs us Q I r h
  rcases h with ⟨i, rfl, q⟩ | ⟨k, rfl, q⟩
  · obtain ⟨u, rfl, t, rfl⟩ := vals1 r
    exact call_int_int ⟨.int i, H, I, ⟨_, rfl⟩, q⟩
  · obtain ⟨u, rfl, r1⟩ := vals1 r
    cases r1
    exact call_int_bool ⟨.int (if k then 1 else 0), H, I.tok _, ⟨_, rfl⟩, q⟩
end
end L2
namespace L2
open PySem PySem.Spec PyProof.Rows
structure ObjM (h : Heap) (x dx C : Addr) (mA : Str -> Option Value) : Prop where
  obj : h.get? x = some (PySem.W.instObj C dx)
  ns : h.Ns1 dx mA
  ne : dx ≠ x
theorem lookIn_ns {h : Heap} {dx : Addr} {mA : Str -> Option Value} (n : h.Ns1 dx mA) : ∃ od, h.get? dx = some od /\ ∀ name, PySem.W.lookIn name od = some (mA name) := by
  obtain ⟨o, es, ep, ho, hd, hk, _, hm⟩ := n
  refine ⟨o, ho, fun name => ?_⟩
  have e := hm name
  unfold nsFind findBy at e
  rw [<- Array.find?_toList] at e
  unfold PySem.W.lookIn
  rw [hd]
  dsimp only
  split
  · rename_i y q
    rw [q] at e
    exact congrArg some e
  · rename_i q
    rw [q] at e
    have a : es.toList.any (·.refKey) = false := by
      rw [List.any_eq_false]
      intro y hy
      obtain ⟨z, t, hkey⟩ := hk y (Array.mem_toList_iff.mp hy)
      simp [DictEntry.refKey, hkey]
    have a' : ¬ es.toList.any (·.refKey) = true := by rw [a]; exact Bool.false_ne_true
    rw [if_neg a']
    exact congrArg some e
theorem ObjM.look {h : Heap} {x dx C : Addr} {mA : Str -> Option Value} (I : ObjM h x dx C mA) : ∃ od, PySem.W.InstAt h x (PySem.W.instObj C dx) C (some od) /\ ∀ name, PySem.W.lookIn name od = some (mA name) :=
  let ⟨od, ho, hl⟩ := lookIn_ns I.ns
  ⟨od, ⟨I.obj, rfl, rfl, ho⟩, hl⟩
section
variable {prog : Program} {w : World} {A : Around} {E : Value -> Shared -> Prop} {s : Shared} {K : PySem.W.Frag} {x dx C f : Addr} {mA : Str -> Option Value} {name : Str} {v : Value}
theorem get_map {expr : Bool} {Q : Value -> Shared -> Prop} (X : K.In s.heap) (I : ObjM s.heap x dx C mA) (hg : PySem.W.plainGet K C name = true) (hh : PySem.W.hasDictIn K C = true)
    (ha : PySem.W.findIn K (.ref C) name = some none) (hv : mA name = some v) (hv' : PySem.W.handedIn v = true) (h : Q v { s with toks := s.toks + 1 }) :
    wpAny (model prog w) A (getAttr (.ref x) name expr) Q E s := by
  obtain ⟨od, J, hl⟩ := I.look
  exact PySem.W.get_value X J (PySem.W.plainGet_of hg).1 (PySem.W.findObj_own hh ha rfl (by rw [hl, hv])) hv' h
theorem set_map {ns : List Str} {Q : Unit -> Shared -> Prop} (X : K.In s.heap) (I : ObjM s.heap x dx C mA)
    (hs : PySem.W.findIn K (.ref C) "__setattr__" = some (some (.builtin "object.__setattr__"))) (hp : PySem.W.plainOver K C = true) (ht : PySem.W.takerIn K C name = some none) (hh : PySem.W.hasDictIn K C = true)
    (hw : PySem.Within mA ns) (hsz : ns.length <= sizeLine)
    (h : ∀ h', ObjM h' x dx C (fun y => if y = name then some v else mA y) -> Heap.SameBut dx s.heap h' -> Q () { s with heap := h', toks := s.toks + 2 }) :
    wpAny (model prog w) A (setAttr (.ref x) name v) Q E s := by
  obtain ⟨od, J, hl⟩ := I.look
  refine PySem.W.set_plain X J hs (PySem.W.osa_open (s := { s with toks := s.toks + 1 }) (r := none) X J hp ht fun b => ?_)
  obtain ⟨cd, hc, hd'⟩ := PySem.W.any_some hh
  have hx : s.heap.get? x = some ⟨.ref C, some dx, .plain, #[]⟩ := I.obj
  refine wpAny_bind (wpAny_pure (wpAny_bind (wpAny_bind (wpAny_loadPart hx (wpAny_bind (PySem.W.Looks.here (s := { s with toks := s.toks + 1 }) (PySem.W.looks_clsIn X hc) ?_))))))
  rw [hd']
  refine wpAny_pure (a := some dx) (wpAny_bind (wpAny_pure (wpAny_bind ?_)))
  refine wpAny_nsSet1 (s := { s with toks := s.toks + 1 }) I.ns fun h' hn2 hs2 => ?_
  obtain ⟨oD, esD, epD, hoD, hdD, hcD⟩ := hn2.count (PySem.Within.cons name v hw)
  refine wpAny_bind (wpAny_lookBehind hoD (by rw [hdD]; exact pastItsLine_dict (Nat.le_trans hcD (by rw [List.length_cons]; omega))) ?_)
  exact wpAny_pure (h _ ⟨(hs2.2 _ (Ne.symm I.ne)).trans I.obj, hn2, I.ne⟩ hs2)
theorem make_map {R : Result -> Shared -> Prop} {vs : List Value} {kw : List (Str × Value)} (X : K.In s.heap) (hm : PySem.W.makesIn K C = true)
    (hi : PySem.W.findIn K (.ref C) "__init__" = some (some (.ref f))) (hf : PySem.W.typeIn K (.ref f) = some (.type "function"))
    (h : codeAny (model prog w) (A.under (.builtin "type.__call__" ⟨.ref C :: vs, kw⟩)) (.call (.ref f) ⟨.ref (s.heap.objs.size + 1) :: vs, kw⟩) (PySem.W.InitBack (s.heap.objs.size + 1) R)
      { s with heap := (s.heap.push PySem.W.emptyDict).push (PySem.W.instObj C s.heap.objs.size) }) :
    codeAny (model prog w) A (.call (.ref C) ⟨vs, kw⟩) R s := by
  obtain ⟨hh, g, d, t, os⟩ := s
  exact PySem.W.make_core (PySem.W.makes_of X hm) (PySem.W.looks_findIn X hi) (fun self => PySem.W.bind_fn X self hf) (.inl rfl) h
end
def putF (f : Str) (v : V) : List (Str × V) -> List (Str × V)
  | [] => [(f, v)]
  | (g, x) :: r => if g = f then (g, v) :: r else (g, x) :: putF f v r
theorem lookup_putF (f g : Str) (v : V) : ∀ fs : List (Str × V), (putF f v fs).lookup g = if g = f then some v else fs.lookup g
  | [] => by
    show List.lookup g [(f, v)] = _
    by_cases h : g = f
    · have hb : (g == f) = true := beq_iff_eq.mpr h
      simp only [List.lookup, hb, if_pos h]
    · have hb : (g == f) = false := beq_eq_false_iff_ne.mpr h
      simp only [List.lookup, hb, if_neg h]
  | (k, x) :: r => by
    have ih := lookup_putF f g v r
    rw [show putF f v ((k, x) :: r) = (if k = f then (k, v) :: r else (k, x) :: putF f v r) from rfl]
    by_cases hk : k = f
    · rw [if_pos hk]
      by_cases h : g = k
      · have hb : (g == k) = true := beq_iff_eq.mpr h
        simp only [List.lookup, hb, if_pos (h.trans hk)]
      · have hb : (g == k) = false := beq_eq_false_iff_ne.mpr h
        simp only [List.lookup, hb, if_neg (fun e : g = f => h (e.trans hk.symm))]
    · rw [if_neg hk]
      by_cases h : g = k
      · have hb : (g == k) = true := beq_iff_eq.mpr h
        simp only [List.lookup, hb, if_neg (fun e : g = f => hk (h.symm.trans e))]
      · have hb : (g == k) = false := beq_eq_false_iff_ne.mpr h
        simp only [List.lookup, hb]
        exact ih
theorem keys_putF (f : Str) (v : V) : ∀ fs : List (Str × V), f ∈ (putF f v fs).map (·.1) /\ ∀ g, g ∈ fs.map (·.1) -> g ∈ (putF f v fs).map (·.1)
  | [] => ⟨by simp [putF], fun g h => by simp at h⟩
  | (k, x) :: r => by
    obtain ⟨i1, i2⟩ := keys_putF f v r
    rw [show putF f v ((k, x) :: r) = (if k = f then (k, v) :: r else (k, x) :: putF f v r) from rfl]
    by_cases hk : k = f
    · rw [if_pos hk]
      subst hk
      exact ⟨by simp, fun g h => by simpa using h⟩
    · rw [if_neg hk]
      refine ⟨?_, fun g h => ?_⟩
      · rw [List.map_cons]
        exact List.mem_cons_of_mem _ i1
      · rw [List.map_cons] at h ⊢
        rcases List.mem_cons.mp h with e | e
        · exact List.mem_cons.mpr (.inl e)
        · exact List.mem_cons_of_mem _ (i2 g e)
theorem length_putF (f : Str) (v : V) : ∀ fs : List (Str × V), (putF f v fs).length <= fs.length + 1
  | [] => by simp [putF]
  | (k, x) :: r => by
    have ih := length_putF f v r
    rw [show putF f v ((k, x) :: r) = (if k = f then (k, v) :: r else (k, x) :: putF f v r) from rfl]
    by_cases hk : k = f
    · rw [if_pos hk, List.length_cons, List.length_cons]; omega
    · rw [if_neg hk, List.length_cons, List.length_cons]; omega
theorem RelO.some_of {v : V} {o : Option Value} (r : RelO (some v) o) : ∃ u, o = some u /\ RelV v u := by
  cases o with
  | none => exact (show False from r).elim
  | some u => exact ⟨u, rfl, r⟩
theorem handed_of {v : V} {u : Value} (r : RelV v u) : PySem.W.handedIn u = true := by
  cases v with
  | non => cases (show u = Value.none from r); rfl
  | bl b => cases (show u = Value.bool b from r); rfl
  | int i => obtain ⟨t, e⟩ := (show ∃ t, u = Value.int i t from r); cases e; rfl
  | str x => obtain ⟨t, e⟩ := (show ∃ t, u = Value.str x t from r); cases e; rfl
  | byt b => obtain ⟨t, e⟩ := (show ∃ t, u = Value.bytes b t from r); cases e; rfl
  | flt b => obtain ⟨t, e⟩ := (show ∃ t, u = Value.float b t from r); cases e; rfl
  | ref a => cases (show u = Value.ref a from r); rfl
  | ty n => cases (show u = Value.type n from r); rfl
section
variable {P : Program} {w : World} {H H' : Hp} {h h' : Heap} {a C dx : Addr} {fs fs' : List (Str × V)}
theorem ins_get (hok : HOk P w H h) (e : H a = some (.ins C dx fs)) : ∃ mA, ObjM h a dx C mA /\ (∀ f, RelO (fs.lookup f) (mA f)) /\ PySem.Within mA (fs.map (·.1)) /\ fs.length <= 1000 /\ H dx = some (.own a) := by
  obtain ⟨d, z, ne, ob, mA, n, r, q⟩ := (show ObjOk P w H h a (.ins C dx fs) from hok a _ e)
  exact ⟨mA, ⟨ob, n, ne⟩, r, q, z, d⟩
end
structure Cls (K : PySem.W.Frag) (C : Addr) : Prop where
  pg : PySem.W.plainGet K C Str.empty = true
  hd : PySem.W.hasDictIn K C = true
  po : PySem.W.plainOver K C = true
  sa : PySem.W.findIn K (.ref C) "__setattr__" = some (some (.builtin "object.__setattr__"))
theorem Cls.get {K : PySem.W.Frag} {C : Addr} (c : Cls K C) (f : Str) : PySem.W.plainGet K C f = true := c.pg
def NoAttr (K : PySem.W.Frag) (C : Addr) (f : Str) : Prop := PySem.W.findIn K (.ref C) f = some none
theorem NoAttr.taker {K : PySem.W.Frag} {C : Addr} {f : Str} (n : NoAttr K C f) : PySem.W.takerIn K C f = some none := by
  unfold PySem.W.takerIn
  rw [show PySem.W.findIn K (.ref C) f = some none from n]
  rfl
structure Con (K : PySem.W.Frag) (C : Addr) (f : Str) (v : V) (u : Value) : Prop where
  at_ : PySem.W.findIn K (.ref C) f = some (some u)
  rel : RelV v u
  get : PySem.W.specialIn K u "__get__" = some none
  cp : PySem.W.copiedNames.contains f = false
structure Meth (K : PySem.W.Frag) (C : Addr) (m : Str) (f : Addr) : Prop where
  at_ : PySem.W.findIn K (.ref C) m = some (some (.ref f))
  fn : PySem.W.isFn K (.ref f) = true
  kp : PySem.W.keepIn K (.ref f) = true
section
variable {X : Cx} {pins : List (Addr × Obj)} {σ : St} {H : Hp} {s : Shared} {a C dx : Addr} {fs : List (Str × V)} {f : Str} {v : V} {A : Around} {E : Value -> Shared -> Prop}
theorem getattr_ok {b : Bool} {Q : Value -> Shared -> Prop} (I : Inv X pins σ H s) (e : H a = some (.ins C dx fs)) (c : Cls X.K C) (n : NoAttr X.K C f) (l : fs.lookup f = some v)
    (h : ∀ u s', Inv X pins σ H s' -> RelV v u -> Q u s') : wpAny (model X.prog X.w) A (getAttr (.ref a) f b) Q E s := by
  obtain ⟨mA, O, r, _, _, _⟩ := ins_get I.hok e
  obtain ⟨u, hu, ru⟩ := RelO.some_of (v := v) (o := mA f) (by rw [<- l]; exact r f)
  exact get_map I.kIn O (c.get f) c.hd n hu (handed_of ru) (h u _ (I.tok _) ru)
theorem setattr_ok {y : V} {u : Value} {Q : Unit -> Shared -> Prop} (I : Inv X pins σ H s) (e : H a = some (.ins C dx fs)) (c : Cls X.K C) (n : NoAttr X.K C f) (hl : fs.length < 1000) (ry : RelV y u)
    (h : ∀ s', Inv X pins σ (upd H a (.ins C dx (putF f y fs))) s' -> Q () s') : wpAny (model X.prog X.w) A (setAttr (.ref a) f u) Q E s := by
  obtain ⟨mA, O, r, wi, _, ho⟩ := ins_get I.hok e
  have hz : (fs.map (·.1)).length <= sizeLine := by rw [List.length_map, sizeLine_eq]; omega
  refine set_map I.kIn O c.sa c.po n.taker c.hd wi hz fun h' O' sb => h _ ?_
  have hd : ∃ o, h'.get? dx = some o := let ⟨o, _, _, e', _⟩ := O'.ns; ⟨o, e'⟩
  refine I.write (x := a) (e := dx) (by rw [e]; exact True.intro) (.inr ho) (fun b q hb z => (sb.2 b hb).trans z) hd ?_
  refine ⟨by rw [upd_ne O.ne]; exact ho, ?_, O.ne, O'.obj, _, O'.ns, fun g => ?_, fun g hg => ?_⟩
  · have := length_putF f y fs; omega
  · show RelO ((putF f y fs).lookup g) (if g = f then some u else mA g)
    rw [lookup_putF]
    by_cases q : g = f
    · rw [if_pos q, if_pos q]; exact ry
    · rw [if_neg q, if_neg q]; exact r g
  · by_cases q : g = f
    · rw [q]; exact (keys_putF f y fs).1
    · refine (keys_putF f y fs).2 g (wi g fun z => hg ?_)
      show (if g = f then some u else mA g) = none
      rw [if_neg q]; exact z
theorem Inv.made (I : Inv X pins σ H s) : Inv X pins σ (upd (upd H s.heap.objs.size (.own (s.heap.objs.size + 1))) (s.heap.objs.size + 1) (.ins C s.heap.objs.size []))
    { s with heap := (s.heap.push PySem.W.emptyDict).push (PySem.W.instObj C s.heap.objs.size) } := by
  have e1 : (s.heap.push PySem.W.emptyDict).get? s.heap.objs.size = some PySem.W.emptyDict := Heap.get?_push_size s.heap rfl
  have e2 : ((s.heap.push PySem.W.emptyDict).push (PySem.W.instObj C s.heap.objs.size)).get? (s.heap.objs.size + 1) = some (PySem.W.instObj C s.heap.objs.size) := by
    have := Heap.get?_push_size (s.heap.push PySem.W.emptyDict) (o := PySem.W.instObj C s.heap.objs.size) rfl
    rwa [Heap.size_push] at this
  have e3 : (s.heap.push PySem.W.emptyDict).Ns s.heap.objs.size (fun _ => none) := ⟨PySem.W.emptyDict, #[], _, e1, rfl, (fun e he => absurd he (by simp)), fun _ => rfl⟩
  have I1 := I.laid (a := s.heap.objs.size) (o := .own (s.heap.objs.size + 1)) (h' := s.heap.push PySem.W.emptyDict) (t' := s.toks) (fun b u q => Heap.get?_push_of_some _ q) (Nat.le_refl _) ⟨_, e1⟩
  refine I1.laid (a := s.heap.objs.size + 1) (o := .ins C s.heap.objs.size []) (t' := s.toks) (fun b u q => Heap.get?_push_of_some _ q) (Nat.le_of_eq (Heap.size_push _ _)) ?_
  have ne : s.heap.objs.size ≠ s.heap.objs.size + 1 := Nat.ne_of_lt (Nat.lt_succ_self _)
  refine ⟨by rw [upd_ne ne, upd_same], Nat.zero_le _, ne, e2, fun _ => none, (Heap.Ns1.of_empty e3).at fun o q => Heap.get?_push_of_some _ q, fun _ => True.intro, fun y hy => absurd rfl hy⟩
theorem attr_of {prog : Program} {w : World} {env : Env} {e : Expr} {f : Str} {pos : Pos} {s : Shared} {Q : Value -> Shared -> Prop} (hb : attributeBase e f env (eval e env) = eval e env)
    (h : wpAny (model prog w) A (eval e env) (fun o s₁ => wpAny (model prog w) A (getAttr o f true) Q E s₁) E s) : wpAny (model prog w) A (eval (.Attribute e f pos) env) Q E s :=
  Attribute_any_ h (by rw [arm_eval_Attribute, hb])
end
def tFld (K : PySem.W.Frag) (ta : TE) (f : Str) : TE := fun σ H Q => ta σ H fun x H1 => ∃ a C dx fs v, x = .ref a /\ H1 a = some (.ins C dx fs) /\ Cls K C /\ NoAttr K C f /\ fs.lookup f = some v /\ Q v H1
def sFld (K : PySem.W.Frag) (ta tv : TE) (f : Str) : TS := fun D σ H => tv σ H fun y H1 => ta σ H1 fun x H2 => ∃ a C dx fs, x = .ref a /\ H2 a = some (.ins C dx fs) /\ Cls K C /\ NoAttr K C f /\ fs.length < 1000 /\
  D.nx σ (upd H2 a (.ins C dx (putF f y fs)))
section
variable {X : Cx} {o e value : Expr} {f : Str} {pos pos' tpos : Pos} {ta tv : TE}
theorem pe_fld (he : PE X e ta) (hb : attributeBase e f X.env (eval e X.env) = eval e X.env) : PE X (.Attribute e f pos) (tFld X.K ta f) := by
  intro pins s σ H Q I h
  refine attr_of hb (thn (he pins s σ H _ I h) fun u s1 ⟨x, H1, I1, rx, a, C, dx, fs, v, ex, ea, c, n, l, q⟩ => ?_)
  subst ex
  obtain rfl : u = Value.ref a := rx
  exact getattr_ok I1 ea c n l fun u' s2 I2 ru => ⟨v, H1, I2, ru, q⟩
theorem ps_fld (ha : PE X o ta) (hv : PE X value tv) (hs : swapsWith value (some (.Attribute o f pos')) pos.line X.env = pure false) : PS X (.Assign [.Attribute o f pos'] value pos) (sFld X.K ta tv f) := by
  intro pins s σ H D I h
  refine plainObj_wpAny_Assign_Attribute (thn (hv pins s σ H _ I h) fun u s1 ⟨y, H1, I1, ry, q⟩ => thn (ha pins s1 σ H1 _ I1 q) fun ov s2 ⟨x, H2, I2, rx, a, C, dx, fs, ex, ea, c, n, l, q2⟩ => ?_) hs
  subst ex
  obtain rfl : ov = Value.ref a := rx
  exact setattr_ok I2 ea c n l ry fun s3 I3 => ⟨σ, _, I3, q2⟩
end
section
variable {X : Cx} {pins : List (Addr × Obj)} {σ : St} {H : Hp} {s : Shared} {A : Around} {E : Value -> Shared -> Prop} {Q : Value -> Shared -> Prop} {c : Value} {b : Bool}
inductive TyOf (K : PySem.W.Frag) (H : Hp) : V -> Value -> Prop where
  | non : TyOf K H .non (.type "NoneType")
  | bl (x : Bool) : TyOf K H (.bl x) (.type "bool")
  | int (i : Int) : TyOf K H (.int i) (.type "int")
  | str (x : Str) : TyOf K H (.str x) (.type "str")
  | flt (x : UInt64) : TyOf K H (.flt x) (.type "float")
  | lst {a : Addr} {xs : List V} (e : H a = some (.lst xs)) : TyOf K H (.ref a) (.type "list")
  | frz {a : Addr} {o : Obj} {xs : List V} (e : H a = some (.frz o (.lst xs))) : TyOf K H (.ref a) (.type "list")
  | tup {a : Addr} {xs : List V} (e : H a = some (.tup xs)) : TyOf K H (.ref a) (.type "tuple")
  | dK {a : Addr} {kvs : List (Key × V)} (e : H a = some (.dK kvs)) : TyOf K H (.ref a) (.type "dict")
  | dT {a : Addr} {kvs : List (List Key × V)} (e : H a = some (.dT kvs)) : TyOf K H (.ref a) (.type "dict")
  | ins {a C dx : Addr} {fs : List (Str × V)} (e : H a = some (.ins C dx fs)) (cl : Cls K C) (ha : PySem.W.findIn K (.ref C) "__class__" = some (some (.builtin "object.__class__")))
      (hn : PySem.W.specialIn K (.builtin "object.__class__") "__get__" = some (some (.builtin "getset_descriptor.__get__"))) (htk : PySem.W.takesIn K (.builtin "object.__class__") = some true)
      (hm : PySem.W.mroIn K C (.type "object") = some true) : TyOf K H (.ref a) (.ref C)
theorem isinst_ok {x : V} {u t : Value} (I : Inv X pins σ H s) (rx : RelV x u) (ty : TyOf X.K H x t) (e : PySem.W.kitOne X.K t c = some b) (h : ∀ tk, Q (.bool b) { s with toks := tk }) :
    wpAny (model X.prog X.w) A (call (.builtin "isinstance") [u, c]) Q E s := by
  cases ty with
  | non => cases (show u = Value.none from rx); exact PySem.W.kia_one PySem.W.kitx_none I.kIn True.intro e (fun z => nomatch z) h
  | bl y => cases (show u = Value.bool y from rx); exact PySem.W.kia_one PySem.W.kitx_bool I.kIn True.intro e (fun z => nomatch z) h
  | int i => obtain ⟨t, q⟩ := (show ∃ t, u = Value.int i t from rx); cases q; exact PySem.W.kia_one PySem.W.kitx_int I.kIn True.intro e (fun z => nomatch z) h
  | str y => obtain ⟨t, q⟩ := (show ∃ t, u = Value.str y t from rx); cases q; exact PySem.W.kia_one PySem.W.kitx_str I.kIn True.intro e (fun z => nomatch z) h
  | flt y => obtain ⟨t, q⟩ := (show ∃ t, u = Value.float y t from rx); cases q; exact PySem.W.kia_one PySem.W.kitx_float I.kIn True.intro e (fun z => nomatch z) h
  | @lst a xs ea =>
    cases (show u = Value.ref a from rx)
    obtain ⟨_, _, n, _, h1⟩ := (show ObjOk X.prog X.w H s.heap a (.lst xs) from I.hok a _ ea)
    exact PySem.W.kia_one PySem.W.kitx_list I.kIn ⟨_, h1, rfl⟩ e (fun z => nomatch z) h
  | @frz a ob xs ea =>
    cases (show u = Value.ref a from rx)
    obtain ⟨_, _, _, n, _, h1⟩ := (show ObjOk X.prog X.w H s.heap a (.frz ob (.lst xs)) from I.hok a _ ea)
    exact PySem.W.kia_one PySem.W.kitx_list I.kIn ⟨_, h1, rfl⟩ e (fun z => nomatch z) h
  | @tup a xs ea =>
    cases (show u = Value.ref a from rx)
    obtain ⟨_, _, _, p⟩ := (show ObjOk X.prog X.w H s.heap a (.tup xs) from I.hok a _ ea)
    obtain ⟨o, h1, h2, _⟩ := p
    exact PySem.W.kia_one PySem.W.kitx_tuple I.kIn ⟨o, h1, h2⟩ e (fun z => nomatch z) h
  | @dK a kvs ea =>
    cases (show u = Value.ref a from rx)
    obtain ⟨_, _, vs, _, p⟩ := (show ObjOk X.prog X.w H s.heap a (.dK kvs) from I.hok a _ ea)
    obtain ⟨o, es, ep, h1, h2, _⟩ := p
    exact PySem.W.kia_one PySem.W.kitx_dict I.kIn ⟨o, h1, h2.1⟩ e (fun z => nomatch z) h
  | @dT a kvs ea =>
    cases (show u = Value.ref a from rx)
    obtain ⟨_, _, xs, _, o, es, ep, h1, h2, _⟩ := (show ObjOk X.prog X.w H s.heap a (.dT kvs) from I.hok a _ ea)
    exact PySem.W.kia_one PySem.W.kitx_dict I.kIn ⟨o, h1, h2.1⟩ e (fun z => nomatch z) h
  | @ins a C dx fs ea cl ha hn htk hm =>
    cases (show u = Value.ref a from rx)
    obtain ⟨mA, O, _⟩ := ins_get I.hok ea
    obtain ⟨od, J, _⟩ := O.look
    exact PySem.W.kia_one (PySem.W.kitx_own (cl.get _) cl.hd ha hn htk hm) I.kIn J e (fun z => nomatch z) h
end
end L2
namespace L2
open PySem PySem.Spec PyProof.Rows
structure Room (k : Nat) (A : Around) : Prop where
  hd : A.handled = none
  dp : A.depth + 3 * k + 5 < recursionLimit
  un : A.units + 16 * k + 200 < cLine
theorem Room.mono {j k : Nat} {A : Around} (r : Room k A) (h : j <= k) : Room j A := ⟨r.hd, by have := r.dp; omega, by have := r.un; omega⟩
theorem Room.deeper {k : Nat} {A : Around} (r : Room (k + 1) A) (env : Env) : Room k (A.deeper env) :=
  ⟨r.hd, by have := r.dp; show A.depth + 1 + 3 * k + 5 < _; omega, by have := r.un; show A.units + 3 + 16 * k + 200 < _; omega⟩
theorem Room.in1 {k : Nat} {A : Around} (r : Room (k + 1) A) : Room k A.in1 :=
  ⟨r.hd, by have := r.dp; show A.depth + 3 * k + 5 < _; omega, by have := r.un; show A.units + 1 + 16 * k + 200 < _; omega⟩
theorem make_depth {A : Around} {C : Addr} {us : List Value} {kw : List (Str × Value)} : (A.under (.builtin "type.__call__" ⟨.ref C :: us, kw⟩)).depth = A.depth + 1 := by
  first | rfl | simp [Around.under, Code.weight, Code.isCreation, Code.isGuard, Code.isCaller, Code.frames, Code.isFrame, guardIds]
theorem make_units {A : Around} {C : Addr} {us : List Value} {kw : List (Str × Value)} : (A.under (.builtin "type.__call__" ⟨.ref C :: us, kw⟩)).units = A.units + 1 := by
  first | rfl | simp [Around.under, Code.cUnits, Code.frames, Code.isFrame]
theorem Room.make {k : Nat} {A : Around} (r : Room (k + 1) A) (C : Addr) (us : List Value) (kw : List (Str × Value)) : Room k (A.under (.builtin "type.__call__" ⟨.ref C :: us, kw⟩)) :=
  ⟨r.hd, by have := r.dp; rw [make_depth]; omega, by have := r.un; rw [make_units]; omega⟩
theorem Room.depth {k : Nat} {A : Around} (r : Room k A) : A.depth < recursionLimit := by have := r.dp; omega
theorem Room.units {k : Nat} {A : Around} (r : Room k A) : A.units + 64 < cLine := by have := r.un; omega
def tNil : TA := fun _ H Q => Q [] H
def tCons (ta : TE) (tr : TA) : TA := fun σ H Q => ta σ H fun x H1 => tr σ H1 fun xs H2 => Q (x :: xs) H2
section
variable {X : Cx} {e : Expr} {es : List Expr} {te : TE} {t : TA} {pos : Pos}
theorem pa_nil : PA X [] tNil := fun _ _ _ _ H Q I h => Calls.spliced_nil ⟨[], H, I, .nil, h⟩
theorem pa_cons (ha : PE X e te) (hr : PA X es t) (hs : starEach (e :: es) X.env = (false, eval e X.env) :: starEach es X.env := by rfl) : PA X (e :: es) (tCons te t) := by
  intro pos pins s σ H Q I h
  rw [hs]
  show wpAny _ _ (spliced ((false, eval e X.env) :: backTo pos (starEach es X.env))) _ _ s
  refine Calls.spliced_cons (thn (ha pins s σ H _ I h) fun u s1 ⟨x, H1, I1, r1, q1⟩ => ?_)
  exact thn (hr pos pins s1 σ H1 _ I1 q1) fun us s2 ⟨xs, H2, I2, r2, q2⟩ => ⟨x :: xs, H2, I2, .cons r1 r2, q2⟩
def tTup (t : TA) : TE := fun σ H Q => t σ H fun xs H1 => xs.length <= sizeLine /\ ∀ p, H1 p = none -> Q (.ref p) (upd H1 p (.tup xs))
def tLst (t : TA) : TE := fun σ H Q => t σ H fun xs H1 => xs.length <= sizeLine /\ ∀ p, H1 p = none -> Q (.ref p) (upd H1 p (.lst xs))
theorem pe_tup {x1} (h : PA X es t) : PE X (.Tuple es x1 pos) (tTup t) := by
  intro pins s σ H Q I hq
  refine wpAny_Tuple_spliced (thn (h pos pins s σ H _ I hq) fun us s1 ⟨xs, H1, I1, r, z, q⟩ => ⟨by rw [<- r.length]; exact z, ?_⟩)
  have hf : H1 s1.heap.objs.size = none := I1.hok.fresh (Nat.le_refl _)
  refine ⟨.ref s1.heap.objs.size, upd H1 s1.heap.objs.size (.tup xs), I1.laid (t' := s1.toks) (fun b u e => Heap.get?_push_of_some _ e) (Nat.le_refl _) ?_, rfl, q _ hf⟩
  exact ⟨z, us, r, ⟨_, Heap.get?_push_size _ rfl, rfl, _, rfl⟩⟩
theorem pe_lst (h : PA X es t) : PE X (.List es pos) (tLst t) := by
  intro pins s σ H Q I hq
  refine wpAny_List_spliced (thn (h pos pins s σ H _ I hq) fun us s1 ⟨xs, H1, I1, r, z, q⟩ => ⟨by rw [<- r.length]; exact z, ?_⟩)
  have hf : H1 s1.heap.objs.size = none := I1.hok.fresh (Nat.le_refl _)
  refine ⟨.ref s1.heap.objs.size, upd H1 s1.heap.objs.size (.lst xs), I1.laid (t' := s1.toks) (fun b u e => Heap.get?_push_of_some _ e) (Nat.le_refl _) ?_, rfl, q _ hf⟩
  exact ⟨z, us, 0, r, Heap.get?_push_size _ rfl⟩
end
abbrev Sp := List V -> Hp -> VK -> XK -> Prop
abbrev CXT := List Env -> Hp -> Shared -> XK -> Value -> Shared -> Prop
structure Env0 (P : Program) (w : World) (K : PySem.W.Frag) (mg : Str -> Option Value) (base : Heap) (A : Around) (outer : List Env) (s : Shared) (H : Hp) : Prop where
  frames : A.frames = some outer
  mod : Mod K mg base
  bs : ∀ b o, base.get? b = some o -> s.heap.get? b = some o /\ H b = none
  bsz : base.objs.size <= s.heap.objs.size
  funs : s.heap.FunFrames base outer
  frf : ∀ b ∈ frs outer, H b = none
  hok : HOk P w H s.heap
  bare : AllBare s.gens
def CE (outer : List Env) (P : Program) (w : World) (H : Hp) (s : Shared) (Q : VK) (u : Value) (s' : Shared) : Prop :=
  ∃ v H', s'.os = s.os /\ AllBare s'.gens /\ Un (frs outer) [] H H' s.heap s'.heap /\ HOk P w H' s'.heap /\ RelV v u /\ Q v H'
def CR (CX : CXT) (outer : List Env) (P : Program) (w : World) (H : Hp) (s : Shared) (Q : VK) (E : XK) (r : Result) (s' : Shared) : Prop :=
  match r with
  | .ok (.ret u) => CE outer P w H s Q u s'
  | .ok _ => False
  | .error e => CX outer H s E e s'
structure FnOk (P : Program) (w : World) (K : PySem.W.Frag) (mg : Str -> Option Value) (base : Heap) (CX : CXT) (k : Nat) (f : Addr) (fd : FuncData) (ps : List Str) (sp : Sp) : Prop where
  len : ∀ vs H Q E, sp vs H Q E -> vs.length = ps.length
  run : ∀ (A : Around) (outer : List Env) (s : Shared) (H : Hp) (args : Args) (us : List Value) (vs : List V) (Q : VK) (E : XK), Room k A -> Env0 P w K mg base A outer s H -> BindsTo s fd args (ps.zip us) -> Vals vs us -> sp vs H Q E ->
    codeAny (model P w) A (.call (.ref f) args) (CR CX outer P w H s Q E) s
theorem FnOk.mono {P : Program} {w : World} {K : PySem.W.Frag} {mg : Str -> Option Value} {base : Heap} {CX : CXT} {j k : Nat} {f : Addr} {fd : FuncData} {ps : List Str} {sp : Sp} (F : FnOk P w K mg base CX j f fd ps sp) (h : j <= k) :
    FnOk P w K mg base CX k f fd ps sp := ⟨F.len, fun A outer s H args us vs Q E hr => F.run A outer s H args us vs Q E (hr.mono h)⟩
theorem FnOk.imp {P : Program} {w : World} {K : PySem.W.Frag} {mg : Str -> Option Value} {base : Heap} {CX : CXT} {k : Nat} {f : Addr} {fd : FuncData} {ps : List Str} {sp sp' : Sp} (F : FnOk P w K mg base CX k f fd ps sp)
    (h : ∀ vs H Q E, sp' vs H Q E -> sp vs H Q E) : FnOk P w K mg base CX k f fd ps sp' :=
  ⟨fun vs H Q E q => F.len vs H Q E (h _ _ _ _ q), fun A outer s H args us vs Q E hr he hb hv hs => F.run A outer s H args us vs Q E hr he hb hv (h _ _ _ _ hs)⟩
theorem Env0.make {P : Program} {w : World} {K : PySem.W.Frag} {mg : Str -> Option Value} {base : Heap} {A : Around} {outer : List Env} {s : Shared} {H : Hp} (e : Env0 P w K mg base A outer s H) (C : Addr) (us : List Value) (kw : List (Str × Value)) :
    Env0 P w K mg base (A.under (.builtin "type.__call__" ⟨.ref C :: us, kw⟩)) outer s H := ⟨by first | exact e.frames | (simpa [Around.under, Code.envs, Code.isFrame, pushEnvs] using e.frames), e.mod, e.bs, e.bsz, e.funs, e.frf, e.hok, e.bare⟩
theorem Env0.in1 {P : Program} {w : World} {K : PySem.W.Frag} {mg : Str -> Option Value} {base : Heap} {A : Around} {outer : List Env} {s : Shared} {H : Hp} (e : Env0 P w K mg base A outer s H) :
    Env0 P w K mg base A.in1 outer s H := ⟨e.frames, e.mod, e.bs, e.bsz, e.funs, e.frf, e.hok, e.bare⟩
section
variable {X : Cx} {pins : List (Addr × Obj)} {σ : St} {H : Hp} {s s' : Shared}
theorem Inv.env0 (I : Inv X pins σ H s) : Env0 X.prog X.w X.K X.mg X.base X.A X.stack s H :=
  ⟨I.ok.frames, I.ok.mod, I.bs, Nat.le_trans I.ok.bsz I.sz, I.stack, I.stkFree, I.hok, I.bare⟩
theorem Inv.after {Q : VK} {u : Value} (I : Inv X pins σ H s) (h : CE X.stack X.prog X.w H s Q u s') : EP X pins σ Q u s' := by
  obtain ⟨v, H', os, bare, un, hok, r, q⟩ := h
  obtain ⟨hh, g, d, t, os'⟩ := s'
  obtain rfl : os' = s.os := os
  exact ⟨v, H', I.call (h' := hh) (g' := g) (d' := d) (t' := t) (ch := []) un hok bare (fun b z => absurd z (by simp)), r, q⟩
end
def tCall (sp : Sp) (dvs : List V) (E : XK) (t : TA) : TE := fun σ H Q => t σ H fun vs H1 => sp (vs ++ dvs) H1 Q E
def tMake (C : Addr) (sp : Sp) (dvs : List V) (E : XK) (t : TA) : TE := fun σ H Q => t σ H fun vs H1 => ∀ x dx, H1 x = none -> H1 dx = none -> dx ≠ x ->
  sp (.ref x :: (vs ++ dvs)) (upd (upd H1 dx (.own x)) x (.ins C dx [])) (fun v H2 => v = .non /\ Q (.ref x) H2) E
def Binds (K : PySem.W.Frag) (fd : FuncData) (ps : List Str) (ds : List Value) : Prop :=
  ∀ (s : Shared) (us : List Value), K.In s.heap -> (us ++ ds).length = ps.length -> BindsTo s fd ⟨us, []⟩ (ps.zip (us ++ ds))
theorem Binds.all {K : PySem.W.Frag} {fd : FuncData} {ps : List Str} (h : ∀ us : List Value, us.length = ps.length -> bindArgs fd ⟨us, []⟩ = pure (ps.zip us)) : Binds K fd ps [] := fun s us _ hl => by
  rw [List.append_nil] at hl ⊢
  exact .of_eq (h us hl)
def Passes (CX : CXT) (X : Cx) (E : XK) : Prop := ∀ (pins : List (Addr × Obj)) (σ : St) (H : Hp) (s : Shared) (e : Value) (s' : Shared), Inv X pins σ H s -> CX X.stack H s E e s' -> X.xe e s'
section
variable {X : Cx} {CX : CXT} {k : Nat} {f C : Addr} {fd : FuncData} {ps : List Str} {sp : Sp} {dvs : List V} {ds : List Value} {E : XK} {x m : Str} {p pos apos : Pos} {e o : Expr} {es : List Expr} {ta : TE} {t : TA}
theorem run_fn {pins : List (Addr × Obj)} {σ : St} {H : Hp} {s : Shared} {Q : VK} {us : List Value} {vs : List V} (F : FnOk X.prog X.w X.K X.mg X.base CX k f fd ps sp) (hr : Room k X.A) (hb : Binds X.K fd ps ds) (hd : Vals dvs ds) (hx : Passes CX X E)
    (I : Inv X pins σ H s) (r : Vals vs us) (h : sp (vs ++ dvs) H Q E) : wpAny (model X.prog X.w) X.A (call (.ref f) us) (EP X pins σ Q) X.xe s := by
  have r2 : Vals (vs ++ dvs) (us ++ ds) := r.append hd
  have hl : (us ++ ds).length = ps.length := by rw [<- r2.length]; exact F.len _ _ _ _ h
  refine wpAny_call (codeAny_mono (F.run X.A X.stack s H ⟨us, []⟩ (us ++ ds) (vs ++ dvs) Q E hr I.env0 (hb s us I.kIn hl) r2 h) fun r s' hq => ?_)
  cases r with
  | error e => exact hx pins σ H s e s' I hq
  | ok fl =>
    cases fl with
    | ret u => exact I.after hq
    | next => exact False.elim hq
    | brk => exact False.elim hq
    | cont => exact False.elim hq
theorem pe_call (F : FnOk X.prog X.w X.K X.mg X.base CX k f fd ps sp) (hr : Room k X.A) (hg : Gl X x) (hm : X.mg x = some (.ref f)) (hk : PySem.W.keepIn X.K (.ref f) = true) (hb : Binds X.K fd ps ds) (hd : Vals dvs ds) (hx : Passes CX X E)
    (ha : PA X (e :: es) t) (hdb : (x == ("__debug__" : Str)) = false := by decide) (he : starEach (e :: es) X.env = (false, eval e X.env) :: starEach es X.env := by rfl) (hpl : (backTo pos (starEach es X.env)).any (·.1) = false := by rfl) :
    PE X (.Call (.Name x p) (e :: es) [] pos) (tCall sp dvs E t) := by
  intro pins s σ H Q I h
  refine wpAny_Call_Name_kw (ld_glob I hg hm ?_ hdb)
  refine PySem.W.callWith_K (h₀ := X.base) I.ok.mod.kin hk (thn (ha pos pins s σ H _ I h) fun us s1 ⟨vs, H1, I1, r, q⟩ => ⟨I1.kIn, ?_⟩) he hpl
  exact run_fn F hr hb hd hx I1 r q
structure Mk (K : PySem.W.Frag) (C f : Addr) : Prop where
  makes : PySem.W.makesIn K C = true
  init : PySem.W.findIn K (.ref C) "__init__" = some (some (.ref f))
  fn : PySem.W.isFn K (.ref f) = true
  kp : PySem.W.keepIn K (.ref C) = true
theorem run_make {pins : List (Addr × Obj)} {σ : St} {H : Hp} {s : Shared} {Q : VK} {us : List Value} {vs : List V} (M : Mk X.K C f) (F : FnOk X.prog X.w X.K X.mg X.base CX k f fd ps sp) (hr : Room (k + 1) X.A) (hb : Binds X.K fd ps ds) (hd : Vals dvs ds)
    (hx : Passes CX X E) (I : Inv X pins σ H s) (r : Vals vs us)
    (h : ∀ x dx, H x = none -> H dx = none -> dx ≠ x -> sp (.ref x :: (vs ++ dvs)) (upd (upd H dx (.own x)) x (.ins C dx [])) (fun v H2 => v = .non /\ Q (.ref x) H2) E) :
    wpAny (model X.prog X.w) X.A (call (.ref C) us) (EP X pins σ Q) X.xe s := by
  have hq := h (s.heap.objs.size + 1) s.heap.objs.size (I.hok.fresh (Nat.le_succ _)) (I.hok.fresh (Nat.le_refl _)) (Nat.ne_of_lt (Nat.lt_succ_self _))
  have I2 := Inv.made (C := C) I
  have r2 : Vals (V.ref (s.heap.objs.size + 1) :: (vs ++ dvs)) (Value.ref (s.heap.objs.size + 1) :: (us ++ ds)) := .cons rfl (r.append hd)
  have hl : (Value.ref (s.heap.objs.size + 1) :: us ++ ds).length = ps.length := by
    have e := r2.length
    rw [F.len _ _ _ _ hq] at e
    exact e.symm
  refine wpAny_call (make_map (f := f) I.kIn M.makes M.init (beq_iff_eq.mp M.fn) (codeAny_mono (F.run _ X.stack _ _ ⟨Value.ref (s.heap.objs.size + 1) :: us, []⟩ (Value.ref (s.heap.objs.size + 1) :: (us ++ ds)) _ _ E (hr.make C us [])
    (I2.env0.make C us []) (hb _ (Value.ref (s.heap.objs.size + 1) :: us) I2.kIn hl) r2 hq) fun r s' hq' => ?_))
  cases r with
  | error e => exact hx pins σ _ _ e s' I2 hq'
  | ok fl =>
    cases fl with
    | ret u =>
      obtain ⟨v, H', I3, rv, ev, q3⟩ := I2.after hq'
      subst ev
      exact ⟨rv, ⟨V.ref (s.heap.objs.size + 1), H', I3, rfl, q3⟩⟩
    | next => exact False.elim hq'
    | brk => exact False.elim hq'
    | cont => exact False.elim hq'
theorem pe_make (M : Mk X.K C f) (F : FnOk X.prog X.w X.K X.mg X.base CX k f fd ps sp) (hr : Room (k + 1) X.A) (hg : Gl X x) (hm : X.mg x = some (.ref C)) (hb : Binds X.K fd ps ds) (hd : Vals dvs ds) (hx : Passes CX X E)
    (ha : PA X (e :: es) t) (hdb : (x == ("__debug__" : Str)) = false := by decide) (he : starEach (e :: es) X.env = (false, eval e X.env) :: starEach es X.env := by rfl) (hpl : (backTo pos (starEach es X.env)).any (·.1) = false := by rfl) :
    PE X (.Call (.Name x p) (e :: es) [] pos) (tMake C sp dvs E t) := by
  intro pins s σ H Q I h
  refine wpAny_Call_Name_kw (ld_glob I hg hm ?_ hdb)
  refine PySem.W.callWith_K (h₀ := X.base) I.ok.mod.kin M.kp (thn (ha pos pins s σ H _ I h) fun us s1 ⟨vs, H1, I1, r, q⟩ => ⟨I1.kIn, ?_⟩) he hpl
  exact run_make M F hr hb hd hx I1 r q
end
section
variable {X : Cx} {CX : CXT} {k : Nat} {f C : Addr} {fd : FuncData} {ps ks : List Str} {sp : Sp} {E : XK} {x m : Str} {p pos apos kpos : Pos} {e o : Expr} {es : List Expr} {kws : List Keyword} {te ta : TE} {t tk : TA} {nm : Option Str}
structure KBinds (K : PySem.W.Frag) (fd : FuncData) (ps ks : List Str) (g : List Value -> List Value -> List Value) (gV : List V -> List V -> List V) : Prop where
  to : ∀ (s : Shared) (us ws : List Value), K.In s.heap -> (g us ws).length = ps.length -> BindsTo s fd ⟨us, ks.zip ws⟩ (ps.zip (g us ws))
  rel : ∀ {vs : List V} {us : List Value} {zs : List V} {ws : List Value}, Vals vs us -> Vals zs ws -> Vals (gV vs zs) (g us ws)
variable {g : List Value -> List Value -> List Value} {gV : List V -> List V -> List V}
end
structure FnScope (N P : List Str) (sc : Scope) : Prop where
  kind : sc.kind = .function
  co : sc.isCoroutine = false
  gen : sc.isGenerator = false
  nd : N.Nodup
  pre : N.take P.length = P
  par : ∀ x ∈ P, sc.names.lookup x = some .local \/ sc.names.lookup x = some .cell
  nofree : ∀ y ∈ sc.names, y.2 ≠ .free
theorem bindL_out {kindOf : Str -> Option NameKind} {x : Str} : ∀ {binds : List (Str × Value)} {m : Str -> Option Value}, (∀ v, (x, v) ∉ binds) -> bindL kindOf binds m x = m x
  | [], _, _ => rfl
  | (n, v) :: r, m, h => by
    unfold bindL
    rw [bindL_out fun w hw => h w (List.mem_cons_of_mem _ hw)]
    split
    · have : x ≠ n := by rintro rfl; exact h v List.mem_cons_self
      simp [this]
    · rfl
theorem bindC_out {kindOf : Str -> Option NameKind} {x : Str} : ∀ {binds : List (Str × Value)} {m : Str -> Option Value}, (∀ v, (x, v) ∉ binds) -> bindC kindOf binds m x = m x
  | [], _, _ => rfl
  | (n, v) :: r, m, h => by
    unfold bindC
    rw [bindC_out fun w hw => h w (List.mem_cons_of_mem _ hw)]
    split
    · rfl
    · have : x ≠ n := by rintro rfl; exact h v List.mem_cons_self
      simp [this]
theorem bindL_get {kindOf : Str -> Option NameKind} {x : Str} {v : Value} : ∀ {P : List Str} {vs : List Value} {i : Nat} {m : Str -> Option Value}, P.Nodup -> P[i]? = some x -> vs[i]? = some v -> kindOf x = some .local ->
    bindL kindOf (P.zip vs) m x = some v
  | [], _, _, _, _, h, _, _ => by simp at h
  | _ :: _, [], _, _, _, _, h, _ => by simp at h
  | p :: P, w :: vs, 0, m, nd, h1, h2, hk => by
    simp at h1 h2; subst h1; subst h2
    show bindL kindOf ((p, w) :: P.zip vs) m p = _
    unfold bindL
    rw [bindL_out fun v hv => (List.nodup_cons.mp nd).1 (List.of_mem_zip hv).1, if_pos hk]
    simp
  | p :: P, w :: vs, i + 1, m, nd, h1, h2, hk => by
    show bindL kindOf ((p, w) :: P.zip vs) m x = _
    unfold bindL
    exact bindL_get (i := i) (List.nodup_cons.mp nd).2 (by simpa using h1) (by simpa using h2) hk
theorem bindC_get {kindOf : Str -> Option NameKind} {x : Str} {v : Value} : ∀ {P : List Str} {vs : List Value} {i : Nat} {m : Str -> Option Value}, P.Nodup -> P[i]? = some x -> vs[i]? = some v -> kindOf x ≠ some .local ->
    bindC kindOf (P.zip vs) m x = some v
  | [], _, _, _, _, h, _, _ => by simp at h
  | _ :: _, [], _, _, _, _, h, _ => by simp at h
  | p :: P, w :: vs, 0, m, nd, h1, h2, hk => by
    simp at h1 h2; subst h1; subst h2
    show bindC kindOf ((p, w) :: P.zip vs) m p = _
    unfold bindC
    rw [bindC_out fun v hv => (List.nodup_cons.mp nd).1 (List.of_mem_zip hv).1, if_neg hk]
    simp
  | p :: P, w :: vs, i + 1, m, nd, h1, h2, hk => by
    show bindC kindOf ((p, w) :: P.zip vs) m x = _
    unfold bindC
    exact bindC_get (i := i) (List.nodup_cons.mp nd).2 (by simpa using h1) (by simpa using h2) hk
def start (N : List Str) (vs : List V) : St := vs.map some ++ List.replicate (N.length - vs.length) none
def cxOf (CX : CXT) (P : Program) (w : World) (K : PySem.W.Frag) (mg : Str -> Option Value) (base : Heap) (N : List Str) (qual : Str) (scope : Scope) (f : Addr) (cd : Value) (A : Around) (outer : List Env) (s : Shared) (H : Hp) (E : XK) : Cx where
  prog := P
  w := w
  K := K
  mg := mg
  base := base
  A := A.deeper (envOfC qual scope s.heap.objs.size f cd)
  N := N
  s₀ := s
  H₀ := H
  env := envOfC qual scope s.heap.objs.size f cd
  outer := outer
  stack := envOfC qual scope s.heap.objs.size f cd :: outer
  ex := []
  calm := true
  fn := fun _ => true
  pn := []
  xe := fun e s' => wpAny (model P w) (A.deeper (envOfC qual scope s.heap.objs.size f cd)) (leaving (envOfC qual scope s.heap.objs.size f cd) e) (fun _ s'' => CX outer H s E e s'') (fun e' s'' => CX outer H s E e' s'') s'
theorem cell_has {sc : Scope} {n : Nat} {x : Str} (h : sc.names.lookup x = some .cell) : ∃ c, (cellsFrom n sc.names []).lookup x = some c := by
  have q := PySem.W.cellsFrom_some sc.names n [] (.inl h)
  exact Option.isSome_iff_exists.mp q
theorem inv_start {CX : CXT} {P : Program} {w : World} {K : PySem.W.Frag} {mg : Str -> Option Value} {base : Heap} {N ps : List Str} {qual : Str} {scope : Scope} {f : Addr} {cd : Value} {A : Around} {outer : List Env} {s s1 : Shared} {H : Hp} {E : XK} {us : List Value} {vs : List V}
    (S : FnScope N ps scope) (hd : A.handled = none) (e0 : Env0 P w K mg base A outer s H) (hl : vs.length = ps.length) (r : Vals vs us)
    (x : InCallC s s.heap.objs.size (bindL (envOfC qual scope s.heap.objs.size f cd).kindOf (ps.zip us) fun _ => none) (cellsFrom (s.heap.objs.size + 1) scope.names []) (bindC (envOfC qual scope s.heap.objs.size f cd).kindOf (ps.zip us) fun _ => none) s1) :
    Inv (cxOf CX P w K mg base N qual scope f cd A outer s H E) [] (start N vs) H s1 := by
  have hpl : ps.length <= N.length := by have := congrArg List.length S.pre; rw [List.length_take] at this; omega
  obtain ⟨h1, tk, rfl, hk⟩ := x.done
  have noA : ∀ b : Addr, b ∉ (cxOf CX P w K mg base N qual scope f cd A outer s H E).ex := fun b z => absurd (show b ∈ ([] : List Addr) from z) (by simp)
  refine ⟨⟨e0.mod, S.kind, rfl, rfl, Nat.le_refl _, fun y z c h1 h2 => ?_, fun y hy => ?_, fun y c _ h => ?_, fun _ => hd, Around.frames_deeper e0.frames, .inr ⟨rfl, rfl⟩, fun b z => absurd z (noA b), e0.bs, e0.bsz, fun b _ _ => noA b, fun b z => absurd z (noA b), e0.funs, e0.frf⟩,
    rfl, e0.bare, Un.kept hk, ⟨_, x.toInCall.ns, fun i y v h1 h2 h3 => ?_⟩, fun y c h => ⟨_, x.cell y c h⟩, e0.hok.fresh (Nat.le_refl _), fun y c h => ?_, fun p hp => absurd (show p ∈ ([] : List (Addr × Obj)) from hp) (by simp), e0.hok.kept hk, ?_⟩
  · exact name_of_addr x.apart (PySem.mem_of_lookup h1) (PySem.mem_of_lookup h2)
  · have hy : scope.names.lookup y = some .cell \/ scope.names.lookup y = some .free := hy
    rcases hy with hy | hy
    · exact cell_has hy
    · exact absurd rfl (S.nofree _ (PySem.mem_of_lookup hy))
  · exact Nat.le_of_lt (x.above y c (PySem.mem_of_lookup h))
  · have hi : i < vs.length := by
      unfold start at h2
      by_cases hi : i < vs.length
      · exact hi
      · rw [List.getElem?_append_right (by simpa using hi)] at h2
        rw [List.getElem?_replicate] at h2
        split at h2 <;> cases h2
    have ha : vs[i]? = some v := by
      unfold start at h2
      rw [List.getElem?_append_left (by simpa using hi), List.getElem?_map] at h2
      cases e : vs[i]? with
      | none => rw [e] at h2; cases h2
      | some a => rw [e] at h2; cases h2; rfl
    obtain ⟨u, hu, rv⟩ := r.get ha
    have hp : ps[i]? = some y := by
      rw [<- S.pre, List.getElem?_take_of_lt (by omega)]; exact h1
    have ndP : ps.Nodup := by rw [<- S.pre]; exact S.nd.sublist (List.take_sublist _ _)
    refine ⟨u, rv, ?_⟩
    rcases S.par y (List.mem_of_getElem? hp) with k | k
    · exact .inl ⟨k, bindL_get ndP hp hu k⟩
    · obtain ⟨c, e⟩ := cell_has (n := s.heap.objs.size + 1) k
      refine .inr ⟨.inl k, c, e, ?_⟩
      have q := x.cell y c e
      rw [bindC_get ndP hp hu (by show scope.names.lookup y ≠ _; rw [k]; decide)] at q
      exact q
  · exact e0.hok.fresh (Nat.le_of_lt (x.above y c (PySem.mem_of_lookup h)))
  · unfold start
    show _ = N.length
    rw [List.length_append, List.length_map, List.length_replicate]
    omega
theorem fn_of {CX : CXT} {P : Program} {w : World} {K : PySem.W.Frag} {mg : Str -> Option Value} {base : Heap} {k : Nat} {f : Addr} {name qual : Str} {params : Arguments} {body : List Stmt} {scope : Scope} {dV kV doc pm cdv ct oc : Value} {an od : Option Addr}
    {osl : Array (Option Value)} {N ps : List Str} {sp : Sp} (lk : K.lookup f = some ⟨oc, od, .func (PySem.W.fnOf name qual params body scope dV kV doc pm an cdv ct), osl⟩) (hcd : PySem.W.codeIn K cdv qual = true) (S : FnScope N ps scope)
    (len : ∀ vs H Q E, sp vs H Q E -> vs.length = ps.length)
    (hbody : ∀ (A : Around) (outer : List Env) (s : Shared) (H : Hp) (vs : List V) (Q : VK) (E : XK), Room k (A.deeper (envOfC qual scope s.heap.objs.size f cdv)) -> sp vs H Q E ->
      ∃ t, PSs (cxOf CX P w K mg base N qual scope f cdv A outer s H E) body t /\ t { nx := fun _ H' => Q .non H', rt := Q } (start N vs) H) :
    FnOk P w K mg base CX (k + 1) f (PySem.W.fnOf name qual params body scope dV kV doc pm an cdv ct) ps sp := by
  refine ⟨len, fun A outer s H args us vs Q E hr e0 hb r hsp => ?_⟩
  have hl := len _ _ _ _ hsp
  have KX : K.In s.heap := e0.mod.kin.keeps fun b o e => (e0.bs b o e).1
  have lim : s.heap.NoLimit := e0.mod.nolimit.keeps fun b o e => (e0.bs b o e).1
  have hkind : ∀ y ∈ ps.zip us, scope.names.lookup y.1 = some .local \/ (scope.names.lookup y.1 = some .cell /\ ((cellsFrom (s.heap.objs.size + 1) scope.names []).lookup y.1).isSome = true) := fun ⟨n, v⟩ hy => by
    rcases S.par n (List.of_mem_zip hy).1 with q | q
    · exact .inl q
    · exact .inr ⟨q, PySem.W.cellsFrom_some _ _ _ (.inl q)⟩
  refine codeAny_call_function hr.depth (KX _ _ lk) rfl S.co S.gen rfl (PySem.W.codeRec_of KX hcd) (hb _ _ _ _ ?_)
  refine wpAny_newFunctionEnv_cells S.kind hkind fun env he s1 x => ?_
  subst he
  refine ⟨lim.keeps x.toInCall.keep, codeAny_func ?_⟩
  obtain ⟨t, ht, hq⟩ := hbody A outer s H vs Q E (hr.deeper _) hsp
  have I : Inv (cxOf CX P w K mg base N qual scope f cdv A outer s H E) [] (start N vs) H s1 := inv_start S hr.hd e0 hl r x
  refine wpAny_mono (ht [] s1 (start N vs) H _ I hq) (fun fl s' hs => ?_) fun e s' hs => hs
  have fin : ∀ {σ' : St} {H' : Hp} {v : V} {u : Value}, Inv (cxOf CX P w K mg base N qual scope f cdv A outer s H E) [] σ' H' s' -> RelV v u -> Q v H' -> CE outer P w H s Q u s' :=
    fun {σ' H' v u} J rv q => ⟨v, H', J.os, J.bare, J.base, J.hok, rv, q⟩
  cases fl with
  | ret u =>
    obtain ⟨v, σ', H', J, rv, q⟩ := hs
    exact fin J rv q
  | next =>
    obtain ⟨σ', H', J, q⟩ := hs
    exact fin (v := V.non) (u := Value.none) J rfl q
  | brk =>
    obtain ⟨_, _, _, q⟩ := hs
    exact False.elim q
  | cont =>
    obtain ⟨_, _, _, q⟩ := hs
    exact False.elim q
end L2
namespace L2
open PySem PySem.Spec PyProof.Rows
section
variable {X : Cx} {x : Str} {p pos : Pos} {e : Expr} {es : List Expr} {t : TA} {id T : String} {r : List V -> Hp -> VK -> Prop}
def tCB (r : List V -> Hp -> VK -> Prop) (t : TA) : TE := fun σ H Q => t σ H fun vs H1 => r vs H1 Q
theorem pe_callB (hc : CallR X (.builtin id) r) (hg : Gl X x) (hm : X.mg x = none) (hv : bootBuiltins x = some (.builtin id)) (ha : PA X (e :: es) t) (hn : x ≠ "__name__" := by decide) (hdb : (x == ("__debug__" : Str)) = false := by decide)
    (he : starEach (e :: es) X.env = (false, eval e X.env) :: starEach es X.env := by rfl) (hpl : (backTo pos (starEach es X.env)).any (·.1) = false := by rfl) : PE X (.Call (.Name x p) (e :: es) [] pos) (tCB r t) := by
  intro pins s σ H Q I h
  refine wpAny_Call_Name_kw (ld_blt I hg hm hv ?_ hn hdb)
  exact PyProof.Rows.callWith_builtin1 (thn (ha pos pins s σ H _ I h) fun us s1 ⟨vs, H1, I1, r1, q1⟩ => hc pins s1 σ H1 vs us Q I1 r1 q1) he hpl
theorem pe_callTy (hc : CallR X (.type T) r) (hg : Gl X x) (hm : X.mg x = none) (hv : bootBuiltins x = some (.type T)) (ha : PA X (e :: es) t) (hn : x ≠ "__name__" := by decide) (hdb : (x == ("__debug__" : Str)) = false := by decide)
    (he : starEach (e :: es) X.env = (false, eval e X.env) :: starEach es X.env := by rfl) (hpl : (backTo pos (starEach es X.env)).any (·.1) = false := by rfl) : PE X (.Call (.Name x p) (e :: es) [] pos) (tCB r t) := by
  intro pins s σ H Q I h
  refine wpAny_Call_Name_kw (ld_blt I hg hm hv ?_ hn hdb)
  exact PyProof.Rows.callWith_type1 (thn (ha pos pins s σ H _ I h) fun us s1 ⟨vs, H1, I1, r1, q1⟩ => hc pins s1 σ H1 vs us Q I1 r1 q1) he hpl
end
end L2
namespace HT
open PySem PyProof.Rows
section
open PySem.SeqAt
open PySem.AutoSeq1 (wpAny_loadPart')
open PySem.MeetsSeq PySem.MeetsSeq2 PySem.MeetsSeq3
end
section
variable {prog : Program} {w : World} {A : Around} {E : Value -> Shared -> Prop} {s : Shared}
theorem cat_tup {t b : Addr} {vs ws : List Value} {Q : Value -> Shared -> Prop} (ht : IsTup s.heap t vs.toArray) (hb : IsTup s.heap b ws.toArray) (hv : vs ≠ [])
    (h1 : ws = [] -> Q (.ref t) s) (h2 : ws ≠ [] -> Q (.ref s.heap.objs.size) { s with heap := s.heap.push { cls := .type "tuple", data := .seq (vs ++ ws).toArray } })
    (hsz : vs.length + ws.length <= sizeLine) : wpAny (model prog w) A (binaryOp .Add (.ref t) (.ref b)) Q E s := by
  obtain ⟨⟨cls, dd, data, sl⟩, ho, hc, n, hd⟩ := id ht
  obtain ⟨⟨cls2, dd2, data2, sl2⟩, ho2, hc2, n2, hd2⟩ := id hb
  simp only at hc hd hc2 hd2
  subst hc hd hc2 hd2
  have e : vs.toArray ++ ws.toArray = (vs ++ ws).toArray := by simp
  by_cases hw : ws = []
  · exact concat_meets ⟨_, ho, rfl⟩ ⟨_, ho2, rfl⟩ noFill_tuple_add seq_tuple_add PySem.F.slot_tuple_add PySem.F.entry_tuple_add (PySem.F.args_tuple_add_2 _ _)
      (tuple_addW1 t b vs.toArray ws.toArray n n2 dd dd2 sl sl2 (by simpa using hv) (by simp [hw])) ⟨ho, ho2, h1 hw⟩
  · refine concat_meets ⟨_, ho, rfl⟩ ⟨_, ho2, rfl⟩ noFill_tuple_add seq_tuple_add PySem.F.slot_tuple_add PySem.F.entry_tuple_add (PySem.F.args_tuple_add_2 _ _)
      (tuple_addW2 t b vs.toArray ws.toArray n n2 dd dd2 sl sl2 (by simpa using hv) (by simpa using hw) (by rw [List.size_toArray, List.size_toArray]; exact hsz)) ⟨ho, ho2, ?_⟩
    rw [e]
    exact h2 hw
def sIx (n d : Nat) : Option Int -> Nat
  | none => d
  | some v => if v < 0 then (v + (n : Int)).toNat else min v.toNat n
theorem sIx_le (n d : Nat) (hd : d <= n) (o : Option Int) : sIx n d o <= n := by
  cases o with
  | none => exact hd
  | some v =>
    show (if v < 0 then (v + (n : Int)).toNat else min v.toNat n) <= n
    by_cases hv : v < 0
    · rw [if_pos hv]; omega
    · rw [if_neg hv]; exact Nat.min_le_right _ _
theorem clip_eq (v : Int) (n d : Nat) : (if v < 0 then max (v + (n : Int)) 0 else min v (n : Int)) = ((sIx n d (some v) : Nat) : Int) := by
  show (if v < 0 then max (v + (n : Int)) 0 else min v (n : Int)) = (((if v < 0 then (v + (n : Int)).toNat else min v.toNat n) : Nat) : Int)
  by_cases hv : v < 0
  · simp only [if_pos hv]; omega
  · simp only [if_neg hv]; omega
theorem adjust_gen (lo hi : Option Int) (n : Nat) : Builtin.Slice.sliceAdjust lo hi 1 (n : Int) = (((sIx n 0 lo : Nat) : Int), ((sIx n n hi : Nat) : Int)) := by
  have h1 : ¬ ((1 : Int) < 0) := by omega
  unfold Builtin.Slice.sliceAdjust
  simp only [h1, if_false]
  refine Prod.ext ?_ ?_
  · cases lo with
    | none => rfl
    | some v => exact clip_eq v n 0
  · cases hi with
    | none => rfl
    | some v => exact clip_eq v n n
theorem places_gen (i j : Nat) : Builtin.Slice.slicePlaces (i : Int) (j : Int) 1 = j - i := by
  unfold Builtin.Slice.slicePlaces
  have h1 : (1 : Int) > 0 := by omega
  simp only [h1, if_true, Int.ediv_one]
  split <;> omega
theorem slicePart_ {v : Value} {o : Option Int} {Q : Option Int -> Shared -> Prop} (p : IsPart v o) (h : Q o s) : wpAny (model prog w) A (Builtin.Slice.slicePartIndex v) Q E s := by
  cases p with
  | none => exact slicePart_none h
  | int i t => exact slicePart_int h
theorem sliceApplied_gen {sl : Addr} {vl vu : Value} {lo hi : Option Int} {n : Nat} {Q : Int × Int × Nat -> Shared -> Prop} (hs : s.heap.IsSliceOf sl vl vu .none) (pl : IsPart vl lo) (pu : IsPart vu hi)
    (h : Q (((sIx n 0 lo : Nat) : Int), 1, sIx n n hi - sIx n 0 lo) s) : wpAny (model prog w) A (Builtin.Slice.sliceApplied (.ref sl) (pure (n : Int))) Q E s := by
  obtain ⟨os, hos, hcs, hds⟩ := id hs
  unfold Builtin.Slice.sliceApplied Builtin.Slice.sliceFields
  refine wpAny_bind (wpAny_bind (wpAny_field hos hds (x := vl) rfl (wpAny_bind (wpAny_field hos hds (x := vu) rfl (wpAny_bind (wpAny_field hos hds (x := .none) rfl (wpAny_pure ?_)))))))
  refine wpAny_bind (slicePart_none ?_)
  show wpAny _ _ (if ((1 : Int) == 0) = true then _ else _) _ _ s
  rw [if_neg (by decide)]
  refine wpAny_bind (slicePart_ pl (wpAny_bind (slicePart_ pu (wpAny_bind (wpAny_pure ?_)))))
  show wpAny _ _ (match Builtin.Slice.sliceAdjust lo hi 1 (n : Int) with | (lo, hi) => pure (lo, (1 : Int), Builtin.Slice.slicePlaces lo hi 1)) _ _ s
  rw [adjust_gen lo hi n]
  show wpAny _ _ (pure (((sIx n 0 lo : Nat) : Int), (1 : Int), Builtin.Slice.slicePlaces ((sIx n 0 lo : Nat) : Int) ((sIx n n hi : Nat) : Int) 1)) _ _ s
  rw [places_gen]
  exact wpAny_pure h
theorem pick_gen (xs : Array Value) (i k : Nat) : ((List.range k).filterMap fun (m : Nat) => xs[((i : Int) + (m : Int) * 1).toNat]?).toArray = ((xs.toList.drop i).take k).toArray := by
  have e : (fun (m : Nat) => xs[((i : Int) + (m : Int) * 1).toNat]?) = fun m => xs[i + m]? := by
    funext m
    have : ((i : Int) + (m : Int) * 1).toNat = i + m := by omega
    rw [this]
  rw [e]
  have := pick_run xs i k
  rw [List.filterMap_map] at this
  have e2 : ((fun x => xs[x]?) ∘ fun x => i + x) = fun m => xs[i + m]? := rfl
  rw [e2] at this
  rw [this]
theorem getItem_tuple_cut {t sl : Addr} {items : Array Value} {vl vu : Value} {lo hi : Option Int} {Q : Value -> Shared -> Prop} (ht : IsTup s.heap t items) (hs : s.heap.IsSliceOf sl vl vu .none) (pl : IsPart vl lo) (pu : IsPart vu hi)
    (hw : ¬ (sIx items.size 0 lo = 0 /\ sIx items.size items.size hi = items.size))
    (h : Q (.ref s.heap.objs.size) { s with heap := s.heap.push { cls := .type "tuple", data := .seq ((items.toList.drop (sIx items.size 0 lo)).take (sIx items.size items.size hi - sIx items.size 0 lo)).toArray } })
    (hsz : items.size <= sizeLine) : wpAny (model prog w) A (getItem (.ref t) (.ref sl)) Q E s := by
  have htake : sizeOk (.seq ((items.toList.drop (sIx items.size 0 lo)).take (sIx items.size items.size hi - sIx items.size 0 lo)).toArray) := by
    show ((items.toList.drop (sIx items.size 0 lo)).take (sIx items.size items.size hi - sIx items.size 0 lo)).toArray.size <= sizeLine
    rw [List.size_toArray, List.length_take, List.length_drop, Array.length_toList]
    omega
  have hj : sIx items.size items.size hi <= items.size := sIx_le _ _ (Nat.le_refl _) hi
  obtain ⟨os, hos, hcs, hds⟩ := id hs
  have hTs : s.TypeIs (.ref sl) "slice" := ⟨os, hos, hcs⟩
  unfold getItem
  try with_reducible refine wpAny_holding ?_
  first | refine wpAny_bind (wpAny_pure ?_) | skip
  refine wpAny_bind (wpAny_sequenceKey ht.typeIs (by decide) ?_)
  refine wpAny_bind (wpAny_callSpecial?_slot (name := Str.ofString "__getitem__") ht.typeIs PyProof.Rows.slot_tuple_getitem
    (wpAny_call_entry PyProof.Rows.slot_tuple_getitem ht.typeIs entry_tuple_getitem ?_ (args_tuple_getitem _ _)))
  show wpAny _ _ (Builtin.Tuple.tupleItemsOf (.ref t) >>= _) _ _ s
  refine wpAny_bind (tupleItemsOf_ ht ?_)
  refine wpAny_bind (wpAny_typeOf hTs ?_)
  rw [if_pos (by decide)]
  refine wpAny_bind (sliceApplied_gen hs pl pu ?_)
  have hno : ¬ ((((sIx items.size 0 lo : Nat) : Int) == 0 && (1 : Int) == 1 && (sIx items.size items.size hi - sIx items.size 0 lo) == items.size) = true) := by
    intro q
    rw [Bool.and_eq_true, Bool.and_eq_true] at q
    have q1 : ((sIx items.size 0 lo : Nat) : Int) = 0 := eq_of_beq q.1.1
    have q2 : sIx items.size items.size hi - sIx items.size 0 lo = items.size := eq_of_beq q.2
    exact hw ⟨by omega, by omega⟩
  show wpAny _ _ (if (((sIx items.size 0 lo : Nat) : Int) == 0 && (1 : Int) == 1 && (sIx items.size items.size hi - sIx items.size 0 lo) == items.size) = true then _ else _) _ _ s
  rw [if_neg hno, pick_gen]
  first
    | exact wpAny_bind (m := Builtin.Tuple.tupleExact _) (wpAny_newObj_type (wpAny_pure ⟨_, rfl, wpAny_pure h⟩) htake)
    | exact wpAny_bind (m := Builtin.Tuple.tupleExact _) (wpAny_newObj_type (wpAny_bind (wpAny_pure (wpAny_pure ⟨_, rfl, wpAny_pure h⟩))) htake)
    | exact wpAny_bind (wpAny_bind (m := Builtin.Tuple.tupleExact _) (wpAny_newObj_type (wpAny_pure (wpAny_pure ⟨_, rfl, wpAny_pure h⟩)) htake))
    | exact wpAny_bind (wpAny_bind (m := Builtin.Tuple.tupleExact _) (wpAny_newObj_type (wpAny_pure ⟨_, rfl, wpAny_pure h⟩) htake))
end
end HT
namespace L2
open PySem PySem.Spec PyProof.Rows
abbrev TO := St -> Hp -> (Option Int -> Hp -> Prop) -> Prop
def PO (X : Cx) (e : Option Expr) (t : TO) : Prop :=
  ∀ (pins : List (Addr × Obj)) (s : Shared) (σ : St) (H : Hp) (Q : Option Int -> Hp -> Prop), Inv X pins σ H s -> t σ H Q ->
    wpAny (model X.prog X.w) X.A (evalPart e X.env) (fun u s' => ∃ o H', Inv X pins σ H' s' /\ IsPart u o /\ Q o H') X.xe s
def tNoPart : TO := fun _ H Q => Q none H
def tPart (t : TE) : TO := fun σ H Q => t σ H fun x H1 => ∃ i, x = .int i /\ Q (some i) H1
section
variable {X : Cx} {e : Expr} {te : TE} {lo hi : Option Expr} {tl th : TO} {pos p2 : Pos}
theorem po_none : PO X none tNoPart := by
  intro pins s σ H Q I h
  rw [evalPart_none]
  exact wpAny_pure ⟨none, H, I, .none, h⟩
theorem po_some (h : PE X e te) : PO X (some e) (tPart te) := by
  intro pins s σ H Q I hw
  rw [evalPart_some]
  refine thn (h pins s σ H _ I hw) fun u s1 ⟨x, H1, I1, r1, q1⟩ => ?_
  obtain ⟨i, rfl, q⟩ := q1
  obtain ⟨t, rfl⟩ := r1
  exact ⟨some i, H1, I1, .int i t, q⟩
def SlR (X : Cx) (r : V -> Option Int -> Option Int -> Hp -> VK -> Prop) : Prop :=
  ∀ (pins : List (Addr × Obj)) (s : Shared) (σ : St) (H : Hp) (x : V) (v vl vu : Value) (lo hi : Option Int) (sl : Addr) (Q : VK), Inv X pins σ H s -> RelV x v -> s.heap.IsSliceOf sl vl vu .none -> IsPart vl lo -> IsPart vu hi -> r x lo hi H Q ->
    ∃ T id, typeLookup (.type T) "__getitem__" = pure (some (.builtin id)) /\ s.TypeIs v T /\ wpAny (model X.prog X.w) X.A (getItem v (.ref sl)) (EP X pins σ Q) X.xe s
theorem SlR.or {r r' : V -> Option Int -> Option Int -> Hp -> VK -> Prop} (h : SlR X r) (h' : SlR X r') : SlR X (fun x lo hi H Q => r x lo hi H Q \/ r' x lo hi H Q) := by
  intro pins s σ H x v vl vu lo hi sl Q I rx hs pl pu q
  rcases q with q | q
  · exact h pins s σ H x v vl vu lo hi sl Q I rx hs pl pu q
  · exact h' pins s σ H x v vl vu lo hi sl Q I rx hs pl pu q
def tSl (r : V -> Option Int -> Option Int -> Hp -> VK -> Prop) (te : TE) (tl th : TO) : TE := fun σ H Q => te σ H fun x H1 => tl σ H1 fun l H2 => th σ H2 fun u H3 => r x l u H3 Q
theorem pe_slice {r : V -> Option Int -> Option Int -> Hp -> VK -> Prop} (hr : SlR X r) (he : PE X e te) (hl : PO X lo tl) (hu : PO X hi th) : PE X (.Subscript e (.Slice lo hi none p2) pos) (tSl r te tl th) := by
  intro pins s σ H Q I h
  refine Subscript_ (thn (he pins s σ H _ I h) fun v s1 ⟨x, H1, I1, r1, q1⟩ => ?_)
  refine wpAny_Slice (thn (hl pins s1 σ H1 _ I1 q1) fun vl s2 ⟨l, H2, I2, pl, q2⟩ => thn (hu pins s2 σ H2 _ I2 q2) fun vu s3 ⟨u, H3, I3, pu, q3⟩ => ?_)
  rw [evalPart_none]
  refine wpAny_pure ?_
  have I4 : Inv X pins σ H3 { s3 with heap := s3.heap.push { cls := .type "slice", data := .fields #[vl, vu, .none] } } := I3.kept (t' := s3.toks) fun b ob q => Heap.get?_push_of_some _ q
  obtain ⟨T, id, hT, ht, hg⟩ := hr pins { s3 with heap := s3.heap.push { cls := .type "slice", data := .fields #[vl, vu, .none] } } σ H3 x v vl vu l u s3.heap.objs.size Q I4 r1 (Heap.IsSliceOf.new ..) pl pu q3
  show wpAny (model X.prog X.w) X.A (subscriptTail e (.Slice lo hi none p2) v (.ref s3.heap.objs.size)) (EP X pins σ Q) X.xe { s3 with heap := s3.heap.push { cls := .type "slice", data := .fields #[vl, vu, .none] } }
  exact tail_any (ops := [.ref s3.heap.objs.size, v]) ht hT hg (by with_unfolding_all rfl)
def cutV (xs : List V) (lo hi : Option Int) : List V := (xs.drop (HT.sIx xs.length 0 lo)).take (HT.sIx xs.length xs.length hi - HT.sIx xs.length 0 lo)
theorem cutV_length (xs : List V) (lo hi : Option Int) : (cutV xs lo hi).length <= xs.length := by
  unfold cutV
  rw [List.length_take, List.length_drop]
  omega
def rSlT (K : PySem.W.Frag) : V -> Option Int -> Option Int -> Hp -> VK -> Prop := fun x lo hi H Q => ∃ a xs, x = .ref a /\ SqT K H a xs /\
  ¬ (HT.sIx xs.length 0 lo = 0 /\ HT.sIx xs.length xs.length hi = xs.length) /\ ∀ p, H p = none -> Q (.ref p) (upd H p (.tup (cutV xs lo hi)))
theorem sl_tup : SlR X (rSlT X.K) := by
  intro pins s σ H x v vl vu lo hi sl Q I rx hs pl pu h
  obtain ⟨a, xs, rfl, hx, hw, q⟩ := h
  cases rx
  obtain ⟨its, r, ht, hz⟩ := I.tuple hx
  have hlen : its.toArray.size = xs.length := by rw [List.size_toArray]; exact r.length.symm
  refine ⟨"tuple", _, PyProof.Rows.slot_tuple_getitem.lookup, ht.typeIs, ?_⟩
  refine HT.getItem_tuple_cut ht hs pl pu (by rw [hlen]; exact hw) ?_ (by rw [hlen]; exact hz)
  rw [hlen]
  refine ⟨.ref s.heap.objs.size, _, I.laid (t' := s.toks) (o := .tup (cutV xs lo hi)) (fun b ob q => Heap.get?_push_of_some _ q) (Nat.le_refl _) ?_, rfl, q _ (I.hok.fresh (Nat.le_refl _))⟩
  exact ⟨Nat.le_trans (cutV_length xs lo hi) hz, _, (r.drop (HT.sIx xs.length 0 lo)).take (HT.sIx xs.length xs.length hi - HT.sIx xs.length 0 lo), IsTup.new _ _⟩
def rCatT (K : PySem.W.Frag) : R2 := fun x y H Q => ∃ a b xs ys, x = .ref a /\ y = .ref b /\ SqT K H a xs /\ SqT K H b ys /\ xs ≠ [] /\ xs.length + ys.length <= sizeLine /\
  (ys = [] -> Q (.ref a) H) /\ (ys ≠ [] -> ∀ p, H p = none -> Q (.ref p) (upd H p (.tup (xs ++ ys))))
theorem Vals.nil_iff {xs : List V} {us : List Value} (r : Vals xs us) : us = [] ↔ xs = [] := by
  cases r with
  | nil => simp
  | cons _ _ => simp
theorem op_catT : OpR X (binaryOp .Add) (rCatT X.K) := by
  intro pins s σ H x y v u Q I rx ry h
  obtain ⟨a, b, xs, ys, rfl, rfl, ha, hb, hx, hz, q1, q2⟩ := h
  cases rx
  cases ry
  obtain ⟨its, r1, p1, _⟩ := I.tuple ha
  obtain ⟨its2, r2, p2, _⟩ := I.tuple hb
  refine HT.cat_tup p1 p2 (fun z => hx (r1.nil_iff.mp z)) (fun z => ⟨.ref a, H, I, rfl, q1 (r2.nil_iff.mp z)⟩) (fun z => ?_) (by rw [<- r1.length, <- r2.length]; exact hz)
  refine ⟨.ref s.heap.objs.size, _, I.laid (t' := s.toks) (o := .tup (xs ++ ys)) (fun b ob q => Heap.get?_push_of_some _ q) (Nat.le_refl _) ?_, rfl, q2 (fun w => z (r2.nil_iff.mpr w)) _ (I.hok.fresh (Nat.le_refl _))⟩
  exact ⟨by rw [List.length_append]; exact hz, _, r1.append r2, IsTup.new _ _⟩
end
end L2
namespace L2
open PySem PySem.Spec PyProof.Rows
def ixN (n : Nat) (i : Int) : Option Nat := if 0 <= i then (if i < n then some i.toNat else none) else if -(n : Int) <= i then some (i + n).toNat else none
def atI {α : Type} (xs : List α) (i : Int) : Option α := (ixN xs.length i).bind fun j => xs[j]?
theorem ixN_seq {n : Nat} {i : Int} {j : Nat} (h : ixN n i = some j) : seqIndex? i n = some j /\ j < n /\ -(n : Int) <= i /\ i < n := by
  unfold ixN at h
  by_cases h0 : 0 <= i
  · rw [if_pos h0] at h
    by_cases h1 : i < n
    · rw [if_pos h1] at h
      have e : i.toNat = j := Option.some.inj h
      exact ⟨by rw [seqIndex_of h0 h1, e], by omega, by omega, h1⟩
    · rw [if_neg h1] at h; cases h
  · rw [if_neg h0] at h
    by_cases h1 : -(n : Int) <= i
    · rw [if_pos h1] at h
      have e : (i + n).toNat = j := Option.some.inj h
      exact ⟨by rw [seqIndex_neg (by omega) h1, e], by omega, h1, by omega⟩
    · rw [if_neg h1] at h; cases h
theorem atI_get {α : Type} {xs : List α} {i : Int} {v : α} (h : atI xs i = some v) : ∃ j, seqIndex? i xs.length = some j /\ xs[j]? = some v /\ j < xs.length /\ -(xs.length : Int) <= i /\ i < xs.length := by
  unfold atI at h
  cases e : ixN xs.length i with
  | none => rw [e] at h; cases h
  | some j =>
    rw [e] at h
    obtain ⟨h1, h2, h3, h4⟩ := ixN_seq e
    exact ⟨j, h1, h, h2, h3, h4⟩
theorem atI_nat {α : Type} {xs : List α} {j : Nat} {v : α} (h : xs[j]? = some v) : atI xs (j : Int) = some v := by
  have hj : j < xs.length := (List.getElem?_eq_some_iff.mp h).1
  have e : ixN xs.length (j : Int) = some j := by
    unfold ixN
    rw [if_pos (by omega), if_pos (by omega)]; simp
  unfold atI; rw [e]; exact h
def PlainIx (b : Expr) : Prop := ∀ o i, subscripted b false o i = operate [o, i] (getItem o i)
def IxR (X : Cx) (r : R2) : Prop :=
  ∀ (value slice : Expr) (pins : List (Addr × Obj)) (s : Shared) (σ : St) (H : Hp) (x y : V) (v u : Value) (Q : VK), Inv X pins σ H s -> RelV x v -> RelV y u -> r x y H Q ->
    subscripted slice false v u = operate [v, u] (getItem v u) -> wpAny (model X.prog X.w) X.A (subscriptTail value slice v u) (EP X pins σ Q) X.xe s
def MtR (X : Cx) (id : String) (r : V -> List V -> Hp -> VK -> Prop) : Prop :=
  ∀ (pins : List (Addr × Obj)) (s : Shared) (σ : St) (H : Hp) (x : V) (xs : List V) (v : Value) (us : List Value) (Q : VK), Inv X pins σ H s -> RelV x v -> Vals xs us -> r x xs H Q ->
    wpAny (model X.prog X.w) X.A (call (.builtin id) (v :: us)) (EP X pins σ Q) X.xe s
section
variable {X : Cx} {a b : Expr} {ta tb : TE} {pos : Pos}
theorem IxR.or {r r' : R2} (h : IxR X r) (h' : IxR X r') : IxR X (fun x y H Q => r x y H Q \/ r' x y H Q) := by
  intro value slice pins s σ H x y v u Q I rx ry q hs
  rcases q with q | q
  · exact h value slice pins s σ H x y v u Q I rx ry q hs
  · exact h' value slice pins s σ H x y v u Q I rx ry q hs
theorem MtR.or {id : String} {r r' : V -> List V -> Hp -> VK -> Prop} (h : MtR X id r) (h' : MtR X id r') : MtR X id (fun x xs H Q => r x xs H Q \/ r' x xs H Q) := by
  intro pins s σ H x xs v us Q I rx rs q
  rcases q with q | q
  · exact h pins s σ H x xs v us Q I rx rs q
  · exact h' pins s σ H x xs v us Q I rx rs q
theorem pe_ix {r : R2} (hr : IxR X r) (ha : PE X a ta) (hb : PE X b tb) (hs : PlainIx b) : PE X (.Subscript a b pos) (tOp r ta tb) := by
  intro pins s σ H Q I h
  exact Subscript_ (binT ha hb I h fun v u s2 x y H2 I2 rx ry q => hr a b pins s2 σ H2 x y v u Q I2 rx ry q (hs _ _))
def rIxL (K : PySem.W.Frag) : R2 := fun x y H Q => ∃ p xs i v, x = .ref p /\ y = .int i /\ SqL K H p xs /\ atI xs i = some v /\ Q v H
def rIxT (K : PySem.W.Frag) : R2 := fun x y H Q => ∃ p xs i v, x = .ref p /\ y = .int i /\ SqT K H p xs /\ atI xs i = some v /\ Q v H
def rIxS : R2 := fun x y H Q => ∃ z i c, x = .str z /\ y = .int i /\ z.length <= sizeLine /\ atI z.cps.toList i = some c /\ Q (.str ⟨#[c]⟩) H
theorem ix_list : IxR X (rIxL X.K) := by
  intro value slice pins s σ H x y v u Q I rx ry h hs
  obtain ⟨p, xs, i, z, rfl, rfl, hq, he, q⟩ := h
  cases rx
  obtain ⟨t, rfl⟩ := ry
  obtain ⟨its, r, pl, hz⟩ := I.list hq
  obtain ⟨j, h1, h2, h3, h4, h5⟩ := atI_get he
  obtain ⟨w, ew, rw'⟩ := r.get h2
  have hl := r.length
  have hn := line63
  have fin : EP X pins σ Q w s := ⟨z, H, I, rw', q⟩
  by_cases h0 : 0 <= i
  · have hj : i.toNat = j := by
      rw [seqIndex_of h0 h5] at h1
      exact Option.some.inj h1
    exact item_listR pl.isList h0 (by omega) (by rw [hj]; simpa using ew) fin hs
  · have hj : (i + (its.toArray.size : Int)).toNat = j := by
      rw [seqIndex_neg (by omega) h4] at h1
      rw [List.size_toArray, <- hl]
      exact Option.some.inj h1
    exact subscriptTail_builtinR (x := w) pl.isList.typeIs slot_list_getitem.lookup
      (wpAny_getItem_list_neg (Q := fun r s' => r = w /\ EP X pins σ Q r s') pl.isList (by omega) (by rw [List.size_toArray] <;> omega) (by omega) (by rw [hj]; simpa using ew) ⟨rfl, fin⟩) hs
theorem ix_tup : IxR X (rIxT X.K) := by
  intro value slice pins s σ H x y v u Q I rx ry h hs
  obtain ⟨p, xs, i, z, rfl, rfl, hq, he, q⟩ := h
  cases rx
  obtain ⟨t, rfl⟩ := ry
  obtain ⟨its, r, pl, hz⟩ := I.tuple hq
  obtain ⟨j, h1, h2, h3, h4, h5⟩ := atI_get he
  obtain ⟨w, ew, rw'⟩ := r.get h2
  have hl := r.length
  have hn := line63
  have fin : EP X pins σ Q w s := ⟨z, H, I, rw', q⟩
  exact subscriptTail_builtinR (x := w) pl.typeIs slot_tuple_getitem.lookup
    (getItem_tuple (j := j) (Q := fun r s' => r = w /\ EP X pins σ Q r s') pl (by omega) (by omega) (by rw [List.size_toArray, <- hl]; exact h1) (by simpa using ew) ⟨rfl, fin⟩) hs
theorem ix_str : IxR X rIxS := by
  intro value slice pins s σ H x y v u Q I rx ry h hs
  obtain ⟨z, i, c, rfl, rfl, hz, he, q⟩ := h
  obtain ⟨t, rfl⟩ := rx
  obtain ⟨t', rfl⟩ := ry
  obtain ⟨j, h1, h2, h3, h4, h5⟩ := atI_get he
  have hl : z.cps.toList.length = z.length := by simp [Str.length]
  rw [hl] at h1 h4 h5
  have hn := line63
  exact tail_any (typeIs_str s z t) slot_str_getitem.lookup (getItem_str (c := c) (by
    have e1 : decide (i < -(2 ^ 63 : Int)) = false := decide_eq_false (by omega)
    have e2 : decide (i ≥ 2 ^ 63) = false := decide_eq_false (by omega)
    rw [e1, e2, Bool.or_false]) (by rw [h1]; simpa using h2) ⟨.str ⟨#[c]⟩, H, I.tok _, ⟨_, rfl⟩, q⟩) hs
theorem Inv.lst {pins : List (Addr × Obj)} {σ : St} {H : Hp} {s : Shared} {p : Addr} {xs : List V} (I : Inv X pins σ H s) (h : H p = some (.lst xs)) :
    ∃ (its : List Value) (n : Nat), Vals xs its /\ s.heap.get? p = some { cls := .type "list", data := .seq its.toArray n } /\ xs.length <= sizeLine := by
  obtain ⟨z, its, n, r, e⟩ := I.hok p _ h
  exact ⟨its, n, r, e, z⟩
theorem slice_bounds (lo hi : Option Int) (n : Nat) : (sliceBounds lo hi none n).1 = ((HT.sIx n 0 lo : Nat) : Int) /\ (sliceBounds lo hi none n).2.1 = ((HT.sIx n n hi : Nat) : Int) /\ (sliceBounds lo hi none n).2.2 = 1 := by
  refine ⟨?_, ?_, rfl⟩
  · cases lo with
    | none => simp [sliceBounds, HT.sIx]
    | some i =>
      simp only [sliceBounds, HT.sIx, Option.getD_none, show (1 : Int) > 0 by decide, if_true]
      by_cases h : i < 0
      · simp only [h, if_true] <;> omega
      · simp only [h, if_false] <;> omega
  · cases hi with
    | none => simp [sliceBounds, HT.sIx]
    | some i =>
      simp only [sliceBounds, HT.sIx, Option.getD_none, show (1 : Int) > 0 by decide, if_true]
      by_cases h : i < 0
      · simp only [h, if_true] <;> omega
      · simp only [h, if_false] <;> omega
theorem slicePick_cut (its : List Value) (lo hi : Option Int) : slicePick its.toArray lo hi none = ((its.drop (HT.sIx its.length 0 lo)).take (HT.sIx its.length its.length hi - HT.sIx its.length 0 lo)).toArray := by
  obtain ⟨h1, h2, h3⟩ := slice_bounds lo hi its.toArray.size
  unfold slicePick
  rw [h1, h2, h3]
  simp only [sliceRange_one, pick_run, List.size_toArray] <;> rfl
def rSlL (K : PySem.W.Frag) : V -> Option Int -> Option Int -> Hp -> VK -> Prop := fun x lo hi H Q => ∃ a xs, x = .ref a /\ SqL K H a xs /\ ∀ p, H p = none -> Q (.ref p) (upd H p (.lst (cutV xs lo hi)))
theorem sl_list : SlR X (rSlL X.K) := by
  intro pins s σ H x v vl vu lo hi sl Q I rx hs pl pu h
  obtain ⟨a, xs, rfl, hx, q⟩ := h
  cases rx
  obtain ⟨its, r, ht, hz⟩ := I.list hx
  have hlen := r.length
  refine ⟨"list", _, slot_list_getitem.lookup, ht.isList.typeIs, ?_⟩
  refine wpAny_getItem_list_slice ht.isList hs pl pu .none (by simp) ?_ (by rw [List.size_toArray] <;> omega)
  rw [slicePick_cut, <- hlen]
  refine ⟨.ref s.heap.objs.size, _, I.laid (t' := s.toks) (o := .lst (cutV xs lo hi)) (fun b ob q => Heap.get?_push_of_some _ q) (Nat.le_refl _) ?_, rfl, q _ (I.hok.fresh (Nat.le_refl _))⟩
  exact ⟨Nat.le_trans (cutV_length xs lo hi) hz, _, 0, (r.drop (HT.sIx xs.length 0 lo)).take (HT.sIx xs.length xs.length hi - HT.sIx xs.length 0 lo), Heap.get?_push_size _ rfl⟩
def flatV : V -> Bool
  | .non => true
  | .bl _ => true
  | .int _ => true
  | .str _ => true
  | _ => false
def eqV : V -> V -> Bool
  | .non, .non => true
  | .bl a, .bl b => a == b
  | .bl a, .int b => (if a then 1 else 0) == b
  | .int a, .bl b => a == (if b then 1 else 0)
  | .int a, .int b => a == b
  | .str a, .str b => a == b
  | _, _ => false
theorem eqAt_V {A : Around} {s : Shared} {y x : V} {u v : Value} (ry : RelV y u) (rx : RelV x v) (fy : flatV y = true) (fx : flatV x = true) : SeqAt.EqAt A s u v (eqV y x) := by
  cases y with
  | non =>
    cases ry
    cases x with
    | non => cases rx; exact SeqAt.EqAt.same _
    | bl b => cases rx; exact SeqAt.EqAt.none_bool b
    | int b => obtain ⟨t, rfl⟩ := rx; exact SeqAt.EqAt.none_int b t
    | str b => obtain ⟨t, rfl⟩ := rx; exact SeqAt.EqAt.none_str b t
    | _ => exact absurd (show false = true from fx) Bool.false_ne_true
  | bl a =>
    cases ry
    cases x with
    | non => cases rx; exact SeqAt.EqAt.bool_none a
    | bl b => cases rx; exact SeqAt.EqAt.bool_bool a b
    | int b => obtain ⟨t, rfl⟩ := rx; exact SeqAt.EqAt.bool_int a b t
    | str b => obtain ⟨t, rfl⟩ := rx; exact SeqAt.EqAt.bool_str a b t
    | _ => exact absurd (show false = true from fx) Bool.false_ne_true
  | int a =>
    obtain ⟨t', rfl⟩ := ry
    cases x with
    | non => cases rx; exact SeqAt.EqAt.int_none a t'
    | bl b => cases rx; exact SeqAt.EqAt.int_bool a t' b
    | int b => obtain ⟨t, rfl⟩ := rx; exact SeqAt.EqAt.int_int a t' b t
    | str b => obtain ⟨t, rfl⟩ := rx; exact SeqAt.EqAt.int_str a t' b t
    | _ => exact absurd (show false = true from fx) Bool.false_ne_true
  | str a =>
    obtain ⟨t', rfl⟩ := ry
    cases x with
    | non => cases rx; exact SeqAt.EqAt.str_none a t'
    | bl b => cases rx; exact SeqAt.EqAt.str_bool a t' b
    | int b => obtain ⟨t, rfl⟩ := rx; exact SeqAt.EqAt.str_int a t' b t
    | str b => obtain ⟨t, rfl⟩ := rx; exact SeqAt.EqAt.str_str a t' b t
    | _ => exact absurd (show false = true from fx) Bool.false_ne_true
  | _ => exact absurd (show false = true from fy) Bool.false_ne_true
def eqU (x : V) (u : Value) : Bool := match u with
  | .none => eqV .non x
  | .bool b => eqV (.bl b) x
  | .int i _ => eqV (.int i) x
  | .str z _ => eqV (.str z) x
  | _ => false
theorem eqU_of {x y : V} {u : Value} (r : RelV y u) (f : flatV y = true) : eqU x u = eqV y x := by
  cases y with
  | non => cases r; rfl
  | bl b => cases r; rfl
  | int i => obtain ⟨t, rfl⟩ := r; rfl
  | str z => obtain ⟨t, rfl⟩ := r; rfl
  | _ => exact absurd (show false = true from f) Bool.false_ne_true
theorem any_eqU {x : V} : ∀ {xs : List V} {us : List Value}, Vals xs us -> xs.all flatV = true -> us.any (eqU x) = xs.any fun y => eqV y x
  | _, _, .nil, _ => rfl
  | y :: xs, u :: us, .cons r t, f => by
    rw [List.all_cons, Bool.and_eq_true] at f
    rw [List.any_cons, List.any_cons, eqU_of r f.1, any_eqU t f.2]
theorem mem_eqAt {A : Around} {s : Shared} {x : V} {v : Value} (rx : RelV x v) (fx : flatV x = true) : ∀ {xs : List V} {us : List Value}, Vals xs us -> xs.all flatV = true -> ∀ u ∈ us, SeqAt.EqAt A s u v (eqU x u)
  | _, _, .nil, _ => fun u hu => by cases hu
  | y :: xs, u :: us, .cons r t, f => fun u' hu => by
    rw [List.all_cons, Bool.and_eq_true] at f
    rcases List.mem_cons.mp hu with rfl | hu
    · rw [eqU_of r f.1]; exact eqAt_V r rx f.1 fx
    · exact mem_eqAt rx fx t f.2 u' hu
def inV (x : V) (xs : List V) : Bool := xs.any fun y => eqV y x
def rIn (K : PySem.W.Frag) (neg : Bool) : R2 := fun x y H Q => ∃ p xs, y = .ref p /\ (SqL K H p xs \/ SqT K H p xs) /\ flatV x = true /\ xs.all flatV = true /\ Q (.bl (if neg then !inV x xs else inV x xs)) H
theorem op_in_seq : OpR X (compareOp .In) (rIn X.K false) := by
  intro pins s σ H x y v u Q I rx ry h
  obtain ⟨p, xs, rfl, hq, fx, fs, q⟩ := h
  cases ry
  rcases hq with hq | hq
  · obtain ⟨its, r, pl, hz⟩ := I.list hq
    refine SeqAt.in_listAt (eqU x) pl.isList (fun w hw => mem_eqAt rx fx r fs w (by simpa using hw)) ⟨.bl _, H, I, rfl, ?_⟩
    rw [show its.toArray.any (eqU x) = its.any (eqU x) by simp, any_eqU r fs]
    exact q
  · obtain ⟨its, r, pl, hz⟩ := I.tuple hq
    refine SeqAt.in_tupleAt (eqU x) pl (fun w hw => mem_eqAt rx fx r fs w (by simpa using hw)) ⟨.bl _, H, I, rfl, ?_⟩
    rw [show its.toArray.any (eqU x) = its.any (eqU x) by simp, any_eqU r fs]
    exact q
theorem op_notIn_seq : OpR X (compareOp .NotIn) (rIn X.K true) := by
  intro pins s σ H x y v u Q I rx ry h
  obtain ⟨p, xs, rfl, hq, fx, fs, q⟩ := h
  cases ry
  rcases hq with hq | hq
  · obtain ⟨its, r, pl, hz⟩ := I.list hq
    refine SeqAt.notIn_listAt (eqU x) pl.isList (fun w hw => mem_eqAt rx fx r fs w (by simpa using hw)) ⟨.bl _, H, I, rfl, ?_⟩
    rw [show its.toArray.any (eqU x) = its.any (eqU x) by simp, any_eqU r fs]
    exact q
  · obtain ⟨its, r, pl, hz⟩ := I.tuple hq
    refine SeqAt.notIn_tupleAt (eqU x) pl (fun w hw => mem_eqAt rx fx r fs w (by simpa using hw)) ⟨.bl _, H, I, rfl, ?_⟩
    rw [show its.toArray.any (eqU x) = its.any (eqU x) by simp, any_eqU r fs]
    exact q
theorem call_len_seq : CallR X (.builtin "len") (fun xs H Q => ∃ p ys, xs = [.ref p] /\ (SqL X.K H p ys \/ SqT X.K H p ys) /\ Q (.int ys.length) H) := by
  intro pins s σ H xs us Q I r h
  obtain ⟨p, ys, rfl, hq, q⟩ := h
  obtain ⟨u, rfl, rx⟩ := vals1 r
  cases rx
  have hn := line63
  rcases hq with hq | hq
  · obtain ⟨its, r', pl, hz⟩ := I.list hq
    have hlen := r'.length
    exact Calls.call_len_list pl.isList (by simp only [List.size_toArray] <;> omega) ⟨.int ys.length, H, I.tok _, ⟨s.toks + 1, by rw [List.size_toArray, hlen]⟩, q⟩
  · obtain ⟨its, r', pl, hz⟩ := I.tuple hq
    have hlen := r'.length
    exact len_tuple pl (by simp only [List.size_toArray] <;> omega) ⟨.int ys.length, H, I.tok _, ⟨s.toks + 1, by rw [List.size_toArray, hlen]⟩, q⟩
theorem call_len_str : CallR X (.builtin "len") (fun xs H Q => ∃ z, xs = [.str z] /\ z.length <= sizeLine /\ Q (.int z.length) H) := by
  intro pins s σ H xs us Q I r h
  obtain ⟨z, rfl, hz, q⟩ := h
  obtain ⟨u, rfl, t, rfl⟩ := vals1 r
  have hn := line63
  exact len_str (by omega) ⟨.int z.length, H, I.tok _, ⟨_, rfl⟩, q⟩
theorem CallR.or {f : Value} {r r' : List V -> Hp -> VK -> Prop} (h : CallR X f r) (h' : CallR X f r') : CallR X f (fun xs H Q => r xs H Q \/ r' xs H Q) := by
  intro pins s σ H xs us Q I rs q
  rcases q with q | q
  · exact h pins s σ H xs us Q I rs q
  · exact h' pins s σ H xs us Q I rs q
theorem call_list_of : CallR X (.type "list") (fun xs H Q => ∃ p ys, xs = [.ref p] /\ (SqL X.K H p ys \/ SqT X.K H p ys) /\ ∀ l, H l = none -> Q (.ref l) (upd H l (.lst ys))) := by
  intro pins s σ H xs us Q I r h
  obtain ⟨p, ys, rfl, hq, q⟩ := h
  obtain ⟨u, rfl, rx⟩ := vals1 r
  cases rx
  have fin : ∀ (its : List Value), Vals ys its -> ys.length <= sizeLine -> ∀ (h' : Heap) (c' : Nat), (∀ b o', s.heap.get? b = some o' -> h'.get? b = some o') ->
      h'.get? s.heap.objs.size = some { cls := .type "list", dict := none, data := .seq its.toArray c', slots := #[] } -> EP X pins σ Q (.ref s.heap.objs.size) { s with heap := h' } := fun its r' hz h' c' kp e =>
    ⟨.ref s.heap.objs.size, _, I.laid (t' := s.toks) kp (Nat.le_refl _) (show ObjOk X.prog X.w _ h' _ (.lst ys) from ⟨hz, its, c', r', e⟩), rfl, q _ (I.hok.fresh (Nat.le_refl _))⟩
  rcases hq with hq | hq
  · obtain ⟨its, r', pl, hz⟩ := I.list hq
    have hlen := r'.length
    obtain ⟨o, ho, hc, n, hd⟩ := pl.isList
    exact call_list_seq p (.inl rfl) ho hc hd (fun h' c' kp e => fin its r' hz h' c' kp e) (by simp only [List.size_toArray] <;> omega)
  · obtain ⟨its, r', pl, hz⟩ := I.tuple hq
    have hlen := r'.length
    obtain ⟨o, ho, hc, n, hd⟩ := pl
    exact call_list_seq p (.inr rfl) ho hc hd (fun h' c' kp e => fin its r' hz h' c' kp e) (by simp only [List.size_toArray] <;> omega)
theorem call_tuple_of : CallR X (.type "tuple") (fun xs H Q => ∃ p ys, xs = [.ref p] /\ ((SqL X.K H p ys /\ ∀ l, H l = none -> Q (.ref l) (upd H l (.tup ys))) \/ (SqT X.K H p ys /\ Q (.ref p) H))) := by
  intro pins s σ H xs us Q I r h
  obtain ⟨p, ys, rfl, h⟩ := h
  obtain ⟨u, rfl, rx⟩ := vals1 r
  cases rx
  rcases h with ⟨hq, q⟩ | ⟨hq, q⟩
  · obtain ⟨its, r', pl, hz⟩ := I.list hq
    have hlen := r'.length
    refine call_tuple_list pl.isList (fun h' kp => ?_) (by simp only [List.size_toArray] <;> omega)
    have I1 : Inv X pins σ H { s with heap := h' } := I.kept (t' := s.toks) kp
    have I2 : Inv X pins σ (upd H h'.objs.size (.tup ys)) { s with heap := h'.push { cls := .type "tuple", data := .seq its.toArray } } :=
      I1.laid (t' := s.toks) (fun b o e => Heap.get?_push_of_some _ e) (Nat.le_refl _) (show ObjOk X.prog X.w _ _ _ (.tup ys) from ⟨hz, its, r', IsTup.new _ _⟩)
    exact ⟨.ref h'.objs.size, _, I2, rfl, q _ (I1.hok.fresh (Nat.le_refl _))⟩
  · obtain ⟨its, r', pl, hz⟩ := I.tuple hq
    exact call_tuple_same pl ⟨.ref p, H, I, rfl, q⟩
def tyV (K : PySem.W.Frag) (T : String) (x : V) (H : Hp) : Prop := match x with
  | .str _ => T = "str"
  | .int _ => T = "int"
  | .ref p => (T = "list" /\ ∃ xs, SqL K H p xs) \/ (T = "tuple" /\ ∃ o, K.lookup p = some o /\ o.cls = .type "tuple" /\ o.dict = none) \/
      (T = "dict" /\ ((∃ kvs, H p = some (.dK kvs)) \/ ∃ kvs, H p = some (.dT kvs))) \/ (T = "set" /\ ∃ S n, H p = some (.set S n))
  | _ => False
theorem tyV_is {pins : List (Addr × Obj)} {σ : St} {H : Hp} {s : Shared} {T : String} {x : V} {v : Value} (I : Inv X pins σ H s) (r : RelV x v) (ty : tyV X.K T x H) :
    s.TypeIs v T /\ ∀ a, v = .ref a -> ∃ ob, s.heap.get? a = some ob /\ ob.dict = none := by
  cases x with
  | str z =>
    obtain ⟨t, rfl⟩ := r
    cases (show T = "str" from ty)
    exact ⟨typeIs_str s z t, fun _ e => nomatch e⟩
  | int i =>
    obtain ⟨t, rfl⟩ := r
    cases (show T = "int" from ty)
    exact ⟨typeIs_int s i t, fun _ e => nomatch e⟩
  | ref p =>
    cases r
    rcases ty with ⟨rfl, xs, hq⟩ | ⟨rfl, o, hk, hc, hd⟩ | ⟨rfl, hk⟩ | ⟨rfl, S, n, hk⟩
    · obtain ⟨its, _, pl, _⟩ := I.list hq
      refine ⟨pl.isList.typeIs, fun a e => ?_⟩
      cases e
      obtain ⟨o, n, e, c, hd, _⟩ := pl
      exact ⟨o, e, hd⟩
    · refine ⟨⟨o, I.kIn p o hk, hc⟩, fun a e => ?_⟩
      cases e
      exact ⟨o, I.kIn _ o hk, hd⟩
    · have z : ∃ o, s.heap.get? p = some o /\ o.ExactDict := by
        rcases hk with ⟨kvs, hk⟩ | ⟨kvs, hk⟩
        · obtain ⟨_, _, _, _, o, _, _, e, ex, _⟩ := I.hok p _ hk
          exact ⟨o, e, ex⟩
        · obtain ⟨_, _, _, _, o, _, _, e, ex, _⟩ := I.hok p _ hk
          exact ⟨o, e, ex⟩
      obtain ⟨o, e, ex⟩ := z
      refine ⟨⟨o, e, ex.1⟩, fun a e2 => ?_⟩
      cases e2
      exact ⟨o, e, ex.2.1⟩
    · obtain ⟨o, _, _, _, e, ex, _⟩ := I.hok p _ hk
      refine ⟨⟨o, e, ex.1⟩, fun a e2 => ?_⟩
      cases e2
      exact ⟨o, e, ex.2.1⟩
  | _ => exact False.elim ty
def tBM0 (K : PySem.W.Frag) (T : String) (r : V -> List V -> Hp -> VK -> Prop) (to : TE) : TE := fun σ H Q => to σ H fun x H1 => tyV K T x H1 /\ r x [] H1 Q
def tBM (K : PySem.W.Frag) (T : String) (r : V -> List V -> Hp -> VK -> Prop) (to : TE) (t : TA) : TE := fun σ H Q => to σ H fun x H1 => tyV K T x H1 /\ t σ H1 fun xs H2 => r x xs H2 Q
variable {o e : Expr} {es : List Expr} {to : TE} {t : TA} {name : Str} {apos cpos : Pos} {T id : String} {r : V -> List V -> Hp -> VK -> Prop}
theorem pe_bm0 (pa : PlainAttrs T) (slot : Slot T name id) (hty : typeOf (.builtin id) = pure (.type "method_descriptor")) (hm : MtR X id r) (ho : PE X o to)
    (hbase : attributeBase o name X.env (eval o X.env) = eval o X.env := by rfl) (hline : (apos.endLine == cpos.line) = true := by rfl) : PE X (.Call (.Attribute o name apos) [] [] cpos) (tBM0 X.K T r to) := by
  intro pins s σ H Q I h
  refine wpAny_Call_method0_late hbase hline (thn (ho pins s σ H _ I h) fun v s1 ⟨x, H1, I1, r1, ty, q1⟩ => ?_)
  obtain ⟨h1, h2⟩ := tyV_is I1 r1 ty
  exact ⟨T, id, pa, slot, hty, h1, h2, Calls.callWith_builtin rfl (PySem.evalArgs_none (hm pins s1 σ H1 x [] v [] Q I1 r1 .nil q1))⟩
theorem pe_bm (pa : PlainAttrs T) (slot : Slot T name id) (hty : typeOf (.builtin id) = pure (.type "method_descriptor")) (hm : MtR X id r) (ho : PE X o to) (ha : PA X (e :: es) t)
    (hbase : attributeBase o name X.env (eval o X.env) = eval o X.env := by rfl)
    (hfew : ((backTo cpos (starEach (e :: es) X.env)).all (fun x => !x.1) && (backToKw cpos (keywordEach [] X.env)).all (fun x => x.1.isSome)
      && decide ((e :: es).length + ([] : List Keyword).length + (if ([] : List Keyword).isEmpty then 0 else 1) < 30)) = true := by rfl)
    (hline : (apos.endLine == cpos.line) = true := by rfl) (hs : starEach (e :: es) X.env = (false, eval e X.env) :: starEach es X.env := by rfl) (hplain : (backTo cpos (starEach es X.env)).any (·.1) = false := by rfl) :
    PE X (.Call (.Attribute o name apos) (e :: es) [] cpos) (tBM X.K T r to t) := by
  intro pins s σ H Q I h
  refine wpAny_Call_method_late hbase hfew hline rfl (thn (ho pins s σ H _ I h) fun v s1 ⟨x, H1, I1, r1, ty, q1⟩ => ?_)
  obtain ⟨h1, h2⟩ := tyV_is I1 r1 ty
  refine ⟨T, id, pa, slot, hty, h1, h2, ?_⟩
  have hA := ha cpos pins s1 σ H1 _ I1 q1
  rw [hs] at hA ⊢
  refine Calls.callWith_builtin (by show (false || (backTo cpos (starEach es X.env)).any (·.1)) = false; rw [hplain] <;> rfl) (Calls.evalArgs_plain ?_)
  exact thn hA fun us s2 ⟨vs, H2, I2, r2, q2⟩ => hm pins s2 σ H2 x vs v us Q I2 r1 r2 q2
end
end L2
namespace L2
open PySem PySem.Spec PyProof.Rows
def MtM (X : Cx) (id : String) (r : V -> List V -> Hp -> VK -> Prop) : Prop :=
  ∀ (pins : List (Addr × Obj)) (s : Shared) (σ : St) (H : Hp) (x : V) (xs : List V) (v : Value) (us : List Value) (Q : VK), Inv X pins σ H s -> RelV x v -> Vals xs us -> r x xs H Q ->
    wpAny (model X.prog X.w) X.A (call (.builtin id) (v :: us)) (EP X pins σ Q) X.xe s
theorem Vals.one : ∀ {x : V} {us : List Value}, Vals [x] us -> ∃ u, us = [u] /\ RelV x u
  | _, _, .cons r .nil => ⟨_, rfl, r⟩
theorem Vals.two : ∀ {x y : V} {us : List Value}, Vals [x, y] us -> ∃ u v, us = [u, v] /\ RelV x u /\ RelV y v
  | _, _, _, .cons r (.cons q .nil) => ⟨_, _, rfl, r, q⟩
theorem Vals.zero : ∀ {us : List Value}, Vals [] us -> us = []
  | _, .nil => rfl
theorem Vals.dropLast {xs : List V} {us : List Value} (h : Vals xs us) : Vals xs.dropLast us.dropLast := by
  induction h with
  | nil => exact .nil
  | cons r t ih =>
    cases t with
    | nil => exact .nil
    | cons q t' => exact .cons r ih
theorem Vals.eraseIdx : ∀ {xs : List V} {us : List Value} (i : Nat), Vals xs us -> Vals (xs.eraseIdx i) (us.eraseIdx i)
  | _, _, _, .nil => .nil
  | _, _, 0, .cons _ t => t
  | _, _, i + 1, .cons r t => .cons r (Vals.eraseIdx i t)
theorem Vals.reverse {xs : List V} {us : List Value} (h : Vals xs us) : Vals xs.reverse us.reverse := by
  induction h with
  | nil => exact .nil
  | cons r t ih => rw [List.reverse_cons, List.reverse_cons]; exact Vals.append ih (.cons r .nil)
theorem erase_last {α : Type} (l : List α) : l.eraseIdx (l.length - 1) = l.dropLast := by
  induction l with
  | nil => rfl
  | cons a r ih =>
    cases r with
    | nil => rfl
    | cons b r =>
      have e : (a :: b :: r).length - 1 = ((b :: r).length - 1) + 1 := by
        have h1 : (a :: b :: r).length = r.length + 2 := rfl
        have h2 : (b :: r).length = r.length + 1 := rfl
        omega
      rw [e, List.eraseIdx_cons_succ, ih]
      all_goals rfl
section
variable {X : Cx} {pins : List (Addr × Obj)} {σ : St} {H : Hp} {s : Shared} {l b : Addr} {xs ys zs : List V}
theorem Inv.lset {its its' : List Value} {n : Nat} {f : Array Value -> Array Value} {t' : Nat} (I : Inv X pins σ H s) (hH : H l = some (.lst xs))
    (e : s.heap.get? l = some { cls := .type "list", data := .seq its.toArray n }) (hf : f its.toArray = its'.toArray) (hv : Vals ys its') (hz : ys.length <= sizeLine) :
    Inv X pins σ (upd H l (.lst ys)) { s with heap := s.heap.update l (Obj.mapSeq f), toks := t' } := by
  have q := PySem.IsL.update e f
  rw [hf] at q
  refine I.write (x := l) (e := l) (by rw [hH]; exact trivial) (.inl rfl) (fun b' u hb hu => (Heap.get?_update_other s.heap (Obj.mapSeq f) (Ne.symm hb)).trans hu) ⟨_, q⟩ ?_
  exact ⟨hz, its', _, hv, q⟩
theorem Inv.lnew {its : List Value} {t' : Nat} (I : Inv X pins σ H s) (hv : Vals ys its) (hz : ys.length <= sizeLine) :
    Inv X pins σ (upd H s.heap.objs.size (.lst ys)) { s with heap := s.heap.push { cls := .type "list", data := .seq its.toArray }, toks := t' } :=
  I.laid (fun _ _ q => Heap.get?_push_of_some _ q) (Nat.le_refl _) ⟨hz, its, 0, hv, Heap.get?_push_size _ rfl⟩
theorem Inv.fresh (I : Inv X pins σ H s) : H s.heap.objs.size = none := I.hok.fresh (Nat.le_refl _)
theorem Inv.lstM (I : Inv X pins σ H s) (hH : H l = some (.lst xs)) : xs.length <= sizeLine /\ ∃ (its : List Value) (n : Nat), Vals xs its /\ xs.length = its.length /\ s.heap.get? l = some { cls := .type "list", data := .seq its.toArray n } := by
  obtain ⟨z, its, n, r, e⟩ := I.hok l _ hH
  exact ⟨z, its, n, r, r.length, e⟩
theorem notLongL {n : Nat} (h : n <= sizeLine) : Builtin.List.listTooLong n = false := by
  unfold Builtin.List.listTooLong
  exact decide_eq_false (by omega)
end
section
variable {X : Cx}
def rAppend : V -> List V -> Hp -> VK -> Prop := fun x vs H Q => ∃ l xs y, x = .ref l /\ vs = [y] /\ H l = some (.lst xs) /\ xs.length < sizeLine /\ Q .non (upd H l (.lst (xs ++ [y])))
theorem mt_append : MtM X "list.append" rAppend := by
  intro pins s σ H x vs v us Q I rx rv h
  obtain ⟨l, xs, y, rfl, rfl, hH, hz, q⟩ := h
  cases rx
  obtain ⟨u, rfl, ru⟩ := rv.one
  obtain ⟨z, its, n, r, hl, e⟩ := I.lstM hH
  refine call_meets F.slot_list_append ⟨_, e, rfl⟩ F.entry_list_append (F.args_list_append_2 _ _) (PySem.list_append l its.toArray n u (by rw [List.size_toArray]; omega)) ⟨e, ?_⟩
  refine ⟨.non, _, I.lset (its' := its ++ [u]) hH e (by simp) (r.append (.cons ru .nil)) ?_, rfl, q⟩
  rw [List.length_append, List.length_singleton]
  omega
def rExtend : V -> List V -> Hp -> VK -> Prop := fun x vs H Q => ∃ l b xs zs, x = .ref l /\ vs = [.ref b] /\ H l = some (.lst xs) /\ H b = some (.lst zs) /\ xs.length + zs.length <= sizeLine /\ Q .non (upd H l (.lst (xs ++ zs)))
theorem mt_extend : MtM X "list.extend" rExtend := by
  intro pins s σ H x vs v us Q I rx rv h
  obtain ⟨l, b, xs, zs, rfl, rfl, hH, hB, hz, q⟩ := h
  cases rx
  obtain ⟨u, rfl, ru⟩ := rv.one
  cases ru
  obtain ⟨z, its, n, r, hl, e⟩ := I.lstM hH
  obtain ⟨z2, its2, n2, r2, hl2, e2⟩ := I.lstM hB
  have hsz : its.toArray.size + its2.toArray.size <= sizeLine := by rw [List.size_toArray, List.size_toArray]; omega
  have hlong : ¬ (!its.toArray.isEmpty && Builtin.List.listTooLong (its.toArray.size + its2.toArray.size)) = true := by
    rw [notLongL hsz, Bool.and_false]
    exact Bool.false_ne_true
  refine call_meets F.slot_list_extend ⟨_, e, rfl⟩ F.entry_list_extend (F.args_list_extend_2 _ _)
    (AutoSeq1.list_extend_list_list_0 l its.toArray n b its2.toArray n2 hlong (by rw [List.size_toArray]; omega) (by omega)) ⟨e, e2, ?_⟩
  refine ⟨.non, _, I.lset (its' := its ++ its2) hH e (by simp) (r.append r2) ?_, rfl, q⟩
  rw [List.length_append]
  omega
def rPop : V -> List V -> Hp -> VK -> Prop := fun x vs H Q => ∃ l xs y, x = .ref l /\ vs = [] /\ H l = some (.lst xs) /\ xs[xs.length - 1]? = some y /\ Q y (upd H l (.lst xs.dropLast))
theorem mt_pop : MtM X "list.pop" rPop := by
  intro pins s σ H x vs v us Q I rx rv h
  obtain ⟨l, xs, y, rfl, rfl, hH, hy, q⟩ := h
  cases rx
  have hus := rv.zero
  subst hus
  obtain ⟨z, its, n, r, hl, e⟩ := I.lstM hH
  obtain ⟨u, hu, ru⟩ := r.get hy
  have hy' : its.toArray[its.toArray.size - 1]? = some u := by
    show its.toArray[its.length - 1]? = some u
    rw [<- Array.getElem?_toList, <- hl]
    exact hu
  refine call_meets F.slot_list_pop ⟨_, e, rfl⟩ F.entry_list_pop (F.args_list_pop_1 _) (MeetsSeq.list_pop_last l its.toArray n u hy' (by rw [List.size_toArray]; omega)) ⟨e, ?_⟩
  refine ⟨y, _, I.lset (its' := its.dropLast) hH e ?_ r.dropLast ?_, ru, q⟩
  · show its.toArray.eraseIdxIfInBounds (its.toArray.size - 1) = its.dropLast.toArray
    rw [List.size_toArray, List.eraseIdxIfInBounds_toArray, erase_last]
  · rw [List.length_dropLast]
    omega
def rCat : R2 := fun x y H Q => ∃ l b xs zs, x = .ref l /\ y = .ref b /\ H l = some (.lst xs) /\ H b = some (.lst zs) /\ xs.length + zs.length <= sizeLine /\ ∀ p, H p = none -> Q (.ref p) (upd H p (.lst (xs ++ zs)))
theorem op_cat : OpR X (binaryOp .Add) rCat := by
  intro pins s σ H x y v u Q I rx ry h
  obtain ⟨l, b, xs, zs, rfl, rfl, hH, hB, hz, q⟩ := h
  cases rx
  cases ry
  obtain ⟨z, its, n, r, hl, e⟩ := I.lstM hH
  obtain ⟨z2, its2, n2, r2, hl2, e2⟩ := I.lstM hB
  refine PySem.P.add_list e e2 ?_ (by rw [List.size_toArray, List.size_toArray]; omega)
  have ea : its.toArray ++ its2.toArray = (its ++ its2).toArray := by simp
  rw [ea]
  exact ⟨.ref _, _, I.lnew (t' := s.toks) (r.append r2) (by rw [List.length_append]; omega), rfl, q _ I.fresh⟩
end
section
variable {prog : Program} {w : World} {A : Around} {E : Value -> Shared -> Prop} {s : Shared}
end
section
variable {X : Cx}
end
end L2
namespace Att
open PySem PySem.W PySem.Calls PyProof.Rows
theorem ints_of_wellAll {P : Params} {h : Heap} : ∀ (ns : List Int) (vs : List Value), WellAll P h vs (ns.map WData.int) -> IntsAre vs ns := by
  intro ns
  induction ns with
  | nil =>
    intro vs w
    rw [List.map_nil] at w
    cases w
    exact .nil
  | cons n ns ih =>
    intro vs w
    rw [List.map_cons] at w
    cases w with
    | cons a b =>
      cases a
      exact .cons _ _ (ih _ b)
theorem script_of {l : OpenLaw} {n : Nat} (hn : l.most = some n) {P : Params} {h : Heap} {args : List WData} {vals : List Value}
    (hpre : l.row.toRowW.claim.pre args = true) (hwl : WellAll P h vals args) :
    ∃ a vs ns, vals = [Value.ref a] /\ args = [WData.list (ns.map WData.int)] /\ h.get? a = some { cls := .type "list", data := .seq vs.toArray } /\ IntsAre vs ns /\ ns.length <= n := by
  have hsh : WShape.hasAll [] args [.list .int] = true := (pre_splitW hpre).1
  have hc : l.pre.holds [] { args := args } = true := (pre_splitW hpre).2
  obtain ⟨d, r, rfl, h1, h2⟩ := hasAllW_cons hsh
  obtain rfl := hasAllW_nil h2
  obtain ⟨xs, rfl, h3⟩ := hasW_list h1
  obtain ⟨ns, rfl⟩ := items_int h3
  have hlen : ns.length <= n := by
    unfold OpenLaw.pre at hc
    have h4 : (WTm.not (.lt (.lit (.int (n : Int))) (.len (.arg 0)))).holds [] { args := [.list (ns.map .int)] } = true := by
      have h4 := (holds_andW hc).1
      rw [hn] at h4
      exact h4
    have h5 := condW_of h4 (w_not (w_lt w_lit (w_len_list (w_arg rfl))))
    rw [List.length_map] at h5
    refine Nat.le_of_not_lt fun q => ?_
    have q' : (n : Int) < ((ns.length : Nat) : Int) := by omega
    first
      | (rw [decide_eq_true q'] at h5; exact absurd h5 (by decide))
      | (simp at h5; omega)
  cases hwl with
  | cons w1 w2 =>
    cases w2
    cases w1 with
    | list ho hall => exact ⟨_, _, ns, rfl, rfl, ho, ints_of_wellAll ns _ hall, hlen⟩
theorem post_true (l : OpenLaw) (args : List WData) : l.row.toRowW.claim.post args (.bool true) args = true :=
  postW_of (r := l.row.toRowW) (X := (true == true))
    (show WShape.has [] (.bool true) .bool = true by first | rfl | decide | simp [WShape.has, WShape.arms, WShape.armsAll])
    (show (WTm.eq .res (.lit (.bool true))).value [] { args := args, res := some (.bool true), after := args } = some (.bool (true == true)) from w_eq_bool (w_res rfl) w_lit) rfl
theorem attach_call {l : OpenLaw} {n : Nat} {q : Program} {loose : List Str} {XP : (Str -> Option Value) -> Heap -> Prop} {YP : World -> Heap -> Prop} {d : DefRec}
    (hn : l.most = some n) (hdf : d.params.defaults = [])
    (call : ∀ (w : World) (s₀ s₁ : Shared) (mg mb : Str -> Option Value) (fa : Addr) (o : Obj) (pm cd doc : Value) (a : Addr) (vs : List Value) (ns : List Int),
      Ground q loose [] XP w s₀ mg mb s₁.heap -> YP w s₁.heap ->
      s₁.heap.get? fa = some o -> o.data = .func (docDef d.name d.params d.body d.scope pm cd doc) -> s₁.heap.CodeRec cd d.name -> mg d.name = some (.ref fa) ->
      s₁.heap.get? a = some { cls := .type "list", data := .seq vs.toArray } -> IntsAre vs ns -> ns.length <= n -> s₁.gens = #[] ->
      codeAny (model l.prog w) callerA (.call (.ref fa) ⟨[.ref a], []⟩) (fun r s' => r = .ok (.ret (.bool true)) /\ OldK s₁.heap s'.heap /\ s'.os = s₁.os /\ AllBare s'.gens) s₁) :
    WalkO q loose XP YP l.row.toRowW d [] (fun f vs => PySem.call f vs) := by
  intro w s₀ s₁ mg mb G Y fa o pm cd doc dV kV ho hd hcd hD hmg hg args vals as hpre hlay hrd hwl hlo
  obtain rfl : dV = .none := Dflts.none hD hdf
  obtain rfl : kV = .none := Dflts.noKw hD
  obtain ⟨a, vs, ns, rfl, rfl, hobj, hints, hlen⟩ := script_of hn hpre hwl
  refine enter_call (codeAny_mono (call w s₀ s₁ mg mb fa o pm cd doc a vs ns G Y ho (fd_plain hd) hcd hmg hobj hints hlen hg) fun r s' hq => ?_)
  obtain ⟨rfl, h2, h3, h4⟩ := hq
  exact ⟨.inl ⟨.bool true, .bool true, [], rfl, fun _ => rfl, .bool true, post_true l _, fun _ => ⟨List.Pairwise.nil, fun _ hm => (nomatch hm)⟩⟩, h2, h3, h4⟩
section
variable {prog : Program} {w : World} {A : Around} {E : Value -> Shared -> Prop} {s : Shared} {K : Frag}
def ledger (h : Heap) (L d : Addr) : List (Addr × Obj) := (List.range h.objs.size).filterMap fun a => if a = L \/ a = d then none else (h.get? a).map fun o => (a, o)
end
end Att
namespace L2
open PySem PySem.Spec PyProof.Rows
theorem vals_ints : ∀ {vs : List Value} {ns : List Int}, IntsAre vs ns -> Vals (ns.map V.int) vs
  | _, _, .nil => .nil
  | _, _, .cons n t h => .cons ⟨t, rfl⟩ (vals_ints h)
def Only (H : Hp) : Prop := ∀ b, H b = none \/ ∃ o xs, H b = some (.frz o (.lst xs))
theorem law_call {P : Program} {w : World} {K : PySem.W.Frag} {mg mb : Str -> Option Value} {CX : CXT} {k : Nat} {fa a : Addr} {fd : FuncData} {x : Str} {sp : Sp} {s₁ : Shared} {vs : List Value} {ns : List Int}
    (KX : K.In s₁.heap) (hns : s₁.heap.Ns mainGlobals mg) (hb : s₁.heap.Ns builtinsNs mb) (hbb : ∀ x : Str, x ≠ "__name__" -> mb x = bootBuiltins x) (hlim : s₁.heap.NoLimit) (hg : s₁.gens = #[])
    (ha : s₁.heap.get? a = some { cls := .type "list", data := .seq vs.toArray }) (hi : IntsAre vs ns) (hl : ns.length <= sizeLine) (hr : Room k callerA)
    (F : ∀ base : Heap, K.In base -> base.Ns mainGlobals mg -> FnOk P w K mg base CX k fa fd [x] sp) (hbind : ∀ (s : Shared) (u : Value), BindsTo s fd ⟨[u], []⟩ [(x, u)])
    (hsp : ∀ H : Hp, Only H -> SqL K H a (ns.map V.int) -> sp [.ref a] H (fun v _ => v = .bl true) fun _ _ _ => False)
    (hCX : ∀ H e s', CX [] H s₁ (fun _ _ _ => False) e s' -> False) :
    codeAny (model P w) callerA (.call (.ref fa) ⟨[.ref a], []⟩) (fun r s' => r = .ok (.ret (.bool true)) /\ OldK s₁.heap s'.heap /\ s'.os = s₁.os /\ AllBare s'.gens) s₁ := by
  have rv := vals_ints hi
  have lenV := hi.length
  -- from an abstract heap in which nothing but the script may be tracked
  have core : ∀ H : Hp, Only H -> SqL K H a (ns.map V.int) -> HOk P w H s₁.heap -> (∀ b, H b ≠ none -> b = a) -> (H a ≠ none -> K.lookup a = none) ->
      codeAny (model P w) callerA (.call (.ref fa) ⟨[.ref a], []⟩) (fun r s' => r = .ok (.ret (.bool true)) /\ OldK s₁.heap s'.heap /\ s'.os = s₁.os /\ AllBare s'.gens) s₁ := by
    intro H hO hS hok hA hK
    have base_of : ∀ {b : Addr} {o : Obj}, s₁.heap.get? b = some o -> H b = none -> (hidT s₁.heap H).get? b = some o := fun e n => hidT_get e n
    have noA : ∀ {b : Addr} {o : Obj} {es : Array DictEntry} {ep : Nat}, s₁.heap.get? b = some o -> o.data = .dict es ep -> H b = none := fun {b o es ep} e d => by
      cases q : H b with
      | none => rfl
      | some u =>
        have e' : b = a := hA b (by rw [q]; simp)
        subst e'
        rw [ha] at e; cases e
        have d' : Data.seq vs.toArray _ = Data.dict es ep := d
        cases d'
    have nsK : ∀ {b : Addr} {m : Str -> Option Value}, s₁.heap.Ns b m -> (hidT s₁.heap H).Ns b m := fun {b m} ⟨o, es, ep, e, d, r⟩ => ⟨o, es, ep, base_of e (noA e d), d, r⟩
    have hKb : K.In (hidT s₁.heap H) := fun b o e => base_of (KX b o e) (by
      cases q : H b with
      | none => rfl
      | some u =>
        have e' : b = a := hA b (by rw [q]; simp)
        subst e'
        rw [hK (by rw [q]; simp)] at e; cases e)
    have hM : Mod K mg (hidT s₁.heap H) := ⟨hKb, nsK hns, ⟨mb, nsK hb, hbb⟩, let ⟨mc, h1, h2⟩ := hlim; ⟨mc, nsK h1, h2⟩⟩
    have e0 : Env0 P w K mg (hidT s₁.heap H) callerA [] s₁ H := ⟨rfl, hM, fun b o e => of_hidT e, Nat.le_of_eq (hidT_size _ _), trivial, fun b hb => absurd (show b ∈ ([] : List Addr) from hb) (by simp), hok, .of_eq hg⟩
    refine codeAny_mono ((F _ hKb (nsK hns)).run callerA [] s₁ H ⟨[.ref a], []⟩ [.ref a] [.ref a] _ _ hr e0 (hbind s₁ (.ref a)) (.cons rfl .nil) (hsp H hO hS)) fun r s' h => ?_
    cases r with
    | error e => exact (hCX H e s' h).elim
    | ok fl =>
      cases fl with
      | next => exact False.elim h
      | brk => exact False.elim h
      | cont => exact False.elim h
      | ret u =>
        obtain ⟨v, H', os, bare, un, hok', r', q⟩ := h
        have q' : v = .bl true := q
        subst q'
        obtain rfl : u = Value.bool true := r'
        refine ⟨rfl, OldK.of_keep fun b o e => ?_, os, bare⟩
        cases q : H b with
        | none => exact un.keep b o e q (by intro z; exact absurd (show b ∈ ([] : List Addr) from z) (by simp)) (by simp)
        | some u =>
          rcases hO b with z | ⟨ob, xs, z⟩
          · rw [q] at z; cases z
          · have z2 := un.frzs b ob _ z
            obtain ⟨e1, _⟩ := hok b _ z
            obtain ⟨e2, _⟩ := hok' b _ z2
            rw [e] at e1; cases e1
            exact e2
  cases hk : K.lookup a with
  | some o =>
    -- the script is one of the module's own objects
    have e := KX a o hk
    rw [ha] at e
    cases e
    refine core (fun _ => none) (fun _ => .inl rfl) (.inr ⟨_, vs.toArray, _, hk, rfl, rfl, rfl, by rw [List.size_toArray, lenV]; exact hl, by simpa using rv⟩) (fun b u z => by have z' : (none : Option HO) = some u := z; cases z') (fun b z => absurd rfl z) fun z => absurd rfl z
  | none =>
    refine core (fun b => if b = a then some (.frz { cls := .type "list", data := .seq vs.toArray } (.lst (ns.map V.int))) else none) (fun b => ?_) (.inl (.inr ⟨{ cls := .type "list", data := .seq vs.toArray }, if_pos rfl⟩)) (fun b u z => ?_) (fun b z => ?_) fun _ => hk
    · by_cases hb : b = a
      · exact .inr ⟨_, _, if_pos hb⟩
      · exact .inl (if_neg hb)
    · by_cases hb : b = a
      · have z' := (if_pos hb).symm.trans z
        cases z'
        subst hb
        exact ⟨ha, by rw [List.length_map]; exact hl, vs, _, rv, ha⟩
      · have z' := (if_neg hb).symm.trans z
        cases z'
    · by_cases hb : b = a
      · exact hb
      · exact absurd (if_neg hb) z
end L2
namespace L2
open PySem PySem.Spec PyProof.Rows
theorem walk_of {l : PySem.W.OpenLaw} {n k : Nat} {q : Program} {loose : List Str} {XP : (Str -> Option Value) -> Heap -> Prop} {YP : World -> Heap -> Prop} {d : DefRec} {K : Params -> PySem.W.Frag} {CX : World -> CXT} {sp : World -> Sp} {x : Str}
    (hn : l.most = some n) (hn2 : n <= sizeLine) (hdf : d.params.defaults = []) (hr : Room k callerA)
    (hY : ∀ (w : World) (h : Heap), YP w h -> (K w.params).In h)
    (F : ∀ (w : World) (mg : Str -> Option Value) (fa : Addr) (h : Heap), (K w.params).In h -> h.Ns mainGlobals mg -> mg d.name = some (.ref fa) ->
      ∃ fd : FuncData, (∀ (s : Shared) (u : Value), BindsTo s fd ⟨[u], []⟩ [(x, u)]) /\
        ∀ base : Heap, (K w.params).In base -> base.Ns mainGlobals mg -> FnOk l.prog w (K w.params) mg base (CX w) k fa fd [x] (sp w))
    (hsp : ∀ (w : World) (H : Hp) (a : Addr) (ns : List Int), ns.length <= n -> Only H -> SqL (K w.params) H a (ns.map V.int) -> sp w [.ref a] H (fun v _ => v = .bl true) fun _ _ _ => False)
    (hCX : ∀ (w : World) (H : Hp) (s : Shared) (e : Value) (s' : Shared), CX w [] H s (fun _ _ _ => False) e s' -> False) :
    PySem.W.WalkO q loose XP YP l.row.toRowW d [] (fun f vs => PySem.call f vs) := by
  refine Att.attach_call hn hdf fun w s₀ s₁ mg mb fa o pm cd doc a vs ns G Y ho hd hcd hmg hobj hints hlen hg => ?_
  have KX := hY w _ Y
  obtain ⟨fd, hb, hF⟩ := F w mg fa _ KX G.T.g hmg
  exact law_call KX G.T.g G.T.b G.T.builtins G.T.nolimit hg hobj hints (Nat.le_trans hlen hn2) hr hF hb (fun H hO hS => hsp w H a ns hlen hO hS) fun H e s' => hCX w H s₁ e s'
end L2
/- THE LAST THEOREM (shape; LID, My.* are yours):
   My.Adr: a structure of the addresses that your layer names (classes, functions); My.Txt K t: a structure (Prop) of the equations over K;
   My.txt_mk : {K} {implicit addresses ..} (e1 : nsIn K mainGlobals "law" = some (some (.ref f))) (e2 : K.lookup f = some ⟨oc, od, .func (fnOf "law" "law" params body scope dV kV doc pm an cdv ct), sl⟩) (e3 : codeIn K cdv "law" = true) .. : ∃ t, My.Txt K t
set_option maxRecDepth 100000 in
set_option maxHeartbeats 0 in
theorem PySem.Challenge.cw_LID_holds : PySem.Challenge.rw_LID.Holds := by
  w_on; o_law; k_head; (case hw => w_witness2)
  k_fill
  refine L2.walk_of (l := PySem.Challenge.rw_LID) (n := 63) (k := 40) (x := "script") (CX := fun w => ..) (sp := fun _ => My.sp_law) rfl (by decide) rfl ⟨rfl, by decide, by decide⟩ (fun w h Y => PySem.W.kIn_of Y) ?F ?S ?C
  case F =>
    intro w mg fa h KX G hmg
    have T : ∃ t, My.Txt (L2.KOf KX) t := by
      dsimp only [L2.KOf]                          -- K must stand as «<heap const> w.params» for k_is
      refine' My.txt_mk ?e1 ?e2 ?e3 ..
      (case e1 => PySem.W.k_is)                    -- in the order: a name -> its address -> its object -> its parts
      (case e2 => PySem.W.k_is)
      ..
    obtain ⟨t, T⟩ := T
    have e0 := hmg.symm.trans (PySem.W.mg_of KX G T.law)
    cases e0                                       -- fa is the law's own address
    exact ⟨_, fun s u => .of_eq rfl, fun base kb nb => My.law_fn T kb nb⟩     -- if «.of_eq rfl» comes too early: refine' ⟨_, ?b, fun base kb nb => My.law_fn T kb nb⟩; exact fun s u => .of_eq rfl
  case S => exact fun w H a ns hl hO hS => ..
  case C => exact ..
(the tactic k_is has no namespace: write k_is) -/
namespace L2
open PySem PySem.Spec PyProof.Rows
def inClass (s : Stmt) (j : Nat) : Stmt := match s with
  | .ClassDef _ _ _ body _ _ _ _ _ _ _ => body.getD j (.Pass ⟨0, 0, 0, 0⟩)
  | _ => .Pass ⟨0, 0, 0, 0⟩
def defArgs (s : Stmt) : Arguments := match s with
  | .FunctionDef _ a _ _ _ _ _ _ _ _ => a
  | _ => { posonlyargs := [], args := [], vararg := none, kwonlyargs := [], kw_defaults := [], kwarg := none, defaults := [] }
def defBody (s : Stmt) : List Stmt := match s with
  | .FunctionDef _ _ b _ _ _ _ _ _ _ => b
  | _ => []
def defScope (s : Stmt) : Scope := match s with
  | .FunctionDef _ _ _ _ _ _ sc _ _ _ => sc
  | _ => { kind := .function, names := [], isGenerator := false, isCoroutine := false }
abbrev CX0 : CXT := fun _ _ _ _ _ _ => False
abbrev E0 : XK := fun _ _ _ => False
theorem pass0 {X : Cx} : Passes CX0 X E0 := fun _ _ _ _ _ _ _ h => h.elim
structure Fun (K : PySem.W.Frag) (x qual : Str) (st : Stmt) (f : Addr) (fd : FuncData) : Prop where
  ex : ∃ (oc : Value) (od : Option Addr) (kV doc pm : Value) (an : Option Addr) (cdv ct : Value) (osl : Array (Option Value)),
    fd = PySem.W.fnOf x qual (defArgs st) (defBody st) (defScope st) .none kV doc pm an cdv ct /\ K.lookup f = some ⟨oc, od, .func fd, osl⟩ /\ PySem.W.codeIn K cdv qual = true
  kp : PySem.W.keepIn K (.ref f) = true
section
variable {P : Program} {w : World} {K : PySem.W.Frag} {mg : Str -> Option Value} {base : Heap}
theorem Fun.ok {x qual : Str} {st : Stmt} {f : Addr} {fd : FuncData} {N ps : List Str} {k : Nat} {sp : Sp} (F : Fun K x qual st f fd) (S : FnScope N ps (defScope st)) (len : ∀ vs H Q E, sp vs H Q E -> vs.length = ps.length)
    (hbody : ∀ (cdv : Value) (A : Around) (outer : List Env) (s : Shared) (H : Hp) (vs : List V) (Q : VK) (E : XK), Room k (A.deeper (envOfC qual (defScope st) s.heap.objs.size f cdv)) -> sp vs H Q E ->
      ∃ t, PSs (cxOf CX0 P w K mg base N qual (defScope st) f cdv A outer s H E).nox (defBody st) t /\ t { nx := fun _ H' => Q .non H', rt := Q } (start N vs) H) : FnOk P w K mg base CX0 (k + 1) f fd ps sp := by
  obtain ⟨oc, od, kV, doc, pm, an, cdv, ct, osl, rfl, lk, hcd⟩ := F.ex
  refine fn_of lk hcd S len fun A outer s H vs Q E hr hsp => ?_
  obtain ⟨t, h, q⟩ := hbody cdv A outer s H vs Q E hr hsp
  exact ⟨t, h.nox, q⟩
theorem Fun.binds {x qual : Str} {st : Stmt} {f : Addr} {fd : FuncData} {ps : List Str} (F : Fun K x qual st f fd)
    (h : ∀ (kV doc pm : Value) (an : Option Addr) (cdv ct : Value) (us : List Value), us.length = ps.length -> bindArgs (PySem.W.fnOf x qual (defArgs st) (defBody st) (defScope st) .none kV doc pm an cdv ct) ⟨us, []⟩ = pure (ps.zip us)) : Binds K fd ps [] := by
  obtain ⟨oc, od, kV, doc, pm, an, cdv, ct, osl, rfl, lk, hcd⟩ := F.ex
  exact .all (h kV doc pm an cdv ct)
theorem fun_mk {x qual : Str} {st : Stmt} {f : Addr} {oc : Value} {od an : Option Addr} {osl : Array (Option Value)} {kV doc pm cdv ct : Value} (l : K.lookup f = some ⟨oc, od, .func (PySem.W.fnOf x qual (defArgs st) (defBody st) (defScope st) .none kV doc pm an cdv ct), osl⟩)
    (c : PySem.W.codeIn K cdv qual = true) (k : PySem.W.keepIn K (.ref f) = true) : Fun K x qual st f (PySem.W.fnOf x qual (defArgs st) (defBody st) (defScope st) .none kV doc pm an cdv ct) := ⟨⟨oc, od, kV, doc, pm, an, cdv, ct, osl, rfl, l, c⟩, k⟩
end
theorem hu_of {A : Around} {k : Nat} (hr : Room k A) : A.units + 1 < cLine := Nat.lt_of_le_of_lt (Nat.add_le_add_left (by decide : 1 <= 64) _) hr.units
section
variable {X : Cx}
theorem pv (i : Nat) {x : Str} {pos : Pos} (hN : X.N[i]? = some x := by rfl) (hv : Vis X.env.scope x := by first | exact Or.inl rfl | exact Or.inr (Or.inl rfl) | exact Or.inr (Or.inr rfl)) (hd : (x == ("__debug__" : Str)) = false := by decide)
    (hcd : (x == ("__classdict__" : Str)) = false := by decide) : PE X (.Name x pos) (tVar i) := pe_var hN hv hd hcd
end
theorem iteF {A B : Prop} (h : B) : if false = true then A else B := by
  rw [if_neg Bool.false_ne_true]
  exact h
theorem iteT {A B : Prop} (h : A) : if true = true then A else B := by
  rw [if_pos rfl]
  exact h
theorem ite2 {c A B : Prop} [Decidable c] (h1 : c -> A) (h2 : ¬ c -> B) : if c then A else B := by
  by_cases h : c
  · rw [if_pos h]
    exact h1 h
  · rw [if_neg h]
    exact h2 h
def Same (H H' : Hp) : Prop := ∀ b o, H b = some o -> H' b = some o
theorem Same.refl (H : Hp) : Same H H := fun _ _ h => h
theorem Same.trans {H H1 H2 : Hp} (a : Same H H1) (b : Same H1 H2) : Same H H2 := fun c o h => b c o (a c o h)
theorem Same.free {H H' : Hp} (e : Same H H') {l : Addr} (h : H' l = Option.none) : H l = Option.none := by
  cases q : H l with
  | none => rfl
  | some o =>
    rw [e l o q] at h
    cases h
theorem Same.seq {K : PySem.W.Frag} {H H' : Hp} {a : Addr} {xs : List V} (e : Same H H') (h : SqL K H a xs) : SqL K H' a xs := by
  rcases h with (h | ⟨o, h⟩) | h
  · exact .inl (.inl (e _ _ h))
  · exact .inl (.inr ⟨o, e _ _ h⟩)
  · exact .inr h
end L2
namespace L2
open PySem PySem.Spec PyProof.Rows
def AllIn (env : Env) : List (Str × Addr) -> Prop
  | [] => True
  | p :: r => env.cells.lookup p.1 = some p.2 /\ AllIn env r
theorem AllIn.get {env : Env} : ∀ {cl : List (Str × Addr)} {y : Str} {c : Addr}, AllIn env cl -> cl.lookup y = some c -> env.cells.lookup y = some c
  | [], _, _, _, h => by simp at h
  | (n, a) :: r, y, c, ⟨e, t⟩, h => by
    rw [List.lookup_cons] at h
    by_cases q : y = n
    · subst q
      rw [beq_self_eq_true] at h
      cases h
      exact e
    · have q' : (y == n) = false := beq_eq_false_iff_ne.mpr q
      rw [q'] at h
      exact AllIn.get t h
def blank : List Nat -> St -> St
  | [], σ => σ
  | i :: S, σ => blank S (σ.set i none)
theorem blank_len : ∀ (S : List Nat) (σ : St), (blank S σ).length = σ.length
  | [], _ => rfl
  | i :: S, σ => by rw [blank, blank_len S, List.length_set]
theorem blank_get : ∀ (S : List Nat) (σ : St) {j : Nat} {v : V}, (blank S σ)[j]? = some (some v) -> σ[j]? = some (some v) /\ j ∉ S
  | [], _, _, _, h => ⟨h, by simp⟩
  | i :: S, σ, j, v, h => by
    obtain ⟨h1, h2⟩ := blank_get S (σ.set i none) h
    rw [List.getElem?_set] at h1
    by_cases e : i = j
    · rw [if_pos e] at h1
      split at h1 <;> cases h1
    · rw [if_neg e] at h1
      exact ⟨h1, fun z => (List.mem_cons.mp z).elim (fun z => e z.symm) h2⟩
structure LcOk (X : Cx) (scope : Scope) (cl : List (Str × Addr)) (S : List Nat) : Prop where
  clos : closureFor scope X.env = pure cl
  kind : scope.kind = .function
  noC : scope.names.all (fun y => y.2 != .cell) = true
  loc : scope.names.all (fun y => y.2 != .local || scope.names.lookup y.1 == some .local) = true
  own : X.N.zipIdx.all (fun y => S.contains y.2 || scope.names.lookup y.1 != some .local) = true
  sub : AllIn X.env cl
  has : scope.names.all (fun p => p.2 != .free || ((cl.lookup p.1).isSome && (X.env.kindOf p.1 == some .cell || X.env.kindOf p.1 == some .free))) = true
section
variable {X : Cx} {scope : Scope} {cl : List (Str × Addr)} {S : List Nat}
theorem LcOk.nocell (L : LcOk X scope cl S) : ∀ y ∈ scope.names, y.2 ≠ .cell := fun y hy => by
  have h := List.all_eq_true.mp L.noC y hy
  exact bne_iff_ne.mp h
theorem LcOk.locs (L : LcOk X scope cl S) : ∀ y ∈ scope.names, y.2 = .local -> scope.names.lookup y.1 = some .local := fun y hy e => by
  have h := List.all_eq_true.mp L.loc y hy
  rw [e] at h
  simpa using h
theorem LcOk.apart (L : LcOk X scope cl S) : ∀ (i : Nat) (y : Str), X.N[i]? = some y -> i ∉ S -> scope.names.lookup y ≠ some .local := fun i y hy hi => by
  have h := List.all_eq_true.mp L.own (y, i) (List.mem_zipIdx_iff_getElem?.mpr hy)
  have hc : S.contains i = false := by simpa using hi
  rw [hc, Bool.false_or] at h
  exact bne_iff_ne.mp h
theorem LcOk.free (L : LcOk X scope cl S) {y : Str} (h : scope.names.lookup y = some .free) : (∃ c, cl.lookup y = some c) /\ (X.env.kindOf y = some .cell \/ X.env.kindOf y = some .free) := by
  have h1 := List.all_eq_true.mp L.has _ (PySem.mem_of_lookup h)
  simp only [bne_self_eq_false, Bool.false_or, Bool.and_eq_true, Bool.or_eq_true, beq_iff_eq] at h1
  exact ⟨Option.isSome_iff_exists.mp h1.1, h1.2⟩
theorem lookup_relabel (names : List (Str × NameKind)) (env : Env) (y : Str) :
    (names.map fun (n, k) => if (k == NameKind.free && env.scope.kind == .function && env.kindOf n == some .cell) then (n, NameKind.cell) else (n, k)).lookup y =
      (names.lookup y).map fun k => if (k == NameKind.free && env.scope.kind == .function && env.kindOf y == some .cell) then NameKind.cell else k := by
  induction names with
  | nil => rfl
  | cons p r ih =>
    obtain ⟨n, k⟩ := p
    rw [List.map_cons]
    by_cases q : y = n
    · subst q
      by_cases hc : (k == NameKind.free && env.scope.kind == .function && env.kindOf y == some .cell) = true
      · show List.lookup y ((if (k == NameKind.free && env.scope.kind == .function && env.kindOf y == some .cell) = true then (y, NameKind.cell) else (y, k)) :: _) = _
        rw [if_pos hc, List.lookup_cons, List.lookup_cons, beq_self_eq_true]
        show some NameKind.cell = some (if _ then _ else _)
        rw [if_pos hc]
      · show List.lookup y ((if (k == NameKind.free && env.scope.kind == .function && env.kindOf y == some .cell) = true then (y, NameKind.cell) else (y, k)) :: _) = _
        rw [if_neg hc, List.lookup_cons, List.lookup_cons, beq_self_eq_true]
        show some k = some (if _ then _ else _)
        rw [if_neg hc]
    · have q' : (y == n) = false := beq_eq_false_iff_ne.mpr q
      by_cases hc : (k == NameKind.free && env.scope.kind == .function && env.kindOf n == some .cell) = true
      · show List.lookup y ((if (k == NameKind.free && env.scope.kind == .function && env.kindOf n == some .cell) = true then (n, NameKind.cell) else (n, k)) :: _) = _
        rw [if_pos hc, List.lookup_cons, List.lookup_cons, q']
        exact ih
      · show List.lookup y ((if (k == NameKind.free && env.scope.kind == .function && env.kindOf n == some .cell) = true then (n, NameKind.cell) else (n, k)) :: _) = _
        rw [if_neg hc, List.lookup_cons, List.lookup_cons, q']
        exact ih
theorem LcOk.kinds (L : LcOk X scope cl S) {y : Str} (h : (relabel scope X.env).names.lookup y = some .cell \/ (relabel scope X.env).names.lookup y = some .free) : scope.names.lookup y = some .free := by
  have e : (relabel scope X.env).names.lookup y = (scope.names.lookup y).map fun k => if (k == NameKind.free && X.env.scope.kind == .function && X.env.kindOf y == some .cell) then NameKind.cell else k := lookup_relabel scope.names X.env y
  rw [e] at h
  cases q : scope.names.lookup y with
  | none => rw [q] at h; rcases h with h | h <;> cases h
  | some k =>
    have hk : k ≠ .cell := L.nocell _ (PySem.mem_of_lookup q)
    rw [q] at h
    by_cases hf : k = .free
    · rw [hf]
    · have z : (k == NameKind.free) = false := beq_eq_false_iff_ne.mpr hf
      rw [Option.map_some, z, Bool.false_and, Bool.false_and, if_neg Bool.false_ne_true] at h
      rcases h with h | h
      · exact absurd (Option.some.inj h) hk
      · exact absurd (Option.some.inj h) hf
def cxLC (X : Cx) (scope : Scope) (cl : List (Str × Addr)) (M : List Str) (C : Addr) (s₀ : Shared) (H₀ : Hp) (ex : List Addr) (E : Value -> Shared -> Prop) : Cx where
  prog := X.prog
  w := X.w
  K := X.K
  mg := X.mg
  base := X.base
  A := X.A
  N := X.N ++ M
  s₀ := s₀
  H₀ := H₀
  env := compEnvC scope cl C X.env
  outer := X.stack
  stack := X.stack
  ex := ex
  fn := fun _ => false
  calm := X.calm
  pn := []
  xe := E
variable {pins : List (Addr × Obj)} {σ : St} {H : Hp} {s : Shared} {ex : List Addr} {M : List Str} {C : Addr}
theorem lc_start {E : Value -> Shared -> Prop} {h1 : Heap} {tk : Nat} {m : Str -> Option Value} (I : Inv X pins σ H s) (L : LcOk X scope cl S) (hf : ∀ b ∈ ex, FpOk X pins H b) (hlt : ∀ b ∈ ex, b < s.heap.objs.size)
    (hk : ∀ b o, s.heap.get? b = some o -> h1.get? b = some o) (hC : s.heap.objs.size <= C) (hns : h1.Ns C m) :
    Inv (cxLC X scope cl M C s H ex E) [] (blank S σ ++ List.replicate M.length none) H { s with heap := h1, toks := tk } := by
  refine ⟨⟨I.ok.mod, L.kind, I.ok.glob, I.ok.blt, hC, fun x y c a b => I.ok.inj x y c (L.sub.get a) (L.sub.get b), fun y hy => (L.free (L.kinds hy)).1, (fun x c z => nomatch z), I.ok.hd, I.ok.frames, .inl rfl, fun b hb => ⟨?_, fun x c e => ?_⟩,
      I.bs, Nat.le_trans I.ok.bsz I.sz, fun b o e hb => ?_, fun b hb z => ?_, I.stack, I.stkFree⟩,
    rfl, I.bare, Un.kept hk, ⟨m, hns, fun i y v e1 e2 e3 => ?_⟩, fun y c e => ?_, I.hok.fresh hC, fun y c e => I.freeC y c (L.sub.get e), fun p hp => absurd (show p ∈ ([] : List (Addr × Obj)) from hp) (by simp), I.hok.kept hk, ?_⟩
  · exact Nat.ne_of_lt (Nat.lt_of_lt_of_le (hlt b hb) hC)
  · exact (hf b hb).2.2.2.2.1 x c (L.sub.get e)
  · rcases (hf b hb).2.2.2.1 with z | z
    · exact I.ok.noex b o e z
    · exact absurd (Nat.lt_of_lt_of_le (Heap.lt_size e) (Nat.le_trans I.ok.bsz z)) (Nat.lt_irrefl _)
  · rcases List.mem_cons.mp (I.stkSub b z) with q | q
    · exact (hf b hb).2.1 q
    · exact (hf b hb).2.2.1 q
  · have e1' : (X.N ++ M)[i]? = some y := e1
    by_cases hi : i < σ.length
    · rw [List.getElem?_append_left (by rw [blank_len]; exact hi)] at e2
      obtain ⟨e2, hiS⟩ := blank_get S σ e2
      rw [List.getElem?_append_left (by rw [<- I.len]; exact hi)] at e1'
      obtain ⟨m0, hn0, hl⟩ := I.loc
      have hy : scope.names.lookup y = some .free := by
        rcases e3 with e3 | e3
        · have q := lookup_relabel scope.names X.env y
          have e3' : (relabel scope X.env).names.lookup y = some .local := e3
          cases z : scope.names.lookup y with
          | none =>
            rw [z] at q
            have q' : (relabel scope X.env).names.lookup y = none := q
            rw [e3'] at q'; cases q'
          | some k =>
            have hk1 : k ≠ .local := fun w => L.apart i y e1' hiS (w ▸ z)
            rw [z, Option.map_some] at q
            have q' : some NameKind.local = some (if (k == NameKind.free && X.env.scope.kind == .function && X.env.kindOf y == some .cell) = true then NameKind.cell else k) := e3'.symm.trans q
            have q2 := Option.some.inj q'
            by_cases hc : (k == NameKind.free && X.env.scope.kind == .function && X.env.kindOf y == some .cell) = true
            · rw [if_pos hc] at q2; cases q2
            · rw [if_neg hc] at q2; exact absurd q2.symm hk1
        · exact L.kinds e3
      obtain ⟨⟨c, hc⟩, hk2⟩ := L.free hy
      obtain ⟨u, r, l⟩ := hl i y v e1' e2 (.inr hk2)
      refine ⟨u, r, .inr ⟨?_, c, hc, ?_⟩⟩
      · have q := lookup_relabel scope.names X.env y
        rw [hy, Option.map_some] at q
        have q' : (relabel scope X.env).names.lookup y = some (if (NameKind.free == NameKind.free && X.env.scope.kind == .function && X.env.kindOf y == some .cell) = true then NameKind.cell else NameKind.free) := q
        by_cases hc : (NameKind.free == NameKind.free && X.env.scope.kind == .function && X.env.kindOf y == some .cell) = true
        · rw [if_pos hc] at q'; exact .inl q'
        · rw [if_neg hc] at q'; exact .inr q'
      · rcases l with ⟨l1, _⟩ | ⟨_, c', e', z⟩
        · rcases hk2 with w | w <;> (rw [l1] at w; cases w)
        · have ec : c' = c := by
            have w := L.sub.get hc
            rw [e'] at w
            exact Option.some.inj w
          subst ec
          obtain ⟨o, ho, hd⟩ := z
          exact ⟨o, hk _ _ ho, hd⟩
    · rw [List.getElem?_append_right (by rw [blank_len]; exact Nat.not_lt.mp hi), List.getElem?_replicate] at e2
      split at e2 <;> cases e2
  · obtain ⟨v, o, ho, hd⟩ := I.cell y c (L.sub.get e)
    exact ⟨v, o, hk _ _ ho, hd⟩
  · show (blank S σ ++ List.replicate M.length none).length = (X.N ++ M).length
    rw [List.length_append, List.length_append, List.length_replicate, blank_len, I.len]
def PTs (X : Cx) (ifs : List Expr) (t : TT) : Prop :=
  ∀ (pins : List (Addr × Obj)) (s : Shared) (σ : St) (H : Hp) (Q : Bool -> Hp -> Prop), Inv X pins σ H s -> t σ H Q ->
    wpAny (model X.prog X.w) X.A (forIn ifs true fun c r => if r = true then do let ok <- isTrue c X.env (eval c X.env); pure (ForInStep.yield ok) else pure (ForInStep.yield r)) (TP X pins σ Q) X.xe s
def tYes : TT := fun _ H Q => Q true H
theorem pts_nil {X : Cx} : PTs X [] tYes := fun _ _ _ H _ I h => wpAny_tests_nil ⟨H, I, h⟩
def lcBy (J : It) (g : TG) (tt : TT) (te : TE) (Q : VK) (W : Nat -> Nat -> St -> List V -> Hp -> Prop) : Prop := ∀ i m τ ys H, W i m τ ys H ->
  (J.stop i H /\ ∀ p, H p = none -> Q (.ref p) (upd H p (.lst ys))) \/
  (J.go i H /\ ∃ N : St -> List V -> Hp -> Prop, (∀ τ' ys' H', N τ' ys' H' -> ∃ m', m' < m /\ W (i + 1) m' τ' ys' H') /\ ∀ x H', J.yld i H x H' -> g x τ H' fun τ2 H2 => tt τ2 H2 fun b H3 =>
    if b = true then te τ2 H3 fun y H4 => ys.length < sizeLine /\ N τ2 (ys ++ [y]) H4 else N τ2 ys H3)
def tLC (wi : TI) (g : TG) (tt : TT) (te : TE) (n : Nat) : TE := fun σ H Q => wi σ H fun J H1 => ∃ W, (∃ m, W 0 m (σ ++ List.replicate n none) [] H1) /\ lcBy J g tt te Q W
def tLCS (S : List Nat) (wi : TI) (g : TG) (tt : TT) (te : TE) (n : Nat) : TE := fun σ H Q => wi σ H fun J H1 => ∃ W, (∃ m, W 0 m (blank S σ ++ List.replicate n none) [] H1) /\ lcBy J g tt te Q W
theorem lc_core {tg elt iter : Expr} {ifs : List Expr} {pos : Pos} {g : TG} {tt : TT} {te : TE} {J : It} {fp : List Addr} {it : Addr} {tn : Nat -> Heap -> Prop} {Q : VK} {E : Value -> Shared -> Prop} {R : Value -> Addr -> Result -> Shared -> Prop}
    {W : Nat -> Nat -> St -> List V -> Hp -> Prop} {m0 : Nat} (L : LcOk X scope cl S) (hc : X.calm = true) (I : Inv X pins σ H s) (T : Turn X.prog X.w X.K tg J fp it tn) (st : tn 0 s.heap) (hf : ∀ b ∈ fp, FpOk X pins H b)
    (hg : ∀ C s H ex E, PG (cxLC X scope cl M C s H ex E) tg g) (ht : ∀ C s H ex E, PTs (cxLC X scope cl M C s H ex E) ifs tt) (he : ∀ C s H ex E, PE (cxLC X scope cl M C s H ex E) elt te)
    (w0 : W 0 m0 (blank S σ ++ List.replicate M.length none) [] H) (turn : lcBy J g tt te Q W)
    (hR : ∀ D C s' H' ys m, Inv X pins σ (upd H' D (.lst ys)) s' -> FpOk X pins (upd H' D (.lst ys)) C -> s'.heap.Ns C m -> Q (.ref D) (upd H' D (.lst ys)) -> R (.ref D) C (.ok .next) s') :
    wpAny (model X.prog X.w) X.A (newList []) (fun acc s₃ => wpAny (model X.prog X.w) X.A (newFunctionEnv scope X.env.globals cl [] X.env.qual none .none (some X.env)) (fun cenv s₄ =>
      codeAny (model X.prog X.w) X.A (.compStart (.ListComp elt [⟨tg, iter, ifs, 0⟩] scope pos) 0 (.ref it) acc { cenv with scope := relabel scope X.env }) (R acc cenv.locals) s₄) E s₃) E s := by
  refine wpAny_newObj_type (wpAny_newFunctionEnv L.nocell (by intro y hy; simp at hy) (fun h₁ hns₁ hsb₁ => ?_) L.kind)
  dsimp only at hns₁ hsb₁ ⊢
  generalize hG : s.heap.push { cls := .type "list", dict := none, data := .seq ([] : List Value).toArray } = G at hns₁ hsb₁ ⊢
  have hC : G.objs.size = s.heap.objs.size + 1 := by rw [<- hG, Heap.size_push]
  have hDC : s.heap.objs.size ≠ G.objs.size := by rw [hC]; exact Nat.ne_of_lt (Nat.lt_succ_self _)
  have hCle : s.heap.objs.size <= G.objs.size := by rw [hC]; exact Nat.le_succ _
  have old : ∀ b o, s.heap.get? b = some o -> h₁.get? b = some o := fun b o e =>
    hsb₁.extBut b o (by rw [hC]; exact Nat.ne_of_lt (Nat.lt_succ_of_lt (Heap.lt_size e))) (Heap.get?_push_of_some _ (hG ▸ Heap.get?_push_of_some _ e))
  have hacc : h₁.get? s.heap.objs.size = some { cls := .type "list", data := .seq ([] : List Value).toArray } := hsb₁.extBut _ _ hDC (Heap.get?_push_of_some _ (hG ▸ Heap.get?_push_size _ rfl))
  have fpo : ∀ b ∈ fp, b < s.heap.objs.size := fun b hb => let ⟨o, e, _⟩ := T.obj 0 _ st b hb; Heap.lt_size e
  have st1 : tn 0 h₁ := T.keep 0 _ _ st fun b _ o e => old b o e
  have nofs : s.heap.objs.size ∉ frs X.stack := fun z => by
    rcases List.mem_cons.mp (I.stkSub _ z) with q | q
    · exact absurd (q ▸ I.lt) (Nat.lt_irrefl _)
    · exact I.nofs (Nat.le_refl _) q
  have nocl : ∀ y c, cl.lookup y = some c -> c ≠ s.heap.objs.size := fun y c e z => by
    obtain ⟨v, o, ho, _⟩ := I.cell y c (L.sub.get e)
    exact absurd (z ▸ Heap.lt_size ho) (Nat.lt_irrefl _)
  have loop : ∀ s₃ : Shared, s₃ = { s with heap := h₁, toks := s.toks + ([] : List (Str × Value)).length } ->
      codeAny (model X.prog X.w) X.A (.compLoop (.ListComp elt [⟨tg, iter, ifs, 0⟩] scope pos) 0 (.ref it) (.ref s.heap.objs.size) (compEnvC scope cl G.objs.size X.env)) (R (.ref s.heap.objs.size) G.objs.size) s₃ := by
    rintro s₃ rfl
    generalize hE : notedBy (model X.prog X.w) X.A (compEnvC scope cl G.objs.size X.env) (fun e s' => R (.ref s.heap.objs.size) G.objs.size (.error e) s') = E'
    have IY : Inv (cxLC X scope cl M G.objs.size s H fp E') [] (blank S σ ++ List.replicate M.length none) H { s with heap := h₁, toks := s.toks + ([] : List (Str × Value)).length } := lc_start I L hf fpo old hCle hns₁
    refine codeAny_loop rfl (fun n s' => ∃ (i : Nat) (τ : St) (H' : Hp) (ys : List V) (its : List Value) (k : Nat), Inv (cxLC X scope cl M G.objs.size s H fp E') [] τ H' s' /\ tn i s'.heap /\ (∀ b ∈ fp, H' b = none) /\
      s'.heap.get? s.heap.objs.size = some { cls := .type "list", data := .seq its.toArray k } /\ H' s.heap.objs.size = none /\ Vals ys its /\ ys.length <= sizeLine /\ W i n τ ys H') (fun n s' hI => ?_) m0
      ⟨0, _, H, [], [], _, IY, st1, fun b hb => (hf b hb).1, hacc, I.hok.fresh (Nat.le_refl _), .nil, Nat.zero_le _, w0⟩
    obtain ⟨i, τ, H1, ys, its, k, I1, st1, fr1, eD, fD, rv, hz, w1⟩ := hI
    show wpAny _ X.A ((compTurn (.ListComp elt [⟨tg, iter, ifs, 0⟩] scope pos) 0 (.ref it) (.ref s.heap.objs.size) (compEnvC scope cl G.objs.size X.env)).onRaise (fun x => do noteFrame x (compEnvC scope cl G.objs.size X.env); theTreesLotGoes x)) _ _ s'
    refine wpAny_noted ?_
    rw [hE, compTurn_list]
    have I1' : Inv (cxLC X scope cl M G.objs.size s H fp E') [(s.heap.objs.size, { cls := .type "list", data := .seq its.toArray k })] τ H1 s' := I1.pins_of fun p hp => by
      have e : p = (s.heap.objs.size, { cls := .type "list", data := .seq its.toArray k }) := by simpa using hp
      subst e
      exact ⟨eD, fD, hDC, nofs, (fun v z => nomatch z)⟩
    have stat : ∀ {H' : Hp}, (∀ b ∈ fp, H' b = none) -> ∀ b ∈ fp, FpOk (cxLC X scope cl M G.objs.size s H fp E') [(s.heap.objs.size, { cls := .type "list", data := .seq its.toArray k })] H' b := fun hn b hb => by
      refine ⟨hn b hb, ?_, ?_, .inl hb, fun x c e => (hf b hb).2.2.2.2.1 x c (L.sub.get e), fun p hp z => ?_⟩
      · exact Nat.ne_of_lt (Nat.lt_of_lt_of_le (fpo b hb) hCle)
      · intro z
        rcases List.mem_cons.mp (I.stkSub b z) with q | q
        · exact (hf b hb).2.1 q
        · exact (hf b hb).2.2.1 q
      · have e : p = (s.heap.objs.size, { cls := .type "list", data := .seq its.toArray k }) := by
          have hp' : p ∈ [(s.heap.objs.size, ({ cls := .type "list", data := .seq its.toArray k } : Obj))] := hp
          simpa using hp'
        subst e
        exact absurd (z ▸ fpo b hb) (Nat.lt_irrefl _)
    refine wpAny_bind (wpAny_standAt (wpAny_bind ?_))
    rcases turn i n τ ys H1 w1 with ⟨stop, q⟩ | ⟨go, N, hN, step⟩
    · refine thn (T.done (cxLC X scope cl M G.objs.size s H fp E') rfl rfl rfl hc i _ s' τ H1 E' I1' (stat fr1) st1 stop) fun r s4 ⟨hr, I4⟩ => ?_
      subst hr
      refine wpAny_pure ?_
      obtain ⟨eD4, _, _⟩ := I4.pin (s.heap.objs.size, { cls := .type "list", data := .seq its.toArray k }) (List.mem_append_right _ List.mem_cons_self)
      have base4 : Un (frs X.stack) fp H H1 s.heap s4.heap := I4.base
      have un : Un (frs X.stack) fp H (upd H1 s.heap.objs.size (.lst ys)) s.heap s4.heap := ⟨base4.keep, base4.slot, fun b o e n hx => by rw [upd_ne (Nat.ne_of_lt (Heap.lt_size e))]; exact base4.free b o e n hx, base4.there,
        fun b xs e => by rw [upd_ne (ne_of_none (base4.tups b xs e) fD)]; exact base4.tups b xs e, fun b o u e => by rw [upd_ne (ne_of_none (base4.frzs b o u e) fD)]; exact base4.frzs b o u e,
        fun b ps e => by
          obtain ⟨more, w⟩ := base4.tbls b ps e
          exact ⟨more, by rw [upd_ne (ne_of_none w fD)]; exact w⟩⟩
      have hok : HOk X.prog X.w (upd H1 s.heap.objs.size (.lst ys)) s4.heap := fun b u e => by
        by_cases hb : b = s.heap.objs.size
        · subst hb
          rw [upd_same] at e
          cases e
          exact ⟨hz, its, k, rv, eD4⟩
        · rw [upd_ne hb] at e
          exact (I4.hok b u e).stay (fun c v _ q => q) (fun c q => by rw [upd_ne (ne_of_none q fD)]; exact q) fun c xs q => by rw [upd_ne (ne_of_none q fD)]; exact q
      have IX : Inv X pins σ (upd H1 s.heap.objs.size (.lst ys)) s4 := I.call' I4.os un hok I4.bare fun b hb => ⟨(hf b hb).2.2.2.1, (hf b hb).2.1, (hf b hb).2.2.2.2.1, (hf b hb).2.2.2.2.2⟩
      have fC : H1 G.objs.size = none := I4.free
      obtain ⟨m4, n4, _⟩ := I4.loc
      exact hR _ _ s4 H1 ys m4 IX (I.fpOk hCle (by rw [upd_ne (Ne.symm hDC)]; exact fC)) n4 (q _ fD)
    · refine thn (T.item (cxLC X scope cl M G.objs.size s H fp E') rfl rfl rfl hc i _ s' τ H1 E' I1' (stat fr1) st1 go) fun r s4 ⟨u, hr, h4⟩ => ?_
      subst hr
      refine wpAny_bind (thn h4 fun _ s5 ⟨x, H5, I5, r5, y5, st5, fr5⟩ => ?_)
      have I5' := I5.pinned (stat fr5) (T.obj _ _ st5)
      -- what holds behind a turn
      have kept : ∀ {τ6 : St} {H6 : Hp} {s6 : Shared}, Inv (cxLC X scope cl M G.objs.size s H fp E') ([(s.heap.objs.size, { cls := .type "list", data := .seq its.toArray k })] ++ pinsAt fp s5.heap) τ6 H6 s6 ->
          Inv (cxLC X scope cl M G.objs.size s H fp E') [] τ6 H6 s6 /\ tn (i + 1) s6.heap /\ (∀ b ∈ fp, H6 b = none) /\ s6.heap.get? s.heap.objs.size = some { cls := .type "list", data := .seq its.toArray k } /\ H6 s.heap.objs.size = none := fun {τ6 H6 s6} I6 => by
        have pin : ∀ b ∈ fp, ∀ o, s5.heap.get? b = some o -> s6.heap.get? b = some o /\ H6 b = none := fun b hb o e =>
          let w := I6.pin (b, o) (List.mem_append_right _ (List.mem_append_right _ (mem_pinsAt hb e)))
          ⟨w.1, w.2.1⟩
        have pD := I6.pin (s.heap.objs.size, { cls := .type "list", data := .seq its.toArray k }) (List.mem_append_right _ (List.mem_append_left _ List.mem_cons_self))
        refine ⟨I6.pins_of (fun p hp => nomatch hp), T.keep _ _ _ st5 fun b hb o e => (pin b hb o e).1, fun b hb => ?_, pD.1, pD.2.1⟩
        obtain ⟨o, e, _⟩ := T.obj _ _ st5 b hb
        exact (pin b hb o e).2
      refine wpAny_bind (thn (hg _ _ _ _ _ _ s5 τ H5 x u _ I5' r5 (step x H5 y5)) fun _ s6 ⟨σ6, H6, I6, q6⟩ => ?_)
      refine wpAny_bind (thn (ht _ _ _ _ _ _ s6 σ6 H6 _ I6 q6) fun ok s7 ⟨H7, I7, q7⟩ => ?_)
      cases ok with
      | false =>
        have q7' : N σ6 ys H7 := by simpa using q7
        obtain ⟨m', hm, w7⟩ := hN _ _ _ q7'
        obtain ⟨K1, K2, K3, K4, K5⟩ := kept I7
        exact wpAny_pure ⟨rfl, m', hm, i + 1, σ6, H7, ys, its, k, K1, K2, K3, K4, K5, rv, hz, w7⟩
      | true =>
        have q7' : te σ6 H7 fun y H4 => ys.length < sizeLine /\ N σ6 (ys ++ [y]) H4 := by simpa using q7
        refine wpAny_bind (wpAny_bind (thn (he _ _ _ _ _ _ s7 σ6 H7 _ I7 q7') fun y s8 ⟨v8, H8, I8, r8, hz8, n8⟩ => ?_))
        obtain ⟨m', hm, w8⟩ := hN _ _ _ n8
        obtain ⟨K1, K2, K3, K4, K5⟩ := kept I8
        have hl := rv.length
        refine wpAny_bind (wpAny_list_append_plain (hsz := by rw [List.size_toArray]; omega) ⟨k, K4⟩ fun h9 hl9 hs9 => wpAny_pure (wpAny_pure ⟨rfl, m', hm, ?_⟩))
        obtain ⟨k9, e9⟩ := hl9
        have I9 : Inv (cxLC X scope cl M G.objs.size s H fp E') [] σ6 H8 { s8 with heap := h9 } := K1.turned (t' := s8.toks) (it := s.heap.objs.size) (fun b o hb e => (hs9.2 b hb).trans e) K5 hDC (.inr (Nat.le_refl _))
          (fun y c e => nocl y c e) fun p hp => nomatch hp
        refine ⟨i + 1, σ6, H8, ys ++ [v8], its ++ [y], k9, I9, T.keep _ _ _ K2 fun b hb o e => (hs9.2 b (Nat.ne_of_lt (fpo b hb))).trans e, K3, ?_, K5, rv.append (.cons r8 .nil), ?_, w8⟩
        · rw [e9]
          simp
        · rw [List.length_append, List.length_singleton]
          omega
  exact codeAny_compStart_list (loop _ rfl) (T.self X.A 0 _ _ _ st1 (loop _ rfl))
variable {tg elt iter : Expr} {ifs : List Expr} {pos : Pos} {wi : TI} {g : TG} {tt : TT} {te : TE}
theorem pe_lc (L : LcOk X scope cl S) (hc : X.calm = true) (hi : PI X tg iter wi) (hg : ∀ C s H ex E, PG (cxLC X scope cl M C s H ex E) tg g) (ht : ∀ C s H ex E, PTs (cxLC X scope cl M C s H ex E) ifs tt) (he : ∀ C s H ex E, PE (cxLC X scope cl M C s H ex E) elt te)
    (hs : ∀ x, foldedSetIterable iter X.env x = pure x := by intro _; rfl) : PE X (.ListComp elt [⟨tg, iter, ifs, 0⟩] scope pos) (tLCS S wi g tt te M.length) := by
  intro pins s σ H Q I h
  rw [eval_ListComp]
  refine wpAny_comprehension_free (use := none) rfl hs L.clos L.kind L.locs (thn (hi pins s σ H _ I h) fun v s1 h1 => thn h1 fun itv s2 h2 => ?_)
  obtain ⟨it, fp, tn, J, H2, rfl, I2, T, st2, f2, W, ⟨m0, w0⟩, turn⟩ := h2
  refine lc_core (R := fun acc C => compPost (model X.prog X.w) X.A X.xe none (EP X pins σ Q) acc C) L hc I2 T st2 f2 hg ht he w0 turn ?_
  intro D C s' H' ys m IX fC ns q
  exact ⟨m, ns, fun h' sb => ⟨.ref D, _, IX.turned (t' := s'.toks) (fun b o hb e => (sb.2 b hb).trans e) fC.1 fC.2.1 fC.2.2.2.1 fC.2.2.2.2.1 fC.2.2.2.2.2, rfl, q⟩⟩
theorem ps_set_lc {i : Nat} {y : Str} {py spos : Pos} (hN : X.N.Nodup) (hi' : X.N[i]? = some y) (hy : Loc X.env.scope y) (L : LcOk X scope cl S) (hc : X.calm = true) (hi : PI X tg iter wi) (hg : ∀ C s H ex E, PG (cxLC X scope cl M C s H ex E) tg g)
    (ht : ∀ C s H ex E, PTs (cxLC X scope cl M C s H ex E) ifs tt) (he : ∀ C s H ex E, PE (cxLC X scope cl M C s H ex E) elt te) (hs : ∀ x, foldedSetIterable iter X.env x = pure x := by intro _; rfl)
    (hsw : swapsWith (.ListComp elt [⟨tg, iter, ifs, 0⟩] scope pos) (some (.Name y py)) spos.line X.env = pure true := by rfl)
    (hf : X.fn y = true \/ X.env.scope.names.lookup y = some .local := by first | exact .inl rfl | exact .inr rfl | assumption) :
    PS X (.Assign [.Name y py] (.ListComp elt [⟨tg, iter, ifs, 0⟩] scope pos) spos) (fun D σ H => tLCS S wi g tt te M.length σ H fun v H1 => D.nx (σ.set i (some v)) H1) := by
  intro pins s σ H D I h
  rw [exec_Assign_Name_used _ _ _ _ hsw]
  refine wpAny_bind (wpAny_standAt (wpAny_bind ?_))
  show wpAny _ X.A (do let _ <- comprehension (.ListComp elt [⟨tg, iter, ifs, 0⟩] scope pos) scope X.env _ (newList []) false (eval iter X.env) (some (assign (.Name y py) X.env))) _ _ s
  refine wpAny_bind (wpAny_mono (wpAny_comprehension_free (use := some (assign (.Name y py) X.env)) (Q := fun _ s' => SP X pins D .next s') rfl hs L.clos L.kind L.locs
    (thn (hi pins s σ H _ I h) fun v s1 h1 => thn h1 fun itv s2 h2 => ?_)) (fun _ s' hq => wpAny_pure (wpAny_pure hq)) fun _ _ e => e)
  obtain ⟨it, fp, tn, J, H2, rfl, I2, T, st2, f2, W, ⟨m0, w0⟩, turn⟩ := h2
  refine lc_core (R := fun acc C => compPost (model X.prog X.w) X.A X.xe (some (assign (.Name y py) X.env)) (fun _ s' => SP X pins D .next s') acc C) L hc I2 T st2 f2 hg ht he w0 turn ?_
  intro D' C s' H' ys m IX fC ns q
  show wpAny _ X.A (assign (.Name y py) X.env (.ref D')) _ _ s'
  refine wpAny_assign_Name (store_ok2 IX hN hi' hy (v := .ref D') rfl (fun s'' I'' ⟨a, sb, ha⟩ => ?_) hf)
  refine ⟨m, ns.sameBut sb ?_, fun h' sb' => ⟨_, _, I''.turned (t' := s''.toks) (fun b o hb e => (sb'.2 b hb).trans e) fC.1 fC.2.1 fC.2.2.2.1 fC.2.2.2.2.1 fC.2.2.2.2.2, q⟩⟩
  rcases ha with ha | ha
  · rw [ha]; exact fC.2.1
  · exact Ne.symm (fC.2.2.2.2.1 y a ha)
end
def clOf (scope : Scope) (env : Env) : List (Str × Addr) := scope.names.foldl (fun cs p => if p.2 == .free then (match env.cells.lookup p.1 with | some a => (p.1, a) :: cs | none => cs) else cs) []
theorem clOf_in (env : Env) : ∀ (names : List (Str × NameKind)) (acc : List (Str × Addr)), AllIn env acc -> AllIn env (names.foldl (fun cs p => if p.2 == .free then (match env.cells.lookup p.1 with | some a => (p.1, a) :: cs | none => cs) else cs) acc)
  | [], _, h => h
  | (n, k) :: r, acc, h => by
    rw [List.foldl_cons]
    refine clOf_in env r _ ?_
    by_cases hk : (k == NameKind.free) = true
    · rw [if_pos hk]
      cases e : env.cells.lookup n with
      | none => exact h
      | some a => exact ⟨e, h⟩
    · rw [if_neg hk]
      exact h
section
variable {X : Cx} {scope : Scope} {M : List Str} {tg elt iter : Expr} {ifs : List Expr} {pos : Pos} {wi : TI} {g : TG} {tt : TT} {te : TE}
theorem lcOkS {S : List Nat} (h1 : closureFor scope X.env = pure (clOf scope X.env)) (h2 : scope.kind = .function) (h3 : scope.names.all (fun y => y.2 != .cell) = true) (h4 : scope.names.all (fun y => y.2 != .local || scope.names.lookup y.1 == some .local) = true)
    (h5 : X.N.zipIdx.all (fun y => S.contains y.2 || scope.names.lookup y.1 != some .local) = true) (h6 : scope.names.all (fun p => p.2 != .free || (((clOf scope X.env).lookup p.1).isSome && (X.env.kindOf p.1 == some .cell || X.env.kindOf p.1 == some .free))) = true) :
    LcOk X scope (clOf scope X.env) S := ⟨h1, h2, h3, h4, h5, clOf_in X.env scope.names [] trivial, h6⟩
theorem lcOk (h1 : closureFor scope X.env = pure (clOf scope X.env)) (h2 : scope.kind = .function) (h3 : scope.names.all (fun y => y.2 != .cell) = true) (h4 : scope.names.all (fun y => y.2 != .local || scope.names.lookup y.1 == some .local) = true)
    (h5 : X.N.all (fun y => scope.names.lookup y != some .local) = true) (h6 : scope.names.all (fun p => p.2 != .free || (((clOf scope X.env).lookup p.1).isSome && (X.env.kindOf p.1 == some .cell || X.env.kindOf p.1 == some .free))) = true) :
    LcOk X scope (clOf scope X.env) [] := lcOkS h1 h2 h3 h4 (List.all_eq_true.mpr fun y hy => by
      have hm : y.1 ∈ X.N := List.mem_of_getElem? (List.mem_zipIdx_iff_getElem?.mp hy)
      rw [List.all_eq_true.mp h5 y.1 hm, Bool.or_true]) h6
theorem pe_comp (M : List Str) (hc : X.calm = true) (hi : PI X tg iter wi) (hg : ∀ C s H ex E, PG (cxLC X scope (clOf scope X.env) M C s H ex E) tg g) (ht : ∀ C s H ex E, PTs (cxLC X scope (clOf scope X.env) M C s H ex E) ifs tt)
    (he : ∀ C s H ex E, PE (cxLC X scope (clOf scope X.env) M C s H ex E) elt te) (hs : ∀ x, foldedSetIterable iter X.env x = pure x := by intro _; rfl)
    (h1 : closureFor scope X.env = pure (clOf scope X.env) := by with_unfolding_all rfl) (h2 : scope.kind = .function := by rfl) (h3 : scope.names.all (fun y => y.2 != .cell) = true := by rfl) (h4 : scope.names.all (fun y => y.2 != .local || scope.names.lookup y.1 == some .local) = true := by rfl)
    (h5 : X.N.all (fun y => scope.names.lookup y != some .local) = true := by rfl) (h6 : scope.names.all (fun p => p.2 != .free || (((clOf scope X.env).lookup p.1).isSome && (X.env.kindOf p.1 == some .cell || X.env.kindOf p.1 == some .free))) = true := by rfl) :
    PE X (.ListComp elt [⟨tg, iter, ifs, 0⟩] scope pos) (tLC wi g tt te M.length) := pe_lc (lcOk h1 h2 h3 h4 h5 h6) hc hi hg ht he hs
theorem ps_comp (M : List Str) {i : Nat} {y : Str} {py spos : Pos} (hN : X.N.Nodup) (hi' : X.N[i]? = some y) (hy : Loc X.env.scope y) (hc : X.calm = true) (hi : PI X tg iter wi) (hg : ∀ C s H ex E, PG (cxLC X scope (clOf scope X.env) M C s H ex E) tg g)
    (ht : ∀ C s H ex E, PTs (cxLC X scope (clOf scope X.env) M C s H ex E) ifs tt) (he : ∀ C s H ex E, PE (cxLC X scope (clOf scope X.env) M C s H ex E) elt te) (hs : ∀ x, foldedSetIterable iter X.env x = pure x := by intro _; rfl)
    (hsw : swapsWith (.ListComp elt [⟨tg, iter, ifs, 0⟩] scope pos) (some (.Name y py)) spos.line X.env = pure true := by rfl)
    (hf : X.fn y = true \/ X.env.scope.names.lookup y = some .local := by first | exact .inl rfl | exact .inr rfl | assumption)
    (h1 : closureFor scope X.env = pure (clOf scope X.env) := by with_unfolding_all rfl) (h2 : scope.kind = .function := by rfl) (h3 : scope.names.all (fun y => y.2 != .cell) = true := by rfl) (h4 : scope.names.all (fun y => y.2 != .local || scope.names.lookup y.1 == some .local) = true := by rfl)
    (h5 : X.N.all (fun y => scope.names.lookup y != some .local) = true := by rfl) (h6 : scope.names.all (fun p => p.2 != .free || (((clOf scope X.env).lookup p.1).isSome && (X.env.kindOf p.1 == some .cell || X.env.kindOf p.1 == some .free))) = true := by rfl) :
    PS X (.Assign [.Name y py] (.ListComp elt [⟨tg, iter, ifs, 0⟩] scope pos) spos) (fun D σ H => tLC wi g tt te M.length σ H fun v H1 => D.nx (σ.set i (some v)) H1) := ps_set_lc hN hi' hy (lcOk h1 h2 h3 h4 h5 h6) hc hi hg ht he hs hsw hf
theorem pe_compS (S : List Nat) (M : List Str) (hc : X.calm = true) (hi : PI X tg iter wi) (hg : ∀ C s H ex E, PG (cxLC X scope (clOf scope X.env) M C s H ex E) tg g) (ht : ∀ C s H ex E, PTs (cxLC X scope (clOf scope X.env) M C s H ex E) ifs tt)
    (he : ∀ C s H ex E, PE (cxLC X scope (clOf scope X.env) M C s H ex E) elt te) (hs : ∀ x, foldedSetIterable iter X.env x = pure x := by intro _; rfl)
    (h1 : closureFor scope X.env = pure (clOf scope X.env) := by with_unfolding_all rfl) (h2 : scope.kind = .function := by rfl) (h3 : scope.names.all (fun y => y.2 != .cell) = true := by rfl) (h4 : scope.names.all (fun y => y.2 != .local || scope.names.lookup y.1 == some .local) = true := by rfl)
    (h5 : X.N.zipIdx.all (fun y => S.contains y.2 || scope.names.lookup y.1 != some .local) = true := by rfl) (h6 : scope.names.all (fun p => p.2 != .free || (((clOf scope X.env).lookup p.1).isSome && (X.env.kindOf p.1 == some .cell || X.env.kindOf p.1 == some .free))) = true := by rfl) :
    PE X (.ListComp elt [⟨tg, iter, ifs, 0⟩] scope pos) (tLCS S wi g tt te M.length) := pe_lc (lcOkS h1 h2 h3 h4 h5 h6) hc hi hg ht he hs
theorem ps_compS (S : List Nat) (M : List Str) {i : Nat} {y : Str} {py spos : Pos} (hN : X.N.Nodup) (hi' : X.N[i]? = some y) (hy : Loc X.env.scope y) (hc : X.calm = true) (hi : PI X tg iter wi) (hg : ∀ C s H ex E, PG (cxLC X scope (clOf scope X.env) M C s H ex E) tg g)
    (ht : ∀ C s H ex E, PTs (cxLC X scope (clOf scope X.env) M C s H ex E) ifs tt) (he : ∀ C s H ex E, PE (cxLC X scope (clOf scope X.env) M C s H ex E) elt te) (hs : ∀ x, foldedSetIterable iter X.env x = pure x := by intro _; rfl)
    (hsw : swapsWith (.ListComp elt [⟨tg, iter, ifs, 0⟩] scope pos) (some (.Name y py)) spos.line X.env = pure true := by rfl)
    (hf : X.fn y = true \/ X.env.scope.names.lookup y = some .local := by first | exact .inl rfl | exact .inr rfl | assumption)
    (h1 : closureFor scope X.env = pure (clOf scope X.env) := by with_unfolding_all rfl) (h2 : scope.kind = .function := by rfl) (h3 : scope.names.all (fun y => y.2 != .cell) = true := by rfl) (h4 : scope.names.all (fun y => y.2 != .local || scope.names.lookup y.1 == some .local) = true := by rfl)
    (h5 : X.N.zipIdx.all (fun y => S.contains y.2 || scope.names.lookup y.1 != some .local) = true := by rfl) (h6 : scope.names.all (fun p => p.2 != .free || (((clOf scope X.env).lookup p.1).isSome && (X.env.kindOf p.1 == some .cell || X.env.kindOf p.1 == some .free))) = true := by rfl) :
    PS X (.Assign [.Name y py] (.ListComp elt [⟨tg, iter, ifs, 0⟩] scope pos) spos) (fun D σ H => tLCS S wi g tt te M.length σ H fun v H1 => D.nx (σ.set i (some v)) H1) := ps_set_lc hN hi' hy (lcOkS h1 h2 h3 h4 h5 h6) hc hi hg ht he hs hsw hf
end
section
variable {g : TG} {tt : TT} {te : TE} {Q : VK} {σ : St} {H : Hp}
theorem lc_list {K : PySem.W.Frag} {a : Addr} {xs : List V} (Pv : Nat -> St -> List V -> Hp -> Prop) (h0 : Pv 0 σ [] H) (hl : ∀ i τ ys H, i <= xs.length -> Pv i τ ys H -> SqL K H a xs)
    (hs : ∀ i x τ ys H, xs[i]? = some x -> Pv i τ ys H -> g x τ H fun τ2 H2 => tt τ2 H2 fun b H3 => if b = true then te τ2 H3 fun y H4 => ys.length < sizeLine /\ Pv (i + 1) τ2 (ys ++ [y]) H4 else Pv (i + 1) τ2 ys H3)
    (hd : ∀ τ ys H, Pv xs.length τ ys H -> ∀ p, H p = none -> Q (.ref p) (upd H p (.lst ys))) : ∃ W, (∃ m, W 0 m σ [] H) /\ lcBy (Itl K a) g tt te Q W := by
  refine ⟨fun i m τ ys H => m = xs.length - i /\ i <= xs.length /\ Pv i τ ys H, ⟨xs.length, by simp, Nat.zero_le _, h0⟩, ?_⟩
  rintro i m τ ys H ⟨rfl, hi, p⟩
  have q := hl i τ ys H hi p
  by_cases hlt : i < xs.length
  · refine .inr ⟨⟨xs, xs[i], q, by simp [hlt]⟩, Pv (i + 1), fun τ' ys' H' p' => ⟨xs.length - (i + 1), by omega, rfl, hlt, p'⟩, fun x H' y => ?_⟩
    obtain ⟨e, y⟩ := y
    subst e
    exact hs i x τ ys _ (y xs q) p
  · have e : i = xs.length := by omega
    subst e
    exact .inl ⟨⟨xs, q, Nat.le_refl _⟩, hd τ ys H p⟩
theorem lc_range {lo : Int} {n : Nat} (Pv : Nat -> St -> List V -> Hp -> Prop) (h0 : Pv 0 σ [] H)
    (hs : ∀ i τ ys H, i < n -> Pv i τ ys H -> g (.int (lo + i)) τ H fun τ2 H2 => tt τ2 H2 fun b H3 => if b = true then te τ2 H3 fun y H4 => ys.length < sizeLine /\ Pv (i + 1) τ2 (ys ++ [y]) H4 else Pv (i + 1) τ2 ys H3)
    (hd : ∀ τ ys H, Pv n τ ys H -> ∀ p, H p = none -> Q (.ref p) (upd H p (.lst ys))) : ∃ W, (∃ m, W 0 m σ [] H) /\ lcBy (Itr lo n) g tt te Q W := by
  refine ⟨fun i m τ ys H => m = n - i /\ i <= n /\ Pv i τ ys H, ⟨n, by simp, Nat.zero_le _, h0⟩, ?_⟩
  rintro i m τ ys H ⟨rfl, hi, p⟩
  by_cases hlt : i < n
  · refine .inr ⟨hlt, Pv (i + 1), fun τ' ys' H' p' => ⟨n - (i + 1), by omega, rfl, hlt, p'⟩, fun x H' y => ?_⟩
    obtain ⟨e, y⟩ := y
    subst e y
    exact hs i τ ys _ hlt p
  · have e : i = n := by omega
    subst e
    exact .inl ⟨Nat.le_refl _, hd τ ys H p⟩
end
end L2
namespace L2
open PySem PySem.Spec PyProof.Rows Builtin Builtin.Str
section
variable {X : Cx} {tg : Expr}
theorem call_isinst : CallR X (.builtin "isinstance") (fun xs H Q => ∃ x t T b, xs = [x, .ty T] /\ TyOf X.K H x t /\ PySem.W.kitOne X.K t (.type T) = some b /\ Q (.bl b) H) := by
  intro pins s σ H xs us Q I r h
  obtain ⟨x, t, T, b, rfl, ty, e, q⟩ := h
  obtain ⟨u, u', rfl, rx, ru⟩ := vals2 r
  cases ru
  exact isinst_ok I rx ty e fun tk => ⟨.bl b, H, I.tok tk, rfl, q⟩
end
end L2
namespace L2
open PySem PySem.Spec PyProof.Rows
def isStar : Expr -> Bool
  | .Starred .. => true
  | _ => false
theorem star_cons {e : Expr} {es : List Expr} {env : Env} (h : isStar e = false) : starEach (e :: es) env = (false, eval e env) :: starEach es env := by
  cases e <;> first
    | rfl
    | exact absurd (show true = false from h) (by decide)
theorem star_any {env : Env} {pos : Pos} : ∀ {es : List Expr}, es.all (fun e => !isStar e) = true -> (backTo pos (starEach es env)).any (·.1) = false
  | [], _ => rfl
  | e :: es, h => by
    rw [List.all_cons, Bool.and_eq_true] at h
    have h1 : isStar e = false := by simpa using h.1
    rw [star_cons h1]
    show (false || (backTo pos (starEach es env)).any (·.1)) = false
    rw [star_any h.2]
    rfl
section
variable {X : Cx} {CX : CXT} {k : Nat} {f C : Addr} {fd : FuncData} {ps : List Str} {sp : Sp} {dvs : List V} {ds : List Value} {E : XK} {x m : Str} {p pos apos : Pos} {e o : Expr} {es : List Expr} {te ta : TE} {t : TA} {id T : String} {r : List V -> Hp -> VK -> Prop}
theorem pa_c (ha : PE X e te) (hr : PA X es t) (h : isStar e = false := by rfl) : PA X (e :: es) (tCons te t) := pa_cons ha hr (star_cons h)
theorem pe_fn (F : FnOk X.prog X.w X.K X.mg X.base CX k f fd ps sp) (hr : Room k X.A) (hg : Gl X x) (hm : X.mg x = some (.ref f)) (hk : PySem.W.keepIn X.K (.ref f) = true) (hb : Binds X.K fd ps ds) (hd : Vals dvs ds) (hx : Passes CX X E)
    (ha : PA X (e :: es) t) (hdb : (x == ("__debug__" : Str)) = false := by decide) (h1 : isStar e = false := by rfl) (h2 : es.all (fun e => !isStar e) = true := by rfl) :
    PE X (.Call (.Name x p) (e :: es) [] pos) (tCall sp dvs E t) := pe_call F hr hg hm hk hb hd hx ha hdb (star_cons h1) (star_any h2)
theorem pe_fnB (hc : CallR X (.builtin id) r) (hg : Gl X x) (hm : X.mg x = none) (hv : bootBuiltins x = some (.builtin id)) (ha : PA X (e :: es) t) (hn : x ≠ "__name__" := by decide) (hdb : (x == ("__debug__" : Str)) = false := by decide)
    (h1 : isStar e = false := by rfl) (h2 : es.all (fun e => !isStar e) = true := by rfl) : PE X (.Call (.Name x p) (e :: es) [] pos) (tCB r t) := pe_callB hc hg hm hv ha hn hdb (star_cons h1) (star_any h2)
theorem pe_fnTy (hc : CallR X (.type T) r) (hg : Gl X x) (hm : X.mg x = none) (hv : bootBuiltins x = some (.type T)) (ha : PA X (e :: es) t) (hn : x ≠ "__name__" := by decide) (hdb : (x == ("__debug__" : Str)) = false := by decide)
    (h1 : isStar e = false := by rfl) (h2 : es.all (fun e => !isStar e) = true := by rfl) : PE X (.Call (.Name x p) (e :: es) [] pos) (tCB r t) := pe_callTy hc hg hm hv ha hn hdb (star_cons h1) (star_any h2)
end
end L2
namespace L2
open PySem PySem.Spec PyProof.Rows
structure jE (X : Cx) (e : Expr) (t : TE) : Prop where
  out : PE X e t
structure jT (X : Cx) (e : Expr) (t : TT) : Prop where
  out : PT X e t
structure jW (X : Cx) (e : Expr) (t : TT) : Prop where
  out : PW X e t
structure jA (X : Cx) (es : List Expr) (t : TA) : Prop where
  out : PA X es t
structure jS (X : Cx) (st : Stmt) (t : TS) : Prop where
  out : PS X st t
structure jSs (X : Cx) (sts : List Stmt) (t : TS) : Prop where
  out : PSs X sts t
structure jG (X : Cx) (tg : Expr) (t : TG) : Prop where
  out : PG X tg t
structure jGs (X : Cx) (tg : List Expr) (t : TGs) : Prop where
  out : PGs X tg t
structure jI (X : Cx) (tg iter : Expr) (t : TI) : Prop where
  out : PI X tg iter t
structure jO (X : Cx) (e : Option Expr) (t : TO) : Prop where
  out : PO X e t
structure jTs (X : Cx) (ifs : List Expr) (t : TT) : Prop where
  out : PTs X ifs t
structure jOp (X : Cx) (f : Value -> Value -> Sem Value) (r : R2) : Prop where
  out : OpR X f r
structure jIx (X : Cx) (r : R2) : Prop where
  out : IxR X r
structure jSl (X : Cx) (r : V -> Option Int -> Option Int -> Hp -> VK -> Prop) : Prop where
  out : SlR X r
structure jMt (X : Cx) (id : String) (r : V -> List V -> Hp -> VK -> Prop) : Prop where
  out : MtR X id r
structure jCa (X : Cx) (f : Value) (r : List V -> Hp -> VK -> Prop) : Prop where
  out : CallR X f r
section
variable {X : Cx} {a b c e o : Expr} {es rest : List Expr} {ta tb tc te to : TE} {t u : TA} {tA tB' : TT} {pos p p2 apos cpos px : Pos} {x y m : Str} {op op' : CmpOp} {bop : Operator} {r r' : R2}
theorem jv (i : Nat) (hN : X.N[i]? = some x := by rfl) (hv : Vis X.env.scope x := by first | exact Or.inl rfl | exact Or.inr (Or.inl rfl) | exact Or.inr (Or.inr rfl)) (hd : (x == ("__debug__" : Str)) = false := by decide)
    (hcd : (x == ("__classdict__" : Str)) = false := by decide) : jE X (.Name x pos) (tVar i) := ⟨pv i hN hv hd hcd⟩
theorem je_int {i j} : jE X (.Constant (.int i) j pos) (tC (.int i)) := ⟨pe_int⟩
theorem je_bl {b j} : jE X (.Constant (.bool b) j pos) (tC (.bl b)) := ⟨pe_bl⟩
theorem je_str {x j} : jE X (.Constant (.str x) j pos) (tC (.str x)) := ⟨pe_str⟩
theorem je_glob {v : V} {w : Value} (hg : Gl X x) (hm : X.mg x = some w) (r : RelV v w) (hd : (x == ("__debug__" : Str)) = false := by decide) : jE X (.Name x pos) (tC v) := ⟨pe_glob hg hm r hd⟩
theorem je_bltn {v : V} {w : Value} (hg : Gl X x) (hm : X.mg x = none) (hv : bootBuiltins x = some w) (r : RelV v w) (hn : x ≠ "__name__" := by decide) (hd : (x == ("__debug__" : Str)) = false := by decide) : jE X (.Name x pos) (tC v) := ⟨pe_bltn hg hm hv r hn hd⟩
theorem je_op (ho : jOp X (binaryOp bop) r) (ha : jE X a ta) (hb : jE X b tb) : jE X (.BinOp a bop b pos) (tOp r ta tb) := ⟨pe_op ho.out ha.out hb.out⟩
theorem je_cmpR (ho : jOp X (compareOp op) r) (ha : jE X a ta) (hb : jE X b tb) (hm : behindInMarks op b = false) : jE X (.Compare a [op] [b] pos) (tOp r ta tb) := ⟨pe_cmpR ho.out ha.out hb.out hm⟩
theorem jt_cmpR (ho : jOp X (compareOp op) r) (ha : jE X a ta) (hb : jE X b tb) (hm : behindInMarks op b = false) : jT X (.Compare a [op] [b] pos) (tTest (tOp r ta tb)) := ⟨pt_cmpR ho.out ha.out hb.out hm⟩
theorem jt_val (h : jE X e te) (he : ∀ whole, isTrue e X.env whole = (do let v <- whole; standAt e.pos; holding [v] (truthy v)) := by intro _; rfl) : jT X e (tB te) := ⟨pt_val h.out he⟩
theorem jw_and1 (ha : jT X a tA) : jW X (.BoolOp .And [a] pos) tA := ⟨pw_and1 ha.out⟩
theorem jw_or1 (ha : jT X a tA) : jW X (.BoolOp .Or [a] pos) tA := ⟨pw_or1 ha.out⟩
theorem jw_and (ha : jT X a tA) (hb : jW X (.BoolOp .And (b :: rest) pos) tB') : jW X (.BoolOp .And (a :: b :: rest) pos) (tAnd tA tB') := ⟨pw_and ha.out hb.out⟩
theorem jw_or (ha : jT X a tA) (hb : jW X (.BoolOp .Or (b :: rest) pos) tB') : jW X (.BoolOp .Or (a :: b :: rest) pos) (tOr tA tB') := ⟨pw_or ha.out hb.out⟩
theorem jW.pt (h : jW X e tA) : jT X e tA := ⟨PW.pt h.out⟩
theorem jt_not (ha : jT X a tA) : jT X (.UnaryOp .Not a pos) (tNot tA) := ⟨pt_not ha.out⟩
theorem je_one {op} (h : jE X a te) : jE X (.BoolOp op [a] pos) te := ⟨pe_one h.out⟩
theorem je_and (ha : jE X a ta) (hb : jE X (.BoolOp .And (b :: rest) pos) tb) : jE X (.BoolOp .And (a :: b :: rest) pos) (tAndV ta tb) := ⟨pe_and ha.out hb.out⟩
theorem je_ifExp (hc : jT X c tA) (ha : jE X a ta) (hb : jE X b tb) : jE X (.IfExp c a b pos) (tIf tA ta tb) := ⟨pe_ifExp hc.out ha.out hb.out⟩
theorem ja_nil : jA X [] tNil := ⟨pa_nil⟩
theorem ja_c (ha : jE X e te) (hr : jA X es t) (h : isStar e = false := by rfl) : jA X (e :: es) (tCons te t) := ⟨pa_c ha.out hr.out h⟩
theorem je_lst (h : jA X es t) : jE X (.List es pos) (tLst t) := ⟨pe_lst h.out⟩
theorem je_tup {x1} (h : jA X es t) : jE X (.Tuple es x1 pos) (tTup t) := ⟨pe_tup h.out⟩
theorem je_ix (hr : jIx X r) (ha : jE X a ta) (hb : jE X b tb) (hs : PlainIx b) : jE X (.Subscript a b pos) (tOp r ta tb) := ⟨pe_ix hr.out ha.out hb.out hs⟩
theorem jo_none : jO X none tNoPart := ⟨po_none⟩
theorem jo_some (h : jE X e te) : jO X (some e) (tPart te) := ⟨po_some h.out⟩
theorem je_slice {r : V -> Option Int -> Option Int -> Hp -> VK -> Prop} {lo hi : Option Expr} {tl th : TO} (hr : jSl X r) (he : jE X e te) (hl : jO X lo tl) (hu : jO X hi th) : jE X (.Subscript e (.Slice lo hi none p2) pos) (tSl r te tl th) := ⟨pe_slice hr.out he.out hl.out hu.out⟩
variable {CX : CXT} {k : Nat} {f C : Addr} {fd : FuncData} {ps : List Str} {sp : Sp} {dvs : List V} {ds : List Value} {E : XK} {id T : String} {rc : List V -> Hp -> VK -> Prop} {rm : V -> List V -> Hp -> VK -> Prop}
theorem je_fn (F : FnOk X.prog X.w X.K X.mg X.base CX k f fd ps sp) (hr : Room k X.A) (hg : Gl X x) (hm : X.mg x = some (.ref f)) (hk : PySem.W.keepIn X.K (.ref f) = true) (hb : Binds X.K fd ps ds) (hd : Vals dvs ds) (hx : Passes CX X E)
    (ha : jA X (e :: es) t) (hdb : (x == ("__debug__" : Str)) = false := by decide) (h1 : isStar e = false := by rfl) (h2 : es.all (fun e => !isStar e) = true := by rfl) :
    jE X (.Call (.Name x p) (e :: es) [] pos) (tCall sp dvs E t) := ⟨pe_fn F hr hg hm hk hb hd hx ha.out hdb h1 h2⟩
theorem je_fnB (hc : jCa X (.builtin id) rc) (hg : Gl X x) (hm : X.mg x = none) (hv : bootBuiltins x = some (.builtin id)) (ha : jA X (e :: es) t) (hn : x ≠ "__name__" := by decide) (hdb : (x == ("__debug__" : Str)) = false := by decide)
    (h1 : isStar e = false := by rfl) (h2 : es.all (fun e => !isStar e) = true := by rfl) : jE X (.Call (.Name x p) (e :: es) [] pos) (tCB rc t) := ⟨pe_fnB hc.out hg hm hv ha.out hn hdb h1 h2⟩
theorem je_fnTy (hc : jCa X (.type T) rc) (hg : Gl X x) (hm : X.mg x = none) (hv : bootBuiltins x = some (.type T)) (ha : jA X (e :: es) t) (hn : x ≠ "__name__" := by decide) (hdb : (x == ("__debug__" : Str)) = false := by decide)
    (h1 : isStar e = false := by rfl) (h2 : es.all (fun e => !isStar e) = true := by rfl) : jE X (.Call (.Name x p) (e :: es) [] pos) (tCB rc t) := ⟨pe_fnTy hc.out hg hm hv ha.out hn hdb h1 h2⟩
theorem je_bm0 {name : Str} (pa : PlainAttrs T) (slot : Slot T name id) (hty : typeOf (.builtin id) = pure (.type "method_descriptor")) (hm : jMt X id rm) (ho : jE X o to)
    (hbase : attributeBase o name X.env (eval o X.env) = eval o X.env := by rfl) (hline : (apos.endLine == cpos.line) = true := by rfl) : jE X (.Call (.Attribute o name apos) [] [] cpos) (tBM0 X.K T rm to) := ⟨pe_bm0 pa slot hty hm.out ho.out hbase hline⟩
theorem je_bm {name : Str} (pa : PlainAttrs T) (slot : Slot T name id) (hty : typeOf (.builtin id) = pure (.type "method_descriptor")) (hm : jMt X id rm) (ho : jE X o to) (ha : jA X (e :: es) t)
    (hbase : attributeBase o name X.env (eval o X.env) = eval o X.env := by rfl)
    (hfew : ((backTo cpos (starEach (e :: es) X.env)).all (fun x => !x.1) && (backToKw cpos (keywordEach [] X.env)).all (fun x => x.1.isSome)
      && decide ((e :: es).length + ([] : List Keyword).length + (if ([] : List Keyword).isEmpty then 0 else 1) < 30)) = true := by rfl)
    (hline : (apos.endLine == cpos.line) = true := by rfl) (h1 : isStar e = false := by rfl) (h2 : es.all (fun e => !isStar e) = true := by rfl) :
    jE X (.Call (.Attribute o name apos) (e :: es) [] cpos) (tBM X.K T rm to t) := ⟨pe_bm pa slot hty hm.out ho.out ha.out hbase hfew hline (star_cons h1) (star_any h2)⟩
variable {st : Stmt} {sts : List Stmt} {s1 s2 : TS} {tg iter elt : Expr} {g : TG} {wi : TI} {tb1 : TS} {ifs : List Expr} {tt : TT}
theorem jss_nil : jSs X [] tNext := ⟨pss_nil⟩
theorem jss_cons (h1 : jS X st s1) (h2 : jSs X sts s2) : jSs X (st :: sts) (tSeq s1 s2) := ⟨pss_cons h1.out h2.out⟩
theorem jss_one (h1 : jS X st s1) : jSs X [st] s1 := ⟨pss_one h1.out⟩
theorem js_expr (he : jE X e te) (hs : swapsWith e none pos.line X.env = pure false := by rfl) : jS X (.Expr e pos) (tDrop te) := ⟨ps_expr he.out hs⟩
theorem js_ret (he : jE X e te) : jS X (.Return (some e) pos) (tRet te) := ⟨ps_ret he.out⟩
theorem js_if {A B : List Stmt} (hc : jT X c tA) (ha : jSs X A s1) (hb : jSs X B s2) : jS X (.If c A B pos) (tIfS tA s1 s2) := ⟨ps_if hc.out ha.out hb.out⟩
theorem js_set {i : Nat} {pos' : Pos} (hN : X.N.Nodup) (hi : X.N[i]? = some x) (hx : Loc X.env.scope x) (he : jE X e te) (hs : swapsWith e (some (.Name x pos')) pos.line X.env = pure false := by rfl)
    (hf : X.fn x = true \/ X.env.scope.names.lookup x = some .local := by first | exact .inl rfl | exact .inr rfl | assumption) : jS X (.Assign [.Name x pos'] e pos) (tAsg te (gName i)) := ⟨ps_set hN hi hx he.out hs hf⟩
theorem js_asg (he : jE X e te) (hg : jG X tg g) (hs : swapsWithSole [tg] e pos.line X.env = pure false := by rfl) (hw : swappedStores [tg] e X.env = pure none := by rfl) (h1 : (assignEach [tg] X.env).map (·.2) = [assign tg X.env] := by rfl) : jS X (.Assign [tg] e pos) (tAsg te g) := ⟨ps_asg he.out hg.out hs hw h1⟩
theorem jg_name {i : Nat} (hN : X.N.Nodup) (hi : X.N[i]? = some x) (hx : Loc X.env.scope x) (hf : X.fn x = true \/ X.env.scope.names.lookup x = some .local := by first | exact .inl rfl | exact .inr rfl | assumption) : jG X (.Name x pos) (gName i) := ⟨pg_name hN hi hx hf⟩
theorem jgs_nil : jGs X [] gNil := ⟨pgs_nil⟩
theorem jgs_cons {g : TG} {gs : TGs} (h1 : jG X e g) (h2 : jGs X es gs) (hs : (assignEach (e :: es) X.env).map (·.2) = assign e X.env :: (assignEach es X.env).map (·.2) := by rfl) : jGs X (e :: es) (gCons g gs) := ⟨pgs_cons h1.out h2.out hs⟩
theorem jg_tup {k : Nat} {gs : TGs} {n : Nat} (hc : X.calm = true) (h : jGs X es gs) (hn : (assignEach es X.env).length = n := by rfl) (hst : (assignEach es X.env).findIdx? (·.1) = none := by rfl) : jG X (.Tuple es k pos) (gTup X.K n gs) := ⟨pg_tup hc h.out hn hst⟩
theorem ji_list {l : Expr} {tl : TE} (hl : jE X l tl) : jI X tg l (iList X.K tl) := ⟨pi_list hl.out⟩
theorem ji_tup {l : Expr} {tl : TE} (hl : jE X l tl) : jI X tg l (iTup X.K tl) := ⟨pi_tup hl.out⟩
theorem ji_range1 (hg : Gl X "range") (hm : X.mg "range" = none) (ha : jA X [a] t) (h : isStar a = false := by rfl) : jI X tg (.Call (.Name "range" p) [a] [] pos) (iRng1 t) := ⟨pi_range1 hg hm ha.out (star_cons h)⟩
theorem js_for (hp : PassesOwn (model X.prog X.w) X.A X.env X.xe) (hc : X.calm = true) (hi : jI X tg iter wi) (hg : jG X tg g) (hb : jSs X sts tb1) (hs : ∀ x, foldedSetIterable iter X.env x = pure x := by intro _; rfl) : jS X (.For tg iter sts [] pos) (tFor wi g tb1) := ⟨ps_for hp hc hi.out hg.out hb.out hs⟩
theorem js_while (hp : PassesOwn (model X.prog X.w) X.A X.env X.xe) (hc : jT X c tA) (hb : jSs X sts tb1) : jS X (.While c sts [] pos) (tWhile tA tb1) := ⟨ps_while hp hc.out hb.out⟩
theorem jts_nil : jTs X [] tYes := ⟨pts_nil⟩
theorem je_comp {scope : Scope} (M : List Str) (hc : X.calm = true) (hi : jI X tg iter wi) (hg : ∀ C s H ex E, jG (cxLC X scope (clOf scope X.env) M C s H ex E) tg g) (ht : ∀ C s H ex E, jTs (cxLC X scope (clOf scope X.env) M C s H ex E) ifs tt)
    (he : ∀ C s H ex E, jE (cxLC X scope (clOf scope X.env) M C s H ex E) elt te) (hs : ∀ x, foldedSetIterable iter X.env x = pure x := by intro _; rfl)
    (h1 : closureFor scope X.env = pure (clOf scope X.env) := by with_unfolding_all rfl) (h2 : scope.kind = .function := by rfl) (h3 : scope.names.all (fun y => y.2 != .cell) = true := by rfl) (h4 : scope.names.all (fun y => y.2 != .local || scope.names.lookup y.1 == some .local) = true := by rfl)
    (h5 : X.N.all (fun y => scope.names.lookup y != some .local) = true := by rfl) (h6 : scope.names.all (fun p => p.2 != .free || (((clOf scope X.env).lookup p.1).isSome && (X.env.kindOf p.1 == some .cell || X.env.kindOf p.1 == some .free))) = true := by rfl) :
    jE X (.ListComp elt [⟨tg, iter, ifs, 0⟩] scope pos) (tLC wi g tt te M.length) := ⟨pe_comp M hc hi.out (fun C s H ex E => (hg C s H ex E).out) (fun C s H ex E => (ht C s H ex E).out) (fun C s H ex E => (he C s H ex E).out) hs h1 h2 h3 h4 h5 h6⟩
theorem js_comp {scope : Scope} (M : List Str) {i : Nat} {py spos : Pos} (hN : X.N.Nodup) (hi' : X.N[i]? = some y) (hy : Loc X.env.scope y) (hc : X.calm = true) (hi : jI X tg iter wi) (hg : ∀ C s H ex E, jG (cxLC X scope (clOf scope X.env) M C s H ex E) tg g)
    (ht : ∀ C s H ex E, jTs (cxLC X scope (clOf scope X.env) M C s H ex E) ifs tt) (he : ∀ C s H ex E, jE (cxLC X scope (clOf scope X.env) M C s H ex E) elt te) (hs : ∀ x, foldedSetIterable iter X.env x = pure x := by intro _; rfl)
    (hsw : swapsWith (.ListComp elt [⟨tg, iter, ifs, 0⟩] scope pos) (some (.Name y py)) spos.line X.env = pure true := by rfl)
    (hf : X.fn y = true \/ X.env.scope.names.lookup y = some .local := by first | exact .inl rfl | exact .inr rfl | assumption)
    (h1 : closureFor scope X.env = pure (clOf scope X.env) := by with_unfolding_all rfl) (h2 : scope.kind = .function := by rfl) (h3 : scope.names.all (fun y => y.2 != .cell) = true := by rfl) (h4 : scope.names.all (fun y => y.2 != .local || scope.names.lookup y.1 == some .local) = true := by rfl)
    (h5 : X.N.all (fun y => scope.names.lookup y != some .local) = true := by rfl) (h6 : scope.names.all (fun p => p.2 != .free || (((clOf scope X.env).lookup p.1).isSome && (X.env.kindOf p.1 == some .cell || X.env.kindOf p.1 == some .free))) = true := by rfl) :
    jS X (.Assign [.Name y py] (.ListComp elt [⟨tg, iter, ifs, 0⟩] scope pos) spos) (fun D σ H => tLC wi g tt te M.length σ H fun v H1 => D.nx (σ.set i (some v)) H1) :=
  ⟨ps_comp M hN hi' hy hc hi.out (fun C s H ex E => (hg C s H ex E).out) (fun C s H ex E => (ht C s H ex E).out) (fun C s H ex E => (he C s H ex E).out) hs hsw hf h1 h2 h3 h4 h5 h6⟩
theorem je_compS {scope : Scope} (S : List Nat) (M : List Str) (hc : X.calm = true) (hi : jI X tg iter wi) (hg : ∀ C s H ex E, jG (cxLC X scope (clOf scope X.env) M C s H ex E) tg g) (ht : ∀ C s H ex E, jTs (cxLC X scope (clOf scope X.env) M C s H ex E) ifs tt)
    (he : ∀ C s H ex E, jE (cxLC X scope (clOf scope X.env) M C s H ex E) elt te) (hs : ∀ x, foldedSetIterable iter X.env x = pure x := by intro _; rfl)
    (h1 : closureFor scope X.env = pure (clOf scope X.env) := by with_unfolding_all rfl) (h2 : scope.kind = .function := by rfl) (h3 : scope.names.all (fun y => y.2 != .cell) = true := by rfl) (h4 : scope.names.all (fun y => y.2 != .local || scope.names.lookup y.1 == some .local) = true := by rfl)
    (h5 : X.N.zipIdx.all (fun y => S.contains y.2 || scope.names.lookup y.1 != some .local) = true := by rfl) (h6 : scope.names.all (fun p => p.2 != .free || (((clOf scope X.env).lookup p.1).isSome && (X.env.kindOf p.1 == some .cell || X.env.kindOf p.1 == some .free))) = true := by rfl) :
    jE X (.ListComp elt [⟨tg, iter, ifs, 0⟩] scope pos) (tLCS S wi g tt te M.length) := ⟨pe_compS S M hc hi.out (fun C s H ex E => (hg C s H ex E).out) (fun C s H ex E => (ht C s H ex E).out) (fun C s H ex E => (he C s H ex E).out) hs h1 h2 h3 h4 h5 h6⟩
theorem js_compS {scope : Scope} (S : List Nat) (M : List Str) {i : Nat} {py spos : Pos} (hN : X.N.Nodup) (hi' : X.N[i]? = some y) (hy : Loc X.env.scope y) (hc : X.calm = true) (hi : jI X tg iter wi) (hg : ∀ C s H ex E, jG (cxLC X scope (clOf scope X.env) M C s H ex E) tg g)
    (ht : ∀ C s H ex E, jTs (cxLC X scope (clOf scope X.env) M C s H ex E) ifs tt) (he : ∀ C s H ex E, jE (cxLC X scope (clOf scope X.env) M C s H ex E) elt te) (hs : ∀ x, foldedSetIterable iter X.env x = pure x := by intro _; rfl)
    (hsw : swapsWith (.ListComp elt [⟨tg, iter, ifs, 0⟩] scope pos) (some (.Name y py)) spos.line X.env = pure true := by rfl)
    (hf : X.fn y = true \/ X.env.scope.names.lookup y = some .local := by first | exact .inl rfl | exact .inr rfl | assumption)
    (h1 : closureFor scope X.env = pure (clOf scope X.env) := by with_unfolding_all rfl) (h2 : scope.kind = .function := by rfl) (h3 : scope.names.all (fun y => y.2 != .cell) = true := by rfl) (h4 : scope.names.all (fun y => y.2 != .local || scope.names.lookup y.1 == some .local) = true := by rfl)
    (h5 : X.N.zipIdx.all (fun y => S.contains y.2 || scope.names.lookup y.1 != some .local) = true := by rfl) (h6 : scope.names.all (fun p => p.2 != .free || (((clOf scope X.env).lookup p.1).isSome && (X.env.kindOf p.1 == some .cell || X.env.kindOf p.1 == some .free))) = true := by rfl) :
    jS X (.Assign [.Name y py] (.ListComp elt [⟨tg, iter, ifs, 0⟩] scope pos) spos) (fun D σ H => tLCS S wi g tt te M.length σ H fun v H1 => D.nx (σ.set i (some v)) H1) :=
  ⟨ps_compS S M hN hi' hy hc hi.out (fun C s H ex E => (hg C s H ex E).out) (fun C s H ex E => (ht C s H ex E).out) (fun C s H ex E => (he C s H ex E).out) hs hsw hf h1 h2 h3 h4 h5 h6⟩
theorem jo_add : jOp X (binaryOp .Add) (rI0 fun i j => .int (i + j)) := ⟨op_add⟩
theorem jo_sub : jOp X (binaryOp .Sub) (rI0 fun i j => .int (i - j)) := ⟨op_sub⟩
theorem jo_mul : jOp X (binaryOp .Mult) (rI CMul fun i j => .int (i * j)) := ⟨op_mul⟩
theorem jo_fdiv : jOp X (binaryOp .FloorDiv) (rI CDiv fun i j => .int (i / j)) := ⟨op_fdiv⟩
theorem jo_mod : jOp X (binaryOp .Mod) (rI (fun _ j => 0 < j) fun i j => .int (i % j)) := ⟨op_mod⟩
theorem jo_pow : jOp X (binaryOp .Pow) (rI CPow fun i j => .int (i ^ j.toNat)) := ⟨op_pow⟩
theorem jo_eq : jOp X (compareOp .Eq) rEq := ⟨op_eq⟩
theorem jo_ne : jOp X (compareOp .NotEq) rNe := ⟨op_ne⟩
theorem jo_lt : jOp X (compareOp .Lt) (rI0 fun i j => .bl (decide (i < j))) := ⟨op_lt⟩
theorem jo_le : jOp X (compareOp .LtE) (rI0 fun i j => .bl (decide (i <= j))) := ⟨op_le⟩
theorem jo_gt : jOp X (compareOp .Gt) (rI0 fun i j => .bl (decide (j < i))) := ⟨op_gt⟩
theorem jo_in_seq : jOp X (compareOp .In) (rIn X.K false) := ⟨op_in_seq⟩
theorem jo_notIn_seq : jOp X (compareOp .NotIn) (rIn X.K true) := ⟨op_notIn_seq⟩
theorem jo_add_str : jOp X (binaryOp .Add) (fun x y H Q => ∃ i j, x = .str i /\ y = .str j /\ i.length + j.length <= sizeLine /\ Q (.str (i ++ j)) H) := ⟨op_add_str⟩
theorem jo_cat : jOp X (binaryOp .Add) rCat := ⟨op_cat⟩
theorem jo_catT : jOp X (binaryOp .Add) (rCatT X.K) := ⟨op_catT⟩
theorem jx_list : jIx X (rIxL X.K) := ⟨ix_list⟩
theorem jx_tup : jIx X (rIxT X.K) := ⟨ix_tup⟩
theorem jx_str : jIx X rIxS := ⟨ix_str⟩
theorem jl_list : jSl X (rSlL X.K) := ⟨sl_list⟩
theorem jm_append : jMt X "list.append" rAppend := ⟨mt_append⟩
theorem jm_pop : jMt X "list.pop" rPop := ⟨mt_pop⟩
theorem jm_extend : jMt X "list.extend" rExtend := ⟨mt_extend⟩
theorem jc_len_str : jCa X (.builtin "len") (fun xs H Q => ∃ z, xs = [.str z] /\ z.length <= sizeLine /\ Q (.int z.length) H) := ⟨call_len_str⟩
theorem jc_len_seq : jCa X (.builtin "len") (fun xs H Q => ∃ p ys, xs = [.ref p] /\ (SqL X.K H p ys \/ SqT X.K H p ys) /\ Q (.int ys.length) H) := ⟨call_len_seq⟩
theorem jc_isinst : jCa X (.builtin "isinstance") (fun xs H Q => ∃ x t T b, xs = [x, .ty T] /\ TyOf X.K H x t /\ PySem.W.kitOne X.K t (.type T) = some b /\ Q (.bl b) H) := ⟨call_isinst⟩
theorem jc_tuple_of : jCa X (.type "tuple") (fun xs H Q => ∃ p ys, xs = [.ref p] /\ ((SqL X.K H p ys /\ ∀ l, H l = none -> Q (.ref l) (upd H l (.tup ys))) \/ (SqT X.K H p ys /\ Q (.ref p) H))) := ⟨call_tuple_of⟩
theorem jc_list_of : jCa X (.type "list") (fun xs H Q => ∃ p ys, xs = [.ref p] /\ (SqL X.K H p ys \/ SqT X.K H p ys) /\ ∀ l, H l = none -> Q (.ref l) (upd H l (.lst ys))) := ⟨call_list_of⟩
end
section
variable {P : Program} {w : World} {K : PySem.W.Frag} {mg : Str -> Option Value} {base : Heap}
theorem Fun.by {x qual : Str} {st : Stmt} {f : Addr} {fd : FuncData} {N ps : List Str} {k : Nat} {sp : Sp} (F : Fun K x qual st f fd) (S : FnScope N ps (defScope st)) (len : ∀ vs H Q E, sp vs H Q E -> vs.length = ps.length)
    (hbody : ∀ (cdv : Value) (A : Around) (outer : List Env) (s : Shared) (H : Hp) (vs : List V) (Q : VK) (E : XK), Room k (A.deeper (envOfC qual (defScope st) s.heap.objs.size f cdv)) -> sp vs H Q E ->
      ∃ t, jSs (cxOf CX0 P w K mg base N qual (defScope st) f cdv A outer s H E).nox (defBody st) t /\ t { nx := fun _ H' => Q .non H', rt := Q } (start N vs) H) : FnOk P w K mg base CX0 (k + 1) f fd ps sp :=
  F.ok S len fun cdv A outer s H vs Q E hr h => let ⟨t, b, q⟩ := hbody cdv A outer s H vs Q E hr h; ⟨t, b.out, q⟩
end
end L2
namespace L2
open PySem
structure Mv (fs xs : List Addr) (h h' : Heap) : Prop where
  keep : ∀ b o, h.get? b = some o -> b ∉ fs -> b ∉ xs -> h'.get? b = some o
  slot : ∀ b o, h.get? b = some o -> b ∉ xs -> ∃ sl, h'.get? b = some { o with slots := sl }
  there : ∀ b o, h.get? b = some o -> ∃ o', h'.get? b = some o'
theorem Mv.refl {fs xs : List Addr} {h : Heap} : Mv fs xs h h := ⟨fun _ _ e _ _ => e, fun _ o e _ => ⟨o.slots, e⟩, fun _ o e => ⟨o, e⟩⟩
theorem Mv.trans {fs xs : List Addr} {h h1 h2 : Heap} (a : Mv fs xs h h1) (b : Mv fs xs h1 h2) : Mv fs xs h h2 :=
  ⟨fun c o e f x => b.keep c o (a.keep c o e f x) f x, fun c o e x => let ⟨_, e1⟩ := a.slot c o e x; let ⟨sl, e2⟩ := b.slot c _ e1 x; ⟨sl, e2⟩, fun c o e => let ⟨o1, e1⟩ := a.there c o e; b.there c o1 e1⟩
theorem Mv.mono {fs fs' xs xs' : List Addr} {h h1 : Heap} (a : Mv fs xs h h1) (hf : ∀ b ∈ fs, b ∈ fs') (hx : ∀ b ∈ xs, b ∈ xs') : Mv fs' xs' h h1 :=
  ⟨fun c o e f x => a.keep c o e (fun z => f (hf c z)) fun z => x (hx c z), fun c o e x => a.slot c o e fun z => x (hx c z), a.there⟩
theorem Mv.of_keeps {fs xs : List Addr} {h h' : Heap} (k : ∀ b o, h.get? b = some o -> h'.get? b = some o) : Mv fs xs h h' := ⟨fun b o e _ _ => k b o e, fun b o e _ => ⟨o.slots, k b o e⟩, fun b o e => ⟨o, k b o e⟩⟩
structure Tr (h : Heap) (e : Addr) (C : Value) (dx : Option Addr) (T : Addr) (fl : Value) : Prop where
  ex : ∃ oe vs, h.get? e = some oe /\ oe.cls = C /\ oe.dict = dx /\ oe.data = .fields vs /\ vs[1]? = some (.ref T) /\ vs[2]? = some .none
  tb : ∃ ot ts, h.get? T = some ot /\ ot.data = .fields ts /\ ts[3]? = some fl
  ne : T ≠ e
theorem dict_mapFields (f : Array Value -> Array Value) (o : Obj) : (Obj.mapFields f o).dict = o.dict := by
  unfold Obj.mapFields
  split <;> rfl
theorem frames_mem {h base : Heap} {l : List Env} (hl : h.FunFrames base l) {e : Addr} {oe : Obj} {vs : Array Value} (he : h.get? e = some oe) (hd : oe.data = .fields vs) : e ∉ l.filterMap (·.frame) := fun z => by
  obtain ⟨_, o, ho, nf⟩ := hl.mem z
  rw [he] at ho
  cases ho
  exact nf vs hd
section
variable {M : Model} {A : Around} {E : Value -> Shared -> Prop} {s : Shared} {base : Heap} {env : Env} {outer : List Env} {L e T : Addr} {C : Value} {dx : Option Addr} {Q : Unit -> Shared -> Prop}
theorem fly_entry {oe : Obj} {vs : Array Value} {head : Value} {had : Bool} (hfr : A.frames = some (env :: outer)) (hl : s.heap.FunFrames base (env :: outer)) (hf : env.frame = some L)
    (he : s.heap.get? e = some oe) (hd : oe.data = .fields vs) (hsz : 1 < vs.size) (hz2 : vs[2]? = some .none)
    (hq : ∀ h' T, s.heap.objs.size <= T -> Tr h' e oe.cls oe.dict T (rawInt L) -> Mv ((env :: outer).filterMap (·.frame)) [e] s.heap h' -> Q () { s with heap := h' }) :
    wpAny M A (do let a <- frameOf env; let pl <- entryPlaceOf L had; let b <- EntryCells.newEntry head a .none (rawInt L) .none pl; setField (.ref e) 1 b) Q E s := by
  have nf := frames_mem hl he hd
  refine wpAny_bind (wpAny_frameOf_fun hfr hl hf fun h1 s1 => wpAny_bind (wpAny_entryPlaceOf fun pl hp => ?_))
  unfold EntryCells.newEntry newFields
  refine wpAny_bind (wpAny_newObj_type ?_ (by exact hp.sizeOk5 _ _ _ _ _))
  have e1 : h1.get? e = some oe := (s1.2.1 e nf).trans he
  have ne : h1.objs.size ≠ e := Nat.ne_of_gt (Heap.lt_size e1)
  generalize ho : ({ cls := .type "traceback", dict := none, data := .fields ([head, .ref L, .none, rawInt L, .none] ++ (if pl.isEmpty then List.replicate 6 Value.none else pl)).toArray } : Obj) = ob
  have t3 : ∃ ts, ob.data = .fields ts /\ ts[3]? = some (rawInt L) := by
    subst ho
    refine ⟨_, rfl, ?_⟩
    simp
  have fr : ob.isFreed = false := by
    obtain ⟨ts, q, _⟩ := t3
    exact Obj.isFreed_of_fields q
  have e2 := Heap.get?_push_of_some (h := h1) ob e1
  refine wpAny_setField e2 hd hsz (hq _ h1.objs.size (Nat.le_of_eq s1.1.symm) ⟨?_, ?_, ne⟩ ⟨fun b o q f x => ?_, fun b o q x => ?_, fun b o q => ?_⟩)
  · exact ⟨_, _, Heap.get?_update_self _ e2 (Obj.isFreed_of_fields (Obj.data_mapFields hd _)), Obj.cls_mapFields _ _, dict_mapFields _ _, Obj.data_mapFields hd _, by simp [hsz], by simp [hz2]⟩
  · obtain ⟨ts, q1, q2⟩ := t3
    exact ⟨ob, ts, (Heap.get?_update_other _ _ (Ne.symm ne)).trans (Heap.get?_push_size _ fr), q1, q2⟩
  · rw [Heap.get?_update_other _ _ (fun z => x (by simp [z]))]
    exact Heap.get?_push_of_some _ ((s1.2.1 b f).trans q)
  · obtain ⟨sl, q1⟩ := s1.2.2 b o q
    exact ⟨sl, by rw [Heap.get?_update_other _ _ (fun z => x (by simp [z]))]; exact Heap.get?_push_of_some _ q1⟩
  · obtain ⟨sl, q1⟩ := s1.2.2 b o q
    by_cases z : b = e
    · subst z
      exact ⟨_, Heap.get?_update_self _ e2 (Obj.isFreed_of_fields (Obj.data_mapFields hd _))⟩
    · exact ⟨_, by rw [Heap.get?_update_other _ _ (Ne.symm z)]; exact Heap.get?_push_of_some _ q1⟩
theorem fly_first {oe : Obj} {vs : Array Value} (hfr : A.frames = some (env :: outer)) (hl : s.heap.FunFrames base (env :: outer)) (hf : env.frame = some L)
    (he : s.heap.get? e = some oe) (hd : oe.data = .fields vs) (h1 : vs[1]? = some .none) (hz2 : vs[2]? = some .none)
    (hq : ∀ h' T, s.heap.objs.size <= T -> Tr h' e oe.cls oe.dict T (rawInt L) -> Mv ((env :: outer).filterMap (·.frame)) [e] s.heap h' -> Q () { s with heap := h' }) :
    wpAny M A (noteFrame (.ref e) env) Q E s := by
  unfold noteFrame
  simp only [hf]
  refine wpAny_bind (wpAny_field he hd h1 ?_)
  rw [if_neg (by decide : ¬ ((Value.none != Value.none) = true))]
  exact fly_entry hfr hl hf he hd (Array.getElem?_eq_some_iff.mp h1).1 hz2 hq
theorem fly_set {fl : Value} {v : Option Addr} (t : Tr s.heap e C dx T fl) (hq : ∀ h', Tr h' e C dx T (v.elim .none fun f => rawInt f) -> Mv [] [T] s.heap h' -> Q () { s with heap := h' }) :
    wpAny M A (setFlight (.ref e) v) Q E s := by
  obtain ⟨⟨oe, vs, he, hc, hx, hd, h1, hz2⟩, ⟨ot, ts, ht, hdt, h3⟩, ne⟩ := t
  unfold setFlight
  refine wpAny_bind (wpAny_field he hd h1 ?_)
  rw [if_pos (by simp : (Value.ref T != Value.none) = true)]
  have up := Heap.get?_update_self (Obj.mapFields (·.setIfInBounds 3 (v.elim .none fun f => rawInt f))) ht (Obj.isFreed_of_fields (Obj.data_mapFields hdt _))
  refine wpAny_setField ht hdt (Array.getElem?_eq_some_iff.mp h3).1 (hq _ ⟨⟨oe, vs, (Heap.get?_update_other _ _ ne).trans he, hc, hx, hd, h1, hz2⟩, ⟨_, _, up, Obj.data_mapFields hdt _, ?_⟩, ne⟩ ⟨fun b o q _ x => ?_, fun b o q x => ⟨o.slots, ?_⟩, fun b o q => ?_⟩)
  · simp [(Array.getElem?_eq_some_iff.mp h3).1]
  · exact (Heap.get?_update_other _ _ (fun z => x (by simp [z]))).trans q
  · exact (Heap.get?_update_other _ _ (fun z => x (by simp [z]))).trans q
  · by_cases z : b = T
    · subst z
      exact ⟨_, up⟩
    · exact ⟨o, (Heap.get?_update_other _ _ (Ne.symm z)).trans q⟩
theorem fly_next (hfr : A.frames = some (env :: outer)) (hl : s.heap.FunFrames base (env :: outer)) (hf : env.frame = some L) (t : Tr s.heap e C dx T .none)
    (hq : ∀ h' T', s.heap.objs.size <= T' -> Tr h' e C dx T' (rawInt L) -> Mv ((env :: outer).filterMap (·.frame)) [e, T] s.heap h' -> Q () { s with heap := h' }) :
    wpAny M A (noteFrame (.ref e) env) Q E s := by
  obtain ⟨⟨oe, vs, he, hc, hx, hd, h1, hz2⟩, ⟨ot, ts, ht, hdt, h3⟩, ne⟩ := t
  subst hc
  subst hx
  unfold noteFrame
  simp only [hf]
  refine wpAny_bind (wpAny_field he hd h1 ?_)
  rw [if_pos (by simp : (Value.ref T != Value.none) = true)]
  refine wpAny_bind (wpAny_field ht hdt h3 ?_)
  rw [if_neg (by simp [rawInt] : ¬ ((Value.none == rawInt L) = true))]
  have up := Heap.get?_update_self (Obj.mapFields (·.setIfInBounds 3 .none)) ht (Obj.isFreed_of_fields (Obj.data_mapFields hdt _))
  have k : ∀ b o, b ≠ T -> s.heap.get? b = some o -> (s.heap.update T (Obj.mapFields (·.setIfInBounds 3 .none))).get? b = some o := fun b o z q => (Heap.get?_update_other _ _ (Ne.symm z)).trans q
  refine wpAny_bind (wpAny_setField ht hdt (Array.getElem?_eq_some_iff.mp h3).1 ?_)
  refine fly_entry (base := base) hfr (hl.of_keeps fun b o q nf => ⟨o, k b o (fun z => ?_) q, rfl⟩) hf (k e oe (Ne.symm ne) he) hd (Array.getElem?_eq_some_iff.mp h1).1 hz2 fun h' T' hs t m => hq h' T' ?_ t ⟨fun b o q f x => ?_, fun b o q x => ?_, fun b o q => ?_⟩
  · rw [z, ht] at q
    cases q
    exact nf ts hdt
  · rw [Heap.size_after_update] at hs
    exact hs
  · exact m.keep b o (k b o (fun z => x (by simp [z])) q) f fun z => x (by simp at z; simp [z])
  · exact m.slot b o (k b o (fun z => x (by simp [z])) q) fun z => x (by simp at z; simp [z])
  · by_cases z : b = T
    · subst z
      exact m.there b _ up
    · exact m.there b o (k b o z q)
end
end L2
namespace L2
open PySem PySem.Spec PyProof.Rows
theorem HOk.moved {P : Program} {w : World} {H : Hp} {h h' : Heap} {fs xs : List Addr} (x : HOk P w H h) (m : Mv fs xs h h') (hf : ∀ b ∈ fs, H b = none) (hx : ∀ b ∈ xs, H b = none) : HOk P w H h' := fun a o e =>
  (x a o e).stay (fun b u hb q => m.keep b u q (fun z => by
      have n := hf b z
      rcases hb with r | r
      · rw [r, e] at n
        cases n
      · rw [r] at n
        cases n) fun z => by
      have n := hx b z
      rcases hb with r | r
      · rw [r, e] at n
        cases n
      · rw [r] at n
        cases n) (fun _ q => q) fun _ _ q => q
def CXf (P : Program) (w : World) : CXT := fun outer H s E u s' => ∃ (e T : Addr) (C : Value) (dx : Option Addr) (H' : Hp), u = .ref e /\ s'.os = s.os /\ AllBare s'.gens /\ Un (frs outer) [] H H' s.heap s'.heap /\ HOk P w H' s'.heap /\
  Tr s'.heap e C dx T .none /\ (s.heap.objs.size <= e /\ s.heap.objs.size <= T) /\ (H' e = none /\ H' T = none) /\ E C dx H'
def Fl (h : Heap) (H : Hp) (n : Nat) (e : Addr) (C : Value) (dx : Option Addr) : Prop :=
  (∃ oe vs, h.get? e = some oe /\ oe.cls = C /\ oe.dict = dx /\ oe.data = .fields vs /\ vs[1]? = some .none /\ vs[2]? = some .none) \/ ∃ T, Tr h e C dx T .none /\ H T = none /\ n <= T
def Air (X : Cx) (pins : List (Addr × Obj)) (σ : St) (E : XK) (u : Value) (s' : Shared) : Prop := ∃ (e : Addr) (C : Value) (dx : Option Addr) (H' : Hp) (n : Nat), u = .ref e /\ Inv X pins σ H' s' /\ H' e = none /\ X.s₀.heap.objs.size <= n /\ n <= e /\ (∀ p ∈ X.pn ++ pins, p.1 < n) /\ Fl s'.heap H' n e C dx /\ E C dx H'
section
variable {P : Program} {w : World} {K : PySem.W.Frag} {mg : Str -> Option Value} {base : Heap} {N : List Str} {qual : Str} {scope : Scope} {f : Addr} {cd : Value} {A : Around} {outer : List Env} {s : Shared} {H : Hp} {E : XK}
theorem leave_air {pins : List (Addr × Obj)} {σ : St} {u : Value} {s' : Shared} (h : Air (cxOf (CXf P w) P w K mg base N qual scope f cd A outer s H E) pins σ E u s') : (cxOf (CXf P w) P w K mg base N qual scope f cd A outer s H E).xe u s' := by
  obtain ⟨e, C, dx, H', n, rfl, I, ne, hn, he, hp, st, hE⟩ := h
  have fin : ∀ (h2 : Heap) (T : Addr) (xs : List Addr), Tr h2 e C dx T .none -> Mv (frs (cxOf (CXf P w) P w K mg base N qual scope f cd A outer s H E).stack) xs s'.heap h2 -> (∀ b ∈ xs, H' b = none /\ s.heap.objs.size <= b) -> H' T = none -> s.heap.objs.size <= T ->
      CXf P w outer H s E (.ref e) { s' with heap := h2 } := by
    intro h2 T xs t m hx nT sT
    have nst : ∀ (b : Addr) (o : Obj), s.heap.get? b = some o -> b ∉ frs outer -> b ∉ frs (cxOf (CXf P w) P w K mg base N qual scope f cd A outer s H E).stack := fun b o q nb z => by
      rcases List.mem_cons.mp (I.stkSub b z) with r | r
      · exact absurd (show b = (cxOf (CXf P w) P w K mg base N qual scope f cd A outer s H E).env.locals from r) (Nat.ne_of_lt (Nat.lt_of_lt_of_le (Heap.lt_size q) I.ok.above))
      · exact nb r
    have nx : ∀ (b : Addr) (o : Obj), s.heap.get? b = some o -> b ∉ xs := fun b o q z => absurd (Nat.lt_of_lt_of_le (Heap.lt_size q) (hx b z).2) (Nat.lt_irrefl _)
    have B : Un (frs outer) [] H H' s.heap s'.heap := I.base
    refine ⟨e, T, C, dx, H', rfl, I.os, I.bare, ⟨fun b o q n hb hx => ?_, fun b o q n hb hx => ?_, B.free, fun b o q hx => ?_, B.tups, B.frzs, B.tbls⟩, I.hok.moved m I.stkFree fun b hb => (hx b hb).1, t, ⟨Nat.le_trans hn he, sT⟩, ⟨ne, nT⟩, hE⟩
    · exact m.keep b o (B.keep b o q n hb hx) (nst b o q hb) (nx b o q)
    · obtain ⟨sl, q1⟩ := B.slot b o q n hb hx
      obtain ⟨sl2, q2⟩ := m.slot b _ q1 (nx b o q)
      exact ⟨sl2, q2⟩
    · obtain ⟨o1, q1⟩ := B.there b o q hx
      exact m.there b o1 q1
  show wpAny (model P w) _ (leaving _ (.ref e)) _ _ s'
  unfold leaving
  rcases st with ⟨oe, vs, h1, rfl, rfl, h4, h5, h6⟩ | ⟨T0, t0, n0, s0⟩
  · refine wpAny_bind (fly_first I.ok.frames I.stack rfl h1 h4 h5 h6 fun h' T hs t m => fly_set t fun h2 t2 m2 => ?_)
    refine fin h2 T [e, T] t2 ((m.mono (fun _ z => z) fun b z => ?_).trans (m2.mono (fun b z => nomatch z) fun b z => ?_)) (fun b hb => ?_) (I.hok.fresh hs) (Nat.le_trans I.sz hs)
    · simp at z
      simp [z]
    · simp at z
      simp [z]
    · rcases List.mem_cons.mp hb with r | hb
      · rw [r]
        exact ⟨ne, Nat.le_trans hn he⟩
      · rw [List.mem_singleton.mp hb]
        exact ⟨I.hok.fresh hs, Nat.le_trans I.sz hs⟩
  · refine wpAny_bind (fly_next I.ok.frames I.stack rfl t0 fun h' T hs t m => fly_set t fun h2 t2 m2 => ?_)
    refine fin h2 T [e, T0, T] t2 ((m.mono (fun _ z => z) fun b z => ?_).trans (m2.mono (fun b z => nomatch z) fun b z => ?_)) (fun b hb => ?_) (I.hok.fresh hs) (Nat.le_trans I.sz hs)
    · simp at z
      rcases z with z | z <;> simp [z]
    · simp at z
      simp [z]
    · rcases List.mem_cons.mp hb with r | hb
      · rw [r]
        exact ⟨ne, Nat.le_trans hn he⟩
      · rcases List.mem_cons.mp hb with r | hb
        · rw [r]
          exact ⟨n0, Nat.le_trans hn s0⟩
        · rw [List.mem_singleton.mp hb]
          exact ⟨I.hok.fresh hs, Nat.le_trans I.sz hs⟩
theorem air_of {X : Cx} {pins : List (Addr × Obj)} {σ : St} {H1 : Hp} {s1 s2 : Shared} {u : Value} {E' : XK} (hP : X.prog = P) (hw : X.w = w) (I : Inv X pins σ H1 s1) (h : CXf P w X.stack H1 s1 E' u s2) : Air X pins σ E' u s2 := by
  obtain ⟨e, T, C, dx, H', rfl, os, bare, un, hok, t, ⟨se, sT⟩, ⟨ne, nT⟩, hE⟩ := h
  have I2 : Inv X pins σ H' s2 := I.call' (ch := []) os un (by rw [hP, hw]; exact hok) bare (fun b z => absurd z (by simp))
  exact ⟨e, C, dx, H', s1.heap.objs.size, rfl, I2, ne, I.sz, se, fun p hp => Heap.lt_size (I.pin p hp).1, .inr ⟨T, t, nT, sT⟩, hE⟩
theorem passx : Passes (CXf P w) (cxOf (CXf P w) P w K mg base N qual scope f cd A outer s H E) E := fun pins σ H1 s1 u s2 I h => leave_air (air_of rfl rfl I h)
theorem ownx : PassesOwn (model P w) (cxOf (CXf P w) P w K mg base N qual scope f cd A outer s H E).A (cxOf (CXf P w) P w K mg base N qual scope f cd A outer s H E).env (cxOf (CXf P w) P w K mg base N qual scope f cd A outer s H E).xe := PassesOwn.leaving
theorem Fun.byx {x : Str} {st : Stmt} {fd : FuncData} {ps : List Str} {k : Nat} {sp : Sp} (F : Fun K x qual st f fd) (S : FnScope N ps (defScope st)) (len : ∀ vs H Q E, sp vs H Q E -> vs.length = ps.length)
    (hbody : ∀ (cdv : Value) (A : Around) (outer : List Env) (s : Shared) (H : Hp) (vs : List V) (Q : VK) (E : XK), Room k (A.deeper (envOfC qual (defScope st) s.heap.objs.size f cdv)) -> sp vs H Q E ->
      ∃ t, jSs (cxOf (CXf P w) P w K mg base N qual (defScope st) f cdv A outer s H E) (defBody st) t /\ t { nx := fun _ H' => Q .non H', rt := Q } (start N vs) H) : FnOk P w K mg base (CXf P w) (k + 1) f fd ps sp := by
  obtain ⟨oc, od, kV, doc, pm, an, cdv, ct, osl, rfl, lk, hcd⟩ := F.ex
  refine fn_of lk hcd S len fun A outer s H vs Q E hr hsp => ?_
  obtain ⟨t, h, q⟩ := hbody cdv A outer s H vs Q E hr hsp
  exact ⟨t, h.out, q⟩
end
end L2
namespace L2
open PySem
section
variable {M : Model} {A : Around} {E : Value -> Shared -> Prop} {env : Env} {nm q : Str} {C N : Addr} {bs bm : List Value} {hdct : Bool} {sn : List Str} {sub : List Value} {ab : Bool} {col : Option Bool} {dd : Option Addr} {k0 k1 k2 k3 k5 : Option Value} {newId : String}
theorem rs_stmt {s : Shared} {x : Sem Value} {Q : Flow -> Shared -> Prop} (hb : bm.contains (.type "BaseException") = true) (hh : A.handled = none)
    (h : wpAny M A x (fun v s1 => ∃ e oe vs, v = .ref e /\ s1.heap.get? C = some (excClassObj nm q C N bs bm hdct sn sub ab col dd k0 k1 k2 k3 k5 newId) /\ s1.heap.get? e = some oe /\ oe.cls = .ref C /\ oe.data = .fields vs /\ vs[1]? = some .none /\ E (.ref e) s1) E s) :
    wpAny M A (raiseStmt env (some x) none) Q E s := by
  have cB : (Value.ref C :: bm).contains (.type "BaseException") = true := by rw [List.contains_cons, hb, Bool.or_true]
  unfold raiseStmt
  refine wpAny_bind (wpAny_mono h (fun v s1 h1 => ?_) fun _ _ x => x)
  obtain ⟨e, ⟨c, d0, dt, sl⟩, vs, rfl, hC, he, hc, hd, hv, hE⟩ := h1
  dsimp only at hc hd
  subst hc hd
  obtain ⟨hp, g, d, tk, os⟩ := s1
  repeat (first | (with_reducible refine wpAny_field he rfl hv ?_) | with_reducible refine wpAny_loadPart_at he ?_ | with_reducible refine wpAny_loadPart_at hC ?_ | (with_reducible refine wpAny_isSubtype_exc hC ?_; rw [cB]) | wp_step)
  exact wpAny_raiseNew_none hh hE
end
theorem fn_bind {M : Model} {A : Around} {E : Value -> Shared -> Prop} {s : Shared} {f : Addr} {ob : Obj} {self : Value} {Q : Value × List Value -> Shared -> Prop} (h1 : s.heap.get? f = some ob) (h2 : ob.cls = .type "function") (q : Q (.ref f, [self]) s) : wpAny M A (bindSpecial (.ref f) self) Q E s := by
  unfold bindSpecial
  refine wpAny_bind (wpAny_typeOf (T := "function") ⟨ob, h1, h2⟩ ?_)
  exact wpAny_pure q
abbrev tupOf (rest : List Value) : Obj := { cls := .type "tuple", data := .seq rest.toArray }
abbrev excOf (C t : Addr) : Obj := { cls := .ref C, data := .fields #[.ref t, .none, .none, .none, .bool false, .none] }
section
variable {prog : Program} {w : World} {A : Around} {E : Value -> Shared -> Prop} {h : Heap} {g : Array GenState} {d : Drawn} {t : Nat} {os : OsState}
variable {nm q : Str} {C N f : Addr} {bs bm bmB : List Value} {hdct : Bool} {sn : List Str} {sub : List Value} {ab : Bool} {col : Option Bool} {dd : Option Addr} {k0 k1 k2 k3 k5 : Option Value} {B Bn newId nid initId inN : String} {bmN : List Value}
theorem ex_typeCall (Fn : ExcBaseFacts Bn newId inN bmN) (hBn : bmB.contains (.type Bn) = true) (F : ExcBaseFacts B nid initId bmB) (T : OwnTail h bmB bm) {mN : Str -> Option Value} {rest : List Value} {Q : Fin -> Shared -> Prop} {ob : Obj}
    (hC : h.get? C = some (excClassObj nm q C N bs bm hdct sn sub ab col dd k0 k1 k2 k3 k5 newId)) (hn : h.Ns N mN) (hi : mN "__init__" = some (.ref f)) (hf : h.get? f = some ob) (hfc : ob.cls = .type "function") (hrest : rest.length <= sizeLine)
    (hq : wpAny (model prog w) A (call (.ref f) (.ref (h.objs.size + 1) :: rest)) (fun v s' => v = .none /\ Q (.done (.ret (.ref (h.objs.size + 1)))) s') E ⟨(h.push (tupOf rest)).push (excOf C h.objs.size), g, d, t, os⟩) :
    wpAny (model prog w) A (Builtin.«type.__call__» ⟨.ref C :: rest, []⟩) Q E ⟨h, g, d, t, os⟩ := by
  repeat (first | with_reducible refine wpAny_madeBy_exc hC ?_ | with_reducible refine wpAny_loadPart_at hC ?_ | wp_step)
  refine codeAny_call_builtin_code (Code.quiet_builtin _ Fn.quiet) (wpAny_check_new_subU Fn hBn T hC (codeAny_exc_new_subU Fn hBn F T hC ?_ hrest))
  show wpAny _ _ _ _ _ _
  have k : ∀ b o, h.get? b = some o -> ((h.push (tupOf rest)).push (excOf C h.objs.size)).get? b = some o := fun b o e => Heap.get?_push_of_some _ (Heap.get?_push_of_some _ e)
  have C1 := k _ _ hC
  have e1 : ((h.push (tupOf rest)).push (excOf C h.objs.size)).get? (h.objs.size + 1) = some (excOf C h.objs.size) := Heap.get?_push_at (by simp only [Heap.size_push]) rfl
  have cC : (Value.ref C :: bm).contains (.ref C) = true := by simp
  unfold isInstance
  repeat (first | with_reducible refine wpAny_loadPart_at e1 ?_ | (with_reducible refine wpAny_isSubtype_exc C1 ?_; rw [cC]) | wp_step)
  show wpAny _ _ (typeLookup (.ref C) _) _ _ _
  refine wpAny_typeLookup_tail C1 (hn.keeps k) (T.keeps k) F.mroIs F.init.lookup ?_
  rw [hi]
  refine wpAny_holding (wpAny_bind (fn_bind (k _ _ hf) hfc ?_))
  refine wpAny_bind (wpAny_mono hq (fun v s' hv => ?_) fun _ _ x => x)
  obtain ⟨rfl, hv⟩ := hv
  exact wpAny_pure (wpAny_pure hv)
theorem ex_call (Fn : ExcBaseFacts Bn newId inN bmN) (hBn : bmB.contains (.type Bn) = true) (F : ExcBaseFacts B nid initId bmB) (T : OwnTail h bmB bm) {mN : Str -> Option Value} {rest : List Value} {Q : Value -> Shared -> Prop} {ob : Obj}
    (hC : h.get? C = some (excClassObj nm q C N bs bm hdct sn sub ab col dd k0 k1 k2 k3 k5 newId)) (hn : h.Ns N mN) (hi : mN "__init__" = some (.ref f)) (hf : h.get? f = some ob) (hfc : ob.cls = .type "function") (hrest : rest.length <= sizeLine)
    (hq : wpAny (model prog w) (A.under (.builtin "type.__call__" ⟨.ref C :: rest, []⟩)) (call (.ref f) (.ref (h.objs.size + 1) :: rest)) (fun v s' => v = .none /\ Q (.ref (h.objs.size + 1)) s') E ⟨(h.push (tupOf rest)).push (excOf C h.objs.size), g, d, t, os⟩) :
    wpAny (model prog w) A (call (.ref C) rest) Q E ⟨h, g, d, t, os⟩ := by
  have f1 := tc_lookup
  have f2 := tc_bind (.ref C)
  have hT : (⟨h, g, d, t, os⟩ : Shared).TypeIs (.ref C) "type" := ⟨_, hC, rfl⟩
  refine wpAny_call (codeAny_of_tree ?_)
  show wpAny _ _ (callAny (.ref C) ⟨rest, []⟩) _ _ _
  repeat (any_goals (first | assumption | (with_reducible refine wpAny_loadPart_at hC ?_) | wp_step))
  refine ⟨rfl, codeAny_call_builtin_at (Code.quiet_builtin _ (by decide +kernel)) entry_typeCall (wpAny_check_type_call_sub hC ?_)⟩
  exact ex_typeCall Fn hBn F T hC hn hi hf hfc hrest hq
theorem ex_init (F : ExcBaseFacts B nid initId bmB) (T : OwnTail h bmB bm) {e t0 : Addr} {oe : Obj} {vs : Array Value} {rest : List Value} {Q : Value -> Shared -> Prop}
    (hC : h.get? C = some (excClassObj nm q C N bs bm hdct sn sub ab col dd k0 k1 k2 k3 k5 newId)) (he : h.get? e = some oe) (hc : oe.cls = .ref C) (hd : oe.data = .fields vs) (h0 : vs[0]? = some (.ref t0)) (hrest : rest.length <= sizeLine)
    (hq : Q .none ⟨(h.push (tupOf rest)).update e (Obj.mapFields (·.setIfInBounds 0 (.ref h.objs.size))), g, d, t, os⟩) :
    wpAny (model prog w) A (call (.builtin initId) (.ref e :: rest)) Q E ⟨h, g, d, t, os⟩ := by
  refine wpAny_call (codeAny_call_builtin F.init.plain F.initEntry (wpAny_check_init_subU F T hC he hc ?_))
  unfold Builtin.«BaseException.__init__»
  dsimp only
  rw [if_neg (by simp : ¬ ((!List.isEmpty ([] : List (Str × Value))) = true))]
  unfold newTuple Builtin.BaseException.bexcPut
  have e1 := Heap.get?_push_of_some (h := h) (tupOf rest) he
  refine wpAny_bind (wpAny_newObj_type ?_ (by show rest.toArray.size <= sizeLine; rw [List.size_toArray]; exact hrest))
  refine wpAny_bind (wpAny_bind (wpAny_field e1 hd h0 (wpAny_bind (wpAny_setField e1 hd (Array.getElem?_eq_some_iff.mp h0).1 ?_))))
  exact wpAny_letGo (wpAny_pure hq)
end
end L2
namespace L2
open PySem PySem.W PySem.Calls PyProof.Rows Builtin Builtin.ObjectAttr
def bmV : List Value := [.type "ValueError", .type "Exception", .type "BaseException", .type "object"]
theorem refuse_V (self : Value) : refuseLoop self "__setattr__" bmV = pure () := by kernel_rfl
def overV : List Value -> Bool
  | [] => false
  | v :: r => (v :: r) == bmV || (match v with
    | .ref _ => overV r
    | _ => false)
theorem refuse_over (self : Value) : ∀ {l : List Value}, overV l = true -> refuseLoop self "__setattr__" l = pure ()
  | [], e => by cases e
  | v :: r, e => by
    unfold overV at e
    rcases Bool.or_eq_true_iff.mp e with q | q
    · rw [beq_iff_eq.mp q]
      exact refuse_V self
    · split at q
      · rw [refuseLoop_ref]
        exact refuse_over self q
      · cases q
theorem over_has : ∀ {l : List Value}, overV l = true -> l.contains (.type "object") = true /\ l.isEmpty = false
  | [], e => by cases e
  | v :: r, e => by
    unfold overV at e
    rcases Bool.or_eq_true_iff.mp e with q | q
    · rw [beq_iff_eq.mp q]
      exact ⟨by decide, rfl⟩
    · split at q
      · exact ⟨by rw [List.contains_cons, (over_has q).1, Bool.or_true], rfl⟩
      · cases q
def overIn (K : Frag) (C : Addr) : Bool := (clsIn K C).any fun cd => overV cd.mro
section
variable {prog : Program} {w : World} {A : Around} {E : Value -> Shared -> Prop} {K : Frag} {C e : Addr} {s : Shared} {ox : Obj} {od : Option Obj} {name : Str} {R : Result -> Shared -> Prop}
theorem xa_open {tk : Tok} {v : Value} (X : K.In s.heap) (I : InstAt s.heap e ox C od) (hp : overIn K C = true) (ht : takerIn K C name = some none)
    (h : ∀ b, wpAny (model prog w) A.in1 (storeInOwnDict (.ref e) (.ref C) (.str name tk) name v b) (fun fin s' => match fin with | .done f => R (.ok f) s' | .again c' => c'.quiet = true /\ codeAny (model prog w) A c' R s') (fun u s' => R (.error u) s') s) :
    codeAny (model prog w) A (.call (.builtin "object.__setattr__") ⟨[.ref e, .str name tk, v], []⟩) R s := by
  have SF := PySem.F.store_object
  obtain ⟨cd, hc, ho⟩ := any_some hp
  have hm : Looks (model prog w) s.heap (mroOf (.ref C)) cd.mro := (looks_clsIn X hc).andThen .now
  have sub : Looks (model prog w) s.heap (isInstance (.ref e) (.type "object")) true := I.type.andThen (looks_mroIn X (by unfold mroIn; rw [hc, Option.bind_some, if_neg (by rw [(over_has ho).2]; decide), (over_has ho).1]))
  obtain ⟨attr, ha, hr⟩ := Option.bind_eq_some_iff.mp ht
  have tk3 : Looks (model prog w) s.heap (storeTaker? attr) none := by
    cases attr with
    | none => exact .now
    | some a =>
      obtain ⟨b, hb, hn⟩ := Option.map_eq_some_iff.mp hr
      refine (looks_takesIn X hb).andThen ?_
      cases b
      · exact .now
      · cases hn
  refine codeAny_call_builtin SF.slot.plain SF.entry (@check_slot (model prog w) _ _ s "object.__setattr__" "object" "__setattr__" (.ref e) [.str name tk, v] [] _ SF.kind SF.split sub (SF.args (.ref e) (.str name tk) v) ?_)
  rw [osa_eq, refuse_eq]
  refine wpAny_bind (wpAny_bind (I.type.here (wpAny_bind (hm.here ?_))))
  rw [refuse_over _ ho]
  exact wpAny_pure (wpAny_bind (I.type.here (wpAny_bind ((looks_findIn X ha).here (wpAny_bind (tk3.here (h _)))))))
theorem xs_new {oe : Obj} {vs : Array Value} {v : Value} {Q : Unit -> Shared -> Prop} (X : K.In s.heap) (he : s.heap.get? e = some oe) (hc : oe.cls = .ref C) (hx : oe.dict = none) (hd : oe.data = .fields vs)
    (hs : findIn K (.ref C) "__setattr__" = some (some (.builtin "object.__setattr__"))) (hp : overIn K C = true) (ht : takerIn K C name = some none) (hh : (clsIn K C).any (·.hasDict) = true)
    (h : ∀ h', h'.Ns1 s.heap.objs.size (fun y => if y = name then some v else none) -> h'.get? e = some { oe with dict := some s.heap.objs.size } -> (∀ b o, b ≠ e -> s.heap.get? b = some o -> h'.get? b = some o) -> Q () { s with heap := h', toks := s.toks + 2 }) :
    wpAny (model prog w) A (setAttr (.ref e) name v) Q E s := by
  have J : InstAt s.heap e oe C none := ⟨he, hc, by unfold notCls; rw [hd], by rw [hx]; trivial⟩
  refine set_plain X J hs (xa_open (s := { s with toks := s.toks + 1 }) X J hp ht fun b => ?_)
  obtain ⟨cd, hcd, hdd⟩ := any_some hh
  obtain ⟨oc, odi, oda, osl⟩ := oe
  dsimp only at hc hx hd
  subst hc hx hd
  refine wpAny_bind (wpAny_pure (wpAny_bind (wpAny_bind (wpAny_loadPart he (wpAny_bind (Looks.here (s := { s with toks := s.toks + 1 }) (looks_clsIn X hcd) ?_))))))
  rw [hdd]
  have e1 := Heap.get?_push_of_some (h := s.heap) PySem.W.emptyDict he
  have ne : s.heap.objs.size ≠ e := Nat.ne_of_gt (Heap.lt_size he)
  have d1 : (s.heap.push PySem.W.emptyDict).get? s.heap.objs.size = some PySem.W.emptyDict := Heap.get?_push_size _ rfl
  have d2 : ((s.heap.push PySem.W.emptyDict).update e fun o => { o with dict := some s.heap.objs.size }).get? s.heap.objs.size = some PySem.W.emptyDict := (Heap.get?_update_other _ _ (Ne.symm ne)).trans d1
  have e2 := Heap.get?_update_self (fun o => { o with dict := some s.heap.objs.size }) e1 rfl
  have n2 : ((s.heap.push PySem.W.emptyDict).update e fun o => { o with dict := some s.heap.objs.size }).Ns s.heap.objs.size (fun _ => none) := ⟨PySem.W.emptyDict, #[], _, d2, rfl, (fun z hz => absurd hz (by simp)), fun _ => rfl⟩
  show wpAny _ _ (alloc PySem.W.emptyDict >>= _) _ _ _
  refine wpAny_bind (wpAny_alloc (wpAny_bind (wpAny_update e1 ?_)))
  refine wpAny_pure (a := some s.heap.objs.size) (wpAny_bind (wpAny_pure (wpAny_bind ?_)))
  refine wpAny_nsSet1 (Heap.Ns1.of_empty n2) fun h' hn hsb => ?_
  obtain ⟨oD, esD, epD, hoD, hdD, hcD⟩ := hn.count (PySem.Within.cons name v PySem.Within.nil)
  refine wpAny_bind (wpAny_lookBehind hoD (by rw [hdD]; exact pastItsLine_dict (Nat.le_trans hcD (by show 1 <= sizeLine + 1; omega))) (wpAny_pure ?_))
  refine h h' hn ((hsb.2 _ (Ne.symm ne)).trans e2) fun b o nb q => ?_
  rw [hsb.2 b (Nat.ne_of_lt (Heap.lt_size q)), Heap.get?_update_other _ _ (Ne.symm nb)]
  exact Heap.get?_push_of_some _ q
theorem xg_slot : Slot "ValueError" "__getattribute__" "BaseException.__getattribute__" := PySem.F.attr_ValueError.ga
theorem xg_get {v : Value} {expr : Bool} {Q : Value -> Shared -> Prop} (X : K.In s.heap) (I : InstAt s.heap e ox C od) (hga : findIn K (.ref C) "__getattribute__" = some (some (.builtin "BaseException.__getattribute__"))) (hk : findIn K (.ref C) "__getattr__" = some none)
    (hb : subIn K (.ref C) (.type "BaseException") = some true) (hf : findObj K C od name = some (.value v)) (hh : handedIn v = true) (h : Q v { s with toks := s.toks + 1 }) : wpAny (model prog w) A (getAttr (.ref e) name expr) Q E s := by
  have ty := I.type (M := model prog w)
  have fd := looks_find (M := model prog w) X I hf
  refine wpAny_bind (wpAny_mkText (wpAny_holding (wpAny_bind (ty _ _ _ _ (fun _ _ q => q) (wpAny_bind (looks_findIn X hga _ _ _ _ (fun _ _ q => q) ?_))))))
  dsimp only
  rw [show (onTheHeap (Value.ref C) && Value.builtin "BaseException.__getattribute__" == Value.builtin "object.__getattribute__") = false from by rw [show (Value.builtin "BaseException.__getattribute__" == Value.builtin "object.__getattribute__") = false from by decide +kernel, Bool.and_false], if_neg (by decide : ¬ (false = true))]
  refine wpAny_bind ((looks_hook (mc := .ref C) X (by rw [if_pos (show onTheHeap (.ref C) = true from rfl)]; exact hk)) _ _ _ _ (fun _ _ q => q) (wpAny_bind (wpAny_attempt (wpAny_holding ?_))))
  unfold callGetattribute
  rw [show (expr && onTheHeap (Value.builtin "BaseException.__getattribute__")) = false from Bool.and_false _, if_neg (by decide : ¬ (false = true))]
  unfold boundAndCalled
  rw [xg_slot.bind]
  refine wpAny_bind (wpAny_pure (wpAny_call (codeAny_call_builtin xg_slot.plain PySem.F.entry_bexc_ga ?_)))
  refine @check_slot (model prog w) _ _ { s with toks := s.toks + 1 } "BaseException.__getattribute__" "BaseException" "__getattribute__" (.ref e) [.str name s.toks] [] _ (by decide +kernel) (by decide +kernel) (ty.andThen (looks_subIn X hb)) (PySem.F.args_bexc_ga (.ref e) (.str name s.toks)) ?_
  refine wpAny_bind (wpAny_pure (wpAny_bind (wpAny_pure (wpAny_bind (ty _ _ _ _ (fun _ _ q => q) (wpAny_bind (fd _ _ _ _ (fun _ _ q => q) ?_)))))))
  refine wpAny_pure ?_
  show wpAny _ _ (handedOut v) _ _ _
  rw [handedOut_of hh]
  exact wpAny_pure h
end
end L2
namespace L2
open PySem PySem.Spec PyProof.Rows
def XO (e C : Addr) (dx : Option Addr) : HO := .ext fun h => ∃ oe vs t0, h.get? e = some oe /\ oe.cls = .ref C /\ oe.dict = dx /\ oe.data = .fields vs /\ vs[0]? = some (.ref t0) /\ vs[1]? = some .none /\ vs[2]? = some .none
theorem XO.ok {P : Program} {w : World} {H : Hp} {h : Heap} {e C : Addr} {dx : Option Addr} (p : ∃ oe vs t0, h.get? e = some oe /\ oe.cls = .ref C /\ oe.dict = dx /\ oe.data = .fields vs /\ vs[0]? = some (.ref t0) /\ vs[1]? = some .none /\ vs[2]? = some .none) : ObjOk P w H h e (XO e C dx) :=
  ⟨p, let ⟨oe, _, _, q, _⟩ := p; ⟨oe, q⟩, fun _ _ ⟨oe, vs, t0, a, r⟩ k => ⟨oe, vs, t0, k oe a, r⟩⟩
theorem XO.get {P : Program} {w : World} {H : Hp} {h : Heap} {e C : Addr} {dx : Option Addr} (x : HOk P w H h) (q : H e = some (XO e C dx)) : ∃ oe vs t0, h.get? e = some oe /\ oe.cls = .ref C /\ oe.dict = dx /\ oe.data = .fields vs /\ vs[0]? = some (.ref t0) /\ vs[1]? = some .none /\ vs[2]? = some .none :=
  (show ObjOk P w H h e (.ext _) from x e _ q).1
def XD (d : Addr) (fs : List (Str × V)) : HO := .ext fun h => ∃ mA, h.Ns1 d mA /\ (∀ f, RelO (fs.lookup f) (mA f)) /\ PySem.Within mA (fs.map (·.1)) /\ fs.length <= 1000
theorem XD.ok {P : Program} {w : World} {H : Hp} {h : Heap} {d : Addr} {fs : List (Str × V)} (p : ∃ mA, h.Ns1 d mA /\ (∀ f, RelO (fs.lookup f) (mA f)) /\ PySem.Within mA (fs.map (·.1)) /\ fs.length <= 1000) : ObjOk P w H h d (XD d fs) :=
  ⟨p, let ⟨_, ⟨o, _, _, q, _⟩, _⟩ := p; ⟨o, q⟩, fun _ _ ⟨mA, n, r⟩ k => ⟨mA, n.at k, r⟩⟩
theorem XD.get {P : Program} {w : World} {H : Hp} {h : Heap} {d : Addr} {fs : List (Str × V)} (x : HOk P w H h) (q : H d = some (XD d fs)) : ∃ mA, h.Ns1 d mA /\ (∀ f, RelO (fs.lookup f) (mA f)) /\ PySem.Within mA (fs.map (·.1)) /\ fs.length <= 1000 :=
  (show ObjOk P w H h d (.ext _) from x d _ q).1
def xIn (K : PySem.W.Frag) (C f : Addr) : Bool := match K.lookup C with
  | some ⟨.type "type", _, .cls cd, sl⟩ => (match cd.mro, sl.toList with
    | .ref C' :: bm, [_, _, _, _, some (.builtin n), _] => C' == C && n == "ValueError.__new__" && !cd.hasDel && PySem.W.tailIn K bmV bm && PySem.W.nsOkIn K cd.ns && PySem.W.nsIn K cd.ns "__init__" == some (some (.ref f)) && bm.contains (.type "BaseException")
    | _, _ => false)
  | _ => false
structure XCl (K : PySem.W.Frag) (C f : Addr) : Prop where
  cls : xIn K C f = true
  fn : PySem.W.typeIn K (.ref f) = some (.type "function")
  kp : PySem.W.keepIn K (.ref C) = true
  over : overIn K C = true
  sa : PySem.W.findIn K (.ref C) "__setattr__" = some (some (.builtin "object.__setattr__"))
  hd : (PySem.W.clsIn K C).any (·.hasDict) = true
  ga : PySem.W.findIn K (.ref C) "__getattribute__" = some (some (.builtin "BaseException.__getattribute__"))
  ha : PySem.W.findIn K (.ref C) "__getattr__" = some none
  sb : PySem.W.subIn K (.ref C) (.type "BaseException") = some true
theorem ns_some {K : PySem.W.Frag} {h : Heap} {N : Addr} {mg : Str -> Option Value} {n : Str} {v : Value} (X : K.In h) (G : h.Ns N mg) (e : PySem.W.nsIn K N n = some (some v)) : mg n = some v := by
  obtain ⟨o, es, ep, ho, hd, _, hf⟩ := G
  unfold PySem.W.nsIn at e
  split at e
  · rename_i c d es' n' sl q
    have := X _ _ q
    rw [ho] at this
    cases this
    cases hd
    split at e
    · rename_i en he
      cases e
      rw [<- hf]
      unfold nsFind findBy
      rw [<- Array.find?_toList, he]
      rfl
    · split at e <;> cases e
  · cases e
theorem XCl.at {K : PySem.W.Frag} {C f : Addr} (c : XCl K C f) {h : Heap} (X : K.In h) : ∃ nm q N bs bm hdct sn sub ab col dd k0 k1 k2 k3 k5 mN, h.get? C = some (excClassObj nm q C N bs bm hdct sn sub ab col dd k0 k1 k2 k3 k5 "ValueError.__new__") /\
    OwnTail h bmV bm /\ h.Ns N mN /\ mN "__init__" = some (.ref f) /\ bm.contains (.type "BaseException") = true := by
  have q := c.cls
  unfold xIn at q
  split at q
  · rename_i dd cd sl ho
    split at q
    · rename_i C' bm k0 k1 k2 k3 n k5 hm hs
      simp only [Bool.and_eq_true, beq_iff_eq, Bool.not_eq_true'] at q
      obtain ⟨⟨⟨⟨⟨⟨rfl, rfl⟩, hdel⟩, ht⟩, hok⟩, hi⟩, hb⟩ := q
      obtain ⟨nm, bs, mro, ns, qn, hd, sn, sub, ab, col, del⟩ := cd
      dsimp only at hm hdel hok hi
      subst hm hdel
      have es : sl = #[k0, k1, k2, k3, some (.builtin "ValueError.__new__"), k5] := by
        obtain ⟨l⟩ := sl
        simp only at hs
        rw [hs]
      subst es
      have nN := PySem.Heap.Ns.of_isNs (PySem.W.isNs_of_in X hok)
      exact ⟨nm, qn, ns, bs, bm, hd, sn, sub, ab, col, dd, k0, k1, k2, k3, k5, _, X _ _ ho, PySem.W.tail_of_in X ht, nN, ns_some X nN hi, hb⟩
    · cases q
  · cases q
def drp (H : Hp) (e : Addr) : Hp := fun b => if b = e then none else H b
theorem drp_same {H : Hp} {e : Addr} : drp H e e = none := if_pos rfl
theorem drp_ne {H : Hp} {e b : Addr} (h : b ≠ e) : drp H e b = H b := if_neg h
theorem Inv.drop {X : Cx} {pins : List (Addr × Obj)} {σ : St} {H : Hp} {s : Shared} {e : Addr} {φ : Heap -> Prop} (I : Inv X pins σ H s) (he : H e = some (.ext φ)) : Inv X pins σ (drp H e) s := by
  have no : ∀ b, H b = none -> drp H e b = none := fun b h => by
    by_cases q : b = e
    · rw [q]
      exact drp_same
    · rw [drp_ne q]
      exact h
  have nx : ∀ (b : Addr) (o : HO), H b = some o -> (∀ ψ, o ≠ .ext ψ) -> drp H e b = some o := fun b o h n => by
    have q : b ≠ e := fun z => by
      rw [z, he] at h
      cases h
      exact n _ rfl
    rw [drp_ne q]
    exact h
  refine ⟨I.ok, I.os, I.bare, ⟨I.base.keep, I.base.slot, fun b o q n x => no b (I.base.free b o q n x), I.base.there, fun b xs q => nx _ _ (I.base.tups b xs q) (by intro ψ z; cases z), fun b o u q => nx _ _ (I.base.frzs b o u q) (by intro ψ z; cases z), fun b ps q => ?_⟩, I.loc, I.cell, no _ I.free, fun x c q => no _ (I.freeC x c q), fun p hp => ?_, fun a o q => ?_, I.len⟩
  · obtain ⟨m, r⟩ := I.base.tbls b ps q
    exact ⟨m, nx _ _ r (by intro ψ z; cases z)⟩
  · obtain ⟨a, b, c⟩ := I.pin p hp
    exact ⟨a, no _ b, c⟩
  · have na : a ≠ e := fun z => by
      rw [z, drp_same] at q
      cases q
    rw [drp_ne na] at q
    exact (I.hok a o q).stay (fun _ _ _ z => z) (fun b z => nx b _ z (by intro ψ y; cases y)) fun b xs z => nx b _ z (by intro ψ y; cases y)
def Throws (X : Cx) (E : XK) : Prop := ∀ (pins : List (Addr × Obj)) (σ : St) (u : Value) (s' : Shared), Air X pins σ E u s' -> X.xe u s'
theorem throwx {P : Program} {w : World} {K : PySem.W.Frag} {mg : Str -> Option Value} {base : Heap} {N : List Str} {qual : Str} {scope : Scope} {f : Addr} {cd : Value} {A : Around} {outer : List Env} {s : Shared} {H : Hp} {E : XK} :
    Throws (cxOf (CXf P w) P w K mg base N qual scope f cd A outer s H E) E := fun _ _ _ _ h => leave_air h
def tRaise (C : Addr) (sp : Sp) (E : XK) (t : TA) : TS := fun _ σ H => t σ H fun vs H1 => vs.length <= sizeLine /\ ∀ e, H1 e = none -> sp (.ref e :: vs) (upd H1 e (XO e C none)) (fun v H2 => v = .non /\ ∃ dx, H2 e = some (XO e C dx) /\ E (.ref C) dx (drp H2 e)) E0
section
variable {X : Cx} {k : Nat} {f C : Addr} {fd : FuncData} {ps : List Str} {sp : Sp} {E : XK} {x : Str} {np cpos pos : Pos} {a : Expr} {as : List Expr} {t : TA}
theorem ps_raise (M : XCl X.K C f) (F : FnOk X.prog X.w X.K X.mg X.base CX0 k f fd ps sp) (hr : Room (k + 1) X.A) (hg : Gl X x) (hm : X.mg x = some (.ref C)) (hb : Binds X.K fd ps []) (hx : Throws X E)
    (ha : PA X (a :: as) t) (hdb : (x == ("__debug__" : Str)) = false := by decide) (h1 : isStar a = false := by rfl) (h2 : as.all (fun e => !isStar e) = true := by rfl) :
    PS X (.Raise (some (.Call (.Name x np) (a :: as) [] cpos)) none pos) (tRaise C sp E t) := by
  intro pins s σ H D I h
  obtain ⟨nm, q, N, bs, bm, hdct, sn, sub, ab, col, dd, k0, k1, k2, k3, k5, mN, hC0, T0, n0, i0, hB⟩ := M.at I.mod.kin
  rw [arm_exec_Raise]
  simp only [evalOpt, Option.map]
  refine wpAny_bind (wpAny_standAt (rs_stmt (C := C) (nm := nm) (q := q) (N := N) (bs := bs) (hdct := hdct) (sn := sn) (sub := sub) (ab := ab) (col := col) (dd := dd) (k0 := k0) (k1 := k1) (k2 := k2) (k3 := k3) (k5 := k5) (newId := "ValueError.__new__") hB hr.hd (wpAny_bind ?_)))
  refine wpAny_Call_Name_kw (ld_glob I hg hm ?_ hdb)
  refine PySem.W.callWith_K (h₀ := X.base) I.ok.mod.kin M.kp (thn (ha cpos pins s σ H _ I h) fun us s1 ⟨vs, H1, I1, r, hl, q1⟩ => ⟨I1.kIn, ?_⟩) (star_cons h1) (star_any h2)
  obtain ⟨hh, g, d, tk, os⟩ := s1
  have kb : ∀ b o, X.base.get? b = some o -> hh.get? b = some o := I1.bk
  have e0 : H1 (hh.objs.size + 1) = none := I1.hok.fresh (Nat.le_succ _)
  obtain ⟨of, hof, hofc⟩ := Option.map_eq_some_iff.mp M.fn
  have hof' : hh.get? f = some of := I1.kIn _ _ hof
  refine ex_call PySem.F.excBase_ValueError (by decide +kernel) PySem.F.excBase_ValueError (T0.keeps kb) (kb _ _ hC0) (n0.keeps kb) i0 hof' hofc (show us.length <= sizeLine by rw [<- r.length]; exact hl) ?_
  have ex : ((hh.push (tupOf us)).push (excOf C hh.objs.size)).get? (hh.objs.size + 1) = some (excOf C hh.objs.size) := Heap.get?_push_at (by simp only [Heap.size_push]) rfl
  have I2 : Inv X pins σ (upd H1 (hh.objs.size + 1) (XO (hh.objs.size + 1) C none)) ⟨(hh.push (tupOf us)).push (excOf C hh.objs.size), g, d, tk, os⟩ :=
    I1.laid (a := hh.objs.size + 1) (o := XO (hh.objs.size + 1) C none) (t' := tk) (fun b u q => Heap.get?_push_of_some _ (Heap.get?_push_of_some _ q)) (Nat.le_succ _) (XO.ok ⟨excOf C hh.objs.size, _, hh.objs.size, ex, rfl, rfl, rfl, rfl, rfl, rfl⟩)
  have hq := q1 _ e0
  have r2 : Vals (V.ref (hh.objs.size + 1) :: vs) (Value.ref (hh.objs.size + 1) :: us) := .cons rfl r
  have hlen : (Value.ref (hh.objs.size + 1) :: us).length = ps.length := by rw [<- r2.length]; exact F.len _ _ _ _ hq
  have bd := hb ⟨(hh.push (tupOf us)).push (excOf C hh.objs.size), g, d, tk, os⟩ (Value.ref (hh.objs.size + 1) :: us) I2.kIn (by rw [List.append_nil]; exact hlen)
  rw [List.append_nil] at bd
  refine wpAny_call (codeAny_mono (F.run _ X.stack _ _ ⟨Value.ref (hh.objs.size + 1) :: us, []⟩ (Value.ref (hh.objs.size + 1) :: us) _ _ E0 (hr.make C us []) (I2.env0.make C us []) bd r2 hq) fun r s' hq' => ?_)
  cases r with
  | error u => exact False.elim hq'
  | ok fl =>
    cases fl with
    | ret u =>
      obtain ⟨v, H', I3, rv, ev, dx, hH, hE⟩ := I2.after hq'
      subst ev
      obtain ⟨oe, ws, t0, g1, g2, g3, g4, g5, g6⟩ := XO.get I3.hok hH
      exact ⟨rv, wpAny_bind (wpAny_standAt (wpAny_pure ⟨_, oe, ws, rfl, I3.bk _ _ hC0, g1, g2, g4, g6.1, hx pins σ _ s' ⟨_, .ref C, dx, drp H' (hh.objs.size + 1), hh.objs.size, rfl, I3.drop hH, drp_same, I1.sz, Nat.le_succ _, fun p hp => Heap.lt_size (I1.pin p hp).1, .inl ⟨oe, ws, g1, g2, g3, g4, g6⟩, hE⟩⟩))⟩
    | next => exact False.elim hq'
    | brk => exact False.elim hq'
    | cont => exact False.elim hq'
end
structure XBase (K : PySem.W.Frag) (R : Addr) : Prop where
  sp : PySem.W.specialIn K (.ref R) "__getattribute__" = some (some (.builtin "type.__getattribute__"))
  rd : PySem.W.readsIn K R (.type "type") = true
  fi : PySem.W.findCls K (.ref R) (.type "type") "__init__" = some (.val (.builtin "ValueError.__init__"))
def tXInit (C : Addr) (t : TA) : TE := fun σ H Q => t σ H fun vs H1 => ∃ e rest dx, vs = .ref e :: rest /\ rest.length <= sizeLine /\ H1 e = some (XO e C dx) /\ Q .non H1
theorem upd_id {H : Hp} {e : Addr} {o : HO} (h : H e = some o) : upd H e o = H := by
  funext b
  unfold upd
  split
  · rename_i q
    rw [q, h]
  · rfl
section
variable {X : Cx} {f C R : Addr} {x m : Str} {np apos pos pos' : Pos} {a o e value : Expr} {as : List Expr} {t : TA} {ta tv te : TE}
theorem pe_xinit {pl : Sem Bool} (M : XCl X.K C f) (B : XBase X.K R) (hg : Gl X x) (hm : X.mg x = some (.ref R)) (ha : PA X (a :: as) t) (hdb : (x == ("__debug__" : Str)) = false := by decide) (h1 : isStar a = false := by rfl) (h2 : as.all (fun e => !isStar e) = true := by rfl)
    (ht : eval (.Call (.Attribute (.Name x np) "__init__" apos) (a :: as) [] pos) X.env = (do
      let ov <- eval (.Name x np) X.env
      standAt apos.atName
      let (f, first) <- holding [ov] (getMethod ov "__init__" pl)
      callWith pos f first (backTo pos (starEach (a :: as) X.env)) (backToKw pos (keywordEach [] X.env))) := by rfl) :
    PE X (.Call (.Attribute (.Name x np) "__init__" apos) (a :: as) [] pos) (tXInit C t) := by
  intro pins s σ H Q I h
  refine PySem.W.methodCall_KW (pl := pl) (ld_glob I hg hm ?_ hdb) ht
  refine PySem.W.method_cls I.kIn B.sp (PySem.W.cls_value I.kIn B.rd B.fi (by decide +kernel) ?_)
  have I0 : Inv X pins σ H { s with toks := s.toks + 1 } := I.tok _
  refine PyProof.Rows.callWith_builtin1 (thn (ha pos pins _ σ H _ I0 h) fun us s1 ⟨vs, H1, I1, r, e, rest, dx, ev, hl, hH, q⟩ => ?_) (star_cons h1) (star_any h2)
  subst ev
  obtain ⟨ue, ur, rfl, re, rr⟩ : ∃ ue ur, us = ue :: ur /\ RelV (.ref e) ue /\ Vals rest ur := by
    cases r with
    | cons p q => exact ⟨_, _, rfl, p, q⟩
  obtain rfl : ue = Value.ref e := re
  obtain ⟨oe, ws, t0, g1, g2, g3, g4, g5, g6⟩ := XO.get I1.hok hH
  obtain ⟨nm, q', N, bs, bm, hdct, sn, sub, ab, col, dd, k0, k1, k2, k3, k5, mN, hC, T, _, _, _⟩ := M.at I1.kIn
  obtain ⟨hh, g, d, tk, os⟩ := s1
  refine ex_init PySem.F.excBase_ValueError T hC g1 g2 g4 g5 (by rw [<- rr.length]; exact hl) ?_
  have e1 := Heap.get?_push_of_some (h := hh) (tupOf ur) g1
  have up := Heap.get?_update_self (Obj.mapFields (·.setIfInBounds 0 (.ref hh.objs.size))) e1 (Obj.isFreed_of_fields (Obj.data_mapFields g4 _))
  have sz : 0 < ws.size := (Array.getElem?_eq_some_iff.mp g5).1
  have I2 := I1.write (x := e) (e := e) (o := XO e C dx) (h' := (hh.push (tupOf ur)).update e (Obj.mapFields (·.setIfInBounds 0 (.ref hh.objs.size)))) (t' := tk) (by rw [hH]; exact True.intro) (.inl rfl)
    (fun b u nb q => (Heap.get?_update_other _ _ (Ne.symm nb)).trans (Heap.get?_push_of_some _ q)) ⟨_, up⟩
    (XO.ok ⟨_, _, hh.objs.size, up, (Obj.cls_mapFields _ _).trans g2, (dict_mapFields _ _).trans g3, Obj.data_mapFields g4 _, by simp [sz], by rw [Array.getElem?_setIfInBounds_ne (by decide)]; exact g6.1, by rw [Array.getElem?_setIfInBounds_ne (by decide)]; exact g6.2⟩)
  rw [upd_id hH] at I2
  exact ⟨.non, H1, I2, rfl, q⟩
def sXNew (K : PySem.W.Frag) (C : Addr) (ta tv : TE) (m : Str) : TS := fun D σ H => tv σ H fun y H1 => ta σ H1 fun x H2 => ∃ e, x = .ref e /\ H2 e = some (XO e C none) /\ PySem.W.takerIn K C m = some none /\ ∀ d, H2 d = none -> d ≠ e -> D.nx σ (upd (upd H2 d (XD d [(m, y)])) e (XO e C (some d)))
theorem ps_xnew (M : XCl X.K C f) (ha : PE X o ta) (hv : PE X value tv) (hs : swapsWith value (some (.Attribute o m pos')) pos.line X.env = pure false := by rfl) : PS X (.Assign [.Attribute o m pos'] value pos) (sXNew X.K C ta tv m) := by
  intro pins s σ H D I h
  refine plainObj_wpAny_Assign_Attribute (thn (hv pins s σ H _ I h) fun u s1 ⟨y, H1, I1, ry, q⟩ => thn (ha pins s1 σ H1 _ I1 q) fun ov s2 ⟨x, H2, I2, rx, e, ex, hH, hk, q2⟩ => ?_) hs
  subst ex
  obtain rfl : ov = Value.ref e := rx
  obtain ⟨oe, ws, t0, g1, g2, g3, g4, g5, g6⟩ := XO.get I2.hok hH
  refine xs_new I2.kIn g1 g2 g3 g4 M.sa M.over hk M.hd fun h' hn he kp => ?_
  have nd : s2.heap.objs.size ≠ e := Nat.ne_of_gt (Heap.lt_size g1)
  have fd : H2 s2.heap.objs.size = none := I2.hok.fresh (Nat.le_refl _)
  have ns : ∀ (b : Addr) (u : HO), H2 b = some u -> (∀ ψ, u ≠ .ext ψ) -> upd (upd H2 s2.heap.objs.size (XD s2.heap.objs.size [(m, y)])) e (XO e C (some s2.heap.objs.size)) b = some u := fun b u q nx => by
    have n1 : b ≠ e := fun z => by
      rw [z, hH] at q
      cases q
      exact nx _ rfl
    rw [upd_ne n1, upd_ne (ne_of_none q fd)]
    exact q
  have ne' : ∀ b, H2 b = none -> b ≠ e := fun b q z => by
    rw [z, hH] at q
    cases q
  refine ⟨σ, _, I2.un (H' := upd (upd H2 s2.heap.objs.size (XD s2.heap.objs.size [(m, y)])) e (XO e C (some s2.heap.objs.size))) (h' := h') (t' := s2.toks + 2) ⟨fun b o q n _ _ => kp b o (ne' b n) q, fun b o q n _ _ => ⟨o.slots, kp b o (ne' b n) q⟩, fun b o q n _ => ?_, fun b o q _ => ?_, fun b xs q => ns b _ q (by intro ψ z; cases z), fun b o u q => ns b _ q (by intro ψ z; cases z), fun b ps q => ⟨#[], by rw [ns b _ q (by intro ψ z; cases z)]; simp⟩⟩ fun b u q => ?_, q2 _ fd nd⟩
  · rw [upd_ne (ne' b n), upd_ne (Nat.ne_of_lt (Heap.lt_size q))]
    exact n
  · by_cases z : b = e
    · rw [z]
      exact ⟨_, he⟩
    · exact ⟨o, kp b o z q⟩
  · by_cases z : b = e
    · subst z
      rw [upd_same] at q
      cases q
      exact XO.ok ⟨_, ws, t0, he, g2, rfl, g4, g5, g6⟩
    · rw [upd_ne z] at q
      by_cases z2 : b = s2.heap.objs.size
      · subst z2
        rw [upd_same] at q
        cases q
        refine XD.ok ⟨_, hn, fun f => ?_, fun f hf => ?_, show 1 <= 1000 by decide⟩
        · rw [List.lookup_cons]
          by_cases w : f = m
          · rw [if_pos w, w, beq_self_eq_true]
            exact ry
          · rw [if_neg w, beq_eq_false_iff_ne.mpr w]
            exact True.intro
        · by_cases w : f = m
          · rw [w]
            exact List.mem_cons_self
          · exact absurd (if_neg w) hf
      · rw [upd_ne z2] at q
        refine (I2.hok b u q).stay (fun c v hc r => kp c v (fun w => ?_) r) (fun c r => ns c _ r (by intro ψ z; cases z)) fun c xs r => ns c _ r (by intro ψ z; cases z)
        rcases hc with hc | hc
        · exact z (hc.symm.trans w)
        · rw [w, hH] at hc
          cases hc
end
end L2
namespace L2
open PySem PySem.Spec PyProof.Rows
section
variable {X : Cx} {pins : List (Addr × Obj)} {σ : St} {H : Hp} {s : Shared} {h' : Heap} {xs : List Addr}
theorem Inv.moved (I : Inv X pins σ H s) (m : Mv (frs X.stack) xs s.heap h')
    (hx : ∀ b ∈ xs, H b = none /\ (b ∈ X.ex \/ X.s₀.heap.objs.size <= b) /\ b ≠ X.env.locals /\ (∀ x c, X.env.cells.lookup x = some c -> c ≠ b) /\ ∀ p ∈ X.pn ++ pins, p.1 ≠ b) : Inv X pins σ H { s with heap := h' } :=
  I.call (g' := s.gens) (d' := s.drawn) (t' := s.toks) (ch := xs) ⟨fun b o q _ f x => m.keep b o q f x, fun b o q _ _ x => m.slot b o q x, fun _ _ _ n _ => n, fun b o q _ => m.there b o q, fun _ _ q => q, fun _ _ _ q => q, fun _ ps q => ⟨#[], by rw [q]; simp⟩⟩
    (I.hok.moved m I.stkFree fun b hb => (hx b hb).1) I.bare fun b hb => (hx b hb).2
theorem Inv.apart (I : Inv X pins σ H s) {b : Addr} {o : Obj} {vs : Array Value} (q : s.heap.get? b = some o) (d : o.data = .fields vs) : b ≠ X.env.locals /\ ∀ x c, X.env.cells.lookup x = some c -> c ≠ b := by
  refine ⟨fun z => ?_, fun x c e z => ?_⟩
  · obtain ⟨m, ⟨o', es, ep, ho, hd, _⟩, _⟩ := I.loc
    rw [z, ho] at q
    cases q
    rw [hd] at d
    cases d
  · obtain ⟨v, o', ho, hd⟩ := I.cell x c e
    rw [z, q] at ho
    cases ho
    rw [d] at hd
    cases hd
abbrev Cx.inEx (X : Cx) (u : Value) (p : List (Addr × Obj)) : Cx := { X with A := X.A.mark (some u), calm := false, pn := p ++ X.pn, xe := fun _ _ => False }
theorem Inv.inEx (I : Inv X pins σ H s) (u : Value) {p : List (Addr × Obj)} (hp : ∀ q ∈ p, s.heap.get? q.1 = some q.2 /\ H q.1 = none /\ q.1 ≠ X.env.locals /\ q.1 ∉ X.fs /\ ∀ v, q.2.data ≠ .cell v) : Inv (X.inEx u p) pins σ H s :=
  ⟨⟨I.ok.mod, I.ok.kind, I.ok.glob, I.ok.blt, I.ok.above, I.ok.inj, I.ok.has, I.ok.cab, (fun z => nomatch z), I.ok.frames, I.ok.stk, I.ok.exf, I.ok.bs, I.ok.bsz, I.ok.noex, I.ok.exfs, I.ok.funs, I.ok.frf⟩, I.os, I.bare, I.base, I.loc, I.cell, I.free, I.freeC, fun q hq => by
    have hq' : q ∈ (p ++ X.pn) ++ pins := hq
    rw [List.append_assoc] at hq'
    rcases List.mem_append.mp hq' with z | z
    · exact hp q z
    · exact I.pin q z, I.hok, I.len⟩
theorem Inv.outEx {u : Value} {p : List (Addr × Obj)} (ok : X.Ok) (I : Inv (X.inEx u p) pins σ H s) : Inv X pins σ H s :=
  ⟨ok, I.os, I.bare, I.base, I.loc, I.cell, I.free, I.freeC, fun q hq => I.pin q (by
    show q ∈ (p ++ X.pn) ++ pins
    rw [List.append_assoc]
    exact List.mem_append_right _ hq), I.hok, I.len⟩
theorem unbind_ok {A : Around} {E : Value -> Shared -> Prop} {i : Nat} {n : Str} {pos : Pos} {Q : Unit -> Shared -> Prop} (I : Inv X pins σ H s) (hN : X.N.Nodup) (hi : X.N[i]? = some n) (hl : X.env.scope.names.lookup n = some .local)
    (h : ∀ s', Inv X pins (σ.set i none) H s' -> Q () s') : wpAny (model X.prog X.w) A (do bindName X.env n .none; unbindBehindTheSuite X.env n pos) Q E s := by
  obtain ⟨m, hn, hlk⟩ := id I.loc
  have iσ : i < σ.length := by rw [I.len]; exact (List.getElem?_eq_some_iff.mp hi).1
  refine wpAny_nameGoes_keeps (env := X.env) hl hn (by rw [I.ok.kind]; rfl) fun h' v hn' hs => h _ ?_
  have nl : ∀ (b : Addr) (o : Obj), X.s₀.heap.get? b = some o -> b ≠ X.env.locals := fun b o q => Nat.ne_of_lt (Nat.lt_of_lt_of_le (Heap.lt_size q) I.ok.above)
  refine ⟨I.ok, I.os, I.bare, ⟨fun b o q n hb hx => (hs.2 b (nl b o q)).trans (I.base.keep b o q n hb hx), fun b o q n hb hx => ?_, I.base.free, fun b o q hx => ?_, I.base.tups, I.base.frzs, I.base.tbls⟩, ⟨_, hn', fun j y v' e1 e2 e3 => ?_⟩, fun y c q => ?_, I.free, I.freeC, fun p hp => ?_, fun b u q => ?_, by rw [List.length_set]; exact I.len⟩
  · obtain ⟨sl, q1⟩ := I.base.slot b o q n hb hx
    exact ⟨sl, (hs.2 b (nl b o q)).trans q1⟩
  · obtain ⟨o1, q1⟩ := I.base.there b o q hx
    exact ⟨o1, (hs.2 b (nl b o q)).trans q1⟩
  · have hj : j ≠ i := fun z => by
      rw [z, List.getElem?_set_self iσ] at e2
      cases e2
    rw [List.getElem?_set_ne (Ne.symm hj)] at e2
    obtain ⟨u, r, q⟩ := hlk j y v' e1 e2 e3
    refine ⟨u, r, ?_⟩
    rcases q with ⟨k, e⟩ | ⟨k, c, e, z⟩
    · have ny : y ≠ n := fun z => hj (nodup_ix hN e1 (z ▸ hi))
      exact .inl ⟨k, by simp [ny, e]⟩
    · exact .inr ⟨k, c, e, z.sameBut hs (I.cne y c e)⟩
  · obtain ⟨w, z⟩ := I.cell y c q
    exact ⟨w, z.sameBut hs (I.cne y c q)⟩
  · obtain ⟨a, b, c, d⟩ := I.pin p hp
    exact ⟨(hs.2 p.1 c).trans a, b, c, d⟩
  · refine (I.hok b u q).stay (fun c v hc r => (hs.2 c fun z => ?_).trans r) (fun _ r => r) fun _ _ r => r
    rcases hc with hc | hc
    · rw [<- hc, z, I.free] at q
      cases q
    · rw [z, I.free] at hc
      cases hc
end
abbrev Ends.behind (D : Ends) (i : Nat) : Ends := { nx := fun σ H => D.nx (σ.set i none) H, rt := D.rt, bk := fun σ H => D.bk (σ.set i none) H, ct := fun σ H => D.ct (σ.set i none) H }
section
variable {X : Cx} {Ch : Addr} {x n : Str} {i : Nat} {np hpos tpos : Pos} {b0 : Stmt} {suite : List Stmt} {th : Addr -> Obj -> TS}
variable {k : Nat} {f : Addr} {fd : FuncData} {ps : List Str} {sp : Sp} {y : Str} {p cpos epos : Pos} {a : Expr} {as : List Expr} {t : TA}
end
end L2
namespace L2
open PySem PySem.Spec PyProof.Rows
section
variable {X : Cx} {pins : List (Addr × Obj)} {σ : St} {H : Hp} {s : Shared} {h' : Heap}
theorem Inv.turns {t' : Nat} {ch : List Addr} (I : Inv X pins σ H s) (k : ∀ b o, b ∉ ch -> s.heap.get? b = some o -> h'.get? b = some o) (hf : ∀ b ∈ ch, FpOk X pins H b) : Inv X pins σ H { s with heap := h', toks := t' } := by
  have nit : ∀ b u, H b = some u -> b ∉ ch := fun b u e z => by rw [(hf b z).1] at e; cases e
  refine I.call (g' := s.gens) (d' := s.drawn) (t' := t') (ch := ch) ⟨fun b o q _ _ x => k b o x q, fun b o q _ _ x => ⟨o.slots, k b o x q⟩, fun _ _ _ n _ => n, fun b o q x => ⟨o, k b o x q⟩, fun _ _ q => q, fun _ _ _ q => q, fun _ ps q => ⟨#[], by rw [q]; simp⟩⟩
    (fun b u e => (I.hok b u e).stay (fun c v hc q => k c v ?_ q) (fun _ q => q) fun _ _ q => q) I.bare fun b hb => ?_
  · rcases hc with z | z
    · rw [z]; exact nit b u e
    · exact nit c _ z
  · obtain ⟨f0, f1, f2, f3, f4, f5⟩ := hf b hb
    exact ⟨f3, f1, f4, f5⟩
end
section
variable {X : Cx} {elts : List Expr} {k : Nat} {tpos : Pos}
end
end L2
namespace L2
open PySem PySem.Spec PyProof.Rows
def Itv (K : PySem.W.Frag) (a : Addr) (n : Nat) : It :=
  ⟨fun i H => i < n /\ ∃ xs x, SqL K H a xs /\ xs[n - 1 - i]? = some x, fun i H x H' => H' = H /\ ∀ xs, SqL K H a xs -> xs[n - 1 - i]? = some x, fun i _ => n <= i⟩
theorem turn_rev {P : Program} {w : World} {K : PySem.W.Frag} {tg : Expr} (a it : Addr) (n : Nat) : Turn P w K tg (Itv K a n) [it] it (fun i h => i <= n /\ h.IsRevIter it a ((n : Int) - 1 - (i : Nat))) where
  mem := by simp
  obj := fun i h st b hb => by
    have e : b = it := by simpa using hb
    subst e
    obtain ⟨_, o, e, c, d⟩ := st
    exact ⟨o, e, fun v z => by rw [d] at z; cases z⟩
  keep := fun i h h' st k => ⟨st.1, st.2.at fun o e => k it (by simp) o e⟩
  item := by
    intro X hP hw hK hc i pins s σ H E I hf st hg
    subst hP hw hK
    obtain ⟨hi, xs, x, hq, hx⟩ := hg
    obtain ⟨its, rv, p, hz⟩ := I.list hq
    obtain ⟨u, hu, ru⟩ := rv.get hx
    obtain ⟨f0, f1, f2, f3, f4, f5⟩ := hf it (by simp)
    obtain ⟨_, st2⟩ := st
    have e1 : (n : Int) - 1 - (i : Nat) = ((n - 1 - i : Nat) : Int) := by omega
    rw [e1] at st2
    refine wpAny_pyNext_rev_item st2 p.isList (x := u) (by simpa using hu) fun h' st' sb => ?_
    have I1 : Inv X pins σ H { s with heap := h' } := I.turned (t' := s.toks) (fun b o hb e => (sb.2 b hb).trans e) f0 f1 f3 f4 f5
    obtain ⟨o, e, c, d⟩ := id st'
    refine ⟨u, rfl, go_of (s := { s with heap := h' }) e c d (by decide) ⟨x, H, I1, ru, ⟨rfl, fun ys hy => by rw [I.list_inj hy hq]; exact hx⟩, ⟨hi, ?_⟩, fun b hb => (hf b hb).1⟩⟩
    have e2 : (n : Int) - 1 - ((i + 1 : Nat) : Int) = ((n - 1 - i : Nat) : Int) - 1 := by omega
    rw [e2]
    exact st'
  done := by
    intro X hP hw hK hc i pins s σ H E I hf st hg
    subst hP hw hK
    obtain ⟨f0, f1, f2, f3, f4, f5⟩ := hf it (by simp)
    obtain ⟨h1, st2⟩ := st
    have h2 : n <= i := hg
    have e1 : (n : Int) - 1 - (i : Nat) = -1 := by omega
    rw [e1] at st2
    exact wpAny_pyNext_rev_end (I.ok.hd hc) st2 fun h' eb => ⟨rfl, I.turned (t' := s.toks) (fun b o hb e => eb b o hb e) f0 f1 f3 f4 f5⟩
  self := fun _ _ _ _ _ st h => wpAny_pyIter_revIter st.2 h
section
variable {X : Cx} {tg : Expr}
def iRev (K : PySem.W.Frag) (ta : TA) : TI := fun σ H R => ta σ H fun vs H1 => ∃ a xs, vs = [.ref a] /\ SqL K H1 a xs /\ R (Itv K a xs.length) H1
theorem pi_rev {a : Expr} {ta : TA} {p pos : Pos} (hg : Gl X "reversed") (hm : X.mg "reversed" = none) (ha : PA X [a] ta) (hs : starEach [a] X.env = [(false, eval a X.env)] := by rfl) : PI X tg (.Call (.Name "reversed" p) [a] [] pos) (iRev X.K ta) := by
  intro pins s σ H R I h
  refine Call_ (ld_blt I hg hm boot_reversed (PyProof.Rows.callWith_type1 (thn (ha pos pins s σ H _ I h) fun us s1 ⟨vs, H1, I1, r1, q1⟩ => ?_) hs rfl))
  obtain ⟨l, xs, e, hq, q⟩ := q1
  subst e
  obtain ⟨u, rfl, rx⟩ := vals1 r1
  cases rx
  obtain ⟨its, rv, pl, hz⟩ := I1.list hq
  have hl := rv.length
  refine call_reversed_list pl.isList ?_
  have hr : (s1.heap.push (revObj l ((its.toArray.size : Int) - 1))).IsRevIter s1.heap.objs.size l ((its.toArray.size : Int) - 1) := ⟨_, Heap.get?_push_size _ rfl, rfl, rfl⟩
  refine wpAny_pyIter_revIter (s := { s1 with heap := s1.heap.push (revObj l ((its.toArray.size : Int) - 1)) }) hr ?_
  refine ⟨s1.heap.objs.size, [s1.heap.objs.size], _, _, H1, rfl, I1.kept (t' := s1.toks) fun b o e => Heap.get?_push_of_some _ e, turn_rev l _ xs.length, ⟨Nat.zero_le _, ?_⟩, fun b hb => ?_, q⟩
  · have e : (xs.length : Int) - 1 - ((0 : Nat) : Int) = (its.toArray.size : Int) - 1 := by simp [hl]
    rw [e]
    exact hr
  have e : b = s1.heap.objs.size := by simpa using hb
  subst e
  exact I1.fpOk (Nat.le_refl _) (I1.hok.fresh (Nat.le_refl _))
theorem ji_rev {a : Expr} {t : TA} {p pos : Pos} (hg : Gl X "reversed") (hm : X.mg "reversed" = none) (ha : jA X [a] t) (h : isStar a = false := by rfl) : jI X tg (.Call (.Name "reversed" p) [a] [] pos) (iRev X.K t) := ⟨pi_rev hg hm ha.out (star_cons h)⟩
end
theorem for_rev {K : PySem.W.Frag} {a : Addr} {xs : List V} {g : TG} {tb : TS} {D : Ends} {σ : St} {H : Hp} (Pv : Nat -> St -> Hp -> Prop) (h0 : Pv 0 σ H) (hl : ∀ i σ H, i <= xs.length -> Pv i σ H -> SqL K H a xs)
    (hs : ∀ i x σ H, xs.reverse[i]? = some x -> Pv i σ H -> g x σ H fun σ2 H2 => tb { D with nx := Pv (i + 1), ct := Pv (i + 1), bk := D.nx } σ2 H2) (hd : ∀ σ H, Pv xs.length σ H -> D.nx σ H) :
    ∃ W : Nat -> Nat -> St -> Hp -> Prop, (∃ m, W 0 m σ H) /\ ∀ i m σ H, W i m σ H ->
      ((Itv K a xs.length).stop i H /\ D.nx σ H) \/ ((Itv K a xs.length).go i H /\ ∃ N : St -> Hp -> Prop, (∀ σ' H', N σ' H' -> ∃ m', m' < m /\ W (i + 1) m' σ' H') /\ ∀ x H', (Itv K a xs.length).yld i H x H' -> g x σ H' fun σ2 H2 => tb { D with nx := N, ct := N, bk := D.nx } σ2 H2) := by
  refine ⟨fun i m σ H => m = xs.length - i /\ i <= xs.length /\ Pv i σ H, ⟨xs.length, by simp, Nat.zero_le _, h0⟩, ?_⟩
  rintro i m σ H ⟨rfl, hi, p⟩
  have q := hl i σ H hi p
  by_cases hlt : i < xs.length
  · refine .inr ⟨⟨hlt, xs, xs[xs.length - 1 - i], q, by rw [List.getElem?_eq_getElem]⟩, Pv (i + 1), fun σ' H' p' => ⟨xs.length - (i + 1), by omega, rfl, hlt, p'⟩, fun x H' y => ?_⟩
    obtain ⟨e, y⟩ := y
    subst e
    refine hs i x σ _ ?_ p
    rw [List.getElem?_reverse hlt]
    exact y xs q
  · have e : i = xs.length := by omega
    subst e
    exact .inl ⟨Nat.le_refl _, hd σ H p⟩
section
variable {g : TG} {tt : TT} {te : TE} {Q : VK} {σ : St} {H : Hp}
theorem lc_tup {K : PySem.W.Frag} {a : Addr} {xs : List V} (Pv : Nat -> St -> List V -> Hp -> Prop) (h0 : Pv 0 σ [] H) (hl : ∀ i τ ys H, i <= xs.length -> Pv i τ ys H -> SqT K H a xs)
    (hs : ∀ i x τ ys H, xs[i]? = some x -> Pv i τ ys H -> g x τ H fun τ2 H2 => tt τ2 H2 fun b H3 => if b = true then te τ2 H3 fun y H4 => ys.length < sizeLine /\ Pv (i + 1) τ2 (ys ++ [y]) H4 else Pv (i + 1) τ2 ys H3)
    (hd : ∀ τ ys H, Pv xs.length τ ys H -> ∀ p, H p = none -> Q (.ref p) (upd H p (.lst ys))) : ∃ W, (∃ m, W 0 m σ [] H) /\ lcBy (Itt K a) g tt te Q W := by
  refine ⟨fun i m τ ys H => m = xs.length - i /\ i <= xs.length /\ Pv i τ ys H, ⟨xs.length, by simp, Nat.zero_le _, h0⟩, ?_⟩
  rintro i m τ ys H ⟨rfl, hi, p⟩
  have q := hl i τ ys H hi p
  by_cases hlt : i < xs.length
  · refine .inr ⟨⟨xs, xs[i], q, by simp [hlt]⟩, Pv (i + 1), fun τ' ys' H' p' => ⟨xs.length - (i + 1), by omega, rfl, hlt, p'⟩, fun x H' y => ?_⟩
    obtain ⟨e, y⟩ := y
    subst e
    exact hs i x τ ys _ (y xs q) p
  · have e : i = xs.length := by omega
    subst e
    exact .inl ⟨⟨xs, q, Nat.le_refl _⟩, hd τ ys H p⟩
end
theorem old {H : Hp} {p q : Addr} {o u : HO} (hp : H p = none) (h : H q = some u) : upd H p o q = some u := by rw [upd_ne (ne_of_none h hp)]; exact h
theorem Same.new {H H1 : Hp} {p : Addr} {o : HO} (s : Same H H1) (hp : H1 p = none) : Same H (upd H1 p o) := fun b u q => old hp (s b u q)
theorem Same.put {H H1 : Hp} {p : Addr} {o : HO} (s : Same H H1) (hp : H p = none) : Same H (upd H1 p o) := fun b u q => by rw [upd_ne (ne_of_none q hp)]; exact s b u q
end L2
namespace L2
open PySem PySem.Spec PyProof.Rows
theorem eqV_self {x : V} (h : flatV x = true) : eqV x x = true := by
  cases x <;> first
    | rfl
    | (show ((_ : Bool) == _) = true; simp)
    | (show ((_ : Int) == _) = true; simp)
    | (show ((_ : Str) == _) = true; simp)
    | (cases h)
section
variable {X : Cx}
end
section
variable {X : Cx}
end
end L2
namespace L2
open PySem PySem.Spec PyProof.Rows Builtin Builtin.Str
section
variable {X : Cx}
end
end L2
namespace L2
open PySem PySem.Spec PyProof.Rows
def Sq (k : Bool) (h : Heap) (l : Addr) (xs : Array Value) : Prop := match k with
  | true => h.IsList l xs
  | false => h.IsTuple l xs
def SqI (k : Bool) (h : Heap) (j l : Addr) (n : Nat) : Prop := match k with
  | true => h.IsListIter j l n
  | false => h.IsTupleIter j l n
def SqN (k : Bool) : String := if k then "list_iterator" else "tuple_iterator"
theorem Sq.at {k : Bool} {h h' : Heap} {l : Addr} {xs : Array Value} (x : Sq k h l xs) (e : ∀ o, h.get? l = some o -> h'.get? l = some o) : Sq k h' l xs := by
  cases k <;> obtain ⟨o, ho, r⟩ := x <;> exact ⟨o, e _ ho, r⟩
theorem SqI.at {k : Bool} {h h' : Heap} {j l : Addr} {n : Nat} (x : SqI k h j l n) (e : ∀ o, h.get? j = some o -> h'.get? j = some o) : SqI k h' j l n := by
  cases k <;> obtain ⟨o, ho, r⟩ := x <;> exact ⟨o, e _ ho, r⟩
theorem SqI.ex {k : Bool} {h : Heap} {j l : Addr} {n : Nat} (x : SqI k h j l n) : ∃ o, h.get? j = some o /\ o.cls = .type (SqN k) /\ o.data = .fields #[.ref l, .int n 0] := by
  cases k <;> exact x
theorem SqI.of {k : Bool} {h : Heap} {j l : Addr} {n : Nat} (x : ∃ o, h.get? j = some o /\ o.cls = .type (SqN k) /\ o.data = .fields #[.ref l, .int n 0]) : SqI k h j l n := by
  cases k <;> exact x
section
variable {P : Program} {w : World} {A : Around} {E : Value -> Shared -> Prop} {s : Shared}
end
structure ZS (k m : Bool) (h : Heap) (B l r : Nat) (n : Nat) (f g : Value) : Prop where
  z : h.get? (B + 4) = some { cls := .type "zip", data := .fields #[f, g, .bool false, .ref (B + 2), .ref (B + 3)] }
  ti : IsPair h (B + 2) (.ref B) (.ref (B + 1))
  to : ∃ a b, IsPair h (B + 3) a b
  i : SqI k h B l n
  j : SqI m h (B + 1) r n
theorem ZS.at {k m : Bool} {h h' : Heap} {B l r : Nat} {n : Nat} {f g : Value} (x : ZS k m h B l r n f g) (e : ∀ (b : Nat) o, B <= b -> b <= B + 4 -> h.get? b = some o -> h'.get? b = some o) : ZS k m h' B l r n f g where
  z := e _ _ (by omega) (by omega) x.z
  ti := e _ _ (by omega) (by omega) x.ti
  to := let ⟨a, b, y⟩ := x.to; ⟨a, b, e _ _ (by omega) (by omega) y⟩
  i := x.i.at fun o => e _ o (by omega) (by omega)
  j := x.j.at fun o => e _ o (by omega) (by omega)
def KeptZ (B : Nat) (h h' : Heap) : Prop := ∀ (c : Nat) o, (c < B \/ B + 4 < c) -> h.get? c = some o -> h'.get? c = some o
section
variable {P : Program} {w : World} {A : Around} {E : Value -> Shared -> Prop} {s : Shared} {k m : Bool} {B l r : Nat} {n : Nat} {xs ys : Array Value} {x y f g : Value}
end
end L2
namespace L2
open PySem PySem.Spec PyProof.Rows
def ZF (B : Nat) (h : Heap) (f g : Value) : Prop := f = .none \/ ∃ (T : Nat) (c : Bool) (o : Obj), f = rawInt T /\ g = .bool c /\ h.get? T = some o /\ B + 5 < T
section
variable {P : Program} {w : World} {A : Around} {E : Value -> Shared -> Prop} {s : Shared} {k m : Bool} {B l r : Nat} {n : Nat} {xs ys : Array Value} {x y f g : Value}
end
structure ZL (k m : Bool) (h0 h : Heap) (B l r n : Nat) (xs ys acc : Array Value) (c : Nat) (f g : Value) : Prop where
  zs : ZS k m h B l r n f g
  zf : ZF B h f g
  hl : Sq k h l xs
  hr : Sq m h r ys
  sz : h.objs.size = B + 6 + n
  lst : h.get? (B + 5) = some { cls := .type "list", data := .seq acc c }
  asz : acc.size = n
  par : ∀ i x y, i < n -> xs[i]? = some x -> ys[i]? = some y -> acc[i]? = some (.ref (B + 6 + i)) /\ IsPair h (B + 6 + i) x y
  old : ∀ (b : Nat) o, b < B -> h0.get? b = some o -> h.get? b = some o
section
variable {P : Program} {w : World} {A : Around} {R : Result -> Shared -> Prop} {h0 : Heap} {k m : Bool} {B l r N : Nat} {xs ys : Array Value} {res : Value}
end
end L2
namespace L2
open PySem PySem.Spec PyProof.Rows
section
variable {P : Program} {w : World} {A : Around} {E : Value -> Shared -> Prop} {s : Shared} {k m : Bool} {B l r N : Nat} {xs ys : Array Value}
end
section
variable {X : Cx} {a b : Expr} {ta : TA} {p1 p2 pos1 pos2 : Pos}
end
end L2
namespace L2
open PySem PySem.Spec PyProof.Rows
def SqK (k : Bool) (K : PySem.W.Frag) (H : Hp) (a : Addr) (xs : List V) : Prop := match k with
  | true => SqL K H a xs
  | false => SqT K H a xs
theorem KeptZ.of {B : Nat} {h h' : Heap} (z : KeptZ B h h') : ∀ (b : Nat) o, b ∉ [B, B + 1, B + 2, B + 3, B + 4] -> h.get? b = some o -> h'.get? b = some o := fun b o n e => z b o (by simp only [List.mem_cons, List.not_mem_nil, or_false, not_or] at n; omega) e
section
variable {X : Cx} {elts : List Expr} {n : Nat} {tpos : Pos}
end
end L2
namespace L2
open PySem PySem.Spec PyProof.Rows
structure Ca (P : Program) (w : World) (K : PySem.W.Frag) (mg : Str -> Option Value) (base : Heap) (CX : CXT) (k : Nat) (x : Str) (ps : List Str) (sp : Sp) : Prop where
  ex : ∃ f fd, FnOk P w K mg base CX k f fd ps sp /\ Binds K fd ps [] /\ PySem.W.keepIn K (.ref f) = true /\ mg x = some (.ref f)
structure Me (P : Program) (w : World) (K : PySem.W.Frag) (mg : Str -> Option Value) (base : Heap) (CX : CXT) (k : Nat) (C : Addr) (m : Str) (ps : List Str) (sp : Sp) : Prop where
  ex : ∃ f fd, FnOk P w K mg base CX k f fd ps sp /\ Binds K fd ps [] /\ Meth K C m f
structure Ma (P : Program) (w : World) (K : PySem.W.Frag) (mg : Str -> Option Value) (base : Heap) (CX : CXT) (k : Nat) (x : Str) (C : Addr) (ps : List Str) (sp : Sp) : Prop where
  ex : ∃ f fd, Mk K C f /\ FnOk P w K mg base CX k f fd ps sp /\ Binds K fd ps [] /\ mg x = some (.ref C)
structure Xa (P : Program) (w : World) (K : PySem.W.Frag) (mg : Str -> Option Value) (base : Heap) (k : Nat) (x : Str) (C : Addr) (ps : List Str) (sp : Sp) : Prop where
  ex : ∃ f fd, XCl K C f /\ FnOk P w K mg base CX0 k f fd ps sp /\ Binds K fd ps [] /\ mg x = some (.ref C)
section
variable {P : Program} {w : World} {K : PySem.W.Frag} {mg : Str -> Option Value} {base : Heap} {CX : CXT} {k j : Nat} {x m : Str} {C : Addr} {ps : List Str} {sp sp' : Sp}
theorem Ca.mono (h : Ca P w K mg base CX j x ps sp) (l : j <= k) : Ca P w K mg base CX k x ps sp := let ⟨f, fd, a, r⟩ := h.ex; ⟨f, fd, a.mono l, r⟩
theorem Me.mono (h : Me P w K mg base CX j C m ps sp) (l : j <= k) : Me P w K mg base CX k C m ps sp := let ⟨f, fd, a, r⟩ := h.ex; ⟨f, fd, a.mono l, r⟩
end
section
variable {X : Cx} {CX : CXT} {k i : Nat} {C : Addr} {ps : List Str} {sp : Sp} {E : XK} {x m n f : Str} {p pos apos cpos np pos' epos hpos tpos : Pos} {e o a value : Expr} {es as : List Expr} {ta te tv to t1 t2 : TE} {t : TA}
theorem je_ca (F : Ca X.prog X.w X.K X.mg X.base CX k x ps sp) (hr : Room k X.A) (hg : Gl X x) (hx : Passes CX X E) (ha : jA X (e :: es) t) (hdb : (x == ("__debug__" : Str)) = false := by decide) (h1 : isStar e = false := by rfl) (h2 : es.all (fun e => !isStar e) = true := by rfl) :
    jE X (.Call (.Name x p) (e :: es) [] pos) (tCall sp [] E t) := let ⟨_, _, G, b, kp, mg⟩ := F.ex; je_fn G hr hg mg kp b .nil hx ha hdb h1 h2
theorem je_ma (F : Ma X.prog X.w X.K X.mg X.base CX k x C ps sp) (hr : Room (k + 1) X.A) (hg : Gl X x) (hx : Passes CX X E) (ha : jA X (e :: es) t) (hdb : (x == ("__debug__" : Str)) = false := by decide) (h1 : isStar e = false := by rfl) (h2 : es.all (fun e => !isStar e) = true := by rfl) :
    jE X (.Call (.Name x p) (e :: es) [] pos) (tMake C sp [] E t) := let ⟨_, _, M, G, b, mg⟩ := F.ex; ⟨pe_make M G hr hg mg b .nil hx ha.out hdb (star_cons h1) (star_any h2)⟩
theorem je_fld (he : jE X e ta) (hb : attributeBase e f X.env (eval e X.env) = eval e X.env := by rfl) : jE X (.Attribute e f pos) (tFld X.K ta f) := ⟨pe_fld he.out hb⟩
theorem js_fld (ha : jE X o ta) (hv : jE X value tv) (hs : swapsWith value (some (.Attribute o f pos')) pos.line X.env = pure false := by rfl) : jS X (.Assign [.Attribute o f pos'] value pos) (sFld X.K ta tv f) := ⟨ps_fld ha.out hv.out hs⟩
theorem js_raise (F : Xa X.prog X.w X.K X.mg X.base k x C ps sp) (hr : Room (k + 1) X.A) (hg : Gl X x) (hx : Throws X E) (ha : jA X (a :: as) t) (hdb : (x == ("__debug__" : Str)) = false := by decide) (h1 : isStar a = false := by rfl) (h2 : as.all (fun e => !isStar e) = true := by rfl) :
    jS X (.Raise (some (.Call (.Name x np) (a :: as) [] cpos)) none pos) (tRaise C sp E t) := let ⟨_, _, M, G, b, mg⟩ := F.ex; ⟨ps_raise M G hr hg mg b hx ha.out hdb h1 h2⟩
end
theorem FnOk.no {P : Program} {w : World} {K : PySem.W.Frag} {mg : Str -> Option Value} {base : Heap} {CX : CXT} {k : Nat} {f : Addr} {fd : FuncData} {ps : List Str} : FnOk P w K mg base CX k f fd ps (fun _ _ _ _ => False) :=
  ⟨fun _ _ _ _ h => h.elim, fun _ _ _ _ _ _ _ _ _ _ _ _ _ h => h.elim⟩
end L2
namespace L2
open PySem PySem.Spec PySem.Calls PyProof.Rows
section
variable {P : Program} {w : World} {A : Around} {E : Value -> Shared -> Prop} {s : Shared} {K : PySem.W.Frag}
end
section
variable {X : Cx} {e C : Addr} {oe : Obj} {ex : Expr} {te : TE} {name : Str} {pos : Pos} {f : Addr}
def tXFld (C e : Addr) (oe : Obj) (te : TE) (name : Str) : TE := fun σ H Q => te σ H fun x H1 => x = .ref e /\ oe.cls = .ref C /\ (∃ vs, oe.data = .fields vs) /\ ∃ d fs v, oe.dict = some d /\ H1 d = some (XD d fs) /\ fs.lookup name = some v /\ Q v H1
theorem pe_xfld (hp : (e, oe) ∈ X.pn) (M : XCl X.K C f) (hn : PySem.W.findIn X.K (.ref C) name = some none) (hh : PySem.W.hasDictIn X.K C = true) (he : PE X ex te) (hb : attributeBase ex name X.env (eval ex X.env) = eval ex X.env) :
    PE X (.Attribute ex name pos) (tXFld C e oe te name) := by
  intro pins s σ H Q I h
  refine attr_of hb (thn (he pins s σ H _ I h) fun u s1 g => ?_)
  obtain ⟨x, H1, I1, rx, rfl, hc, ⟨vs, hd⟩, d, fs, v, h1, h2, h3, q⟩ := g
  obtain rfl : u = Value.ref e := rx
  obtain ⟨mA, ns, r, _⟩ := XD.get I1.hok h2
  obtain ⟨u', hu, ru⟩ := RelO.some_of (v := v) (o := mA name) (by rw [<- h3]; exact r name)
  obtain ⟨od, ho, hl⟩ := lookIn_ns ns
  have J : PySem.W.InstAt s1.heap e oe C (some od) := ⟨(I1.pin (e, oe) (List.mem_append_left _ hp)).1, hc, by unfold PySem.W.notCls; rw [hd], by rw [h1]; exact ho⟩
  exact xg_get I1.kIn J M.ga M.ha M.sb (PySem.W.findObj_own hh hn rfl (by rw [hl, hu])) (handed_of ru) ⟨v, H1, I1.tok _, ru, q⟩
theorem je_xfld (hp : (e, oe) ∈ X.pn) (M : XCl X.K C f) (hn : PySem.W.findIn X.K (.ref C) name = some none) (hh : PySem.W.hasDictIn X.K C = true) (he : jE X ex te) (hb : attributeBase ex name X.env (eval ex X.env) = eval ex X.env := by rfl) :
    jE X (.Attribute ex name pos) (tXFld C e oe te name) := ⟨pe_xfld hp M hn hh he.out hb⟩
end
section
variable {X : Cx} {Ch : Addr} {x n : Str} {i k : Nat} {np hpos tpos : Pos} {b0 : Stmt} {suite : List Stmt} {th : Addr -> Obj -> TS} {ps : List Str} {sp : Sp} {y : Str} {p cpos epos : Pos} {a : Expr} {as : List Expr} {t : TA}
end
end L2
namespace L2
open PySem PySem.Spec PyProof.Rows
section
variable {P : Program} {w : World} {A : Around} {E : Value -> Shared -> Prop}
end
section
variable {X : Cx} {pos : Pos}
end
end L2
namespace L2
open PySem
theorem line0 : sizeLine = 16777216 := by decide
def FnIn (K : PySem.W.Frag) (x qual : Str) (st : Stmt) (f : Addr) : Prop := ∃ (oc : Value) (od : Option Addr) (kV doc pm : Value) (an : Option Addr) (cdv ct : Value) (osl : Array (Option Value)), K.lookup f = some ⟨oc, od, .func (PySem.W.fnOf x qual (defArgs st) (defBody st) (defScope st) .none kV doc pm an cdv ct), osl⟩ /\ PySem.W.codeIn K cdv qual = true /\ PySem.W.keepIn K (.ref f) = true
theorem FnIn.fn {K : PySem.W.Frag} {x qual : Str} {st : Stmt} {f : Addr} (h : FnIn K x qual st f) : ∃ fd, Fun K x qual st f fd /\ PySem.W.keepIn K (.ref f) = true := by
  obtain ⟨_, _, _, _, _, _, _, _, _, l, c, k⟩ := h
  exact ⟨_, fun_mk l c k, k⟩
def DfIn (K : PySem.W.Frag) (x : Str) (st : Stmt) : Prop := ∃ f, PySem.W.nsIn K mainGlobals x = some (some (.ref f)) /\ FnIn K x x st f
def MeIn (K : PySem.W.Frag) (C : Addr) (x qual : Str) (st : Stmt) : Prop := ∃ f, PySem.W.findIn K (.ref C) x = some (some (.ref f)) /\ PySem.W.isFn K (.ref f) = true /\ FnIn K x qual st f
def TpIn (K : PySem.W.Frag) (x : Str) (l : List Str) : Prop := ∃ (a : Addr) (d : Option Addr) (it : Array Value) (n : Nat) (sl : Array (Option Value)), PySem.W.nsIn K mainGlobals x = some (some (.ref a)) /\ K.lookup a = some ⟨.type "tuple", d, .seq it n, sl⟩ /\ it.toList.map absV = l.map fun x => some (.str x)
theorem MeIn.ma {P : Program} {w : World} {K : PySem.W.Frag} {mg : Str -> Option Value} {base : Heap} {CX : CXT} {k : Nat} {C : Addr} {x qual : Str} {st : Stmt} {ps : List Str} {sp : Sp} (h : MeIn K C "__init__" qual st) (hb : ∀ (kV doc pm : Value) (an : Option Addr) (cdv ct : Value) (us : List Value), us.length = ps.length -> bindArgs (PySem.W.fnOf "__init__" qual (defArgs st) (defBody st) (defScope st) .none kV doc pm an cdv ct) ⟨us, []⟩ = pure (ps.zip us))
    (mk : PySem.W.makesIn K C = true) (kp : PySem.W.keepIn K (.ref C) = true) (hm : mg x = some (.ref C)) (ok : ∀ f fd, Fun K "__init__" qual st f fd -> FnOk P w K mg base CX k f fd ps sp) : Ma P w K mg base CX k x C ps sp := by
  obtain ⟨f, a, n, g⟩ := h
  obtain ⟨fd, F, _⟩ := g.fn
  exact ⟨f, fd, ⟨mk, a, n, kp⟩, ok f fd F, F.binds hb, hm⟩
theorem DfIn.ca {P : Program} {w : World} {K : PySem.W.Frag} {mg : Str -> Option Value} {base h : Heap} {CX : CXT} {k : Nat} {x : Str} {st : Stmt} {ps : List Str} {sp : Sp} (X : K.In h) (G : h.Ns mainGlobals mg) (d : DfIn K x st) (hb : ∀ (kV doc pm : Value) (an : Option Addr) (cdv ct : Value) (us : List Value), us.length = ps.length -> bindArgs (PySem.W.fnOf x x (defArgs st) (defBody st) (defScope st) .none kV doc pm an cdv ct) ⟨us, []⟩ = pure (ps.zip us))
    (ok : ∀ f fd, Fun K x x st f fd -> FnOk P w K mg base CX k f fd ps sp) : Ca P w K mg base CX k x ps sp := by
  obtain ⟨f, a, g⟩ := d
  obtain ⟨fd, F, kp⟩ := g.fn
  exact ⟨f, fd, ok f fd F, F.binds hb, kp, PySem.W.mg_of X G a⟩
theorem DfIn.mk {K : PySem.W.Frag} {x : Str} {st : Stmt} {f : Addr} {oc : Value} {od : Option Addr} {kV doc pm : Value} {an : Option Addr} {cdv ct : Value} {osl : Array (Option Value)} (a : PySem.W.nsIn K mainGlobals x = some (some (.ref f))) (l : K.lookup f = some ⟨oc, od, .func (PySem.W.fnOf x x (defArgs st) (defBody st) (defScope st) .none kV doc pm an cdv ct), osl⟩) (c : PySem.W.codeIn K cdv x = true) (k : PySem.W.keepIn K (.ref f) = true) : DfIn K x st := ⟨f, a, oc, od, kV, doc, pm, an, cdv, ct, osl, l, c, k⟩
theorem MeIn.mk {K : PySem.W.Frag} {C : Addr} {x qual : Str} {st : Stmt} {f : Addr} {oc : Value} {od : Option Addr} {kV doc pm : Value} {an : Option Addr} {cdv ct : Value} {osl : Array (Option Value)} (a : PySem.W.findIn K (.ref C) x = some (some (.ref f))) (l : K.lookup f = some ⟨oc, od, .func (PySem.W.fnOf x qual (defArgs st) (defBody st) (defScope st) .none kV doc pm an cdv ct), osl⟩) (c : PySem.W.codeIn K cdv qual = true) (k : PySem.W.keepIn K (.ref f) = true) (n : PySem.W.isFn K (.ref f) = true) : MeIn K C x qual st := ⟨f, a, n, oc, od, kV, doc, pm, an, cdv, ct, osl, l, c, k⟩
theorem TpIn.mk {K : PySem.W.Frag} {x : Str} {l : List Str} {b : Addr} {d : Option Addr} {it : Array Value} {n : Nat} {sl : Array (Option Value)} (a : PySem.W.nsIn K mainGlobals x = some (some (.ref b))) (k : K.lookup b = some ⟨.type "tuple", d, .seq it n, sl⟩) (v : it.toList.map absV = l.map fun x => some (.str x)) : TpIn K x l := ⟨b, d, it, n, sl, a, k, v⟩
theorem GlIn.mk {K : PySem.W.Frag} {x : Str} {z : Str} {v : Value} {t : Tok} (a : PySem.W.nsIn K mainGlobals x = some (some v)) (e : v = .str z t) : ∃ t, PySem.W.nsIn K mainGlobals x = some (some (.str z t)) := ⟨t, by rw [a, e]⟩
theorem GiIn.mk {K : PySem.W.Frag} {x : Str} {i : Int} {v : Value} {t : Tok} (a : PySem.W.nsIn K mainGlobals x = some (some v)) (e : v = .int i t) : ∃ t, PySem.W.nsIn K mainGlobals x = some (some (.int i t)) := ⟨t, by rw [a, e]⟩
theorem XcIn.mk {K : PySem.W.Frag} {C f : Addr} (a : PySem.W.findIn K (.ref C) "__init__" = some (some (.ref f))) (b : xIn K C f = true) (c : PySem.W.typeIn K (.ref f) = some (.type "function")) : ∃ f, PySem.W.findIn K (.ref C) "__init__" = some (some (.ref f)) /\ xIn K C f = true /\ PySem.W.typeIn K (.ref f) = some (.type "function") := ⟨f, a, b, c⟩
structure OwnIn (K : PySem.W.Frag) (x : Str) (C : Addr) : Prop where
  n : PySem.W.nsIn K mainGlobals x = some (some (.ref C))
  pg : PySem.W.plainGet K C Str.empty = true
  hd : PySem.W.hasDictIn K C = true
  po : PySem.W.plainOver K C = true
  sa : PySem.W.findIn K (.ref C) "__setattr__" = some (some (.builtin "object.__setattr__"))
  mks : PySem.W.makesIn K C = true
  kp : PySem.W.keepIn K (.ref C) = true
theorem OwnIn.cls {K : PySem.W.Frag} {x : Str} {C : Addr} (o : OwnIn K x C) : Cls K C := ⟨o.pg, o.hd, o.po, o.sa⟩
def spTop (K : PySem.W.Frag) : Sp := fun vs H Q _ => ∃ (a : Addr) (ns : List Int), vs = [.ref a] /\ SqL K H a (ns.map V.int) /\ ns.length <= 63 /\ ∀ H', Q (.bl true) H'
theorem law_in {l : PySem.W.OpenLaw} {w : World} {K : PySem.W.Frag} {h : Heap} {mg : Str -> Option Value} {fa : Addr} {st : Stmt} {k : Nat} (d : DfIn K "law" st) (X : K.In h) (G : h.Ns mainGlobals mg) (hfa : mg "law" = some (.ref fa))
    (hb : ∀ (kV doc pm : Value) (an : Option Addr) (cdv ct : Value) (s : Shared) (u : Value), BindsTo s (PySem.W.fnOf "law" "law" (defArgs st) (defBody st) (defScope st) .none kV doc pm an cdv ct) ⟨[u], []⟩ [("_law_script", u)])
    (ok : ∀ (base : Heap) (fd : FuncData), Fun K "law" "law" st fa fd -> FnOk l.prog w K mg base CX0 k fa fd ["_law_script"] (spTop K)) :
    ∃ fd : FuncData, (∀ (s : Shared) (u : Value), BindsTo s fd ⟨[u], []⟩ [("_law_script", u)]) /\ ∀ base : Heap, K.In base -> base.Ns mainGlobals mg -> FnOk l.prog w K mg base CX0 k fa fd ["_law_script"] (spTop K) := by
  obtain ⟨fl, al, oc, od, kV, doc, pm, an, cdv, ct, osl, lk, cc, kk⟩ := d
  have e : fl = fa := by
    have := PySem.W.mg_of X G al
    rw [hfa] at this
    injection this with this
    injection this with this
    exact this.symm
  subst e
  exact ⟨_, fun s v => hb _ _ _ _ _ _ s v, fun base _ _ => ok base _ (fun_mk (st := st) lk cc kk)⟩
theorem walk1 {l : PySem.W.OpenLaw} {q : Program} {loose : List Str} {XP : (Str -> Option Value) -> Heap -> Prop} {YP : World -> Heap -> Prop} {d : DefRec} {K : Params -> PySem.W.Frag} {k : Nat} (hn : l.most = some 63) (hr : Room k callerA) (hdf : d.params.defaults = []) (hnm : d.name = "law")
    (hY : ∀ (w : World) (h : Heap), YP w h -> (K w.params).In h)
    (F : ∀ (w : World) (mg : Str -> Option Value) (fa : Addr) (h : Heap), (K w.params).In h -> h.Ns mainGlobals mg -> mg "law" = some (.ref fa) -> ∃ fd : FuncData, (∀ (s : Shared) (u : Value), BindsTo s fd ⟨[u], []⟩ [("_law_script", u)]) /\ ∀ base : Heap, (K w.params).In base -> base.Ns mainGlobals mg -> FnOk l.prog w (K w.params) mg base CX0 k fa fd ["_law_script"] (spTop (K w.params))) :
    PySem.W.WalkO q loose XP YP l.row.toRowW d [] (fun f vs => PySem.call f vs) :=
  L2.walk_of (n := 63) (k := k) (x := "_law_script") (CX := fun _ => CX0) (sp := fun w => spTop (K w.params)) hn (by decide) hdf hr hY (fun w mg fa h X G hm => F w mg fa h X G (by rw [hnm] at hm; exact hm)) (fun _ _ a ns hl _ hS => ⟨a, ns, rfl, hS, hl, fun _ => rfl⟩) fun _ _ _ _ _ z => z
end L2
namespace L2
open PySem PySem.Spec PyProof.Rows
end L2
namespace L2
open PySem PySem.Spec PyProof.Rows
section
variable (P : Program) (w : World)
end
section
variable {P : Program} {w : World} {H H' : Hp} {h h' : Heap} {a : Addr} {o : HO}
end
section
variable {P : Program} {w : World} {H : Hp} {h h' : Heap} {x e : Addr} {o' : HO}
end
section
variable {fs fs' ex ex' : List Addr} {H H1 H2 : Hp} {h h1 h2 h' : Heap} {a x e : Addr} {o : HO}
end
end L2
namespace L2
open PySem PySem.Spec PyProof.Rows
section
variable {X : Cx} {pins : List (Addr × Obj)} {σ : List (Option V)} {H H' : Hp} {s : Shared} {h' : Heap}
end
end L2
namespace L2
open PySem PySem.Spec PyProof.Rows
section
variable {X : Cx}
variable {a b : Expr} {ta tb : TE} {pos : Pos}
variable {tA tB' : TT} {rest : List Expr}
end
end L2
namespace L2
open PySem PySem.Spec PyProof.Rows
section
variable {X : Cx} {pins : List (Addr × Obj)} {σ : St} {H : Hp} {s : Shared} {a : Addr} {xs ys : List V}
end
section
variable {X : Cx} {pins : List (Addr × Obj)} {σ : St} {H : Hp} {s : Shared} {E : Value -> Shared -> Prop}
end
section
variable {X : Cx} {st : Stmt} {rest : List Stmt} {t u : TS} {e : Expr} {te : TE} {pos : Pos}
end
section
variable {X : Cx} {pos : Pos}
end
section
variable {X : Cx} {pos : Pos}
end
end L2
namespace L2
open PySem PySem.Spec PyProof.Rows
section
variable {X : Cx} {tg : Expr}
end
end L2
namespace L2
open PySem PySem.Spec PyProof.Rows
section
variable {X : Cx} {a b c : Expr} {ta tb tc : TE} {pos : Pos}
end
section
variable {X : Cx} {a b c : Expr} {ta tb tc : TE} {pos : Pos}
end
end L2
namespace L2
open PySem PySem.Spec PyProof.Rows
section
variable {prog : Program} {w : World} {A : Around} {E : Value -> Shared -> Prop} {s : Shared} {K : PySem.W.Frag} {x dx C f : Addr} {mA : Str -> Option Value} {name : Str} {v : Value}
end
section
variable {P : Program} {w : World} {H H' : Hp} {h h' : Heap} {a C dx : Addr} {fs fs' : List (Str × V)}
end
section
variable {X : Cx} {pins : List (Addr × Obj)} {σ : St} {H : Hp} {s : Shared} {a C dx : Addr} {fs : List (Str × V)} {f : Str} {v : V} {A : Around} {E : Value -> Shared -> Prop}
end
section
variable {X : Cx} {o e value : Expr} {f : Str} {pos pos' tpos : Pos} {ta tv : TE}
end
section
variable {X : Cx} {pins : List (Addr × Obj)} {σ : St} {H : Hp} {s : Shared} {A : Around} {E : Value -> Shared -> Prop} {Q : Value -> Shared -> Prop} {c : Value} {b : Bool}
end
end L2
namespace L2
open PySem PySem.Spec PyProof.Rows
section
variable {X : Cx} {e : Expr} {es : List Expr} {te : TE} {t : TA} {pos : Pos}
end
section
variable {X : Cx} {pins : List (Addr × Obj)} {σ : St} {H : Hp} {s s' : Shared}
end
section
variable {X : Cx} {CX : CXT} {k : Nat} {f C : Addr} {fd : FuncData} {ps : List Str} {sp : Sp} {dvs : List V} {ds : List Value} {E : XK} {x m : Str} {p pos apos : Pos} {e o : Expr} {es : List Expr} {ta : TE} {t : TA}
end
section
variable {X : Cx} {CX : CXT} {k : Nat} {f C : Addr} {fd : FuncData} {ps ks : List Str} {sp : Sp} {E : XK} {x m : Str} {p pos apos kpos : Pos} {e o : Expr} {es : List Expr} {kws : List Keyword} {te ta : TE} {t tk : TA} {nm : Option Str}
variable {g : List Value -> List Value -> List Value} {gV : List V -> List V -> List V}
end
end L2
namespace L2
open PySem PySem.Spec PyProof.Rows
section
variable {X : Cx} {x : Str} {p pos : Pos} {e : Expr} {es : List Expr} {t : TA} {id T : String} {r : List V -> Hp -> VK -> Prop}
end
end L2
namespace L2
open PySem PySem.Spec PyProof.Rows
section
variable {κ : Type} [DecidableEq κ]
def valV (kvs : List (κ × V)) (k : κ) : Option V := (kvs.find? fun kv => decide (kv.1 = k)).map (·.2)
def putK (kvs : List (κ × V)) (k : κ) (v : V) : List (κ × V) :=
  if (kvs.any fun kv => decide (kv.1 = k)) = true then kvs.map (fun kv => if kv.1 = k then (kv.1, v) else kv) else kvs ++ [(k, v)]
def dropK (kvs : List (κ × V)) (k : κ) : List (κ × V) := kvs.filter fun kv => decide (kv.1 ≠ k)
theorem valV_pos {p : κ × V} {r : List (κ × V)} {k : κ} (e : p.1 = k) : valV (p :: r) k = some p.2 := by simp [valV, List.find?_cons, e]
theorem valV_neg {p : κ × V} {r : List (κ × V)} {k : κ} (e : ¬ p.1 = k) : valV (p :: r) k = valV r k := by simp [valV, List.find?_cons, e]
theorem valV_any (k : κ) : ∀ kvs : List (κ × V), (kvs.any fun kv => decide (kv.1 = k)) = (valV kvs k).isSome
  | [] => rfl
  | p :: r => by
    rw [List.any_cons]
    by_cases e : p.1 = k
    · simp only [valV_pos e, decide_eq_true e, Bool.true_or, Option.isSome_some]
    · rw [valV_neg e, decide_eq_false e, Bool.false_or]; exact valV_any k r
theorem length_putK (kvs : List (κ × V)) (k : κ) (v : V) : (putK kvs k v).length <= kvs.length + 1 := by
  unfold putK
  split
  · rw [List.length_map]; omega
  · rw [List.length_append, List.length_cons, List.length_nil]; omega
theorem putK_new {kvs : List (κ × V)} {k : κ} (v : V) (h : valV kvs k = none) : putK kvs k v = kvs ++ [(k, v)] := by
  unfold putK
  rw [valV_any, h]
  exact if_neg (by decide)
theorem RelO.isSome_eq {o : Option V} {u : Option Value} (r : RelO o u) : o.isSome = u.isSome := by
  cases o with
  | none => cases u with
    | none => rfl
    | some _ => exact (show False from r).elim
  | some _ => cases u with
    | none => exact (show False from r).elim
    | some _ => rfl
theorem RelO.getD {o : Option V} {u : Option Value} {d : V} {d' : Value} (r : RelO o u) (rd : RelV d d') : RelV (o.getD d) (u.getD d') := by
  cases o with
  | none => cases u with
    | none => exact rd
    | some _ => exact (show False from r).elim
  | some _ => cases u with
    | none => exact (show False from r).elim
    | some _ => exact r
theorem KV.val {kvs : List (κ × V)} {vs : List (κ × Value)} (r : KV kvs vs) (k : κ) : RelO (valV kvs k) (valueAt vs k) := by
  unfold KV at r
  induction r with
  | nil => exact True.intro
  | @cons p q ps qs h t ih =>
    obtain ⟨h1, h2⟩ := h
    by_cases e : p.1 = k
    · have e' : q.1 = k := h1.symm.trans e
      have b : valueAt (q :: qs) k = some q.2 := by simp [valueAt, List.find?_cons, e']
      rw [valV_pos e, b]; exact h2
    · have e' : ¬ q.1 = k := fun z => e (h1.trans z)
      have b : valueAt (q :: qs) k = valueAt qs k := by simp [valueAt, List.find?_cons, e']
      rw [valV_neg e, b]; exact ih
theorem KV.any {kvs : List (κ × V)} {vs : List (κ × Value)} (r : KV kvs vs) (k : κ) : (kvs.any fun kv => decide (kv.1 = k)) = vs.any fun kv => decide (kv.1 = k) := by
  unfold KV at r
  induction r with
  | nil => rfl
  | cons h t ih => rw [List.any_cons, List.any_cons, ih, h.1]
theorem KV.repl {kvs : List (κ × V)} {vs : List (κ × Value)} (r : KV kvs vs) (k : κ) {y : V} {u : Value} (ry : RelV y u) :
    KV (kvs.map fun kv => if kv.1 = k then (kv.1, y) else kv) (vs.map fun kv => if kv.1 = k then (kv.1, u) else kv) := by
  unfold KV at r ⊢
  induction r with
  | nil => exact .nil
  | @cons p q ps qs h t ih =>
    rw [List.map_cons, List.map_cons]
    refine .cons ?_ ih
    obtain ⟨h1, h2⟩ := h
    by_cases e : p.1 = k
    · rw [if_pos e, if_pos (h1.symm.trans e)]; exact ⟨h1, ry⟩
    · rw [if_neg e, if_neg (fun z => e (h1.trans z))]; exact ⟨h1, h2⟩
theorem KV.put {kvs : List (κ × V)} {vs : List (κ × Value)} (r : KV kvs vs) (k : κ) {y : V} {u : Value} (ry : RelV y u) : KV (putK kvs k y) (stored vs k u) := by
  unfold putK stored
  rw [r.any k]
  by_cases e : (vs.any fun kv => decide (kv.1 = k)) = true
  · rw [if_pos e, if_pos e]; exact r.repl k ry
  · rw [if_neg e, if_neg e]; exact Paired.snoc r ⟨rfl, ry⟩
theorem KV.drop {kvs : List (κ × V)} {vs : List (κ × Value)} (r : KV kvs vs) (k : κ) : KV (dropK kvs k) (without vs k) := by
  unfold KV at r ⊢
  unfold dropK without
  induction r with
  | nil => exact .nil
  | @cons p q ps qs h t ih =>
    obtain ⟨h1, h2⟩ := h
    rw [List.filter_cons, List.filter_cons]
    by_cases e : p.1 = k
    · have a : ¬ decide (p.1 ≠ k) = true := by simp [e]
      have b : ¬ decide (q.1 ≠ k) = true := by simp [h1.symm.trans e]
      rw [if_neg a, if_neg b]; exact ih
    · have e' : ¬ q.1 = k := fun z => e (h1.trans z)
      have a : decide (p.1 ≠ k) = true := by simp [e]
      have b : decide (q.1 ≠ k) = true := by simp [e']
      rw [if_pos a, if_pos b]; exact .cons ⟨h1, h2⟩ ih
theorem KV.keys {kvs : List (κ × V)} {vs : List (κ × Value)} (r : KV kvs vs) : kvs.map (·.1) = vs.map (·.1) := by
  unfold KV at r
  induction r with
  | nil => rfl
  | cons h t ih => rw [List.map_cons, List.map_cons, ih, h.1]
theorem KV.length {kvs : List (κ × V)} {vs : List (κ × Value)} (r : KV kvs vs) : kvs.length = vs.length := Paired.length r
end
theorem kV_is {P : Program} {w : World} {k : Key} {u : Value} (r : RelV (kV k) u) : (mixKind P w).is k u = true := by
  cases k with
  | inl i => obtain ⟨t, e⟩ := (show ∃ t, u = Value.int i t from r); subst e; exact mixKind_int P w i t
  | inr x => obtain ⟨t, e⟩ := (show ∃ t, u = Value.str x t from r); subst e; exact mixKind_str P w x t
theorem items_are {P : Program} {w : World} : ∀ {ks : List Key} {us : List Value}, Vals (ks.map kV) us -> ItemsAre (mixKind P w) ks us
  | [], _, r => by rw [List.map_nil] at r; cases r; exact .nil
  | k :: ks, _, r => by
    rw [List.map_cons] at r
    cases r with
    | cons h t => exact .cons (kV_is h) (items_are t)
abbrev KT (H : Hp) : List (List Key × V) -> List (List Key × Addr × Value) -> Prop := Paired fun p q => p.1 = q.1 /\ H q.2.1 = some (.tup (p.1.map kV)) /\ RelV p.2 q.2.2
theorem KT.val {H : Hp} {kvs : List (List Key × V)} {xs : List (List Key × Addr × Value)} (r : KT H kvs xs) (k : List Key) : RelO (valV kvs k) ((atKey xs k).map (·.2)) := by
  induction r with
  | nil => exact True.intro
  | @cons p q ps qs h t ih =>
    obtain ⟨h1, _, h2⟩ := h
    by_cases e : p.1 = k
    · have e' : q.1 = k := h1.symm.trans e
      have b : atKey (q :: qs) k = some q.2 := by simp [atKey, List.find?_cons, e']
      rw [valV_pos e, b]; exact h2
    · have e' : ¬ q.1 = k := fun z => e (h1.trans z)
      have b : atKey (q :: qs) k = atKey qs k := by simp [atKey, List.find?_cons, e']
      rw [valV_neg e, b]; exact ih
theorem KT.repl {H : Hp} {kvs : List (List Key × V)} {xs : List (List Key × Addr × Value)} (r : KT H kvs xs) (k : List Key) {y : V} {u : Value} (ry : RelV y u) :
    KT H (kvs.map fun kv => if kv.1 = k then (kv.1, y) else kv) (xs.map (putAt k u)) := by
  induction r with
  | nil => exact .nil
  | @cons p q ps qs h t ih =>
    rw [List.map_cons, List.map_cons]
    refine .cons ?_ ih
    obtain ⟨h1, h2, h3⟩ := h
    unfold putAt
    by_cases e : p.1 = k
    · rw [if_pos e, if_pos (h1.symm.trans e)]; exact ⟨h1, h2, ry⟩
    · rw [if_neg e, if_neg (fun z => e (h1.trans z))]; exact ⟨h1, h2, h3⟩
theorem KT.put {H : Hp} {kvs : List (List Key × V)} {xs : List (List Key × Addr × Value)} (r : KT H kvs xs) (k : List Key) {b : Addr} {y : V} {u : Value} (hb : H b = some (.tup (k.map kV))) (ry : RelV y u) :
    KT H (putK kvs k y) (storedH xs k b u) := by
  have e : (kvs.any fun kv => decide (kv.1 = k)) = (atKey xs k).isSome := by
    rw [valV_any, (r.val k).isSome_eq, Option.isSome_map]
  unfold putK storedH
  rw [e]
  by_cases q : (atKey xs k).isSome = true
  · rw [if_pos q, if_pos q]; exact r.repl k ry
  · rw [if_neg q, if_neg q]; exact Paired.snoc r ⟨rfl, hb, ry⟩
theorem KT.keeps {H H' : Hp} {kvs : List (List Key × V)} {xs : List (List Key × Addr × Value)} (r : KT H kvs xs) (ht : ∀ b ys, H b = some (.tup ys) -> H' b = some (.tup ys)) : KT H' kvs xs :=
  Paired.mapP r fun _ _ z => ⟨z.1, ht _ _ z.2.1, z.2.2⟩
section
variable {P : Program} {w : World} {H : Hp} {h : Heap} {a : Addr}
theorem rd_of {u : HO} (ok : HOk P w H h) (e : Rd H a u) : ObjOk P w H h a u := e.ok ok
theorem dk_rd {kvs : List (Key × V)} (ok : HOk P w H h) (e : Rd H a (.dK kvs)) : kvs.length <= sizeLine /\ (a == sysModules) = false /\ ∃ vs, KV kvs vs /\ h.DictOf (mixKind P w) a vs :=
  show ObjOk P w H h a (.dK kvs) from rd_of ok e
theorem dk_of {kvs : List (Key × V)} (ok : HOk P w H h) (e : H a = some (.dK kvs)) : kvs.length <= sizeLine /\ (a == sysModules) = false /\ ∃ vs, KV kvs vs /\ h.DictOf (mixKind P w) a vs := dk_rd ok (.inl e)
theorem key_of {ks : List Key} (ok : HOk P w H h) (e : H a = some (.tup (ks.map kV))) : (tupleKind (mixKind P w)).is h ks a := by
  obtain ⟨_, its, r, o, h1, h2, n, h3⟩ := (show ObjOk P w H h a (.tup (ks.map kV)) from ok a _ e)
  exact ⟨o, its.toArray, n, h1, h2, h3, by simpa using items_are r⟩
theorem dt_rd {kvs : List (List Key × V)} (ok : HOk P w H h) (e : Rd H a (.dT kvs)) : kvs.length <= sizeLine /\ (a == sysModules) = false /\
    ∃ xs, KT H kvs xs /\ h.DictOfH (tupleKind (mixKind P w)) a xs := by
  obtain ⟨z, y, xs, r, o, es, ep, h1, h2, h3, h4, h5⟩ := (show ObjOk P w H h a (.dT kvs) from rd_of ok e)
  refine ⟨z, y, xs, r, o, es, ep, h1, h2, h3, h4, fun x hx => ?_, h5⟩
  have all : ∀ {l : List (List Key × V)} {m : List (List Key × Addr × Value)}, KT H l m -> ∀ x ∈ m, (tupleKind (mixKind P w)).is h x.1 x.2.1 := by
    intro l m q
    induction q with
    | nil => intro x hx; exact nomatch hx
    | @cons p q ps qs hq t ih =>
      intro x hx
      rcases List.mem_cons.mp hx with e | hx
      · subst e
        exact key_of ok (by rw [<- hq.1]; exact hq.2.1)
      · exact ih x hx
  exact all r x hx
theorem dt_of {kvs : List (List Key × V)} (ok : HOk P w H h) (e : H a = some (.dT kvs)) : kvs.length <= sizeLine /\ (a == sysModules) = false /\
    ∃ xs, KT H kvs xs /\ h.DictOfH (tupleKind (mixKind P w)) a xs := dt_rd ok (.inl e)
end
def DGet (H : Hp) (a : Addr) (y : V) (r : Option V) : Prop :=
  (∃ kvs k, Rd H a (.dK kvs) /\ y = kV k /\ r = valV kvs k) \/ ∃ kvs k b, Rd H a (.dT kvs) /\ y = .ref b /\ H b = some (.tup (k.map kV)) /\ r = valV kvs k
def DPut (H : Hp) (a : Addr) (y v : V) (H' : Hp) : Prop :=
  (∃ kvs k, H a = some (.dK kvs) /\ y = kV k /\ kvs.length < sizeLine /\ H' = upd H a (.dK (putK kvs k v))) \/
  ∃ kvs k b, H a = some (.dT kvs) /\ y = .ref b /\ H b = some (.tup (k.map kV)) /\ kvs.length < sizeLine /\ H' = upd H a (.dT (putK kvs k v))
theorem DGet.k {H : Hp} {a : Addr} {kvs : List (Key × V)} {k : Key} (e : H a = some (.dK kvs)) : DGet H a (kV k) (valV kvs k) := .inl ⟨kvs, k, .inl e, rfl, rfl⟩
theorem DGet.t {H : Hp} {a b : Addr} {kvs : List (List Key × V)} {k : List Key} (e : H a = some (.dT kvs)) (eb : H b = some (.tup (k.map kV))) : DGet H a (.ref b) (valV kvs k) := .inr ⟨kvs, k, b, .inl e, rfl, eb, rfl⟩
theorem DPut.k {H : Hp} {a : Addr} {kvs : List (Key × V)} {k : Key} {v : V} (e : H a = some (.dK kvs)) (hl : kvs.length < sizeLine) : DPut H a (kV k) v (upd H a (.dK (putK kvs k v))) := .inl ⟨kvs, k, e, rfl, hl, rfl⟩
theorem DPut.t {H : Hp} {a b : Addr} {kvs : List (List Key × V)} {k : List Key} {v : V} (e : H a = some (.dT kvs)) (eb : H b = some (.tup (k.map kV))) (hl : kvs.length < sizeLine) :
    DPut H a (.ref b) v (upd H a (.dT (putK kvs k v))) := .inr ⟨kvs, k, b, e, rfl, eb, hl, rfl⟩
section
variable {X : Cx} {pins : List (Addr × Obj)} {σ : St} {H : Hp} {s : Shared} {a : Addr} {y v : V} {u r : Value} {o : Option V} {A : Around} {E : Value -> Shared -> Prop}
theorem Inv.big (I : Inv X pins σ H s) : sysModules < s.heap.objs.size := by
  have h : mainGlobals < s.heap.objs.size := (I.mod.glob.keeps I.bk).lt
  exact Nat.lt_trans (by decide) h
theorem d_getItem {Q : Value -> Shared -> Prop} (hu : A.units + 1 < cLine) (I : Inv X pins σ H s) (g : DGet H a y (some v)) (ry : RelV y u) (h : ∀ w' s', Inv X pins σ H s' -> RelV v w' -> Q w' s') :
    wpAny (model X.prog X.w) A (getItem (.ref a) u) Q E s := by
  rcases g with ⟨kvs, k, e, ey, l⟩ | ⟨kvs, k, b, e, ey, eb, l⟩
  · subst ey
    obtain ⟨z, hd, vs, rel, dd⟩ := dk_rd I.hok e
    obtain ⟨w', hw, rw'⟩ := RelO.some_of (v := v) (o := valueAt vs k) (by rw [l]; exact rel.val k)
    exact wpAny_getItem_of (kV_is ry) dd.mapOf hw (h w' _ (I.tok _) rw')
  · subst ey
    cases (show u = Value.ref b from ry)
    obtain ⟨z, hd, xs, rel, dd⟩ := dt_rd I.hok e
    obtain ⟨w', hw, rw'⟩ := RelO.some_of (v := v) (o := (atKey xs k).map (·.2)) (by rw [l]; exact rel.val k)
    obtain ⟨p, hp, hp2⟩ := Option.map_eq_some_iff.mp hw
    refine wpAny_getItem_heap (tupleKind_room_in1 hu) (key_of I.hok eb) dd hp ?_
    rw [hp2]
    exact h w' _ (I.tok _) rw'
theorem d_in {Q : Value -> Shared -> Prop} (hu : A.units + 1 < cLine) (I : Inv X pins σ H s) (g : DGet H a y o) (ry : RelV y u) (h : ∀ s', Inv X pins σ H s' -> Q (.bool o.isSome) s') :
    wpAny (model X.prog X.w) A (compareOp .In u (.ref a)) Q E s := by
  rcases g with ⟨kvs, k, e, ey, l⟩ | ⟨kvs, k, b, e, ey, eb, l⟩
  · subst ey
    obtain ⟨z, hd, vs, rel, dd⟩ := dk_rd I.hok e
    refine wpAny_in_of (kV_is ry) hd dd.mapOf ?_
    rw [<- (rel.val k).isSome_eq, <- l]
    exact h _ (I.tok _)
  · subst ey
    cases (show u = Value.ref b from ry)
    obtain ⟨z, hd, xs, rel, dd⟩ := dt_rd I.hok e
    refine wpAny_in_heap (tupleKind_room_in1 hu) (key_of I.hok eb) hd dd ?_
    have q := (rel.val k).isSome_eq
    rw [Option.isSome_map] at q
    rw [<- q, <- l]
    exact h _ (I.tok _)
theorem d_notIn {Q : Value -> Shared -> Prop} (hu : A.units + 1 < cLine) (I : Inv X pins σ H s) (g : DGet H a y o) (ry : RelV y u) (h : ∀ s', Inv X pins σ H s' -> Q (.bool (!o.isSome)) s') :
    wpAny (model X.prog X.w) A (compareOp .NotIn u (.ref a)) Q E s := by
  rcases g with ⟨kvs, k, e, ey, l⟩ | ⟨kvs, k, b, e, ey, eb, l⟩
  · subst ey
    obtain ⟨z, hd, vs, rel, dd⟩ := dk_rd I.hok e
    refine wpAny_notIn_of (kV_is ry) hd dd.mapOf ?_
    rw [<- (rel.val k).isSome_eq, <- l]
    exact h _ (I.tok _)
  · subst ey
    cases (show u = Value.ref b from ry)
    obtain ⟨z, hd, xs, rel, dd⟩ := dt_rd I.hok e
    refine wpAny_notIn_heap (tupleKind_room_in1 hu) (key_of I.hok eb) hd dd ?_
    have q := (rel.val k).isSome_eq
    rw [Option.isSome_map] at q
    rw [<- q, <- l]
    exact h _ (I.tok _)
theorem d_write {h' : Heap} {t' : Nat} {ob : HO} (I : Inv X pins σ H s) (mu : Mut (H a)) (hs : Heap.SameBut a s.heap h') (he : ∃ q, h'.get? a = some q) (new : ObjOk X.prog X.w (upd H a ob) h' a ob) :
    Inv X pins σ (upd H a ob) { s with heap := h', toks := t' } :=
  I.write (x := a) (e := a) mu (.inl rfl) (fun b q hb z => (hs.2 b hb).trans z) he new
theorem dk_new {P : Program} {w : World} {H' : Hp} {h' : Heap} {kvs : List (Key × V)} {vs : List (Key × Value)} (z : kvs.length <= sizeLine) (hd : (a == sysModules) = false) (rel : KV kvs vs) (dd : h'.DictOf (mixKind P w) a vs) :
    ObjOk P w H' h' a (.dK kvs) := ⟨z, hd, vs, rel, dd⟩
theorem d_setItem {H' : Hp} {Q : Unit -> Shared -> Prop} (hu : A.units + 1 < cLine) (I : Inv X pins σ H s) (g : DPut H a y v H') (ry : RelV y u) (rv : RelV v r) (h : ∀ s', Inv X pins σ H' s' -> Q () s') :
    wpAny (model X.prog X.w) A (setItem (.ref a) u r) Q E s := by
  rcases g with ⟨kvs, k, e, ey, l, eH⟩ | ⟨kvs, k, b, e, ey, eb, l, eH⟩
  · subst ey eH
    obtain ⟨z, hd, vs, rel, dd⟩ := dk_of I.hok e
    have hz : vs.length <= sizeLine := by rw [<- rel.length]; exact z
    have hl : (putK kvs k v).length <= sizeLine := by have := length_putK kvs k v; omega
    refine wpAny_setItem_pairs (hsz := hz) (kV_is ry) dd fun h' dd' hs => h _ ?_
    have he : ∃ q, h'.get? a = some q := let ⟨q, _, _, hq, _⟩ := dd'; ⟨q, hq⟩
    exact d_write I (by rw [e]; exact True.intro) hs he (dk_new hl hd (rel.put k rv) dd')
  · subst ey eH
    cases (show u = Value.ref b from ry)
    obtain ⟨z, hd, xs, rel, dd⟩ := dt_of I.hok e
    have hz : xs.length <= sizeLine := by rw [<- Paired.length rel]; exact z
    have hl : (putK kvs k v).length <= sizeLine := by have := length_putK kvs k v; omega
    refine wpAny_setItem_heap (hsz := hz) (tupleKind_room_in1 hu) (key_of I.hok eb) dd fun h' dd' hs => h _ ?_
    obtain ⟨q, es, ep, hq, h2, h3, h4, _, h5⟩ := dd'
    refine d_write I (by rw [e]; exact True.intro) hs ⟨q, hq⟩ ⟨hl, hd, _, (rel.put k eb rv).keeps fun c ys ec => ?_, q, es, ep, hq, h2, h3, h4, h5⟩
    rw [upd_ne (ne_of ec e (fun z => nomatch z))]
    exact ec
end
section
variable {X : Cx} {pins : List (Addr × Obj)} {σ : St} {H : Hp} {s : Shared} {a : Addr} {kvs : List (Key × V)} {k : Key} {u : Value} {A : Around} {E : Value -> Shared -> Prop}
end
def NoSl (i : Expr) : Prop := ∀ ov iv, subscripted i false ov iv = operate [ov, iv] (getItem ov iv)
theorem subD_of {prog : Program} {w : World} {A : Around} {E : Value -> Shared -> Prop} {s : Shared} {env : Env} {value slice : Expr} {pos : Pos} {T id : String} {Q : Value -> Shared -> Prop}
    (hl : typeLookup (.type T) "__getitem__" = pure (some (.builtin id))) (hs : NoSl slice)
    (h : wpAny (model prog w) A (eval value env) (fun o s₁ => wpAny (model prog w) A (eval slice env) (fun i s₂ => s₂.TypeIs o T /\ wpAny (model prog w) A (getItem o i) Q E s₂) E s₁) E s) :
    wpAny (model prog w) A (eval (.Subscript value slice pos) env) Q E s := by
  refine Subscript_ (wpAny_mono h (fun o s₁ h₁ => wpAny_mono h₁ (fun i s₂ h₂ => ?_) fun _ _ x => x) fun _ _ x => x)
  obtain ⟨hT, h₂⟩ := h₂
  unfold subscriptTail
  refine wpAny_bind ?_
  rw [getitemInPython_of_ne hT.not_modules]
  refine wpAny_bind (wpAny_specialOf hT hl ?_)
  have fin : wpAny (model prog w) A (subscripted slice false o i) (fun r s₃ => wpAny (model prog w) A (letTemporaryGo value o r >>= fun _ => pure r) Q E s₃) E s₂ := by
    rw [hs o i]
    exact wpAny_operating (wpAny_mono h₂ (fun r s₃ h₃ => wpAny_bind (wpAny_letTemporaryGo (wpAny_pure h₃))) fun _ _ x => x)
  first
    | exact wpAny_pure (wpAny_bind fin)
    | exact wpAny_bind (wpAny_pure (wpAny_bind fin))
    | exact wpAny_bind fin
theorem dict_typeIs {X : Cx} {pins : List (Addr × Obj)} {σ : St} {H : Hp} {s : Shared} {a : Addr} {y : V} {o : Option V} (I : Inv X pins σ H s) (g : DGet H a y o) : s.TypeIs (.ref a) "dict" := by
  rcases g with ⟨kvs, k, e, _, _⟩ | ⟨kvs, k, b, e, _, _, _⟩
  · obtain ⟨_, _, vs, _, dd⟩ := dk_rd I.hok e
    exact dd.typeIs
  · obtain ⟨_, _, xs, _, dd⟩ := dt_rd I.hok e
    exact dd.typeIs
def tDGet (td ty : TE) : TE := fun σ H Q => td σ H fun x H1 => ty σ H1 fun y H2 => ∃ a v, x = .ref a /\ DGet H2 a y (some v) /\ Q v H2
def tDIn (ty td : TE) : TE := fun σ H Q => ty σ H fun y H1 => td σ H1 fun x H2 => ∃ a o, x = .ref a /\ DGet H2 a y o /\ Q (.bl o.isSome) H2
def tDNotIn (ty td : TE) : TE := fun σ H Q => ty σ H fun y H1 => td σ H1 fun x H2 => ∃ a o, x = .ref a /\ DGet H2 a y o /\ Q (.bl (!o.isSome)) H2
def sDPut (td ty tv : TE) : TS := fun D σ H => tv σ H fun v H1 => td σ H1 fun x H2 => ty σ H2 fun y H3 => ∃ a H4, x = .ref a /\ DPut H3 a y v H4 /\ D.nx σ H4
section
variable {X : Cx} {o i e value : Expr} {pos pos' tpos : Pos} {td ty tv : TE}
theorem pe_dget (hu : X.A.units + 1 < cLine) (ho : PE X o td) (hi : PE X i ty) (hs : NoSl i) : PE X (.Subscript o i pos) (tDGet td ty) := by
  intro pins s σ H Q I h
  refine subD_of PySem.F.slot_dict_getitem.lookup hs (thn (ho pins s σ H _ I h) fun u s1 ⟨x, H1, I1, rx, q1⟩ => thn (hi pins s1 σ H1 _ I1 q1) fun iv s2 ⟨y, H2, I2, ry, a, v, ex, g, q2⟩ => ?_)
  subst ex
  obtain rfl : u = Value.ref a := rx
  exact ⟨dict_typeIs I2 g, d_getItem hu I2 g ry fun w' s3 I3 rw' => ⟨v, H2, I3, rw', q2⟩⟩
theorem pc_din (hu : X.A.units + 1 < cLine) (hi : PE X i ty) (ho : PE X o td) : PC X .In i o (tDIn ty td) := by
  intro pins s σ H Q I h
  refine thn (hi pins s σ H _ I h) fun iv s1 ⟨y, H1, I1, ry, q1⟩ => thn (ho pins s1 σ H1 _ I1 q1) fun u s2 ⟨x, H2, I2, rx, a, ov, ex, g, q2⟩ => ?_
  subst ex
  obtain rfl : u = Value.ref a := rx
  exact d_in hu I2 g ry fun s3 I3 => ⟨.bl ov.isSome, H2, I3, rfl, q2⟩
theorem pc_dnotin (hu : X.A.units + 1 < cLine) (hi : PE X i ty) (ho : PE X o td) : PC X .NotIn i o (tDNotIn ty td) := by
  intro pins s σ H Q I h
  refine thn (hi pins s σ H _ I h) fun iv s1 ⟨y, H1, I1, ry, q1⟩ => thn (ho pins s1 σ H1 _ I1 q1) fun u s2 ⟨x, H2, I2, rx, a, ov, ex, g, q2⟩ => ?_
  subst ex
  obtain rfl : u = Value.ref a := rx
  exact d_notIn hu I2 g ry fun s3 I3 => ⟨.bl (!ov.isSome), H2, I3, rfl, q2⟩
theorem ps_dput (hu : X.A.units + 1 < cLine) (ho : PE X o td) (hi : PE X i ty) (hv : PE X value tv) (hs : swapsWith value (some (.Subscript o i pos')) pos.line X.env = pure false) :
    PS X (.Assign [.Subscript o i pos'] value pos) (sDPut td ty tv) := by
  intro pins s σ H D I h
  refine wpAny_Assign_Subscript (thn (hv pins s σ H _ I h) fun r s1 ⟨v, H1, I1, rv, q1⟩ => thn (ho pins s1 σ H1 _ I1 q1) fun u s2 ⟨x, H2, I2, rx, q2⟩ => thn (hi pins s2 σ H2 _ I2 q2) fun iv s3 ⟨y, H3, I3, ry, a, H4, ex, g, q3⟩ => ?_) hs
  subst ex
  obtain rfl : u = Value.ref a := rx
  exact d_setItem hu I3 g ry rv fun s4 I4 => ⟨σ, H4, I4, q3⟩
end
theorem dk_empty {P : Program} {w : World} {H : Hp} (h : Heap) (hb : sysModules < h.objs.size) : ObjOk P w H (h.push { cls := .type "dict", data := .dict #[] }) h.objs.size (.dK []) :=
  ⟨Nat.zero_le _, beq_eq_false_iff_ne.mpr (Ne.symm (Nat.ne_of_lt hb)), [], .nil, Heap.DictOf.new h⟩
def tDNewK : TE := fun _ H Q => ∀ p, H p = none -> Q (.ref p) (upd H p (.dK []))
section
variable {X : Cx} {pos : Pos}
theorem pe_dnewK : PE X (.Dict [] [] pos) tDNewK := fun pins s σ H Q I h =>
  wpAny_Dict_empty ⟨.ref s.heap.objs.size, _, I.laid (a := s.heap.objs.size) (o := .dK []) (t' := s.toks) (fun _ _ q => Heap.get?_push_of_some _ q) (Nat.le_refl _) (dk_empty s.heap I.big), rfl, h _ (I.hok.fresh (Nat.le_refl _))⟩
end
structure M1 (X : Cx) (o : Expr) (m : Str) (apos : Pos) (e : Expr) (cpos : Pos) : Prop where
  base : attributeBase o m X.env (eval o X.env) = eval o X.env
  few : ((backTo cpos (starEach [e] X.env)).all (fun x => !x.1) && (backToKw cpos (keywordEach [] X.env)).all (fun x => x.1.isSome)
    && decide (([e] : List Expr).length + ([] : List Keyword).length + (if ([] : List Keyword).isEmpty then 0 else 1) < 30)) = true
  line : (apos.endLine == cpos.line) = true
  trees : backTo cpos (starEach [e] X.env) = [(false, eval e X.env)]
structure M2 (X : Cx) (o : Expr) (m : Str) (apos : Pos) (e f : Expr) (cpos : Pos) : Prop where
  base : attributeBase o m X.env (eval o X.env) = eval o X.env
  few : ((backTo cpos (starEach [e, f] X.env)).all (fun x => !x.1) && (backToKw cpos (keywordEach [] X.env)).all (fun x => x.1.isSome)
    && decide (([e, f] : List Expr).length + ([] : List Keyword).length + (if ([] : List Keyword).isEmpty then 0 else 1) < 30)) = true
  line : (apos.endLine == cpos.line) = true
  trees : backTo cpos (starEach [e, f] X.env) = [(false, eval e X.env), (false, eval f X.env)]
section
variable {X : Cx} {pins : List (Addr × Obj)} {σ : St} {H : Hp} {s : Shared} {a : Addr} {y d : V} {u r : Value} {o : Option V} {A : Around} {E : Value -> Shared -> Prop}
end
section
variable {X : Cx} {o e f : Expr} {apos cpos : Pos} {td ty tx : TE}
end
section
variable {X : Cx} {pins : List (Addr × Obj)} {σ : St} {H : Hp} {s : Shared} {a : Addr} {kvs : List (Key × V)} {A : Around} {E : Value -> Shared -> Prop}
end
section
variable {X : Cx} {pins : List (Addr × Obj)} {σ : St} {H : Hp} {s : Shared} {a : Addr} {y : V} {u : Value} {A : Around} {E : Value -> Shared -> Prop}
end
end L2
namespace Att
open PySem PySem.W PySem.Calls PyProof.Rows
section
variable {prog : Program} {w : World} {A : Around} {E : Value -> Shared -> Prop} {s : Shared} {K : Frag}
end
end Att
namespace L2
open PySem PySem.Spec PyProof.Rows
end L2
namespace L2
open PySem PySem.Spec PyProof.Rows
end L2
namespace L2
open PySem PySem.Spec PyProof.Rows
section
variable {P : Program} {w : World} {K : PySem.W.Frag} {mg : Str -> Option Value} {base : Heap}
end
section
variable {X : Cx}
end
section
variable {κ : Type} [DecidableEq κ]
end
end L2
namespace L2
open PySem PySem.Spec PyProof.Rows
section
variable {X : Cx} {pos : Pos}
def rIsB : R2 := fun x y H Q => ∃ b c, x = .bl b /\ y = .bl c /\ Q (.bl (decide (b = c))) H
theorem op_isB : OpR X (compareOp .Is) rIsB := by
  intro pins s σ H x y v u Q I rx ry h
  obtain ⟨b, c, rfl, rfl, q⟩ := h
  cases rx
  cases ry
  refine wpAny_is_plain rfl ⟨.bl (decide (b = c)), H, I, ?_, q⟩
  cases b <;> cases c <;> rfl
theorem jo_isB : jOp X (compareOp .Is) rIsB := ⟨op_isB⟩
theorem je_dnewK : jE X (.Dict [] [] pos) tDNewK := ⟨pe_dnewK⟩
end
theorem SqK.l {K : PySem.W.Frag} {H : Hp} {a : Addr} {xs : List V} (h : H a = some (.lst xs)) : SqK true K H a xs := SqL.of h
theorem SqK.t {K : PySem.W.Frag} {H : Hp} {a : Addr} {xs : List V} (h : H a = some (.tup xs)) : SqK false K H a xs := SqT.of h
end L2
namespace K11
open PySem
def sg (c : Nat) : Str := ⟨#[c]⟩
end K11
namespace K11
open PySem PySem.Spec PyProof.Rows Builtin Builtin.Str
abbrev cl (z : Str) : List Nat := z.cps.toList
theorem cl_len (z : Str) : (cl z).length = z.length := by simp [Str.length]
theorem cl_app (x y : Str) : cl (x ++ y) = cl x ++ cl y := by
  show (x.cps ++ y.cps).toList = _
  simp
end K11
namespace KD
open PySem L2
def top (i : Nat) : Stmt := PySem.Challenge.pw_reusewise_k25_deeds_looked_through.main.body.getD i (.Pass ⟨0, 0, 0, 0⟩)
abbrev iTwice : Stmt := inClass (top 3) 0
abbrev iUnknown : Stmt := inClass (top 4) 0
abbrev iMisfit : Stmt := inClass (top 5) 0
abbrev sSizes : Stmt := top 13
abbrev iKnown : Stmt := inClass (top 17) 0
abbrev sSound : Stmt := top 18
abbrev sThrough : Stmt := top 19
abbrev sBound : Stmt := top 20
abbrev sInsist : Stmt := top 21
abbrev sLooked : Stmt := top 22
abbrev sDeed : Stmt := top 23
abbrev sNumb : Stmt := top 24
abbrev sCellAt : Stmt := top 28
abbrev sStream : Stmt := top 29
abbrev sStem : Stmt := top 30
abbrev sNm : Stmt := top 31
abbrev sTold : Stmt := top 32
abbrev sBase : Stmt := top 33
abbrev sMeets : Stmt := top 34
abbrev sMany : Stmt := top 35
abbrev sUsed : Stmt := top 36
abbrev sLDeed : Stmt := top 37
abbrev sRows : Stmt := top 38
abbrev sDeedDue : Stmt := top 39
abbrev sRowsDue : Stmt := top 40
abbrev sBody : Stmt := top 41
abbrev sLaw : Stmt := top 42
end KD
namespace KD
open PySem L2 K11
theorem same_new {H : Hp} {p : Addr} (h : H p = none) (o : HO) : Same H (upd H p o) := fun b u q => by rw [upd_ne (ne_of_none q h)]; exact q
def LET : Str := "abcdefghijklmnopqrstuvwxyz"
theorem let_cl : cl LET = (List.range 26).map (97 + ·) := by decide +kernel
def lt (i : Nat) : Str := sg (97 + i)
theorem let_at {i : Nat} (h : i < 26) : atI LET.cps.toList (i : Int) = some (97 + i) := by
  refine atI_nat ?_
  show (cl LET)[i]? = _
  rw [let_cl, List.getElem?_map, List.getElem?_range h]
  rfl
theorem let_atI {m : Int} (h0 : 0 <= m) (h : m < 26) : atI LET.cps.toList m = some (97 + m.toNat) := by
  have e := let_at (i := m.toNat) (by omega)
  rw [Int.toNat_of_nonneg h0] at e
  exact e
theorem let_len : LET.length = 26 := by decide +kernel
def core (k : Nat) : Str := lt (k % 26) ++ ("z" : Str) ++ lt (k / 26 % 26)
def nm (st : Str) (k : Nat) : Str := if st = "" /\ k < 26 then lt k else if st.length % 2 = 0 then core k ++ st else st ++ core k
theorem cl_core (k : Nat) : cl (core k) = [97 + k % 26, 122, 97 + k / 26 % 26] := by
  unfold core
  rw [cl_app, cl_app]
  rfl
theorem nm_inj {st : Str} {j k : Nat} (hj : j < 676) (hk : k < 676) (h : nm st j = nm st k) : j = k := by
  have cinj : cl (core j) = cl (core k) -> j = k := fun e => by
    rw [cl_core, cl_core] at e
    injection e with e1 e2
    injection e2 with _ e3
    injection e3 with e3 _
    omega
  have hl : ∀ i : Nat, (cl (core i)).length = 3 := fun i => by rw [cl_core]; rfl
  unfold nm at h
  by_cases c1 : st = "" /\ j < 26
  · rw [if_pos c1] at h
    by_cases c2 : st = "" /\ k < 26
    · rw [if_pos c2] at h
      have e := congrArg cl h
      have e' : [97 + j] = [97 + k] := e
      injection e' with e' _
      omega
    · rw [if_neg c2] at h
      have e : (cl _).length = (cl _).length := congrArg (fun z => (cl z).length) h
      rw [show (cl (lt j)).length = 1 from rfl] at e
      split at e <;> rw [cl_app, List.length_append, hl] at e <;> omega
  · rw [if_neg c1] at h
    by_cases c2 : st = "" /\ k < 26
    · rw [if_pos c2] at h
      have e : (cl _).length = (cl _).length := congrArg (fun z => (cl z).length) h
      rw [show (cl (lt k)).length = 1 from rfl] at e
      split at e <;> rw [cl_app, List.length_append, hl] at e <;> omega
    · rw [if_neg c2] at h
      have e := congrArg cl h
      split at e
      · rw [cl_app, cl_app] at e
        exact cinj (List.append_inj_left e (by rw [hl, hl]))
      · rw [cl_app, cl_app] at e
        exact cinj (List.append_inj_right e rfl)
def pl (k : Nat) : Nat := 37 * k % 676
def spCellAt (K : PySem.W.Frag) : Sp := fun vs H Q _ => ∃ (a : Addr) (ns : List Int) (k : Nat), vs = [.ref a, .int (k : Nat)] /\ SqL K H a (ns.map V.int) /\ ∀ c : Int, Q (.int c) H
def spStem : Sp := fun vs H Q _ => ∃ c : Int, vs = [.int c] /\ ∀ z : Str, z.length <= 9 -> Q (.str z) H
def spNm : Sp := fun vs H Q _ => ∃ (z : Str) (k : Nat), vs = [.str z, .int (k : Nat)] /\ z.length <= 9 /\ k < 676 /\ Q (.str (nm z k)) H
section
variable {P : Program} {w : World} {K : PySem.W.Frag} {mg : Str -> Option Value} {base : Heap} {f : Addr} {fd : FuncData}
theorem scCellAt : FnScope ["_law_script", "_law_k"] ["_law_script", "_law_k"] (defScope sCellAt) := ⟨rfl, rfl, rfl, by decide +kernel, rfl, by decide +kernel, by decide +kernel⟩
theorem ok_cellat (F : Fun K "_law_cell_at" "_law_cell_at" sCellAt f fd) (m_len : mg "len" = none) : FnOk P w K mg base CX0 1 f fd ["_law_script", "_law_k"] (spCellAt K) := by
  refine F.by scCellAt (fun vs H Q E h => ?_) (fun cdv A outer s H vs Q E hr h => ?_)
  · obtain ⟨a, ns, k, rfl, _⟩ := h
    rfl
  obtain ⟨a, ns, k, rfl, hS, q⟩ := h
  refine ⟨_,
    (jss_cons (js_if (jt_cmpR jo_lt (jv 1) (je_fnB jc_len_seq rfl m_len PySem.boot_len (ja_c (jv 0) ja_nil)) (nomark _))
      (jss_one (js_ret (je_ix jx_list (jv 0) (jv 1) (fun _ _ => rfl)))) jss_nil)
    (jss_one (js_ret je_int))), ?_⟩
  refine ⟨_, rfl, _, rfl, _, _, rfl, .inl hS, _, _, rfl, rfl, _, rfl, ?_⟩
  refine ite2 (fun c => ?_) (fun _ => q 0)
  rw [decide_eq_true_eq, List.length_map] at c
  have hk : k < ns.length := by omega
  have hx : (ns.map V.int)[k]? = some (.int ns[k]) := by rw [List.getElem?_map, List.getElem?_eq_getElem hk]; rfl
  exact ⟨_, rfl, _, rfl, a, _, _, _, rfl, rfl, hS, atI_nat hx, q _⟩
theorem scStem : FnScope ["_law_cell", "_law_letters", "_law_word", "_law_number", "_law_k"] ["_law_cell"] (defScope sStem) := ⟨rfl, rfl, rfl, by decide +kernel, rfl, by decide +kernel, by decide +kernel⟩
theorem ok_stem (F : Fun K "_law_stem" "_law_stem" sStem f fd) (m_range : mg "range" = none) : FnOk P w K mg base CX0 1 f fd ["_law_cell"] spStem := by
  refine F.by scStem (fun vs H Q E h => ?_) (fun cdv A outer s H vs Q E hr h => ?_)
  · obtain ⟨c, rfl, _⟩ := h
    rfl
  obtain ⟨c, rfl, q⟩ := h
  refine ⟨_,
    (jss_cons (js_set (i := 1) scStem.nd rfl (Or.inl rfl) je_str)
    (jss_cons (js_set (i := 2) scStem.nd rfl (Or.inl rfl) je_str)
    (jss_cons (js_set (i := 3) scStem.nd rfl (Or.inl rfl) (je_op jo_mod (je_op jo_fdiv (jv 0) je_int) (je_op jo_pow je_int je_int)))
    (jss_cons (js_for PassesOwn.never rfl (ji_range1 rfl m_range (ja_c (je_op jo_mod (jv 0) je_int) ja_nil)) (jg_name (i := 4) scStem.nd rfl (Or.inl rfl))
      (jss_cons (js_set (i := 2) scStem.nd rfl (Or.inl rfl) (je_op jo_add_str (jv 2) (je_ix jx_str (jv 1) (je_op jo_mod (jv 3) je_int) (fun _ _ => rfl))))
      (jss_one (js_set (i := 3) scStem.nd rfl (Or.inl rfl) (je_op jo_fdiv (jv 3) je_int)))))
    (jss_one (js_ret (jv 2))))))), ?_⟩
  have sl := line0
  have b0 := Int.emod_nonneg c (show (10 : Int) ≠ 0 by decide)
  have b1 := Int.emod_lt_of_pos c (show (0 : Int) < 10 by decide)
  refine ⟨_, rfl, _, _, rfl, rfl, ⟨by decide, by decide⟩, _, _, rfl, rfl, ⟨by decide, by decide, by decide⟩, _, _, rfl, rfl, (by show (0 : Int) < _; decide), ?_⟩
  refine ⟨_, rfl, _, _, rfl, rfl, (by show (0 : Int) < _; decide), _, rfl, by omega, by omega, for_range (n := (c % 10).toNat) (fun i σ H' => H' = H /\ ∃ (z : Str) (n : Int) (x : Option V), σ = [some (.int c), some (.str LET), some (.str z), some (.int n), x] /\ z.length = i) ⟨rfl, "", _, none, rfl, rfl⟩ ?_ ?_⟩
  · rintro i σ H1 hi ⟨rfl, z, n, x, rfl, hz⟩
    have c0 := Int.emod_nonneg n (show (26 : Int) ≠ 0 by decide)
    have c1 := Int.emod_lt_of_pos n (show (0 : Int) < 26 by decide)
    refine ⟨_, rfl, _, rfl, _, rfl, _, _, rfl, rfl, (by show (0 : Int) < _; decide), LET, _, _, rfl, rfl, by rw [let_len]; decide, let_atI c0 c1, _, _, rfl, rfl, ?_, ?_⟩
    · show z.length + 1 <= sizeLine
      omega
    refine ⟨_, rfl, _, _, rfl, rfl, ⟨by decide, by decide⟩, rfl, _, _, _, rfl, ?_⟩
    rw [<- cl_len, cl_app, List.length_append, cl_len, hz]
    rfl
  · rintro σ H1 ⟨rfl, z, n, x, rfl, hz⟩
    exact ⟨_, rfl, q z (by omega)⟩
theorem scNm : FnScope ["_law_stem_here", "_law_k", "_law_letters", "_law_core"] ["_law_stem_here", "_law_k"] (defScope sNm) := ⟨rfl, rfl, rfl, by decide +kernel, rfl, by decide +kernel, by decide +kernel⟩
theorem ok_nm (F : Fun K "_law_name" "_law_name" sNm f fd) (m_len : mg "len" = none) : FnOk P w K mg base CX0 1 f fd ["_law_stem_here", "_law_k"] spNm := by
  refine F.by scNm (fun vs H Q E h => ?_) (fun cdv A outer s H vs Q E hr h => ?_)
  · obtain ⟨z, k, rfl, _⟩ := h
    rfl
  obtain ⟨z, k, rfl, hz, hk, q⟩ := h
  refine ⟨_,
    (jss_cons (js_set (i := 2) scNm.nd rfl (Or.inl rfl) je_str)
    (jss_cons (js_set (i := 3) scNm.nd rfl (Or.inl rfl) (je_op jo_add_str (je_op jo_add_str (je_ix jx_str (jv 2) (je_op jo_mod (jv 1) je_int) (fun _ _ => rfl)) je_str) (je_ix jx_str (jv 2) (je_op jo_mod (je_op jo_fdiv (jv 1) je_int) je_int) (fun _ _ => rfl))))
    (jss_cons (js_if (jW.pt (jw_and (jt_cmpR jo_eq (jv 0) je_str (nomark _)) (jw_and1 (jt_cmpR jo_lt (jv 1) je_int (nomark _)))))
      (jss_one (js_ret (je_ix jx_str (jv 2) (jv 1) (fun _ _ => rfl)))) jss_nil)
    (jss_cons (js_if (jt_cmpR jo_eq (je_op jo_mod (je_fnB jc_len_str rfl m_len PySem.boot_len (ja_c (jv 0) ja_nil)) je_int) je_int (nomark _))
      (jss_one (js_ret (je_op jo_add_str (jv 3) (jv 0)))) jss_nil)
    (jss_one (js_ret (je_op jo_add_str (jv 0) (jv 3)))))))), ?_⟩
  have sl := line0
  have e1 : ((k : Nat) : Int) % 26 = ((k % 26 : Nat) : Int) := by omega
  have e2 : ((k : Nat) : Int) / 26 % 26 = ((k / 26 % 26 : Nat) : Int) := by omega
  have cl3 : (core k).length = 3 := by rw [<- cl_len, cl_core]; rfl
  have ec : (⟨#[97 + (((k : Nat) : Int) % 26).toNat]⟩ : Str) ++ ("z" : Str) ++ (⟨#[97 + (((k : Nat) : Int) / 26 % 26).toNat]⟩ : Str) = core k := by
    rw [e1, e2]
    rfl
  suffices rest : ∀ c3 : Str, c3 = core k -> (tSeq _ _ : TS) { nx := fun _ H' => Q .non H', rt := Q } [some (.str z), some (.int (k : Nat)), some (.str LET), some (.str c3)] H by
    exact ⟨_, rfl, _, rfl, _, _, rfl, rfl, (by show (0 : Int) < _; decide), LET, _, _, rfl, rfl, by rw [let_len]; decide, let_atI (by omega) (by omega), _, _, rfl, rfl, by show 1 + 1 <= sizeLine; decide, _, rfl, _, rfl, _, _, rfl, rfl, ⟨by decide, by decide⟩, _, _, rfl, rfl, (by show (0 : Int) < _; decide), LET, _, _, rfl, rfl, by rw [let_len]; decide, let_atI (by omega) (by omega), _, _, rfl, rfl, by show 2 + 1 <= sizeLine; decide, rest _ ec⟩
  rintro _ rfl
  suffices tail : ¬ (z = "" /\ k < 26) -> (tSeq _ _ : TS) { nx := fun _ H' => Q .non H', rt := Q } [some (.str z), some (.int (k : Nat)), some (.str LET), some (.str (core k))] H by
    refine ⟨_, rfl, rfl, _, rfl, ?_⟩
    refine ite2 (fun c => ?_) (fun c => ?_)
    · rw [decide_eq_true_eq] at c
      injection c with c
      refine ⟨_, rfl, _, _, rfl, rfl, _, rfl, ?_⟩
      refine ite2 (fun c2 => ?_) (fun c2 => ?_)
      · rw [decide_eq_true_eq] at c2
        unfold nm at q
        rw [if_pos ⟨c, by omega⟩] at q
        exact ⟨_, rfl, _, rfl, LET, _, _, rfl, rfl, by rw [let_len]; decide, let_at (by omega), q⟩
      · rw [decide_eq_true_eq] at c2
        exact tail (fun e => c2 (by omega))
    · rw [decide_eq_true_eq] at c
      exact iteF (tail (fun e => c (by rw [e.1])))
  intro hn
  unfold nm at q
  rw [if_neg hn] at q
  refine ⟨_, rfl, z, rfl, by omega, _, _, rfl, rfl, (by show (0 : Int) < _; decide), rfl, _, rfl, ?_⟩
  refine ite2 (fun c => ?_) (fun c => ?_)
  · rw [decide_eq_true_eq] at c
    injection c with c
    rw [if_pos (by omega)] at q
    exact ⟨_, rfl, _, rfl, _, _, rfl, rfl, by omega, q⟩
  · rw [decide_eq_true_eq] at c
    have c' : ¬ z.length % 2 = 0 := fun e => c (show V.int (((z.length : Nat) : Int) % 2) = V.int 0 by rw [show ((z.length : Nat) : Int) % 2 = 0 by omega])
    rw [if_neg c'] at q
    exact ⟨_, rfl, _, rfl, _, _, rfl, rfl, by omega, q⟩
end
end KD
namespace L2
open PySem
end L2
theorem L2.nxt {D : L2.Ends} {σ : L2.St} {H : L2.Hp} (h : D.nx σ H) : L2.tNext D σ H := h
namespace KD
open PySem L2 K11
inductive Tps (H : Hp) : List (Str × Int) -> List Addr -> Prop
  | nil : Tps H [] []
  | cons {a : Str} {s : Int} {t : Addr} {l : List (Str × Int)} {ts : List Addr} : H t = some (.tup [.str a, .int s]) -> Tps H l ts -> Tps H ((a, s) :: l) (t :: ts)
def Row (H : Hp) (l : List (Str × Int)) (q : Addr) : Prop := ∃ ts, H q = some (.lst (ts.map V.ref)) /\ Tps H l ts
inductive Kds (H : Hp) : List (List (Str × Int)) -> List Addr -> Prop
  | nil : Kds H [] []
  | cons {k : List (Str × Int)} {p : Addr} {ks : List (List (Str × Int))} {ps : List Addr} : Row H k p -> Kds H ks ps -> Kds H (k :: ks) (p :: ps)
def Tups (H H' : Hp) : Prop := ∀ p xs, H p = some (.tup xs) -> H' p = some (.tup xs)
theorem Tps.keep {H H' : Hp} (t : Tups H H') {l : List (Str × Int)} {ts : List Addr} (h : Tps H l ts) : Tps H' l ts := by
  induction h with
  | nil => exact .nil
  | cons a _ ih => exact .cons (t _ _ a) ih
theorem Tps.app {H : Hp} {a b : List (Str × Int)} {p q : List Addr} (h : Tps H a p) (g : Tps H b q) : Tps H (a ++ b) (p ++ q) := by
  induction h with
  | nil => exact g
  | cons x _ ih => exact .cons x ih
theorem Tps.len {H : Hp} {l : List (Str × Int)} {ts : List Addr} (h : Tps H l ts) : l.length = ts.length := by
  induction h with
  | nil => rfl
  | cons _ _ ih => rw [List.length_cons, List.length_cons, ih]
theorem Tps.get {H : Hp} : ∀ {l : List (Str × Int)} {ts : List Addr} {i : Nat} {t : Addr}, Tps H l ts -> ts[i]? = some t -> ∃ a s, l[i]? = some (a, s) /\ H t = some (.tup [.str a, .int s])
  | _, _, _, _, .nil, e => by simp at e
  | _, _, 0, _, .cons a _, e => by
    simp at e
    subst e
    exact ⟨_, _, rfl, a⟩
  | _, _, i + 1, _, .cons _ b, e => by
    obtain ⟨a, s, h1, h2⟩ := Tps.get (i := i) b (by simpa using e)
    exact ⟨a, s, by simpa using h1, h2⟩
theorem Row.keep {H H' : Hp} (s : Same H H') {l : List (Str × Int)} {q : Addr} (h : Row H l q) : Row H' l q := by
  obtain ⟨ts, h1, h2⟩ := h
  exact ⟨ts, s _ _ h1, h2.keep fun p xs z => s _ _ z⟩
theorem Kds.keep {H H' : Hp} (s : Same H H') {ks : List (List (Str × Int))} {ps : List Addr} (h : Kds H ks ps) : Kds H' ks ps := by
  induction h with
  | nil => exact .nil
  | cons a _ ih => exact .cons (a.keep s) ih
theorem Kds.app {H : Hp} {a b : List (List (Str × Int))} {p q : List Addr} (h : Kds H a p) (g : Kds H b q) : Kds H (a ++ b) (p ++ q) := by
  induction h with
  | nil => exact g
  | cons x _ ih => exact .cons x ih
theorem Kds.len {H : Hp} {l : List (List (Str × Int))} {ts : List Addr} (h : Kds H l ts) : l.length = ts.length := by
  induction h with
  | nil => rfl
  | cons _ _ ih => rw [List.length_cons, List.length_cons, ih]
theorem Kds.get {H : Hp} : ∀ {l : List (List (Str × Int))} {ts : List Addr} {i : Nat} {t : Addr}, Kds H l ts -> ts[i]? = some t -> ∃ k, l[i]? = some k /\ Row H k t
  | _, _, _, _, .nil, e => by simp at e
  | _, _, 0, _, .cons a _, e => by
    simp at e
    subst e
    exact ⟨_, rfl, a⟩
  | _, _, i + 1, _, .cons _ b, e => by
    obtain ⟨k, h1, h2⟩ := Kds.get (i := i) b (by simpa using e)
    exact ⟨k, by simpa using h1, h2⟩
theorem Kds.off {H : Hp} {z : Addr} {o : HO} (hz : ∃ xs, H z = some (.lst xs)) {ks : List (List (Str × Int))} {ps : List Addr} (h : Kds H ks ps) (hn : z ∉ ps) : Kds (upd H z o) ks ps := by
  obtain ⟨xs, hz⟩ := hz
  have tp : Tups H (upd H z o) := fun p ys hp => by rw [upd_ne (ne_of hp hz (by intro e; cases e))]; exact hp
  induction h with
  | nil => exact .nil
  | @cons k p ks ps a _ ih =>
    obtain ⟨ts, h1, h2⟩ := a
    refine .cons ⟨ts, ?_, h2.keep tp⟩ (ih fun e => hn (List.mem_cons_of_mem _ e))
    rw [upd_ne (fun e => hn (by rw [e]; exact List.mem_cons_self))]
    exact h1
theorem Kds.mem {H : Hp} {ks : List (List (Str × Int))} {ps : List Addr} (h : Kds H ks ps) : ∀ p ∈ ps, ∃ xs, H p = some (.lst xs) := by
  induction h with
  | nil => intro p hp; cases hp
  | cons a _ ih =>
    intro q hq
    rcases List.mem_cons.mp hq with e | hq
    · rw [e]
      obtain ⟨ts, h1, _⟩ := a
      exact ⟨_, h1⟩
    · exact ih q hq
def tagsOf (ks : List (List (Str × Int))) : List Str := ks.flatten.map (·.1)
structure KOk (ns : List Int) (st : Str) (ks : List (List (Str × Int))) : Prop where
  tags : tagsOf ks = (List.range ns.length).map fun j => nm st (pl j)
  ne : ∀ k ∈ ks, k ≠ []
  size : ∀ p ∈ ks.flatten, 0 <= p.2 /\ p.2 <= 9
  few : ks.length <= ns.length
end KD
namespace L2
open PySem PySem.Spec PyProof.Rows
section
variable {X : Cx} {pos : Pos}
theorem jx_tupK (K : PySem.W.Frag) (h : X.K = K := by rfl) : jIx X (rIxT K) := h ▸ jx_tup
theorem jx_listK (K : PySem.W.Frag) (h : X.K = K := by rfl) : jIx X (rIxL K) := h ▸ jx_list
theorem jl_listK (K : PySem.W.Frag) (h : X.K = K := by rfl) : jSl X (rSlL K) := h ▸ jl_list
theorem jo_inK (K : PySem.W.Frag) (h : X.K = K := by rfl) : jOp X (compareOp .In) (rIn K false) := h ▸ jo_in_seq
theorem jg_tupK (K : PySem.W.Frag) {es : List Expr} {k : Nat} {gs : TGs} {n : Nat} (hc : X.calm = true) (g : jGs X es gs) (h : X.K = K := by rfl) (hn : (assignEach es X.env).length = n := by rfl) (hst : (assignEach es X.env).findIdx? (·.1) = none := by rfl) : jG X (.Tuple es k pos) (gTup K n gs) := h ▸ jg_tup hc g hn hst
theorem jc_len_seqK (K : PySem.W.Frag) (h : X.K = K := by rfl) : jCa X (.builtin "len") (fun xs H Q => ∃ p ys, xs = [.ref p] /\ (SqL K H p ys \/ SqT K H p ys) /\ Q (.int ys.length) H) := h ▸ jc_len_seq
theorem jc_tuple_ofK (K : PySem.W.Frag) (h : X.K = K := by rfl) : jCa X (.type "tuple") (fun xs H Q => ∃ p ys, xs = [.ref p] /\ ((SqL K H p ys /\ ∀ l, H l = none -> Q (.ref l) (upd H l (.tup ys))) \/ (SqT K H p ys /\ Q (.ref p) H))) := h ▸ jc_tuple_of
end
end L2
namespace L2
open PySem PySem.Spec PyProof.Rows
section
variable {X : Cx} {pins : List (Addr × Obj)} {σ : St} {H : Hp} {s : Shared} {h' : Heap}
end
section
variable {X : Cx}
abbrev Prs (H : Hp) : List (Key × V) -> List Addr -> Prop := Paired fun kv t => H t = some (.tup [kV kv.1, kv.2])
theorem js_dput {o i value : Expr} {td ty tv : TE} {pos pos' : Pos} {k : Nat} (hr : Room k X.A) (ho : jE X o td) (hi : jE X i ty) (hv : jE X value tv) (hs : swapsWith value (some (.Subscript o i pos')) pos.line X.env = pure false := by rfl) :
    jS X (.Assign [.Subscript o i pos'] value pos) (sDPut td ty tv) := ⟨ps_dput (by have := hr.units; omega) ho.out hi.out hv.out hs⟩
theorem prs_of {P : Program} {w : World} {H' : Hp} : ∀ {kvs : List (Key × V)} {ws : List (Key × Value)} {as : List Addr}, KV kvs ws -> as.length = ws.length -> (∀ (j : Nat) (a : Addr) (kv : Key × V), as[j]? = some a -> kvs[j]? = some kv -> H' a = some (.tup [kV kv.1, kv.2])) -> Prs H' kvs as
  | [], _, as, r, hl, _ => by
    cases r
    cases as with
    | nil => exact .nil
    | cons _ _ => simp at hl
  | kv :: kvs, _, as, r, hl, h => by
    cases r with
    | cons _ t =>
      cases as with
      | nil => simp at hl
      | cons a as => exact .cons (h 0 a kv rfl rfl) (prs_of (P := P) (w := w) t (by simpa using hl) fun j b kv h1 h2 => h (j + 1) b kv (by simpa using h1) (by simpa using h2))
theorem KV.get {kvs : List (Key × V)} {ws : List (Key × Value)} (r : KV kvs ws) {j : Nat} {k : Key} {x : Value} (h : ws[j]? = some (k, x)) : ∃ y, kvs[j]? = some (k, y) /\ RelV y x := by
  unfold KV at r
  induction r generalizing j with
  | nil => simp at h
  | @cons p q ps qs hh t ih =>
    cases j with
    | zero =>
      simp at h
      subst h
      obtain ⟨p1, p2⟩ := p
      have e : p1 = k := hh.1
      subst e
      exact ⟨p2, rfl, hh.2⟩
    | succ j =>
      obtain ⟨y, h1, h2⟩ := ih (j := j) (by simpa using h)
      exact ⟨y, by simpa using h1, h2⟩
end
end L2
namespace KD
open PySem L2 K11
theorem Tups.of {H H' : Hp} (s : Same H H') : Tups H H' := fun p xs h => s p _ h
def RowT (H : Hp) (l : List (Str × Int)) (q : Addr) : Prop := ∃ ts, H q = some (.tup (ts.map V.ref)) /\ Tps H l ts
inductive KdsT (H : Hp) : List (List (Str × Int)) -> List Addr -> Prop
  | nil : KdsT H [] []
  | cons {k : List (Str × Int)} {p : Addr} {ks : List (List (Str × Int))} {ps : List Addr} : RowT H k p -> KdsT H ks ps -> KdsT H (k :: ks) (p :: ps)
theorem KdsT.keep {H H' : Hp} (t : Tups H H') {ks : List (List (Str × Int))} {ps : List Addr} (h : KdsT H ks ps) : KdsT H' ks ps := by
  induction h with
  | nil => exact .nil
  | cons a _ ih =>
    obtain ⟨ts, h1, h2⟩ := a
    exact .cons ⟨ts, t _ _ h1, h2.keep t⟩ ih
theorem KdsT.app {H : Hp} {a b : List (List (Str × Int))} {p q : List Addr} (h : KdsT H a p) (g : KdsT H b q) : KdsT H (a ++ b) (p ++ q) := by
  induction h with
  | nil => exact g
  | cons x _ ih => exact .cons x ih
theorem KdsT.len {H : Hp} {l : List (List (Str × Int))} {ts : List Addr} (h : KdsT H l ts) : l.length = ts.length := by
  induction h with
  | nil => rfl
  | cons _ _ ih => rw [List.length_cons, List.length_cons, ih]
theorem KdsT.get {H : Hp} : ∀ {l : List (List (Str × Int))} {ts : List Addr} {i : Nat} {t : Addr}, KdsT H l ts -> ts[i]? = some t -> ∃ k, l[i]? = some k /\ RowT H k t
  | _, _, _, _, .nil, e => by simp at e
  | _, _, 0, _, .cons a _, e => by
    simp at e
    subst e
    exact ⟨_, rfl, a⟩
  | _, _, i + 1, _, .cons _ b, e => by
    obtain ⟨k, h1, h2⟩ := KdsT.get (i := i) b (by simpa using e)
    exact ⟨k, by simpa using h1, h2⟩
structure Few (ks : List (List (Str × Int))) : Prop where
  n : ks.length <= 1000
  k : ks.flatten.length <= 1000
  nd : (tagsOf ks).Nodup
def ents (l : List (Str × Int)) : List (Key × V) := l.map fun a => (.inr a.1, .int a.2)
theorem ents_app (a b : List (Str × Int)) : ents (a ++ b) = ents a ++ ents b := List.map_append
theorem ents_none : ∀ {l : List (Str × Int)} {t : Str}, t ∉ l.map (·.1) -> valV (ents l) (.inr t) = none
  | [], _, _ => rfl
  | a :: l, t, h => by
    rw [List.map_cons, List.mem_cons, not_or] at h
    show valV ((Sum.inr a.1, V.int a.2) :: ents l) (.inr t) = none
    rw [valV_neg (fun e => h.1 (Sum.inr.inj e).symm)]
    exact ents_none h.2
theorem take_snoc {α : Type} {l : List α} {i : Nat} {x : α} (h : l[i]? = some x) : l.take i ++ [x] = l.take (i + 1) := by
  rw [List.take_add_one, h]
  rfl
theorem fl_take {ks : List (List (Str × Int))} {i : Nat} {k : List (Str × Int)} (h : ks[i]? = some k) : (ks.take (i + 1)).flatten = (ks.take i).flatten ++ k := by
  rw [<- take_snoc h, List.flatten_append]
  simp
theorem fl_len {ks : List (List (Str × Int))} {i : Nat} {k : List (Str × Int)} (h : ks[i]? = some k) : (ks.take i).flatten.length + k.length <= ks.flatten.length := by
  have e : ks.flatten = (ks.take (i + 1)).flatten ++ (ks.drop (i + 1)).flatten := by rw [<- List.flatten_append, List.take_append_drop]
  rw [e, List.length_append, fl_take h, List.length_append]
  omega
theorem tag_new {ks : List (List (Str × Int))} {i j : Nat} {k : List (Str × Int)} {a : Str × Int} (hn : (tagsOf ks).Nodup) (h : ks[i]? = some k) (g : k[j]? = some a) : a.1 ∉ ((ks.take i).flatten ++ k.take j).map (·.1) := by
  have e : ks.flatten = ((ks.take i).flatten ++ k.take j ++ [a]) ++ (k.drop (j + 1) ++ (ks.drop (i + 1)).flatten) := by
    have e1 : ks.flatten = (ks.take (i + 1)).flatten ++ (ks.drop (i + 1)).flatten := by rw [<- List.flatten_append, List.take_append_drop]
    have ek : k = k.take j ++ [a] ++ k.drop (j + 1) := by rw [take_snoc g, List.take_append_drop]
    rw [e1, fl_take h]
    conv => lhs; rw [ek]
    simp only [List.append_assoc]
  unfold tagsOf at hn
  rw [e, List.map_append, List.map_append, List.append_assoc] at hn
  rw [List.nodup_append] at hn
  exact fun z => hn.2.2 a.1 z a.1 (by simp) rfl
def spSizes : Sp := fun vs H Q _ => ∃ (p : Addr) (qs : List Addr) (ks : List (List (Str × Int))), vs = [.ref p] /\ H p = some (.tup (qs.map V.ref)) /\ KdsT H ks qs /\ Few ks /\ ∀ (H' : Hp) (d : Addr), Same H H' -> H d = none -> H' d = some (.dK (ents ks.flatten)) -> Q (.ref d) H'
section
variable {P : Program} {w : World} {K : PySem.W.Frag} {mg : Str -> Option Value} {base : Heap} {f : Addr} {fd : FuncData}
theorem scSizes : FnScope ["kinds", "found", "kind", "tag", "size"] ["kinds"] (defScope sSizes) := ⟨rfl, rfl, rfl, by decide +kernel, rfl, by decide +kernel, by decide +kernel⟩
theorem ok_sizes (F : Fun K "sizes" "sizes" sSizes f fd) : FnOk P w K mg base CX0 1 f fd ["kinds"] spSizes := by
  refine F.by scSizes (fun vs H Q E h => ?_) (fun cdv A outer s H vs Q E hr h => ?_)
  · obtain ⟨p, qs, ks, rfl, _⟩ := h
    rfl
  obtain ⟨p, qs, ks, rfl, hp, hK, hF, q⟩ := h
  refine ⟨_,
    (jss_cons (js_set (i := 1) scSizes.nd rfl (Or.inl rfl) je_dnewK)
    (jss_cons (js_for PassesOwn.never rfl (ji_tup (jv 0)) (jg_name (i := 2) scSizes.nd rfl (Or.inl rfl))
      (jss_one (js_for PassesOwn.never rfl (ji_tup (jv 2)) (jg_tup rfl (jgs_cons (jg_name (i := 3) scSizes.nd rfl (Or.inl rfl)) (jgs_cons (jg_name (i := 4) scSizes.nd rfl (Or.inl rfl)) jgs_nil)))
        (jss_one (js_dput hr (jv 1) (jv 3) (jv 4))))))
    (jss_one (js_ret (jv 1))))), ?_⟩
  have sl := line0
  have hlen := hK.len
  intro d hd
  have s1 := same_new (o := .dK []) hd
  refine ⟨_, rfl, _, rfl, ⟨_, SqT.of (s1 _ _ hp)⟩, for_tup (xs := qs.map V.ref) (fun i σ H' => Same H H' /\ H' d = some (.dK (ents (ks.take i).flatten)) /\ ∃ x y z, σ = [some (.ref p), some (.ref d), x, y, z]) ⟨s1, upd_same, none, none, none, rfl⟩ (fun i σ H' _ h => SqT.of (h.1 _ _ hp)) ?_ ?_⟩
  · rintro i v σ H1 hv ⟨s1, hd1, x, y, z, rfl⟩
    rw [List.getElem?_map] at hv
    obtain ⟨qq, hq, rfl⟩ := Option.map_eq_some_iff.mp hv
    obtain ⟨k, hk, ts, hts, hT⟩ := hK.get hq
    have hl := fl_len hk
    have hkl := hF.k
    have htl := hT.len
    refine ⟨_, rfl, _, rfl, ⟨_, SqT.of (s1 _ _ hts)⟩, for_tup (xs := ts.map V.ref) (fun j σ H' => Same H H' /\ H' d = some (.dK (ents ((ks.take i).flatten ++ k.take j))) /\ ∃ y z, σ = [some (.ref p), some (.ref d), some (.ref qq), y, z]) ⟨s1, by rw [List.take_zero, List.append_nil]; exact hd1, _, _, rfl⟩ (fun i σ H' _ h => SqT.of (h.1 _ _ hts)) ?_ ?_⟩
    · rintro j v σ H2 hv ⟨s2, hd2, y, z, rfl⟩
      rw [List.getElem?_map] at hv
      obtain ⟨tt, ht, rfl⟩ := Option.map_eq_some_iff.mp hv
      obtain ⟨a, n, e1, e2⟩ := hT.get ht
      have hj : j < k.length := (List.getElem?_eq_some_iff.mp e1).1
      refine ⟨_, _, rfl, SqT.of (s2 _ _ e2), rfl, _, _, rfl, _, _, rfl, rfl, _, rfl, _, rfl, _, rfl, d, _, rfl, DPut.k (k := .inr a) hd2 ?_, s2.put hd, ?_, _, _, rfl⟩
      · unfold ents
        rw [List.length_map, List.length_append, List.length_take]
        omega
      · rw [upd_same, putK_new _ (ents_none (tag_new hF.nd hk e1)), <- take_snoc e1, <- List.append_assoc, ents_app (_ ++ _) [(a, n)]]
        rfl
    · rintro σ H2 ⟨s2, hd2, y, z, rfl⟩
      rw [List.length_map, <- htl, List.take_of_length_le (Nat.le_refl _), <- fl_take hk] at hd2
      exact ⟨s2, hd2, _, _, _, rfl⟩
  · rintro σ H1 ⟨s1, hd1, x, y, z, rfl⟩
    rw [List.length_map, <- hlen, List.take_of_length_le (Nat.le_refl _)] at hd1
    exact ⟨_, rfl, q _ d s1 hd hd1⟩
end
end KD
namespace L2
open PySem PySem.Spec PyProof.Rows
section
variable {X : Cx}
end
end L2
namespace L2
open PySem PySem.Spec PyProof.Rows
def BMn (mg : Str -> Option Value) (h : Heap) : Prop := ∃ bm ob, mg "__builtins__" = some (.ref bm) /\ bm ≠ builtinsNs /\ h.get? bm = some ob /\ ob.cls = .type "module" /\ ob.dict = some builtinsNs /\ ob.data = .plain
theorem BMn.at {mg : Str -> Option Value} {h : Heap} {P : Addr} {ps : Array Value} (B : BMn mg h) (g : h.Ns mainGlobals mg) (hP : h.get? P = some { cls := .none, data := .fields ps }) : h.BuiltinsAt mg P /\ mainGlobals ≠ P := by
  obtain ⟨bm, ob, b1, b2, b3, b4, b5, b6⟩ := B
  refine ⟨⟨bm, ob, b1, b2, fun q => ?_, fun q => ?_, b3, b4, b5, b6⟩, fun q => ?_⟩
  · obtain ⟨o, es, ep, e, hd, _⟩ := g
    rw [q, e] at b3; cases b3; rw [hd] at b6; cases b6
  · rw [q, hP] at b3; cases b3; cases b4
  · obtain ⟨o, es, ep, e, hd, _⟩ := g
    rw [q, hP] at e; cases e; cases hd
theorem BMn.keeps {mg : Str -> Option Value} {h h' : Heap} (B : BMn mg h) (k : ∀ b o, h.get? b = some o -> h'.get? b = some o) : BMn mg h' :=
  let ⟨bm, ob, b1, b2, b3, r⟩ := B; ⟨bm, ob, b1, b2, k _ _ b3, r⟩
end L2
namespace L2
open PySem PySem.Spec PyProof.Rows
structure CaD (P : Program) (w : World) (K : PySem.W.Frag) (mg : Str -> Option Value) (base : Heap) (CX : CXT) (k : Nat) (x : Str) (ps : List Str) (dvs : List V) (sp : Sp) : Prop where
  ex : ∃ f fd, FnOk P w K mg base CX k f fd ps sp /\ Binds K fd ps [] /\ (∃ ds, Binds K fd ps ds /\ Vals dvs ds) /\ PySem.W.keepIn K (.ref f) = true /\ mg x = some (.ref f)
section
variable {X : Cx} {CX : CXT} {k : Nat} {x : Str} {ps : List Str} {sp : Sp} {dvs : List V} {E : XK} {p pos : Pos} {e : Expr} {es : List Expr} {t : TA}
end
def DdIn (K : PySem.W.Frag) (x : Str) (st : Stmt) (c D : Addr) : Prop := ∃ f, PySem.W.nsIn K mainGlobals x = some (some (.ref f)) /\ ∃ (oc : Value) (od : Option Addr) (kV doc pm : Value) (an : Option Addr) (ct : Value) (osl : Array (Option Value)), K.lookup f = some ⟨oc, od, .func (PySem.W.fnOf x x (defArgs st) (defBody st) (defScope st) (.ref D) kV doc pm an (.ref c) ct), osl⟩ /\ PySem.W.codeIn K (.ref c) x = true /\ PySem.W.keepIn K (.ref f) = true
theorem DdIn.mk {K : PySem.W.Frag} {x : Str} {st : Stmt} {f c D : Addr} {oc : Value} {od : Option Addr} {kV doc pm : Value} {an : Option Addr} {ct : Value} {osl : Array (Option Value)} (a : PySem.W.nsIn K mainGlobals x = some (some (.ref f))) (l : K.lookup f = some ⟨oc, od, .func (PySem.W.fnOf x x (defArgs st) (defBody st) (defScope st) (.ref D) kV doc pm an (.ref c) ct), osl⟩) (cc : PySem.W.codeIn K (.ref c) x = true) (k : PySem.W.keepIn K (.ref f) = true) : DdIn K x st c D := ⟨f, a, oc, od, kV, doc, pm, an, ct, osl, l, cc, k⟩
structure FunD (K : PySem.W.Frag) (x : Str) (st : Stmt) (c D f : Addr) (fd : FuncData) : Prop where
  ex : ∃ (oc : Value) (od : Option Addr) (kV doc pm : Value) (an : Option Addr) (ct : Value) (osl : Array (Option Value)), fd = PySem.W.fnOf x x (defArgs st) (defBody st) (defScope st) (.ref D) kV doc pm an (.ref c) ct /\ K.lookup f = some ⟨oc, od, .func fd, osl⟩ /\ PySem.W.codeIn K (.ref c) x = true
theorem FunD.by {P : Program} {w : World} {K : PySem.W.Frag} {mg : Str -> Option Value} {base : Heap} {x : Str} {st : Stmt} {f c D : Addr} {fd : FuncData} {N ps : List Str} {k : Nat} {sp : Sp} (F : FunD K x st c D f fd) (S : FnScope N ps (defScope st)) (len : ∀ vs H Q E, sp vs H Q E -> vs.length = ps.length)
    (hbody : ∀ (A : Around) (outer : List Env) (s : Shared) (H : Hp) (vs : List V) (Q : VK) (E : XK), Room k (A.deeper (envOfC x (defScope st) s.heap.objs.size f (.ref c))) -> sp vs H Q E ->
      ∃ t, jSs (cxOf CX0 P w K mg base N x (defScope st) f (.ref c) A outer s H E).nox (defBody st) t /\ t { nx := fun _ H' => Q .non H', rt := Q } (start N vs) H) : FnOk P w K mg base CX0 (k + 1) f fd ps sp := by
  obtain ⟨oc, od, kV, doc, pm, an, ct, osl, rfl, lk, hcd⟩ := F.ex
  refine fn_of lk hcd S len fun A outer s H vs Q E hr hsp => ?_
  obtain ⟨t, h, q⟩ := hbody A outer s H vs Q E hr hsp
  exact ⟨t, h.out.nox, q⟩
def DtIn (K : PySem.W.Frag) (D : Addr) (i : Int) : Prop := ∃ (d : Option Addr) (t : Tok) (n : Nat) (sl : Array (Option Value)), K.lookup D = some ⟨.type "tuple", d, .seq #[.int i t] n, sl⟩
theorem DtIn.mk {K : PySem.W.Frag} {D : Addr} {i : Int} {d : Option Addr} {t : Tok} {n : Nat} {sl : Array (Option Value)} (a : K.lookup D = some ⟨.type "tuple", d, .seq #[.int i t] n, sl⟩) : DtIn K D i := ⟨d, t, n, sl, a⟩
theorem DdIn.ca {P : Program} {w : World} {K : PySem.W.Frag} {mg : Str -> Option Value} {base h : Heap} {k : Nat} {x : Str} {st : Stmt} {c D : Addr} {ps : List Str} {dvs : List V} {sp : Sp} (X : K.In h) (G : h.Ns mainGlobals mg) (d : DdIn K x st c D)
    (hb : ∀ (kV doc pm : Value) (an : Option Addr) (ct : Value), Binds K (PySem.W.fnOf x x (defArgs st) (defBody st) (defScope st) (.ref D) kV doc pm an (.ref c) ct) ps [])
    (hd : ∀ (kV doc pm : Value) (an : Option Addr) (ct : Value), ∃ ds, Binds K (PySem.W.fnOf x x (defArgs st) (defBody st) (defScope st) (.ref D) kV doc pm an (.ref c) ct) ps ds /\ Vals dvs ds)
    (ok : ∀ f fd, FunD K x st c D f fd -> FnOk P w K mg base CX0 k f fd ps sp) : CaD P w K mg base CX0 k x ps dvs sp := by
  obtain ⟨f, a, oc, od, kV, doc, pm, an, ct, osl, l, cc, kp⟩ := d
  exact ⟨f, _, ok f _ ⟨oc, od, kV, doc, pm, an, ct, osl, rfl, l, cc⟩, hb kV doc pm an ct, hd kV doc pm an ct, kp, PySem.W.mg_of X G a⟩
end L2
namespace L2
open PySem PySem.Spec PyProof.Rows
section
variable {prog : Program} {w : World} {A : Around} {E : Value -> Shared -> Prop}
end
inductive TyN (H : Hp) : V -> Bool -> Prop where
  | int (i : Int) : TyN H (.int i) false
  | str (z : Str) : TyN H (.str z) false
  | bl (b : Bool) : TyN H (.bl b) false
  | non : TyN H .non false
  | lst {a : Addr} {xs : List V} (e : H a = some (.lst xs)) : TyN H (.ref a) true
  | tup {a : Addr} {xs : List V} (e : H a = some (.tup xs)) : TyN H (.ref a) true
section
variable {X : Cx}
variable {CX : CXT} {k : Nat} {C : Addr} {ps : List Str} {sp : Sp} {E : XK} {x m : Str} {p pos apos : Pos} {e o : Expr} {es : List Expr} {ta : TE} {t : TA}
structure MeD (P : Program) (w : World) (K : PySem.W.Frag) (mg : Str -> Option Value) (base : Heap) (CX : CXT) (k : Nat) (C : Addr) (m : Str) (ps : List Str) (dvs : List V) (sp : Sp) : Prop where
  ex : ∃ f fd, FnOk P w K mg base CX k f fd ps sp /\ Binds K fd ps [] /\ (∃ ds, Binds K fd ps ds /\ Vals dvs ds) /\ Meth K C m f
theorem je_dget {o i : Expr} {td ty : TE} {pos : Pos} (hr : Room k X.A) (ho : jE X o td) (hi : jE X i ty) (hs : NoSl i := by intro _ _; rfl) : jE X (.Subscript o i pos) (tDGet td ty) := ⟨pe_dget (hu_of hr) ho.out hi.out hs⟩
end
section
variable {g : TG} {tt : TT} {te : TE} {Q : VK} {σ : St} {H : Hp}
end
structure FunM (K : PySem.W.Frag) (x qual : Str) (st : Stmt) (D f : Addr) (fd : FuncData) : Prop where
  ex : ∃ (oc : Value) (od : Option Addr) (kV doc pm : Value) (an : Option Addr) (cdv ct : Value) (osl : Array (Option Value)), fd = PySem.W.fnOf x qual (defArgs st) (defBody st) (defScope st) (.ref D) kV doc pm an cdv ct /\ K.lookup f = some ⟨oc, od, .func fd, osl⟩ /\ PySem.W.codeIn K cdv qual = true
theorem FunM.by {P : Program} {w : World} {K : PySem.W.Frag} {mg : Str -> Option Value} {base : Heap} {x qual : Str} {st : Stmt} {f D : Addr} {fd : FuncData} {N ps : List Str} {k : Nat} {sp : Sp} (F : FunM K x qual st D f fd) (S : FnScope N ps (defScope st)) (len : ∀ vs H Q E, sp vs H Q E -> vs.length = ps.length)
    (hbody : ∀ (cdv : Value) (A : Around) (outer : List Env) (s : Shared) (H : Hp) (vs : List V) (Q : VK) (E : XK), Room k (A.deeper (envOfC qual (defScope st) s.heap.objs.size f cdv)) -> sp vs H Q E ->
      ∃ t, jSs (cxOf CX0 P w K mg base N qual (defScope st) f cdv A outer s H E).nox (defBody st) t /\ t { nx := fun _ H' => Q .non H', rt := Q } (start N vs) H) : FnOk P w K mg base CX0 (k + 1) f fd ps sp := by
  obtain ⟨oc, od, kV, doc, pm, an, cdv, ct, osl, rfl, lk, hcd⟩ := F.ex
  refine fn_of lk hcd S len fun A outer s H vs Q E hr hsp => ?_
  obtain ⟨t, h, q⟩ := hbody cdv A outer s H vs Q E hr hsp
  exact ⟨t, h.out.nox, q⟩
def MdIn (K : PySem.W.Frag) (C : Addr) (x qual : Str) (st : Stmt) (D : Addr) : Prop := ∃ f, PySem.W.findIn K (.ref C) x = some (some (.ref f)) /\ PySem.W.isFn K (.ref f) = true /\ ∃ (oc : Value) (od : Option Addr) (kV doc pm : Value) (an : Option Addr) (cdv ct : Value) (osl : Array (Option Value)), K.lookup f = some ⟨oc, od, .func (PySem.W.fnOf x qual (defArgs st) (defBody st) (defScope st) (.ref D) kV doc pm an cdv ct), osl⟩ /\ PySem.W.codeIn K cdv qual = true /\ PySem.W.keepIn K (.ref f) = true
theorem MdIn.mk {K : PySem.W.Frag} {C : Addr} {x qual : Str} {st : Stmt} {f D : Addr} {oc : Value} {od : Option Addr} {kV doc pm : Value} {an : Option Addr} {cdv ct : Value} {osl : Array (Option Value)} (a : PySem.W.findIn K (.ref C) x = some (some (.ref f))) (l : K.lookup f = some ⟨oc, od, .func (PySem.W.fnOf x qual (defArgs st) (defBody st) (defScope st) (.ref D) kV doc pm an cdv ct), osl⟩) (c : PySem.W.codeIn K cdv qual = true) (k : PySem.W.keepIn K (.ref f) = true) (n : PySem.W.isFn K (.ref f) = true) : MdIn K C x qual st D := ⟨f, a, n, oc, od, kV, doc, pm, an, cdv, ct, osl, l, c, k⟩
def DnIn (K : PySem.W.Frag) (D : Addr) : Prop := ∃ (d : Option Addr) (n : Nat) (sl : Array (Option Value)), K.lookup D = some ⟨.type "tuple", d, .seq #[.none] n, sl⟩
theorem DnIn.mk {K : PySem.W.Frag} {D : Addr} {d : Option Addr} {n : Nat} {sl : Array (Option Value)} (a : K.lookup D = some ⟨.type "tuple", d, .seq #[.none] n, sl⟩) : DnIn K D := ⟨d, n, sl, a⟩
end L2
namespace L2
open PySem PySem.Spec PyProof.Rows
section
variable {X : Cx} {k : Nat} {o e f i : Expr} {td ty tx : TE} {apos cpos pos : Pos}
theorem jt_din (hr : Room k X.A) (hi : jE X i ty) (ho : jE X o td) (h1 : behindInMarks .In o = false := by rfl) : jT X (.Compare i [.In] [o] pos) (tB (tDIn ty td)) := ⟨pt_cmp (pc_din (hu_of hr) hi.out ho.out) (h1 := h1)⟩
theorem jt_dnotin (hr : Room k X.A) (hi : jE X i ty) (ho : jE X o td) (h1 : behindInMarks .NotIn o = false := by rfl) : jT X (.Compare i [.NotIn] [o] pos) (tB (tDNotIn ty td)) := ⟨pt_cmp (pc_dnotin (hu_of hr) hi.out ho.out) (h1 := h1)⟩
theorem jc_min2 (hc : X.calm = true) : jCa X (.builtin "min") (fun xs H Q => ∃ i j, xs = [.int i, .int j] /\ Q (.int (if j < i then j else i)) H) := ⟨call_min2 hc⟩
end
end L2
namespace L2
open PySem PySem.Spec PyProof.Rows
section
variable {X : Cx}
def rDictD : List V -> Hp -> VK -> Prop := fun xs H Q => ∃ d kvs, xs = [.ref d] /\ H d = some (.dK kvs) /\ ∀ l, H l = none -> Q (.ref l) (upd H l (.dK kvs))
theorem call_dict_dict : CallR X (.type "dict") rDictD := by
  intro pins s σ H xs us Q I r h
  obtain ⟨d, kvs, rfl, hd, q⟩ := h
  obtain ⟨u, rfl, rx⟩ := vals1 r
  cases rx
  obtain ⟨z, hs, ws, rel, dd⟩ := dk_of I.hok hd
  refine kt_call_dict (knd := mixKind X.prog X.w) hs dd (by rw [<- rel.length]; exact z) fun h' dn sb => ?_
  have hk : ∀ b o, s.heap.get? b = some o -> h'.get? b = some o := fun b o e => (sb.2 b (Nat.ne_of_lt (Heap.lt_size e))).trans (Heap.get?_push_of_some _ e)
  refine ⟨.ref s.heap.objs.size, _, I.laid (t' := s.toks) hk (Nat.le_refl _) (show ObjOk X.prog X.w _ h' _ (.dK kvs) from ⟨z, ?_, ws, rel, dn⟩), rfl, q _ (I.hok.fresh (Nat.le_refl _))⟩
  have := I.big
  exact beq_eq_false_iff_ne.mpr (fun e => by rw [e] at this; exact Nat.lt_irrefl _ this)
theorem jc_dict_dict : jCa X (.type "dict") rDictD := ⟨call_dict_dict⟩
end
end L2
namespace L2
open PySem PySem.Spec PyProof.Rows
abbrev Cx.plusP (X : Cx) (pins : List (Addr × Obj)) : Cx := { X with pn := X.pn ++ pins }
abbrev Cx.inTry (X : Cx) (pins : List (Addr × Obj)) (E : XK) : Cx := { X with pn := X.pn ++ pins, xe := fun u s' => ∃ pins' σ', Air (X.plusP pins) pins' σ' E u s' }
section
variable {X : Cx} {Ch : Addr} {x : Str} {np hpos tpos : Pos} {b0 : Stmt} {suite body : List Stmt} {th : Addr -> Obj -> TS} {tb : XK -> TS}
theorem Inv.toTry {pins : List (Addr × Obj)} {σ : St} {H : Hp} {s : Shared} {E : XK} (I : Inv X pins σ H s) : Inv (X.inTry pins E) [] σ H s :=
  ⟨⟨I.ok.mod, I.ok.kind, I.ok.glob, I.ok.blt, I.ok.above, I.ok.inj, I.ok.has, I.ok.cab, I.ok.hd, I.ok.frames, I.ok.stk, I.ok.exf, I.ok.bs, I.ok.bsz, I.ok.noex, I.ok.exfs, I.ok.funs, I.ok.frf⟩, I.os, I.bare, I.base, I.loc, I.cell, I.free, I.freeC, fun q hq => I.pin q (by simpa using hq), I.hok, I.len⟩
theorem Inv.ofTry {pins : List (Addr × Obj)} {σ : St} {H : Hp} {s : Shared} {E : XK} (ok : X.Ok) (I : Inv (X.inTry pins E) [] σ H s) : Inv X pins σ H s :=
  ⟨ok, I.os, I.bare, I.base, I.loc, I.cell, I.free, I.freeC, fun q hq => I.pin q (by simpa using hq), I.hok, I.len⟩
theorem Inv.ofPlus {pins pins' : List (Addr × Obj)} {σ : St} {H : Hp} {s : Shared} (ok : X.Ok) (I : Inv (X.plusP pins) pins' σ H s) : Inv X (pins ++ pins') σ H s :=
  ⟨ok, I.os, I.bare, I.base, I.loc, I.cell, I.free, I.freeC, fun q hq => I.pin q (by simpa using hq), I.hok, I.len⟩
theorem Inv.few {pins pins' : List (Addr × Obj)} {σ : St} {H : Hp} {s : Shared} (I : Inv X (pins ++ pins') σ H s) : Inv X pins σ H s :=
  ⟨I.ok, I.os, I.bare, I.base, I.loc, I.cell, I.free, I.freeC, fun q hq => I.pin q (by rw [<- List.append_assoc]; exact List.mem_append_left _ hq), I.hok, I.len⟩
theorem pass_try {pins : List (Addr × Obj)} {E : XK} : Passes (CXf X.prog X.w) (X.inTry pins E) E := fun pins' σ H1 s1 u s2 I h =>
  ⟨pins', σ, air_of (X := X.plusP pins) rfl rfl ⟨⟨I.ok.mod, I.ok.kind, I.ok.glob, I.ok.blt, I.ok.above, I.ok.inj, I.ok.has, I.ok.cab, I.ok.hd, I.ok.frames, I.ok.stk, I.ok.exf, I.ok.bs, I.ok.bsz, I.ok.noex, I.ok.exfs, I.ok.funs, I.ok.frf⟩, I.os, I.bare, I.base, I.loc, I.cell, I.free, I.freeC, I.pin, I.hok, I.len⟩ h⟩
end
end L2
namespace L2
open PySem PySem.Spec PyProof.Rows
def HB (X : Cx) (hs : List ExceptHandler) (Tk : Ends -> XK) : Prop := ∀ (pins : List (Addr × Obj)) (σ : St) (D : Ends) (e : Addr) (C : Value) (dx : Option Addr) (H' : Hp) (T : Addr) (s : Shared), Tr s.heap e C dx T .none -> Inv X pins σ H' s -> H' e = none -> H' T = none -> X.s₀.heap.objs.size <= T -> (∀ p ∈ X.pn ++ pins, p.1 ≠ T) -> Tk D C dx H' ->
  wpAny (model X.prog X.w) X.A (handleBy (.ref e) X.env hs) (SP X pins D) X.xe s
def xN (K : PySem.W.Frag) (Ch : Addr) (i n : Nat) (th : Addr -> Obj -> TS) (Tk : Ends -> XK) : Ends -> XK := fun D C dx H =>
  (PySem.W.exmOne K C (.ref Ch) = some true /\ ∀ (e : Addr) (oe : Obj) (vs : Array Value) (σ : St), σ.length = n -> oe.cls = C -> oe.dict = dx -> oe.data = .fields vs -> vs[2]? = some .none -> H e = none -> th e oe (D.behind i) (σ.set i (some (.ref e))) H) \/ (PySem.W.exmOne K C (.ref Ch) = some false /\ Tk D C dx H)
def xNil : Ends -> XK := fun _ _ _ _ => False
section
variable {X : Cx} {Ch : Addr} {x n : Str} {i : Nat} {np hpos tpos : Pos} {b0 : Stmt} {suite body : List Stmt} {th : Addr -> Obj -> TS} {tb : XK -> TS} {h0 : ExceptHandler} {hs : List ExceptHandler} {Tk : Ends -> XK}
theorem hb_nil : HB X [] xNil := fun _ _ _ _ _ _ _ _ _ _ _ _ _ _ _ h => False.elim h
theorem hb_as (R : HB X hs Tk) (hN : X.N.Nodup) (hi : X.N[i]? = some n) (hg : Gl X x) (hm : X.mg x = some (.ref Ch)) (hS : ∀ e oe, jSs (X.inEx (.ref e) [(e, oe)]) (b0 :: suite) (th e oe)) (hl : X.env.scope.names.lookup n = some .local := by rfl) (hdb : (x == ("__debug__" : Str)) = false := by decide) :
    HB X (.ExceptHandler (some (.Name x np)) (some n) (b0 :: suite) hpos :: hs) (xN X.K Ch i X.N.length th Tk) := by
  intro pins σ D e C dx H' T s t J ne nT sT pT h
  obtain ⟨oe, vs, g1, g2, g3, g4, g5⟩ := t.ex
  have Jm : Inv (X.inEx (.ref e) []) pins σ H' s := J.inEx (.ref e) fun q hq => nomatch hq
  have LT : PySem.W.Looks (model X.prog X.w) s.heap (typeOf (.ref e)) C := g2 ▸ (PySem.W.Looks.ld g1).andThen .now
  refine wpAny_handleBy_cons (codeAny_handlers_test (ld_glob Jm hg hm ?_ hdb)) (by intro q; cases q)
  rcases h with ⟨hex, hth⟩ | ⟨hex, hn⟩
  · refine PySem.W.Looks.here (PySem.W.exm_one (K := X.K) J.kIn LT hex) ?_
    refine codeAny_handlers_suite_as (fly_set (v := none) t fun h3 t3 m3 => ?_)
    have J3 : Inv X pins σ H' { s with heap := h3 } := Inv.moved J (m3.mono (fun b z => nomatch z) fun _ z => z) fun b hb => by
      rw [List.mem_singleton.mp hb]
      obtain ⟨ot, ts, q1, q2, _⟩ := t.tb
      exact ⟨nT, .inr sT, (J.apart q1 q2).1, (J.apart q1 q2).2, pT⟩
    obtain ⟨oe3, vs3, a1, a2, a3, a4, a5⟩ := t3.ex
    have ap := Inv.apart (s := { s with heap := h3 }) J3 a1 a4
    have J4 : Inv (X.inEx (.ref e) [(e, oe3)]) pins σ H' { s with heap := h3 } := J3.inEx (.ref e) fun q hq => by
      rw [List.mem_singleton.mp hq]
      exact ⟨a1, ne, ap.1, fun z => by
        obtain ⟨_, o, ho, nf⟩ := J3.funs.mem z
        have ho' : h3.get? e = some o := ho
        rw [a1] at ho'
        cases ho'
        exact nf vs3 a4, fun v z => by rw [a4] at z; cases z⟩
    refine store_ok (X := X.inEx (.ref e) [(e, oe3)]) (v := .ref e) J4 hN hi (.inl hl) rfl (fun s4 J5 => ?_) (.inr hl)
    refine wpAny_mono ((hS e oe3).out pins s4 _ H' (D.behind i) J5 (hth e oe3 vs3 _ J3.len a2 a3 a4 a5.2 ne)) (fun f s5 q => ?_) fun _ _ z => False.elim z
    cases f with
    | next =>
      obtain ⟨σ', H5, I5, q⟩ := q
      exact unbind_ok (I5.outEx J.ok) hN hi hl fun s6 I6 => ⟨_, _, I6, q⟩
    | brk =>
      obtain ⟨σ', H5, I5, q⟩ := q
      exact unbind_ok (I5.outEx J.ok) hN hi hl fun s6 I6 => ⟨_, _, I6, q⟩
    | cont =>
      obtain ⟨σ', H5, I5, q⟩ := q
      exact unbind_ok (I5.outEx J.ok) hN hi hl fun s6 I6 => ⟨_, _, I6, q⟩
    | ret w =>
      obtain ⟨v, σ', H5, I5, r, q⟩ := q
      exact unbind_ok (I5.outEx J.ok) hN hi hl fun s6 I6 => ⟨v, _, _, I6, r, q⟩
  · refine PySem.W.Looks.here (PySem.W.exm_one (K := X.K) J.kIn LT hex) ?_
    exact R pins σ D e C dx H' T s t J ne nT sT pT hn
theorem catch_okL {pins : List (Addr × Obj)} {σ : St} {D : Ends} {u : Value} {s' : Shared} (hst : X.stack = X.env :: X.outer) (hf : X.env.frame = some X.env.locals) (R : HB X hs Tk)
    (h : Air X pins σ (Tk D) u s') :
    wpAny (model X.prog X.w) X.A (noteFrame u X.env) (fun _ s2 => wpAny (model X.prog X.w) X.A (setFlight u none) (fun _ s3 => wpAny (model X.prog X.w) X.A (handleBy u X.env hs) (SP X pins D) X.xe s3) X.xe s2) X.xe s' := by
  obtain ⟨e, C, dx, H', k, rfl, I, ne, hk, he, hp, st, hth⟩ := h
  have fr : X.A.frames = some (X.env :: X.outer) := hst ▸ I.ok.frames
  have fs : s'.heap.FunFrames X.base (X.env :: X.outer) := hst ▸ I.stack
  have pk : ∀ b, k <= b -> ∀ p ∈ X.pn ++ pins, p.1 ≠ b := fun b hb p q z => absurd (Nat.lt_of_lt_of_le (hp p q) hb) (by rw [z]; exact Nat.lt_irrefl _)
  have two : ∀ (h1 : Heap) (T : Addr) (xs : List Addr), Tr h1 e C dx T (rawInt X.env.locals) -> Mv ((X.env :: X.outer).filterMap (·.frame)) xs s'.heap h1 -> (∀ b ∈ xs, H' b = none /\ X.s₀.heap.objs.size <= b /\ (∀ p ∈ X.pn ++ pins, p.1 ≠ b) /\ ∃ o vs, s'.heap.get? b = some o /\ o.data = .fields vs) -> s'.heap.objs.size <= T ->
      wpAny (model X.prog X.w) X.A (setFlight (.ref e) none) (fun _ s3 => wpAny (model X.prog X.w) X.A (handleBy (.ref e) X.env hs) (SP X pins D) X.xe s3) X.xe { s' with heap := h1 } := by
    intro h1 T xs t m hxs hT
    have J1 : Inv X pins σ H' { s' with heap := h1 } := I.moved (hst ▸ m) fun b hb => by
      obtain ⟨r1, r2, r3, o, vs, r4, r5⟩ := hxs b hb
      exact ⟨r1, .inr r2, (I.apart r4 r5).1, (I.apart r4 r5).2, r3⟩
    have nT : H' T = none := I.hok.fresh hT
    have sT : X.s₀.heap.objs.size <= T := Nat.le_trans I.sz hT
    have pT : ∀ p ∈ X.pn ++ pins, p.1 ≠ T := fun p q z => absurd (Nat.lt_of_lt_of_le (Heap.lt_size (I.pin p q).1) hT) (by rw [z]; exact Nat.lt_irrefl _)
    refine fly_set (s := { s' with heap := h1 }) (v := none) t fun h2 t2 m2 => R pins σ D e C dx H' T { s' with heap := h2 } t2 (Inv.moved (s := { s' with heap := h1 }) J1 (m2.mono (fun b z => nomatch z) fun _ z => z) fun b hb => ?_) ne nT sT pT hth
    rw [List.mem_singleton.mp hb]
    obtain ⟨ot, ts, q1, q2, _⟩ := t.tb
    exact ⟨nT, .inr sT, (J1.apart q1 q2).1, (J1.apart q1 q2).2, pT⟩
  rcases st with ⟨oe, vs, h1, rfl, rfl, h4, h5, h6⟩ | ⟨T0, t0, n0, s0⟩
  · refine fly_first fr fs hf h1 h4 h5 h6 fun h' T hs t m => two h' T [e] t m (fun b hb => ?_) hs
    rw [List.mem_singleton.mp hb]
    exact ⟨ne, Nat.le_trans hk he, pk e he, oe, vs, h1, h4⟩
  · refine fly_next fr fs hf t0 fun h' T hs t m => two h' T [e, T0] t m (fun b hb => ?_) hs
    rcases List.mem_cons.mp hb with r | hb
    · rw [r]
      obtain ⟨oe, vs, q1, _, _, q4, _⟩ := t0.ex
      exact ⟨ne, Nat.le_trans hk he, pk e he, oe, vs, q1, q4⟩
    · rw [List.mem_singleton.mp hb]
      obtain ⟨ot, ts, q1, q2, _⟩ := t0.tb
      exact ⟨n0, Nat.le_trans hk s0, pk T0 s0, ot, ts, q1, q2⟩
def tTryN (Tk : Ends -> XK) (tb : XK -> TS) : TS := fun D σ H => tb (Tk D) D σ H
theorem js_tryN (hb : ∀ pins E, jSs (X.inTry pins E) body (tb E)) (R : HB X (h0 :: hs) Tk) (hst : X.stack = X.env :: X.outer := by rfl) (hf : X.env.frame = some X.env.locals := by rfl) :
    jS X (.Try body (h0 :: hs) [] [] tpos) (tTryN Tk tb) := by
  constructor
  intro pins s σ H D I h
  refine wpAny_Try_except (wpAny_mono ((hb pins _).out [] s σ H D I.toTry h) (fun f s1 q => ?_) (fun u s1 q => ?_))
  · cases f with
    | next =>
      obtain ⟨σ', H5, I5, q⟩ := q
      exact wpAny_execs_nil ⟨_, _, I5.ofTry I.ok, q⟩
    | brk =>
      obtain ⟨σ', H5, I5, q⟩ := q
      exact ⟨_, _, I5.ofTry I.ok, q⟩
    | cont =>
      obtain ⟨σ', H5, I5, q⟩ := q
      exact ⟨_, _, I5.ofTry I.ok, q⟩
    | ret w =>
      obtain ⟨v, σ', H5, I5, r, q⟩ := q
      exact ⟨v, _, _, I5.ofTry I.ok, r, q⟩
  · obtain ⟨pins', σ', e, C, dx, H', k, rfl, I5, ne, hk, he, hp, st, hE⟩ := q
    have a : Air X (pins ++ pins') σ' (Tk D) (.ref e) s1 := ⟨e, C, dx, H', k, rfl, I5.ofPlus I.ok, ne, hk, he, fun p q => hp p (by simpa using q), st, hE⟩
    have g := catch_okL hst hf R a
    have sp : ∀ f s3, SP X (pins ++ pins') D f s3 -> SP X pins D f s3 := fun f s3 q => by
      cases f with
      | next => obtain ⟨σ', H5, I5, q⟩ := q; exact ⟨_, _, I5.few, q⟩
      | brk => obtain ⟨σ', H5, I5, q⟩ := q; exact ⟨_, _, I5.few, q⟩
      | cont => obtain ⟨σ', H5, I5, q⟩ := q; exact ⟨_, _, I5.few, q⟩
      | ret w => obtain ⟨v, σ', H5, I5, r, q⟩ := q; exact ⟨v, _, _, I5.few, r, q⟩
    exact wpAny_mono g (fun _ s2 q => wpAny_mono q (fun _ s3 q => wpAny_mono q sp fun _ _ z => z) fun _ _ z => z) fun _ _ z => z
end
end L2
namespace L2
open PySem PySem.Spec PyProof.Rows
section
variable {prog : Program} {w : World} {A : Around} {s : Shared} {E : Value -> Shared -> Prop}
end
def HandP (X : Cx) : Prop := ∃ (eh : Addr) (oe : Obj) (ve : Array Value), X.A.handled = some (.ref eh) /\ X.s₀.heap.get? eh = some oe /\ X.H₀ eh = none /\ eh ∉ X.fs /\ eh ∉ X.ex /\ oe.data = .fields ve /\ ve[2]? = some .none
theorem HandP.now {X : Cx} {pins : List (Addr × Obj)} {σ : St} {H : Hp} {s : Shared} (h : HandP X) (I : Inv X pins σ H s) : ∃ (eh : Addr) (oe : Obj) (ve : Array Value), X.A.handled = some (.ref eh) /\ s.heap.get? eh = some oe /\ H eh = none /\ eh ∉ X.fs /\ eh < X.s₀.heap.objs.size /\ eh ∉ X.ex /\ oe.data = .fields ve /\ ve[2]? = some .none := by
  obtain ⟨eh, oe, ve, a1, a2, a3, a4, a5, a6, a7⟩ := h
  exact ⟨eh, oe, ve, a1, I.base.keep eh oe a2 a3 a4 a5, I.base.free eh oe a2 a3 a5, a4, Heap.lt_size a2, a5, a6, a7⟩
theorem HandP.lc {X : Cx} {pins : List (Addr × Obj)} {σ : St} {H : Hp} {s : Shared} {scope : Scope} {cl : List (Str × Addr)} {M : List Str} {C : Addr} {fp : List Addr} {E : Value -> Shared -> Prop} (h : HandP X) (I : Inv X pins σ H s) (hf : ∀ b ∈ fp, FpOk X pins H b) : HandP (cxLC X scope cl M C s H fp E) := by
  obtain ⟨eh, oe, ve, a1, a2, a3, a4, a5, a6, a7, a8⟩ := h.now I
  refine ⟨eh, oe, ve, a1, a2, a3, fun z => ?_, fun z => ?_, a7, a8⟩
  · rcases List.mem_cons.mp (I.stkSub eh z) with q | q
    · exact (I.apart a2 a7).1 q
    · exact a4 q
  · rcases (hf eh z).2.2.2.1 with q | q
    · exact a6 q
    · exact absurd (Nat.lt_of_lt_of_le a5 q) (Nat.lt_irrefl _)
structure TurnC (Cn : Cx -> Prop) (P : Program) (w : World) (K : PySem.W.Frag) (tg : Expr) (J : It) (fp : List Addr) (it : Addr) (tn : Nat -> Heap -> Prop) : Prop where
  mem : it ∈ fp
  obj : ∀ i h, tn i h -> ∀ b ∈ fp, ∃ o, h.get? b = some o /\ ∀ v, o.data ≠ .cell v
  keep : ∀ i h h', tn i h -> (∀ b ∈ fp, ∀ o, h.get? b = some o -> h'.get? b = some o) -> tn i h'
  item : ∀ (X : Cx), X.prog = P -> X.w = w -> X.K = K -> Cn X -> ∀ (i : Nat) (pins : List (Addr × Obj)) (s : Shared) (σ : St) (H : Hp) (E : Value -> Shared -> Prop), Inv X pins σ H s -> (∀ b ∈ fp, FpOk X pins H b) -> tn i s.heap -> J.go i H ->
    wpAny (model P w) X.A (pyNext (.ref it)) (fun r s1 => ∃ u, r = some u /\
      wpAny (model P w) X.A (letOwnedTupleGo tg (.ref it) u) (fun _ s2 => ∃ x H', Inv X pins σ H' s2 /\ RelV x u /\ J.yld i H x H' /\ tn (i + 1) s2.heap /\ ∀ b ∈ fp, H' b = none) E s1) E s
  done : ∀ (X : Cx), X.prog = P -> X.w = w -> X.K = K -> Cn X -> ∀ (i : Nat) (pins : List (Addr × Obj)) (s : Shared) (σ : St) (H : Hp) (E : Value -> Shared -> Prop), Inv X pins σ H s -> (∀ b ∈ fp, FpOk X pins H b) -> tn i s.heap -> J.stop i H ->
    wpAny (model P w) X.A (pyNext (.ref it)) (fun r s1 => r = none /\ Inv X pins σ H s1) E s
  self : ∀ (A : Around) (i : Nat) (s : Shared) (Q : Value -> Shared -> Prop) (E : Value -> Shared -> Prop), tn i s.heap -> Q (.ref it) s -> wpAny (model P w) A (pyIter (.ref it)) Q E s
end L2
namespace L2
open PySem PySem.Spec PyProof.Rows
section
variable {X : Cx} {scope : Scope} {cl : List (Str × Addr)} {S : List Nat} {pins : List (Addr × Obj)} {σ : St} {H : Hp} {s : Shared} {ex : List Addr} {M : List Str} {C : Addr}
variable {tg elt iter : Expr} {ifs : List Expr} {pos : Pos} {wi : TI} {g : TG} {tt : TT} {te : TE}
end
section
variable {X : Cx} {scope : Scope} {M : List Str} {tg elt l : Expr} {ifs : List Expr} {pos : Pos} {tl : TE} {g : TG} {tt : TT} {te : TE}
end
structure RoomH (k : Nat) (A : Around) : Prop where
  dp : A.depth + 3 * k + 5 < recursionLimit
  un : A.units + 16 * k + 200 < cLine
theorem RoomH.deeper {k : Nat} {A : Around} (r : RoomH (k + 1) A) (env : Env) : RoomH k (A.deeper env) :=
  ⟨by have := r.dp; show A.depth + 1 + 3 * k + 5 < _; omega, by have := r.un; show A.units + 3 + 16 * k + 200 < _; omega⟩
theorem Room.h {k : Nat} {A : Around} (r : Room k A) (u : Option Value) : RoomH k (A.mark u) := ⟨r.dp, r.un⟩
structure Hnd (A : Around) (outer : List Env) (s : Shared) (H : Hp) (e : Addr) (oe : Obj) : Prop where
  h : A.handled = some (.ref e)
  g : s.heap.get? e = some oe
  n : H e = none
  f : e ∉ frs outer
  d : ∃ ve : Array Value, oe.data = .fields ve /\ ve[2]? = some .none
structure FnOkH (P : Program) (w : World) (K : PySem.W.Frag) (mg : Str -> Option Value) (base : Heap) (k : Nat) (f : Addr) (fd : FuncData) (ps : List Str) (sp : Addr -> Obj -> Sp) : Prop where
  len : ∀ e oe vs H Q E, sp e oe vs H Q E -> vs.length = ps.length
  run : ∀ (A : Around) (outer : List Env) (s : Shared) (H : Hp) (args : Args) (us : List Value) (vs : List V) (Q : VK) (e : Addr) (oe : Obj), RoomH k A -> Env0 P w K mg base A outer s H -> Hnd A outer s H e oe -> BindsTo s fd args (ps.zip us) -> Vals vs us -> sp e oe vs H Q E0 ->
    codeAny (model P w) A (.call (.ref f) args) (CR CX0 outer P w H s Q E0) s
abbrev cxOfH (P : Program) (w : World) (K : PySem.W.Frag) (mg : Str -> Option Value) (base : Heap) (N : List Str) (qual : Str) (scope : Scope) (f : Addr) (cd : Value) (A : Around) (outer : List Env) (s : Shared) (H : Hp) : Cx :=
  { cxOf CX0 P w K mg base N qual scope f cd A outer s H E0 with calm := false, xe := fun _ _ => False }
theorem Hnd.p {P : Program} {w : World} {K : PySem.W.Frag} {mg : Str -> Option Value} {base : Heap} {N : List Str} {qual : Str} {scope : Scope} {f : Addr} {cd : Value} {A : Around} {outer : List Env} {s : Shared} {H : Hp} {e : Addr} {oe : Obj} (h : Hnd A outer s H e oe) : HandP (cxOfH P w K mg base N qual scope f cd A outer s H) :=
  let ⟨ve, d1, d2⟩ := h.d; ⟨e, oe, ve, h.h, h.g, h.n, h.f, (fun z => absurd (show e ∈ ([] : List Addr) from z) (by simp)), d1, d2⟩
structure CaH (P : Program) (w : World) (K : PySem.W.Frag) (mg : Str -> Option Value) (base : Heap) (k : Nat) (x : Str) (ps : List Str) (sp : Addr -> Obj -> Sp) : Prop where
  ex : ∃ f fd, FnOkH P w K mg base k f fd ps sp /\ Binds K fd ps [] /\ PySem.W.keepIn K (.ref f) = true /\ mg x = some (.ref f)
end L2
namespace PySem.W
open PySem PySem.Spec PySem.Calls PyProof.Rows
section
variable {prog : Program} {w : World} {A : Around} {E : Value -> Shared -> Prop} {s : Shared} {K : Frag} {e C : Addr} {ox od : Obj}
end
structure XIs (K : Frag) (C : Addr) : Prop where
  ga : findIn K (.ref C) "__getattribute__" = some (some (.builtin "BaseException.__getattribute__"))
  ha : findIn K (.ref C) "__getattr__" = some none
  sb : subIn K (.ref C) (.type "BaseException") = some true
  hd : hasDictIn K C = true
  cl : findIn K (.ref C) "__class__" = some (some (.builtin "object.__class__"))
  gs : specialIn K (.builtin "object.__class__") "__get__" = some (some (.builtin "getset_descriptor.__get__"))
  tk : takesIn K (.builtin "object.__class__") = some true
  mo : mroIn K C (.type "object") = some true
end PySem.W
namespace L2
open PySem PySem.Spec PyProof.Rows
end L2
namespace L2
open PySem PySem.Spec PyProof.Rows
section
variable {prog : Program} {w : World} {A : Around} {E : Value -> Shared -> Prop} {h : Heap} {g : Array GenState} {d : Drawn} {t : Nat} {os : OsState}
variable {nm q : Str} {C N : Addr} {bs bm bmB : List Value} {hdct : Bool} {sn : List Str} {sub : List Value} {ab : Bool} {col : Option Bool} {dd : Option Addr} {k0 k1 k2 k3 k5 : Option Value} {B Bn newId nid initId inN : String} {bmN : List Value}
end
theorem ns_none {K : PySem.W.Frag} {h : Heap} {N : Addr} {mg : Str -> Option Value} {n : Str} (X : K.In h) (G : h.Ns N mg) (e : PySem.W.nsIn K N n = some none) : mg n = none := by
  obtain ⟨o, es, ep, ho, hd, _, hf⟩ := G
  unfold PySem.W.nsIn at e
  split at e
  · rename_i c d es' n' sl q
    have := X _ _ q
    rw [ho] at this
    cases this
    cases hd
    split at e
    · cases e
    · rename_i he
      rw [<- hf]
      unfold nsFind findBy
      rw [<- Array.find?_toList, he]
      rfl
  · cases e
def xIn0 (K : PySem.W.Frag) (C : Addr) : Bool := match K.lookup C with
  | some ⟨.type "type", _, .cls cd, sl⟩ => (match cd.mro, sl.toList with
    | .ref C' :: bm, [_, _, _, _, some (.builtin n), _] => C' == C && n == "ValueError.__new__" && !cd.hasDel && PySem.W.tailIn K bmV bm && PySem.W.nsOkIn K cd.ns && PySem.W.nsIn K cd.ns "__init__" == some none && bm.contains (.type "BaseException")
    | _, _ => false)
  | _ => false
structure XCl0 (K : PySem.W.Frag) (C : Addr) : Prop where
  cls : xIn0 K C = true
  kp : PySem.W.keepIn K (.ref C) = true
theorem XCl0.at {K : PySem.W.Frag} {C : Addr} (c : XCl0 K C) {h : Heap} (X : K.In h) : ∃ nm q N bs bm hdct sn sub ab col dd k0 k1 k2 k3 k5 mN, h.get? C = some (excClassObj nm q C N bs bm hdct sn sub ab col dd k0 k1 k2 k3 k5 "ValueError.__new__") /\
    OwnTail h bmV bm /\ h.Ns N mN /\ mN "__init__" = none /\ bm.contains (.type "BaseException") = true := by
  have q := c.cls
  unfold xIn0 at q
  split at q
  · rename_i dd cd sl ho
    split at q
    · rename_i C' bm k0 k1 k2 k3 n k5 hm hs
      simp only [Bool.and_eq_true, beq_iff_eq, Bool.not_eq_true'] at q
      obtain ⟨⟨⟨⟨⟨⟨rfl, rfl⟩, hdel⟩, ht⟩, hok⟩, hi⟩, hb⟩ := q
      obtain ⟨nm, bs, mro, ns, qn, hd, sn, sub, ab, col, del⟩ := cd
      dsimp only at hm hdel hok hi
      subst hm hdel
      have es : sl = #[k0, k1, k2, k3, some (.builtin "ValueError.__new__"), k5] := by
        obtain ⟨l⟩ := sl
        simp only at hs
        rw [hs]
      subst es
      have nN := PySem.Heap.Ns.of_isNs (PySem.W.isNs_of_in X hok)
      exact ⟨nm, qn, ns, bs, bm, hd, sn, sub, ab, col, dd, k0, k1, k2, k3, k5, _, X _ _ ho, PySem.W.tail_of_in X ht, nN, ns_none X nN hi, hb⟩
    · cases q
  · cases q
section
variable {X : Cx} {k : Nat} {C : Addr} {E : XK} {x : Str} {np cpos pos : Pos}
end
end L2
namespace PySem.W
open PySem PySem.Spec PySem.Calls PyProof.Rows
theorem findObj_dataO {K : Frag} {C : Addr} {od : Option Obj} {name : Str} {a g : Value} (hc : (clsIn K C).isSome = true) (ha : findIn K (.ref C) name = some (some a)) (hg : specialIn K a "__get__" = some (some g)) (ht : takesIn K a = some true) : findObj K C od name = some (.bind g a) := by
  obtain ⟨cd, hc⟩ := Option.isSome_iff_exists.mp hc
  unfold findObj
  rw [hc, Option.bind_some, ha, Option.bind_some]
  simp [hg, ht]
section
variable {prog : Program} {w : World} {A : Around} {E : Value -> Shared -> Prop} {s : Shared} {K : Frag} {e C : Addr} {ox : Obj} {od : Option Obj}
theorem xg_classO {Q : Option Value -> Shared -> Prop} (X : K.In s.heap) (I : InstAt s.heap e ox C od) (hga : findIn K (.ref C) "__getattribute__" = some (some (.builtin "BaseException.__getattribute__"))) (hk : findIn K (.ref C) "__getattr__" = some none)
    (hb : subIn K (.ref C) (.type "BaseException") = some true) (hf : findObj K C od "__class__" = some (.bind (.builtin "getset_descriptor.__get__") (.builtin "object.__class__"))) (hm : mroIn K C (.type "object") = some true)
    (h : Q (some (.ref C)) { s with toks := s.toks + 1 }) : wpAny (model prog w) A (getAttr? (.ref e) "__class__") Q E s := by
  have ty := I.type (M := model prog w)
  have fd := looks_find (M := model prog w) X I hf
  unfold getAttr? getAttrBy?
  refine wpAny_bind (wpAny_mkText (wpAny_bind (wpAny_attempt ?_)))
  refine wpAny_holding (wpAny_bind (ty _ _ _ _ (fun _ _ q => q) (wpAny_bind (looks_findIn X hga _ _ _ _ (fun _ _ q => q) ?_))))
  dsimp only
  rw [show (onTheHeap (Value.ref C) && Value.builtin "BaseException.__getattribute__" == Value.builtin "object.__getattribute__") = false from by rw [show (Value.builtin "BaseException.__getattribute__" == Value.builtin "object.__getattribute__") = false from by decide +kernel, Bool.and_false], if_neg (by decide : ¬ (false = true))]
  refine wpAny_bind ((looks_hook (mc := .ref C) X (by rw [if_pos (show onTheHeap (.ref C) = true from rfl)]; exact hk)) _ _ _ _ (fun _ _ q => q) (wpAny_bind (wpAny_attempt (wpAny_holding ?_))))
  unfold callGetattribute
  rw [show (false && onTheHeap (Value.builtin "BaseException.__getattribute__")) = false from rfl, if_neg (by decide : ¬ (false = true))]
  unfold boundAndCalled
  rw [L2.xg_slot.bind]
  refine wpAny_bind (wpAny_pure (wpAny_call (codeAny_call_builtin L2.xg_slot.plain PySem.F.entry_bexc_ga ?_)))
  refine @check_slot (model prog w) _ _ { s with toks := s.toks + 1 } "BaseException.__getattribute__" "BaseException" "__getattribute__" (.ref e) [.str "__class__" s.toks] [] _ (by decide +kernel) (by decide +kernel) (ty.andThen (looks_subIn X hb)) (PySem.F.args_bexc_ga (.ref e) (.str "__class__" s.toks)) ?_
  refine wpAny_bind (wpAny_pure (wpAny_bind (wpAny_pure (wpAny_bind (ty _ _ _ _ (fun _ _ q => q) (wpAny_bind (fd _ _ _ _ (fun _ _ q => q) ?_)))))))
  show wpAny _ _ (holding [Value.builtin "object.__class__"] (call (.builtin "getset_descriptor.__get__") [.builtin "object.__class__", .ref e, .ref C]) >>= ret) _ _ _
  refine wpAny_bind (wpAny_holding (wpAny_call (class_get (s := { s with toks := s.toks + 1 }) X I hm ?_)))
  refine wpAny_pure ?_
  show wpAny _ _ (handedOut (.ref C)) _ _ _
  rw [handedOut_of rfl]
  exact wpAny_pure (wpAny_pure h)
end
theorem kitx_excO {K : Frag} {x D : Addr} {ox : Obj} {od : Option Obj} (c : XIs K D) : KitX K (.ref x) (.ref D) (fun h => InstAt h x ox D od) where
  ty := fun _ _ _ I => I.type
  it := fun _ _ X _ => by
    obtain ⟨cdD, hcD, _⟩ := any_some c.hd
    unfold clsIn at hcD
    split at hcD
    · rename_i c' d' cd' sl' ho
      intro A' Q' E' s' k q
      unfold isType loadHead
      exact wpAny_bind (wpAny_loadPart (k _ _ (X _ _ ho)) (wpAny_pure q))
    · cases hcD
  ne := fun h tp dd its n sl X htp => by
    obtain ⟨cdD, hcD, _⟩ := any_some c.hd
    refine Bool.eq_false_iff.mpr fun q => ?_
    have e : D = tp := Value.ref.inj (beq_iff_eq.mp q)
    subst e
    unfold clsIn at hcD
    split at hcD
    · rename_i c' d' cd' sl' ho
      have z := (X _ _ ho).symm.trans htp
      cases z
    · cases hcD
  ca := fun X I k => xg_classO X I c.ga c.ha c.sb (findObj_dataO (by obtain ⟨cd, hc, _⟩ := any_some c.hd; rw [hc]; rfl) c.cl c.gs c.tk) c.mo k
end PySem.W
namespace L2
open PySem PySem.Spec PyProof.Rows
inductive ClsV : V -> Value -> Prop where
  | ref (C : Addr) : ClsV (.ref C) (.ref C)
  | ty (T : String) : ClsV (.ty T) (.type T)
theorem ClsV.un {D : V} {c c' : Value} (h : ClsV D c) (r : RelV D c') : c' = c := by
  cases h with
  | ref C => cases r; rfl
  | ty T => cases r; rfl
inductive ClsVs : List V -> List Value -> Prop where
  | nil : ClsVs [] []
  | cons {D : V} {c : Value} {Ds : List V} {cs : List Value} (h : ClsV D c) (t : ClsVs Ds cs) : ClsVs (D :: Ds) (c :: cs)
theorem ClsVs.un {Ds : List V} {cs : List Value} (h : ClsVs Ds cs) : ∀ {us : List Value}, Vals Ds us -> us = cs := by
  induction h with
  | nil => intro us r; cases r; rfl
  | cons a _ ih => intro us r; cases r with
    | cons p q => rw [a.un p, ih q]
inductive Asked (K : PySem.W.Frag) (t : Value) (H : Hp) : V -> Bool -> Prop where
  | one {D : V} {c : Value} {b : Bool} (h : ClsV D c) (e : PySem.W.kitOne K t c = some b) : Asked K t H D b
  | tup {tp : Addr} {Ds : List V} {cs : List Value} {b : Bool} (ht : H tp = some (.tup Ds)) (h : ClsVs Ds cs) (e : PySem.W.kitAny K t cs = some b) : Asked K t H (.ref tp) b
section
variable {X : Cx} {e C d : Addr} {oe : Obj} {pins : List (Addr × Obj)} {s : Shared} {σ : St} {H : Hp} {od : Option Obj} {D : V} {b : Bool} {u : Value} {Q : VK}
theorem isi_asked (hx : PySem.W.XIs X.K C) (I : Inv X pins σ H s) (J : PySem.W.InstAt s.heap e oe C od) (ha : Asked X.K (.ref C) H D b) (ru : RelV D u) (q : Q (.bl b) H) :
    wpAny (model X.prog X.w) X.A (call (.builtin "isinstance") [.ref e, u]) (EP X pins σ Q) X.xe s := by
  cases ha with
  | one h k =>
    obtain rfl := h.un ru
    exact PySem.W.kia_one (PySem.W.kitx_excO hx) I.kIn J k (fun z => nomatch z) fun tk => ⟨.bl b, H, I.tok tk, rfl, q⟩
  | tup ht h k =>
    cases ru
    obtain ⟨z, its, rt, pt⟩ := I.hok _ _ ht
    obtain rfl := h.un rt
    obtain ⟨⟨oc, odd, odt, osl⟩, ho, hc, n, hd⟩ := pt
    dsimp only at hc hd
    subst hc hd
    replace pt := ho
    exact PySem.W.kia_tup (PySem.W.kitx_excO hx) I.kIn J pt k (fun z => nomatch z) fun tk => ⟨.bl b, H, I.tok tk, rfl, q⟩
theorem jc_isiA (hp : (e, oe) ∈ X.pn) (hx : PySem.W.XIs X.K C) :
    jCa X (.builtin "isinstance") (fun xs H Q => ∃ D b, xs = [.ref e, D] /\ oe.cls = .ref C /\ (∃ vs, oe.data = .fields vs) /\ (oe.dict = none \/ ∃ d fs, oe.dict = some d /\ H d = some (XD d fs)) /\ Asked X.K (.ref C) H D b /\ Q (.bl b) H) := by
  constructor
  intro pins s σ H xs us Q I r h
  obtain ⟨D, b, rfl, hc, ⟨vs, hd⟩, hdx, ha, q⟩ := h
  obtain ⟨u, u', rfl, r1, r2⟩ := vals2 r
  cases r1
  have g := (I.pin (e, oe) (List.mem_append_left _ hp)).1
  rcases hdx with hn | ⟨d, fs, h1, h2⟩
  · exact isi_asked (od := none) hx I ⟨g, hc, by unfold PySem.W.notCls; rw [hd], by rw [hn]; exact True.intro⟩ ha r2 q
  · obtain ⟨mA, ⟨od, es, ep, ho, _⟩, _⟩ := XD.get I.hok h2
    exact isi_asked (od := some od) hx I ⟨g, hc, by unfold PySem.W.notCls; rw [hd], by rw [h1]; exact ho⟩ ha r2 q
end
section
variable {X : Cx} {k : Nat} {C f : Addr} {ps : List Str} {sp : Sp} {x name : Str} {np cpos pos : Pos} {a ex : Expr} {as : List Expr} {t : TA} {te : TE}
end
end L2
namespace KD
open PySem L2 K11
theorem iteT' {b : Bool} {A B : Prop} (e : b = true) (h : A) : if b = true then A else B := by rw [if_pos e]; exact h
theorem iteF' {b : Bool} {A B : Prop} (e : b = false) (h : B) : if b = true then A else B := by rw [if_neg (by rw [e]; decide)]; exact h
def Err (C : Addr) (E : XK) (H : Hp) (n : Str) : Prop := ∀ d H', Same H H' -> H' d = some (XD d [("name", .str n)]) -> E (.ref C) (some d) H'
theorem Err.at {C : Addr} {E : XK} {H H' : Hp} {n : Str} (h : Err C E H n) (s : Same H H') : Err C E H' n := fun d H2 s2 q => h d H2 (s.trans s2) q
def spX (C : Addr) (f : Str) : Sp := fun vs H Q _ => ∃ e v, vs = [.ref e, v] /\ H e = some (XO e C none) /\ ∀ d, H d = none -> d ≠ e -> Q .non (upd (upd H d (XD d [(f, v)])) e (XO e C (some d)))
theorem raised {C : Addr} {H : Hp} {E : XK} {n : Str} (hE : Err C E H n) (e : Addr) (he : H e = none) :
    spX C "name" [.ref e, .str n] (upd H e (XO e C none)) (fun u H2 => u = .non /\ ∃ dx, H2 e = some (XO e C dx) /\ E (.ref C) dx (drp H2 e)) E0 := by
  refine ⟨e, _, rfl, upd_same, fun d hd hne => ⟨rfl, some d, upd_same, ?_⟩⟩
  have hd' : H d = none := by rw [upd_ne hne] at hd; exact hd
  refine hE d _ (fun b u hb => ?_) ?_
  · rw [drp_ne (ne_of_none hb he), upd_ne (ne_of_none hb he), upd_ne (ne_of_none hb hd'), upd_ne (ne_of_none hb he)]
    exact hb
  · rw [drp_ne hne, upd_ne hne]
    exact upd_same
def dup : List Str -> List Str -> Option Str
  | _, [] => none
  | seen, n :: r => if n ∈ seen then some n else dup (seen ++ [n]) r
def marks (ns : List Str) : List (Key × V) := ns.map fun n => (.inr n, .bl true)
theorem marks_in {ns : List Str} {n : Str} : (valV (marks ns) (.inr n)).isSome = decide (n ∈ ns) := by
  induction ns with
  | nil => rfl
  | cons a l ih =>
    by_cases h : a = n
    · subst h
      show (valV ((Sum.inr a, V.bl true) :: marks l) (.inr a)).isSome = _
      simp [valV]
    · show (valV ((Sum.inr a, V.bl true) :: marks l) (.inr n)).isSome = _
      rw [valV_neg (fun e => h (Sum.inr.inj e)), ih]
      have h' : ¬ n = a := fun e => h e.symm
      simp [h']
theorem marks_none {ns : List Str} {n : Str} (h : n ∉ ns) : valV (marks ns) (.inr n) = none := by
  have := marks_in (ns := ns) (n := n)
  rw [decide_eq_false h] at this
  exact Option.isSome_eq_false_iff.mp this |> Option.isNone_iff_eq_none.mp
theorem dup_take {seen ns : List Str} {i : Nat} {n : Str} (h : ns[i]? = some n) (hd : ∀ m, dup seen (ns.take i) ≠ some m) : dup seen ns = if n ∈ seen ++ ns.take i then some n else dup (seen ++ ns.take (i + 1)) (ns.drop (i + 1)) := by
  induction ns generalizing seen i with
  | nil => simp at h
  | cons a l ih =>
    cases i with
    | zero =>
      simp at h
      subst h
      simp [dup]
    | succ i =>
      have ha : a ∉ seen := fun z => hd a (by rw [List.take_succ_cons]; unfold dup; rw [if_pos z])
      have h' : l[i]? = some n := by simpa using h
      have hd' : ∀ m, dup (seen ++ [a]) (l.take i) ≠ some m := fun m z => hd m (by rw [List.take_succ_cons]; unfold dup; rw [if_neg ha]; exact z)
      have := ih (seen := seen ++ [a]) h' hd'
      show (if a ∈ seen then some a else dup (seen ++ [a]) l) = _
      rw [if_neg ha, this, List.take_succ_cons, List.take_succ_cons, List.drop_succ_cons, List.append_assoc, List.append_assoc]
      rfl
theorem dup_more {seen ns : List Str} {i : Nat} {n : Str} (h : ns[i]? = some n) (hd : dup seen (ns.take i) = none) (hn : n ∉ seen ++ ns.take i) : dup seen (ns.take (i + 1)) = none := by
  have h1 : (ns.take (i + 1))[i]? = some n := by rw [List.getElem?_take]; simp [h]
  have h2 : (ns.take (i + 1)).take i = ns.take i := by rw [List.take_take]; congr 1; omega
  rw [dup_take h1 (by rw [h2, hd]; intro m z; cases z), h2, if_neg hn]
  have : (ns.take (i + 1)).drop (i + 1) = [] := by rw [List.drop_eq_nil_iff, List.length_take]; omega
  rw [this]
  rfl
def Sq (K : PySem.W.Frag) (H : Hp) (p : Addr) (ns : List Str) : Prop := SqL K H p (ns.map V.str) \/ H p = some (.tup (ns.map V.str))
theorem Sq.same {K : PySem.W.Frag} {H H' : Hp} {p : Addr} {ns : List Str} (h : Sq K H p ns) (s : Same H H') : Sq K H' p ns := h.imp (fun h => s.seq h) (fun h => s _ _ h)
def spBound (K : PySem.W.Frag) (Tw : Addr) : Sp := fun vs H Q E => ∃ (p a : Addr) (ns seen : List Str), vs = [.ref p, .ref a] /\ Sq K H p ns /\ H a = some (.dK (marks seen)) /\ ns.length <= 1000 /\ seen.length <= 1000 /\
  (dup seen ns = none -> ∀ (H' : Hp) (d : Addr), Same H H' -> H d = none -> H' d = some (.dK (marks (seen ++ ns))) -> Q (.ref d) H') /\ ∀ n, dup seen ns = some n -> Err Tw E H n
section
variable {P : Program} {w : World} {K : PySem.W.Frag} {mg : Str -> Option Value} {base : Heap} {f R C Tw Un : Addr} {fd : FuncData}
theorem scTwice : FnScope ["self", "name"] ["self", "name"] (defScope iTwice) := ⟨rfl, rfl, rfl, by decide +kernel, rfl, by decide +kernel, by decide +kernel⟩
theorem scUnknown : FnScope ["self", "name"] ["self", "name"] (defScope iUnknown) := ⟨rfl, rfl, rfl, by decide +kernel, rfl, by decide +kernel, by decide +kernel⟩
theorem scBound : FnScope ["names", "above", "names_bound", "name"] ["names", "above"] (defScope sBound) := ⟨rfl, rfl, rfl, by decide +kernel, rfl, by decide +kernel, by decide +kernel⟩
theorem scKnow : FnScope ["names", "known_ones", "name"] ["names", "known_ones"] (defScope sInsist) := ⟨rfl, rfl, rfl, by decide +kernel, rfl, by decide +kernel, by decide +kernel⟩
theorem ok_twice {fi : Addr} (F : Fun K "__init__" "Twice.__init__" iTwice f fd) (xw : PySem.W.takerIn K C "name" = some none) (M : XCl K C fi) (B : XBase K R) (mR : mg "ReuseError" = some (.ref R)) : FnOk P w K mg base CX0 1 f fd ["self", "name"] (spX C "name") := by
  refine F.by scTwice (fun vs H Q E h => ?_) (fun cdv A' outer s H vs Q E hr h => ?_)
  · obtain ⟨e, v, rfl, _⟩ := h
    rfl
  obtain ⟨e, v, rfl, hX, q⟩ := h
  refine ⟨_, jss_cons (js_expr ⟨pe_xinit M B rfl mR (ja_c (jv 0) (ja_c (jv 1) ja_nil)).out⟩) (jss_one ⟨ps_xnew M (jv 0).out (jv 1).out⟩), ?_⟩
  refine ⟨_, rfl, _, rfl, e, [v], none, rfl, by show 1 <= sizeLine; decide, hX, ?_⟩
  exact ⟨_, rfl, _, rfl, e, rfl, hX, xw, fun d hd ne => q d hd ne⟩
theorem ok_unknown {fi : Addr} (F : Fun K "__init__" "Unknown.__init__" iUnknown f fd) (xw : PySem.W.takerIn K C "name" = some none) (M : XCl K C fi) (B : XBase K R) (mR : mg "ReuseError" = some (.ref R)) : FnOk P w K mg base CX0 1 f fd ["self", "name"] (spX C "name") := by
  refine F.by scUnknown (fun vs H Q E h => ?_) (fun cdv A' outer s H vs Q E hr h => ?_)
  · obtain ⟨e, v, rfl, _⟩ := h
    rfl
  obtain ⟨e, v, rfl, hX, q⟩ := h
  refine ⟨_, jss_cons (js_expr ⟨pe_xinit M B rfl mR (ja_c (jv 0) (ja_c (jv 1) ja_nil)).out⟩) (jss_one ⟨ps_xnew M (jv 0).out (jv 1).out⟩), ?_⟩
  refine ⟨_, rfl, _, rfl, e, [v], none, rfl, by show 1 <= sizeLine; decide, hX, ?_⟩
  exact ⟨_, rfl, _, rfl, e, rfl, hX, xw, fun d hd ne => q d hd ne⟩
theorem ok_bound (F : Fun K "with_bound" "with_bound" sBound f fd) (GX : Xa P w K mg base 1 "Twice" Tw ["self", "name"] (spX Tw "name")) (m_dict : mg "dict" = none) : FnOk P w K mg base (CXf P w) 3 f fd ["names", "above"] (spBound K Tw) := by
  refine F.byx scBound (fun vs H Q E h => ?_) (fun cdv A outer s H vs Q E hr h => ?_)
  · obtain ⟨p, a, ns, seen, rfl, _⟩ := h
    rfl
  obtain ⟨p, a, ns, seen, rfl, hS, hA, hn, hs, q1, q2⟩ := h
  have sl := line0
  have body : ∀ (D : Ends) (d : Addr), H d = none -> ∀ i v σ H', (ns.map V.str)[i]? = some v -> (Same H H' /\ H' d = some (.dK (marks (seen ++ ns.take i))) /\ dup seen (ns.take i) = none /\ ∃ x, σ = [some (.ref p), some (.ref a), some (.ref d), x]) ->
      (gName 3) v σ H' fun σ2 H2 => (tSeq (tIfS (tB (tDIn (tVar 3) (tVar 2))) (tRaise Tw (spX Tw "name") E (tCons (tVar 3) tNil)) tNext) (sDPut (tVar 2) (tVar 3) (tC (.bl true)))) { D with nx := fun σ H' => Same H H' /\ H' d = some (.dK (marks (seen ++ ns.take (i + 1)))) /\ dup seen (ns.take (i + 1)) = none /\ ∃ x, σ = [some (.ref p), some (.ref a), some (.ref d), x], ct := fun σ H' => Same H H' /\ H' d = some (.dK (marks (seen ++ ns.take (i + 1)))) /\ dup seen (ns.take (i + 1)) = none /\ ∃ x, σ = [some (.ref p), some (.ref a), some (.ref d), x], bk := D.nx } σ2 H2 := by
    rintro D d hd i v σ H1 hv ⟨s1, h1, hdup, x, rfl⟩
    rw [List.getElem?_map] at hv
    obtain ⟨n, hn1, rfl⟩ := Option.map_eq_some_iff.mp hv
    have hi : i < ns.length := (List.getElem?_eq_some_iff.mp hn1).1
    refine ⟨_, rfl, _, rfl, d, _, rfl, DGet.k (k := .inr n) h1, _, rfl, ?_⟩
    have dt := dup_take hn1 (by rw [hdup]; intro m z; cases z)
    rw [marks_in]
    by_cases c : n ∈ seen ++ ns.take i
    · rw [if_pos c] at dt
      refine iteT' (decide_eq_true c) ⟨_, rfl, by show 1 <= sizeLine; decide, fun e he => raised ((q2 n dt).at s1) e he⟩
    · refine iteF' (decide_eq_false c) ⟨_, rfl, _, rfl, d, _, rfl, DPut.k (k := .inr n) h1 ?_, s1.put hd, ?_, dup_more hn1 hdup c, _, rfl⟩
      · unfold marks
        rw [List.length_map, List.length_append, List.length_take]
        omega
      · rw [upd_same, putK_new _ (marks_none c), <- take_snoc hn1, <- List.append_assoc]
        show some (HO.dK (marks (seen ++ ns.take i) ++ marks [n])) = _
        unfold marks
        rw [<- List.map_append]
  have fin : ∀ (d : Addr) σ H', H d = none -> (Same H H' /\ H' d = some (.dK (marks (seen ++ ns.take (ns.map V.str).length))) /\ dup seen (ns.take (ns.map V.str).length) = none /\ ∃ x, σ = [some (.ref p), some (.ref a), some (.ref d), x]) -> (tRet (tVar 2) : TS) { nx := fun _ H' => Q .non H', rt := Q } σ H' := by
    rintro d σ H1 hd ⟨s1, h1, hdup, x, rfl⟩
    rw [List.length_map, List.take_of_length_le (Nat.le_refl _)] at h1 hdup
    exact ⟨_, rfl, q1 hdup _ d s1 hd h1⟩
  have beg : ∀ (d : Addr), H d = none -> (Same H (upd H d (.dK (marks seen))) /\ upd H d (.dK (marks seen)) d = some (.dK (marks (seen ++ ns.take 0))) /\ dup seen (ns.take 0) = none /\ ∃ x, [some (.ref p), some (.ref a), some (.ref d), none] = [some (V.ref p), some (.ref a), some (.ref d), x]) := fun d hd =>
    ⟨same_new hd _, by rw [upd_same, List.take_zero, List.append_nil], rfl, none, rfl⟩
  rcases hS with hS | hS
  · refine ⟨_,
    (jss_cons (js_set (i := 2) scBound.nd rfl (Or.inl rfl) (je_fnTy jc_dict_dict rfl m_dict PyProof.Rows.boot_dict (ja_c (jv 1) ja_nil)))
    (jss_cons (js_for ownx rfl (ji_list (jv 0)) (jg_name (i := 3) scBound.nd rfl (Or.inl rfl))
      (jss_cons (js_if (jt_din hr (jv 3) (jv 2))
        (jss_one (js_raise GX hr rfl throwx (ja_c (jv 3) ja_nil))) jss_nil)
      (jss_one (js_dput hr (jv 2) (jv 3) je_bl))))
    (jss_one (js_ret (jv 2))))), ?_⟩
    refine ⟨_, rfl, a, _, rfl, hA, fun d hd => ?_⟩
    refine ⟨_, rfl, _, rfl, ⟨_, (same_new hd _).seq hS⟩, for_list (xs := ns.map V.str) (fun i σ H' => Same H H' /\ H' d = some (.dK (marks (seen ++ ns.take i))) /\ dup seen (ns.take i) = none /\ ∃ x, σ = [some (.ref p), some (.ref a), some (.ref d), x]) (beg d hd) (fun i σ H' _ h => h.1.seq hS) (body _ d hd) (fun σ H' h => fin d σ H' hd h)⟩
  · refine ⟨_,
    (jss_cons (js_set (i := 2) scBound.nd rfl (Or.inl rfl) (je_fnTy jc_dict_dict rfl m_dict PyProof.Rows.boot_dict (ja_c (jv 1) ja_nil)))
    (jss_cons (js_for ownx rfl (ji_tup (jv 0)) (jg_name (i := 3) scBound.nd rfl (Or.inl rfl))
      (jss_cons (js_if (jt_din hr (jv 3) (jv 2))
        (jss_one (js_raise GX hr rfl throwx (ja_c (jv 3) ja_nil))) jss_nil)
      (jss_one (js_dput hr (jv 2) (jv 3) je_bl))))
    (jss_one (js_ret (jv 2))))), ?_⟩
    refine ⟨_, rfl, a, _, rfl, hA, fun d hd => ?_⟩
    refine ⟨_, rfl, _, rfl, ⟨_, SqT.of (same_new hd _ _ _ hS)⟩, for_tup (xs := ns.map V.str) (fun i σ H' => Same H H' /\ H' d = some (.dK (marks (seen ++ ns.take i))) /\ dup seen (ns.take i) = none /\ ∃ x, σ = [some (.ref p), some (.ref a), some (.ref d), x]) (beg d hd) (fun i σ H' _ h => SqT.of (h.1 _ _ hS)) (body _ d hd) (fun σ H' h => fin d σ H' hd h)⟩
end
end KD
namespace L2
open PySem PySem.Spec PyProof.Rows
section
variable {X : Cx}
end
end L2
namespace L2
open PySem PySem.Spec PyProof.Rows
section
variable {X : Cx}
theorem jc_int1 : jCa X (.type "int") (fun xs H Q => (∃ i, xs = [.int i] /\ Q (.int i) H) \/ ∃ k, xs = [.bl k] /\ Q (.int (if k then 1 else 0)) H) := ⟨call_int1⟩
theorem js_never {st : Stmt} : jS X st (fun _ _ _ => False) := ⟨fun _ _ _ _ _ _ h => h.elim⟩
end
section
variable {X : Cx} {Ch : Addr} {x n z : Str} {i j k : Nat} {np hpos tpos pz spos : Pos} {b0 : Stmt} {suite : List Stmt} {th : Addr -> Obj -> TS} {ps : List Str} {sp : Sp} {y : Str} {p cpos : Pos} {a : Expr} {as : List Expr} {t : TA}
end
end L2
namespace HT
open PySem PySem.Spec PyProof.Rows
section
variable {prog : Program} {w : World} {A : Around} {s : Shared} {E : Value -> Shared -> Prop}
theorem getItem_tuple_whole {t sl : Addr} {items : Array Value} {vl vu : Value} {lo hi : Option Int} {Q : Value -> Shared -> Prop} (ht : IsTup s.heap t items) (hs : s.heap.IsSliceOf sl vl vu .none) (pl : IsPart vl lo) (pu : IsPart vu hi)
    (hw : sIx items.size 0 lo = 0 /\ sIx items.size items.size hi = items.size) (h : Q (.ref t) s) : wpAny (model prog w) A (getItem (.ref t) (.ref sl)) Q E s := by
  obtain ⟨os, hos, hcs, hds⟩ := id hs
  have hTs : s.TypeIs (.ref sl) "slice" := ⟨os, hos, hcs⟩
  unfold getItem
  try with_reducible refine wpAny_holding ?_
  first | refine wpAny_bind (wpAny_pure ?_) | skip
  refine wpAny_bind (wpAny_sequenceKey ht.typeIs (by decide) ?_)
  refine wpAny_bind (wpAny_callSpecial?_slot (name := Str.ofString "__getitem__") ht.typeIs PyProof.Rows.slot_tuple_getitem
    (wpAny_call_entry PyProof.Rows.slot_tuple_getitem ht.typeIs entry_tuple_getitem ?_ (args_tuple_getitem _ _)))
  show wpAny _ _ (Builtin.Tuple.tupleItemsOf (.ref t) >>= _) _ _ s
  refine wpAny_bind (tupleItemsOf_ ht ?_)
  refine wpAny_bind (wpAny_typeOf hTs ?_)
  rw [if_pos (by decide)]
  refine wpAny_bind (sliceApplied_gen hs pl pu ?_)
  have hyes : (((sIx items.size 0 lo : Nat) : Int) == 0 && (1 : Int) == 1 && (sIx items.size items.size hi - sIx items.size 0 lo) == items.size) = true := by
    rw [hw.1, hw.2]
    simp
  show wpAny _ _ (if (((sIx items.size 0 lo : Nat) : Int) == 0 && (1 : Int) == 1 && (sIx items.size items.size hi - sIx items.size 0 lo) == items.size) = true then _ else _) _ _ s
  rw [if_pos hyes]
  have hx : wpAny (model prog w) A.in1 (Builtin.Tuple.tupleIsExact (.ref t)) (fun b s' => b = true /\ s' = s) (fun _ _ => False) s := by
    unfold Builtin.Tuple.tupleIsExact
    exact wpAny_bind (wpAny_typeOf ht.typeIs (wpAny_pure ⟨by decide, rfl⟩))
  refine wpAny_bind (wpAny_mono hx (fun b s' q => ?_) fun _ _ z => z.elim)
  obtain ⟨rfl, rfl⟩ := q
  rw [if_pos rfl]
  exact wpAny_bind (wpAny_rule (wpAny_pure ⟨_, rfl, wpAny_pure h⟩))
end
end HT
namespace L2
open PySem PySem.Spec PyProof.Rows
def rSlW (K : PySem.W.Frag) : V -> Option Int -> Option Int -> Hp -> VK -> Prop := fun x lo hi H Q => ∃ a xs, x = .ref a /\ SqT K H a xs /\
  (cutV xs lo hi = xs -> Q (.ref a) H) /\ ∀ p, H p = none -> Q (.ref p) (upd H p (.tup (cutV xs lo hi)))
section
variable {X : Cx}
theorem sl_tupW : SlR X (rSlW X.K) := by
  intro pins s σ H x v vl vu lo hi sl Q I rx hs pl pu h
  obtain ⟨a, xs, rfl, hx, q1, q⟩ := h
  by_cases hw : HT.sIx xs.length 0 lo = 0 /\ HT.sIx xs.length xs.length hi = xs.length
  · cases rx
    obtain ⟨its, r, ht, hz⟩ := I.tuple hx
    have hlen : its.toArray.size = xs.length := by rw [List.size_toArray]; exact r.length.symm
    refine ⟨"tuple", _, PyProof.Rows.slot_tuple_getitem.lookup, ht.typeIs, ?_⟩
    refine HT.getItem_tuple_whole ht hs pl pu (by rw [hlen]; exact hw) ⟨.ref a, H, I, rfl, q1 ?_⟩
    unfold cutV
    rw [hw.1, hw.2]
    simp
  · exact sl_tup pins s σ H (.ref a) v vl vu lo hi sl Q I rx hs pl pu ⟨a, xs, rfl, hx, hw, q⟩
def rSlO : V -> Option Int -> Option Int -> Hp -> VK -> Prop := fun x lo hi H Q => ∃ a xs, x = .ref a /\ H a = some (.tup xs) /\ ∀ p H', (∀ b o, H b = some o -> H' b = some o) -> H' p = some (.tup (cutV xs lo hi)) -> Q (.ref p) H'
theorem sl_tupO : SlR X rSlO := by
  intro pins s σ H x v vl vu lo hi sl Q I rx hs pl pu h
  obtain ⟨a, xs, rfl, hx, q⟩ := h
  refine sl_tupW pins s σ H (.ref a) v vl vu lo hi sl Q I rx hs pl pu ⟨a, xs, rfl, SqT.of hx, fun e => q a H (fun _ _ z => z) (by rw [e]; exact hx), fun p hp => q p _ (fun b o z => ?_) upd_same⟩
  rw [upd_ne (ne_of_none z hp)]
  exact z
theorem jl_tupO : jSl X rSlO := ⟨sl_tupO⟩
end
end L2
namespace KD
open PySem L2 K11
inductive De where
  | num (i : Int)
  | op (w a b : Str)
  | ask (g : Str) (ns : List Str)
  | app (w : Str) (t : Str) (ns : List Str)
inductive IsDe (H : Hp) : De -> Addr -> Prop
  | num {i : Int} {p : Addr} : H p = some (.tup [.str "num", .int i]) -> IsDe H (.num i) p
  | op {w a b : Str} {p : Addr} : H p = some (.tup [.str "op", .str w, .str a, .str b]) -> IsDe H (.op w a b) p
  | ask {g : Str} {ns : List Str} {p q : Addr} : H p = some (.tup [.str "ask", .str g, .ref q]) -> H q = some (.tup (ns.map V.str)) -> IsDe H (.ask g ns) p
  | app {w t : Str} {ns : List Str} {p q : Addr} : (w = "make" \/ w = "call" \/ w = "func") -> H p = some (.tup [.str w, .str t, .ref q]) -> H q = some (.tup (ns.map V.str)) -> IsDe H (.app w t ns) p
theorem IsDe.keep {H H' : Hp} (t : Tups H H') {d : De} {p : Addr} (h : IsDe H d p) : IsDe H' d p := by
  cases h with
  | num a => exact .num (t _ _ a)
  | op a => exact .op (t _ _ a)
  | ask a b => exact .ask (t _ _ a) (t _ _ b)
  | app e a b => exact .app e (t _ _ a) (t _ _ b)
def IsKn (cK : Addr) (H : Hp) (k : Addr) (kt kp : List (Str × Int)) : Prop := ∃ dx pk d1 d2, H k = some (.ins cK dx [("kinds", .ref pk), ("tag_sizes", .ref d1), ("param_counts", .ref d2)]) /\ H d1 = some (.dK (ents kt)) /\ H d2 = some (.dK (ents kp))
theorem IsKn.same {cK : Addr} {H H' : Hp} {k : Addr} {kt kp : List (Str × Int)} (h : IsKn cK H k kt kp) (s : Same H H') : IsKn cK H' k kt kp := let ⟨dx, pk, d1, d2, a, b, c⟩ := h; ⟨dx, pk, d1, d2, s _ _ a, s _ _ b, s _ _ c⟩
theorem ents_at {l : List (Str × Int)} {t : Str} : valV (ents l) (.inr t) = (l.lookup t).map V.int := by
  induction l with
  | nil => rfl
  | cons a l ih =>
    show valV ((Sum.inr a.1, V.int a.2) :: ents l) (.inr t) = _
    by_cases h : t = a.1
    · rw [h, valV_pos rfl, List.lookup_cons, beq_self_eq_true]
      rfl
    · rw [valV_neg (fun e => h (Sum.inr.inj e).symm), ih, List.lookup_cons, beq_eq_false_iff_ne.mpr h]
abbrev Flt := Nat × Str
def hasK (kvs : List (Key × V)) (n : Str) : Bool := (valV kvs (.inr n)).isSome
def numF (kt kp : List (Str × Int)) (w t : Str) (m : Nat) : Option Flt := match (if w = "make" then kt else kp).lookup t with
  | none => some (2, t)
  | some k => if (if w = "func" then (m : Int) <= k else (m : Int) = k) then none else some (3, t)
def unkF (seen ns : List Str) : Option Flt := (ns.find? fun n => decide (n ∉ seen)).map fun n => (2, n)
def deF (kt kp : List (Str × Int)) (seen : List Str) : De -> Option Flt
  | .num _ => none
  | .op _ a b => unkF seen [a, b]
  | .ask g ns => unkF seen (g :: ns)
  | .app w t ns => match unkF seen ns with
    | some f => some f
    | none => numF kt kp w t ns.length
def spKnowG (K : PySem.W.Frag) (Un : Addr) : Sp := fun vs H Q E => ∃ (p a : Addr) (ns : List Str) (kvs : List (Key × V)), vs = [.ref p, .ref a] /\ Sq K H p ns /\ H a = some (.dK kvs) /\
  ((∀ n ∈ ns, hasK kvs n = true) -> Q .non H) /\ ∀ n, ns.find? (fun n => !hasK kvs n) = some n -> Err Un E H n
def clsF (Tw Un Mi : Addr) (k : Nat) : Addr := if k = 1 then Tw else if k = 2 then Un else Mi
def spNumb (cK Un Mi : Addr) : Sp := fun vs H Q E => ∃ (k p : Addr) (kt kp : List (Str × Int)) (w t : Str) (q : Addr) (ns : List Str), vs = [.ref k, .ref p] /\ IsKn cK H k kt kp /\ H p = some (.tup [.str w, .str t, .ref q]) /\ H q = some (.tup (ns.map V.str)) /\
  (numF kt kp w t ns.length = none -> ∀ H', Same H H' -> Q .non H') /\ ∀ f, numF kt kp w t ns.length = some f -> Err (clsF Un Un Mi f.1) E H f.2
def spDeed (cK Un Mi : Addr) : Sp := fun vs H Q E => ∃ (k p a : Addr) (kt kp : List (Str × Int)) (seen : List Str) (d : De), vs = [.ref k, .ref p, .ref a] /\ IsKn cK H k kt kp /\ IsDe H d p /\ H a = some (.dK (marks seen)) /\ (∀ g ns, d = .ask g ns -> ns.length <= 1000) /\
  (deF kt kp seen d = none -> ∀ H', Same H H' -> Q .non H') /\ ∀ f, deF kt kp seen d = some f -> Err (clsF Un Un Mi f.1) E H f.2
section
variable {P : Program} {w : World} {K : PySem.W.Frag} {mg : Str -> Option Value} {base : Heap} {f R C Tw Un Mi cK : Addr} {fd : FuncData}
theorem ok_knowG (F : Fun K "insist_known" "insist_known" sInsist f fd) (GX : Xa P w K mg base 1 "Unknown" Un ["self", "name"] (spX Un "name")) : FnOk P w K mg base (CXf P w) 3 f fd ["names", "known_ones"] (spKnowG K Un) := by
  refine F.byx scKnow (fun vs H Q E h => ?_) (fun cdv A outer s H vs Q E hr h => ?_)
  · obtain ⟨p, a, ns, kvs, rfl, _⟩ := h
    rfl
  obtain ⟨p, a, ns, kvs, rfl, hS, hA, q1, q2⟩ := h
  have sl := line0
  have body : ∀ (D : Ends), ∀ i v σ H', (ns.map V.str)[i]? = some v -> (H' = H /\ (∀ n ∈ ns.take i, hasK kvs n = true) /\ ∃ x, σ = [some (.ref p), some (.ref a), x]) ->
      (gName 2) v σ H' fun σ2 H2 => (tIfS (tB (tDNotIn (tVar 2) (tVar 1))) (tRaise Un (spX Un "name") E (tCons (tVar 2) tNil)) tNext) { D with nx := fun σ H' => H' = H /\ (∀ n ∈ ns.take (i + 1), hasK kvs n = true) /\ ∃ x, σ = [some (.ref p), some (.ref a), x], ct := fun σ H' => H' = H /\ (∀ n ∈ ns.take (i + 1), hasK kvs n = true) /\ ∃ x, σ = [some (.ref p), some (.ref a), x], bk := D.nx } σ2 H2 := by
    rintro D i v σ H1 hv ⟨rfl, hall, x, rfl⟩
    rw [List.getElem?_map] at hv
    obtain ⟨n, hn1, rfl⟩ := Option.map_eq_some_iff.mp hv
    refine ⟨_, rfl, _, rfl, a, _, rfl, DGet.k (k := .inr n) hA, _, rfl, ?_⟩
    by_cases c : hasK kvs n = true
    · refine iteF' (by unfold hasK at c; rw [c]; rfl) ⟨rfl, fun m hm => ?_, _, rfl⟩
      rw [<- take_snoc hn1] at hm
      rcases List.mem_append.mp hm with h | h
      · exact hall m h
      · rw [List.mem_singleton.mp h]
        exact c
    · have c' : hasK kvs n = false := by simpa using c
      refine iteT' (by unfold hasK at c'; rw [c']; rfl) ⟨_, rfl, by show 1 <= sizeLine; decide, fun e he => raised (q2 n ?_) e he⟩
      have e1 : ns = ns.take i ++ n :: ns.drop (i + 1) := by
        conv => lhs; rw [<- List.take_append_drop (i + 1) ns, <- take_snoc hn1, List.append_assoc]
        rfl
      rw [e1, List.find?_append, List.find?_eq_none.mpr (fun m hm => by simp [hall m hm]), Option.none_or, List.find?_cons_of_pos (by simp [c'])]
  have fin : ∀ σ H', (H' = H /\ (∀ n ∈ ns.take (ns.map V.str).length, hasK kvs n = true) /\ ∃ x, σ = [some (V.ref p), some (V.ref a), x]) -> Q .non H' := by
    rintro σ H1 ⟨rfl, hall, x, rfl⟩
    rw [List.length_map, List.take_of_length_le (Nat.le_refl _)] at hall
    exact q1 hall
  rcases hS with hS | hS
  · refine ⟨_,
    (jss_one (js_for ownx rfl (ji_list (jv 0)) (jg_name (i := 2) scKnow.nd rfl (Or.inl rfl))
      (jss_one (js_if (jt_dnotin hr (jv 2) (jv 1))
        (jss_one (js_raise GX hr rfl throwx (ja_c (jv 2) ja_nil))) jss_nil)))), ?_⟩
    refine ⟨_, rfl, _, rfl, ⟨_, hS⟩, for_list (xs := ns.map V.str) (fun i σ H' => H' = H /\ (∀ n ∈ ns.take i, hasK kvs n = true) /\ ∃ x, σ = [some (.ref p), some (.ref a), x]) ⟨rfl, (fun n hn => by simp at hn), none, rfl⟩ (fun i σ H' _ h => by rw [h.1]; exact hS) (body _) (fun σ H' h => fin σ H' h)⟩
  · refine ⟨_,
    (jss_one (js_for ownx rfl (ji_tup (jv 0)) (jg_name (i := 2) scKnow.nd rfl (Or.inl rfl))
      (jss_one (js_if (jt_dnotin hr (jv 2) (jv 1))
        (jss_one (js_raise GX hr rfl throwx (ja_c (jv 2) ja_nil))) jss_nil)))), ?_⟩
    refine ⟨_, rfl, _, rfl, ⟨_, SqT.of hS⟩, for_tup (xs := ns.map V.str) (fun i σ H' => H' = H /\ (∀ n ∈ ns.take i, hasK kvs n = true) /\ ∃ x, σ = [some (.ref p), some (.ref a), x]) ⟨rfl, (fun n hn => by simp at hn), none, rfl⟩ (fun i σ H' _ h => by rw [h.1]; exact SqT.of hS) (body _) (fun σ H' h => fin σ H' h)⟩
end
end KD
namespace KD
open PySem L2 K11
structure Kn (K : PySem.W.Frag) (cK : Addr) : Prop where
  cl : Cls K cK
  a1 : NoAttr K cK "kinds"
  a2 : NoAttr K cK "tag_sizes"
  a3 : NoAttr K cK "param_counts"
section
variable {P : Program} {w : World} {K : PySem.W.Frag} {mg : Str -> Option Value} {base : Heap} {f R C Tw Un Mi cK : Addr} {fd : FuncData}
theorem scNumb : FnScope ["known", "deed", "counts", "wanted", "fits"] ["known", "deed"] (defScope sNumb) := ⟨rfl, rfl, rfl, by decide +kernel, rfl, by decide +kernel, by decide +kernel⟩
theorem ok_numb (F : Fun K "look_at_number" "look_at_number" sNumb f fd) (T : Kn K cK) (GI : Ca P w K mg base (CXf P w) 3 "insist_known" ["names", "known_ones"] (spKnowG K Un)) (GX : Xa P w K mg base 1 "Misfit" Mi ["self", "name"] (spX Mi "name")) (m_len : mg "len" = none) : FnOk P w K mg base (CXf P w) 4 f fd ["known", "deed"] (spNumb cK Un Mi) := by
  refine F.byx scNumb (fun vs H Q E h => ?_) (fun cdv A outer s H vs Q E hr h => ?_)
  · obtain ⟨k, p, kt, kp, w, t, q, ns, rfl, _⟩ := h
    rfl
  obtain ⟨k, p, kt, kp, w, t, q, ns, rfl, ⟨dx, pk, d1, d2, hk, h1, h2⟩, hp, hq, q1, q2⟩ := h
  have r2 : Room 2 _ := hr.mono (by decide)
  refine ⟨_,
    (jss_cons (js_set (i := 2) scNumb.nd rfl (Or.inl rfl) (je_ifExp (jt_cmpR jo_eq (je_ix jx_tup (jv 1) je_int (fun _ _ => rfl)) je_str (nomark _)) (je_fld (jv 0)) (je_fld (jv 0))))
    (jss_cons (js_expr (je_ca GI hr rfl passx (ja_c (je_lst (ja_c (je_ix jx_tup (jv 1) je_int (fun _ _ => rfl)) ja_nil)) (ja_c (jv 2) ja_nil))))
    (jss_cons (js_set (i := 3) scNumb.nd rfl (Or.inl rfl) (je_dget hr (jv 2) (je_ix jx_tup (jv 1) je_int (fun _ _ => rfl))))
    (jss_cons (js_set (i := 4) scNumb.nd rfl (Or.inl rfl) (je_ifExp (jt_cmpR jo_eq (je_ix jx_tup (jv 1) je_int (fun _ _ => rfl)) je_str (nomark _)) (je_cmpR jo_le (je_fnB jc_len_seq rfl m_len PySem.boot_len (ja_c (je_ix jx_tup (jv 1) je_int (fun _ _ => rfl)) ja_nil)) (jv 3) (nomark _)) (je_cmpR jo_eq (je_fnB jc_len_seq rfl m_len PySem.boot_len (ja_c (je_ix jx_tup (jv 1) je_int (fun _ _ => rfl)) ja_nil)) (jv 3) (nomark _))))
    (jss_one (js_if (jt_not (jt_val (jv 4)))
      (jss_one (js_raise GX r2 rfl throwx (ja_c (je_ix jx_tup (jv 1) je_int (fun _ _ => rfl)) ja_nil))) jss_nil)))))), ?_⟩
  have sl := line0
  suffices rest : ∀ (dc : Addr) (kc : List (Str × Int)), H dc = some (.dK (ents kc)) -> kc = (if w = "make" then kt else kp) -> (tSeq _ _ : TS) _ [some (.ref k), some (.ref p), some (.ref dc), none, none] H by
    refine ⟨_, rfl, p, _, _, _, rfl, rfl, SqT.of hp, rfl, rfl, _, rfl, ?_⟩
    by_cases c : w = "make"
    · refine iteT' (decide_eq_true (congrArg V.str c)) ⟨_, rfl, k, cK, dx, _, _, rfl, hk, T.cl, T.a2, rfl, rest d1 kt h1 (by rw [if_pos c])⟩
    · refine iteF' (decide_eq_false fun e => c (V.str.inj e)) ⟨_, rfl, k, cK, dx, _, _, rfl, hk, T.cl, T.a3, rfl, rest d2 kp h2 (by rw [if_neg c])⟩
  intro dc kc hdc ekc
  refine ⟨_, rfl, p, _, _, _, rfl, rfl, SqT.of hp, atI_nat (j := 1) rfl, by show 1 <= sizeLine; decide, fun l hl => ?_⟩
  have s1 := same_new hl (.lst [.str t])
  have nf : numF kt kp w t ns.length = match kc.lookup t with
    | none => some (2, t)
    | some k => if (if w = "func" then ((ns.length : Nat) : Int) <= k else ((ns.length : Nat) : Int) = k) then none else some (3, t) := by
    unfold numF
    rw [<- ekc]
    try (cases kc.lookup t <;> rfl)
  have hk' : hasK (ents kc) t = (kc.lookup t).isSome := by unfold hasK; rw [ents_at, Option.isSome_map]
  refine ⟨_, rfl, l, dc, [t], ents kc, rfl, .inl (SqL.of upd_same), s1 _ _ hdc, fun hall => ?_, fun n hn => ?_⟩
  · have ht := hall t (by simp)
    rw [hk'] at ht
    obtain ⟨m, hm⟩ := Option.isSome_iff_exists.mp ht
    rw [hm] at nf
    have hp1 := s1 _ _ hp
    have hq1 := s1 _ _ hq
    have dg : DGet (upd H l (.lst [.str t])) dc (.str t) (some (.int m)) := by
      have := DGet.k (k := .inr t) (s1 _ _ hdc)
      rw [ents_at, hm] at this
      exact this
    refine ⟨_, rfl, _, rfl, p, _, _, _, rfl, rfl, SqT.of hp1, atI_nat (j := 1) rfl, dc, _, rfl, dg, ?_⟩
    suffices fit : ∀ b : Bool, (b = true ↔ numF kt kp w t ns.length = none) -> (tIfS (tNot (tB (tVar 4))) (tRaise Mi (spX Mi "name") E (tCons (tOp (rIxT K) (tVar 1) (tC (.int 1))) tNil)) tNext : TS) { nx := fun _ H' => Q .non H', rt := Q } [some (.ref k), some (.ref p), some (.ref dc), some (.int m), some (.bl b)] (upd H l (.lst [.str t])) by
      refine ⟨_, rfl, p, _, _, _, rfl, rfl, SqT.of hp1, rfl, rfl, _, rfl, ?_⟩
      by_cases c : w = "func"
      · refine iteT' (decide_eq_true (congrArg V.str c)) ⟨_, rfl, p, _, _, _, rfl, rfl, SqT.of hp1, atI_nat (j := 2) rfl, q, _, rfl, .inr (SqT.of hq1), _, rfl, _, _, rfl, rfl, fit (decide ((((ns.map V.str).length : Nat) : Int) <= m)) ?_⟩
        rw [nf]
        simp [c]
      · refine iteF' (decide_eq_false fun e => c (V.str.inj e)) ⟨_, rfl, p, _, _, _, rfl, rfl, SqT.of hp1, atI_nat (j := 2) rfl, q, _, rfl, .inr (SqT.of hq1), _, rfl, rfl, fit (decide (V.int (((ns.map V.str).length : Nat) : Int) = V.int m)) ?_⟩
        rw [nf]
        simp [c]
    intro b hb
    refine ⟨_, rfl, b, rfl, ?_⟩
    cases b with
    | true => exact iteF (q1 (hb.mp rfl) _ s1)
    | false =>
      have e3 : numF kt kp w t ns.length = some (3, t) := by
        have nf' : numF kt kp w t ns.length = if (if w = "func" then ((ns.length : Nat) : Int) <= m else ((ns.length : Nat) : Int) = m) then none else some (3, t) := nf
        by_cases h : (if w = "func" then ((ns.length : Nat) : Int) <= m else ((ns.length : Nat) : Int) = m)
        · exact absurd (hb.mpr (by rw [nf', if_pos h])) (by decide)
        · rw [nf', if_neg h]
      refine iteT ⟨_, rfl, p, _, _, _, rfl, rfl, SqT.of hp1, atI_nat (j := 1) rfl, by show 1 <= sizeLine; decide, fun e he => raised (Err.at (q2 (3, t) e3) s1) e he⟩
  · have hn' : n = t /\ hasK (ents kc) t = false := by
      by_cases c : hasK (ents kc) t = true
      · simp [c] at hn
      · simp [c] at hn
        exact ⟨hn.symm, by simpa using c⟩
    rw [hk'] at hn'
    obtain ⟨rfl, hn2⟩ := hn'
    have e0 : kc.lookup n = none := by simpa using hn2
    rw [e0] at nf
    exact Err.at (q2 (2, n) nf) s1
theorem scDeed : FnScope ["known", "deed", "above"] ["known", "deed", "above"] (defScope sDeed) := ⟨rfl, rfl, rfl, by decide +kernel, rfl, by decide +kernel, by decide +kernel⟩
theorem hasK_marks {seen : List Str} {n : Str} : hasK (marks seen) n = decide (n ∈ seen) := marks_in
theorem know_unk {seen ns : List Str} {H : Hp} {E : XK} {C : Prop} (ok : unkF seen ns = none -> C) (bad : ∀ n, unkF seen ns = some (2, n) -> Err Un E H n) :
    ((∀ n ∈ ns, hasK (marks seen) n = true) -> C) /\ ∀ n, ns.find? (fun n => !hasK (marks seen) n) = some n -> Err Un E H n := by
  have e : (fun n => !hasK (marks seen) n) = fun n => decide (n ∉ seen) := by
    funext n
    rw [hasK_marks]
    by_cases h : n ∈ seen <;> simp [h]
  refine ⟨fun h => ok ?_, fun n hn => bad n ?_⟩
  · unfold unkF
    rw [List.find?_eq_none.mpr (fun n hn => by have := h n hn; rw [hasK_marks] at this; simpa using this)]
    rfl
  · rw [e] at hn
    unfold unkF
    rw [hn]
    rfl
theorem ok_deed (F : Fun K "look_at_deed" "look_at_deed" sDeed f fd) (GI : Ca P w K mg base (CXf P w) 3 "insist_known" ["names", "known_ones"] (spKnowG K Un)) (GN : Ca P w K mg base (CXf P w) 4 "look_at_number" ["known", "deed"] (spNumb cK Un Mi)) : FnOk P w K mg base (CXf P w) 5 f fd ["known", "deed", "above"] (spDeed cK Un Mi) := by
  refine F.byx scDeed (fun vs H Q E h => ?_) (fun cdv A outer s H vs Q E hr h => ?_)
  · obtain ⟨k, p, a, kt, kp, seen, d, rfl, _⟩ := h
    rfl
  obtain ⟨k, p, a, kt, kp, seen, d, rfl, hk, hd, ha, hlen, q1, q2⟩ := h
  have r3 : Room 3 _ := hr.mono (by decide)
  refine ⟨_,
    (jss_one (js_if (jt_cmpR jo_eq (je_ix jx_tup (jv 1) je_int (fun _ _ => rfl)) je_str (nomark _))
      (jss_one (js_expr (je_ca GI r3 rfl passx (ja_c (je_slice jl_tupO (jv 1) (jo_some je_int) jo_none) (ja_c (jv 2) ja_nil)))))
      (jss_one (js_if (jt_cmpR jo_eq (je_ix jx_tup (jv 1) je_int (fun _ _ => rfl)) je_str (nomark _))
        (jss_one (js_expr (je_ca GI r3 rfl passx (ja_c (je_op jo_catT (je_tup (ja_c (je_ix jx_tup (jv 1) je_int (fun _ _ => rfl)) ja_nil)) (je_ix jx_tup (jv 1) je_int (fun _ _ => rfl))) (ja_c (jv 2) ja_nil)))))
        (jss_one (js_if (jt_cmpR jo_ne (je_ix jx_tup (jv 1) je_int (fun _ _ => rfl)) je_str (nomark _))
          (jss_cons (js_expr (je_ca GI r3 rfl passx (ja_c (je_ix jx_tup (jv 1) je_int (fun _ _ => rfl)) (ja_c (jv 2) ja_nil))))
          (jss_one (js_expr (je_ca GN hr rfl passx (ja_c (jv 0) (ja_c (jv 1) ja_nil)))))) jss_nil)))))), ?_⟩
  have sl := line0
  cases hd with
  | num h =>
    refine ⟨_, rfl, p, _, _, _, rfl, rfl, SqT.of h, rfl, rfl, _, rfl, iteF' (by decide +kernel) ?_⟩
    refine ⟨_, rfl, p, _, _, _, rfl, rfl, SqT.of h, rfl, rfl, _, rfl, iteF' (by decide +kernel) ?_⟩
    exact ⟨_, rfl, p, _, _, _, rfl, rfl, SqT.of h, rfl, rfl, _, rfl, iteF' (by decide +kernel) (q1 rfl _ (Same.refl _))⟩
  | @op w' x y p h =>
    refine ⟨_, rfl, p, _, _, _, rfl, rfl, SqT.of h, rfl, rfl, _, rfl, iteT' (by decide +kernel) ?_⟩
    refine ⟨_, rfl, _, rfl, p, _, rfl, h, fun tp H1 s1 e1 => ?_⟩
    have S1 : Same H H1 := s1
    exact ⟨_, rfl, tp, a, [x, y], marks seen, rfl, .inr e1, S1 _ _ ha, know_unk (fun hu => q1 hu _ S1) (fun n hu => Err.at (q2 (2, n) hu) S1)⟩
  | @ask g ns p q h hq =>
    have hl := hlen g ns rfl
    refine ⟨_, rfl, p, _, _, _, rfl, rfl, SqT.of h, rfl, rfl, _, rfl, iteF' (by decide +kernel) ?_⟩
    refine ⟨_, rfl, p, _, _, _, rfl, rfl, SqT.of h, rfl, rfl, _, rfl, iteT' (by decide +kernel) ?_⟩
    refine ⟨_, rfl, p, _, _, _, rfl, rfl, SqT.of h, atI_nat (j := 1) rfl, by show 1 <= sizeLine; decide, fun t1 ht1 => ?_⟩
    have s1 := same_new ht1 (.tup [.str g])
    refine ⟨_, rfl, p, _, _, _, rfl, rfl, SqT.of (s1 _ _ h), atI_nat (j := 2) rfl, t1, q, _, _, rfl, rfl, SqT.of upd_same, SqT.of (s1 _ _ hq), by simp, by rw [List.length_map]; show 1 + ns.length <= sizeLine; omega, fun e => ?_, fun e t2 ht2 => ?_⟩
    · have e0 : ns = [] := by simpa using e
      subst e0
      exact ⟨_, rfl, t1, a, [g], marks seen, rfl, .inr upd_same, s1 _ _ ha, know_unk (fun hu => q1 hu _ s1) (fun n hu => Err.at (q2 (2, n) hu) s1)⟩
    · have s2 := s1.new (o := .tup ([.str g] ++ ns.map V.str)) ht2
      exact ⟨_, rfl, t2, a, g :: ns, marks seen, rfl, .inr upd_same, s2 _ _ ha, know_unk (fun hu => q1 hu _ s2) (fun n hu => Err.at (q2 (2, n) hu) s2)⟩
  | @app w' t ns p q hw h hq =>
    have n1 : w' ≠ "op" /\ w' ≠ "ask" /\ w' ≠ "num" := by rcases hw with rfl | rfl | rfl <;> decide +kernel
    refine ⟨_, rfl, p, _, _, _, rfl, rfl, SqT.of h, rfl, rfl, _, rfl, iteF' (decide_eq_false fun e => n1.1 (V.str.inj e)) ?_⟩
    refine ⟨_, rfl, p, _, _, _, rfl, rfl, SqT.of h, rfl, rfl, _, rfl, iteF' (decide_eq_false fun e => n1.2.1 (V.str.inj e)) ?_⟩
    refine ⟨_, rfl, p, _, _, _, rfl, rfl, SqT.of h, rfl, rfl, _, rfl, iteT' (by rw [decide_eq_false fun e => n1.2.2 (V.str.inj e)]; rfl) ?_⟩
    refine ⟨_, rfl, p, _, _, _, rfl, rfl, SqT.of h, atI_nat (j := 2) rfl, _, rfl, q, a, ns, marks seen, rfl, .inr hq, ha, know_unk (fun hu => ?_) (fun n hu => q2 (2, n) (by show (match unkF seen ns with | some f => some f | none => numF kt kp w' t ns.length) = _; rw [hu]))⟩
    have de : deF kt kp seen (.app w' t ns) = numF kt kp w' t ns.length := by
      show (match unkF seen ns with | some f => some f | none => numF kt kp w' t ns.length) = _
      rw [hu]
    exact ⟨_, rfl, _, rfl, k, p, kt, kp, w', t, q, ns, rfl, hk, h, hq, fun hn H' s' => q1 (by rw [de]; exact hn) _ s', fun f hf => q2 f (by rw [de]; exact hf)⟩
end
end KD
namespace KD
open PySem L2 K11
inductive Bd where
  | give (x : Str)
  | lt (x : Str) (d : De) (b : Bd)
def Bd.sz : Bd -> Nat
  | .give _ => 1
  | .lt _ _ b => b.sz + 1
def Bd.few : Bd -> Prop
  | .give _ => True
  | .lt _ d b => (∀ g ns, d = .ask g ns -> ns.length <= 1000) /\ b.few
inductive IsBd (H : Hp) : Bd -> Addr -> Prop
  | give {x : Str} {p : Addr} : H p = some (.tup [.str "give", .str x]) -> IsBd H (.give x) p
  | lt {x : Str} {d : De} {b : Bd} {p q r : Addr} : H p = some (.tup [.str "let", .str x, .ref q, .ref r]) -> IsDe H d q -> IsBd H b r -> IsBd H (.lt x d b) p
theorem IsBd.keep {H H' : Hp} (t : Tups H H') {b : Bd} {p : Addr} (h : IsBd H b p) : IsBd H' b p := by
  induction h with
  | give a => exact .give (t _ _ a)
  | lt a d _ ih => exact .lt (t _ _ a) (d.keep t) ih
def bdF (kt kp : List (Str × Int)) : Bd -> List Str -> Option Flt
  | .give x, seen => unkF seen [x]
  | .lt x d b, seen => match deF kt kp seen d with
    | some f => some f
    | none => if x ∈ seen then some (1, x) else bdF kt kp b (seen ++ [x])
def Subs (H : Hp) : Bd -> List Str -> List Addr -> Prop
  | .give _, _, ts => ts = []
  | .lt x _ b, seen, ts => ∃ t r e, ts = [t] /\ H t = some (.tup [.ref r, .ref e]) /\ IsBd H b r /\ H e = some (.dK (marks (seen ++ [x])))
def hdF (kt kp : List (Str × Int)) : Bd -> List Str -> Option Flt
  | .give x, seen => unkF seen [x]
  | .lt x d _, seen => match deF kt kp seen d with
    | some f => some f
    | none => if x ∈ seen then some (1, x) else none
def spLooked (cK Tw Un Mi : Addr) : Sp := fun vs H Q E => ∃ (k p a : Addr) (kt kp : List (Str × Int)) (b : Bd) (seen : List Str), vs = [.ref k, .ref p, .ref a] /\ IsKn cK H k kt kp /\ IsBd H b p /\ b.few /\ H a = some (.dK (marks seen)) /\ seen.length <= 1000 /\
  (hdF kt kp b seen = none -> ∀ (H' : Hp) (l : Addr) (ts : List Addr), Same H H' -> H l = none -> H' l = some (.lst (ts.map V.ref)) -> Subs H' b seen ts -> Q (.ref l) H') /\ ∀ f, hdF kt kp b seen = some f -> Err (clsF Tw Un Mi f.1) E H f.2
structure Dg where
  n : Str
  ps : List Str
  b : Bd
def IsDg (H : Hp) (d : Dg) (p : Addr) : Prop := ∃ pq pb, H p = some (.tup [.str d.n, .ref pq, .ref pb]) /\ H pq = some (.tup (d.ps.map V.str)) /\ IsBd H d.b pb
theorem IsDg.keep {H H' : Hp} (t : Tups H H') {d : Dg} {p : Addr} (h : IsDg H d p) : IsDg H' d p := let ⟨pq, pb, h1, h2, h3⟩ := h; ⟨pq, pb, t _ _ h1, t _ _ h2, h3.keep t⟩
def dueD (kt kp : List (Str × Int)) (d : Dg) : Option Flt := match dup [] d.ps with
  | some n => some (1, n)
  | none => bdF kt kp d.b d.ps
def spThrough (cK Tw Un Mi : Addr) : Sp := fun vs H Q E => ∃ (k p : Addr) (kt kp : List (Str × Int)) (d : Dg), vs = [.ref k, .ref p] /\ IsKn cK H k kt kp /\ IsDg H d p /\ d.b.few /\ d.ps.length + d.b.sz <= 1000 /\
  (dueD kt kp d = none -> ∀ H', Same H H' -> Q .non H') /\ ∀ f, dueD kt kp d = some f -> Err (clsF Tw Un Mi f.1) E H f.2
theorem clsF_two {Tw Un Mi : Addr} {k : Nat} (h : k ≠ 1) : clsF Un Un Mi k = clsF Tw Un Mi k := by
  unfold clsF
  rw [if_neg h, if_neg h]
theorem unkF_k {seen ns : List Str} {f : Flt} (h : unkF seen ns = some f) : f.1 = 2 := by
  unfold unkF at h
  obtain ⟨n, _, rfl⟩ := Option.map_eq_some_iff.mp h
  rfl
theorem deF_k {kt kp : List (Str × Int)} {seen : List Str} {d : De} {f : Flt} (h : deF kt kp seen d = some f) : f.1 ≠ 1 := by
  cases d with
  | num i => cases h
  | op w a b => rw [unkF_k h]; decide
  | ask g ns => rw [unkF_k h]; decide
  | app w t ns =>
    have h' : (match unkF seen ns with | some f => some f | none => numF kt kp w t ns.length) = some f := h
    cases hu : unkF seen ns with
    | some g =>
      rw [hu] at h'
      cases h'
      rw [unkF_k hu]
      decide
    | none =>
      rw [hu] at h'
      unfold numF at h'
      dsimp only at h'
      generalize (if w = "make" then kt else kp).lookup t = o at h'
      cases o with
      | none =>
        cases h'
        show ¬ (2 : Nat) = 1
        decide
      | some k =>
        have h2 : (if (if w = "func" then ((ns.length : Nat) : Int) <= k else ((ns.length : Nat) : Int) = k) then none else some (3, t)) = some f := h'
        by_cases c : (if w = "func" then ((ns.length : Nat) : Int) <= k else ((ns.length : Nat) : Int) = k)
        · rw [if_pos c] at h2
          cases h2
        · rw [if_neg c] at h2
          cases h2
          show ¬ (3 : Nat) = 1
          decide
section
variable {P : Program} {w : World} {K : PySem.W.Frag} {mg : Str -> Option Value} {base : Heap} {f R C Tw Un Mi cK : Addr} {fd : FuncData}
theorem scLooked : FnScope ["known", "body", "above"] ["known", "body", "above"] (defScope sLooked) := ⟨rfl, rfl, rfl, by decide +kernel, rfl, by decide +kernel, by decide +kernel⟩
theorem ok_looked (F : Fun K "looked_at" "looked_at" sLooked f fd) (GI : Ca P w K mg base (CXf P w) 3 "insist_known" ["names", "known_ones"] (spKnowG K Un)) (GD : Ca P w K mg base (CXf P w) 5 "look_at_deed" ["known", "deed", "above"] (spDeed cK Un Mi)) (GB : Ca P w K mg base (CXf P w) 3 "with_bound" ["names", "above"] (spBound K Tw)) : FnOk P w K mg base (CXf P w) 6 f fd ["known", "body", "above"] (spLooked cK Tw Un Mi) := by
  refine F.byx scLooked (fun vs H Q E h => ?_) (fun cdv A outer s H vs Q E hr h => ?_)
  · obtain ⟨k, p, a, kt, kp, b, seen, rfl, _⟩ := h
    rfl
  obtain ⟨k, p, a, kt, kp, b, seen, rfl, hk, hB, hfew, hA, hs, q1, q2⟩ := h
  have r3 : Room 3 _ := hr.mono (by decide)
  refine ⟨_,
    (jss_cons (js_if (jt_cmpR jo_eq (je_ix jx_tup (jv 1) je_int (fun _ _ => rfl)) je_str (nomark _))
      (jss_cons (js_expr (je_ca GD hr rfl passx (ja_c (jv 0) (ja_c (je_ix jx_tup (jv 1) je_int (fun _ _ => rfl)) (ja_c (jv 2) ja_nil)))))
      (jss_one (js_ret (je_lst (ja_c (je_tup (ja_c (je_ix jx_tup (jv 1) je_int (fun _ _ => rfl)) (ja_c (je_ca GB r3 rfl passx (ja_c (je_lst (ja_c (je_ix jx_tup (jv 1) je_int (fun _ _ => rfl)) ja_nil)) (ja_c (jv 2) ja_nil))) ja_nil))) ja_nil))))) jss_nil)
    (jss_cons (js_expr (je_ca GI r3 rfl passx (ja_c (je_lst (ja_c (je_ix jx_tup (jv 1) je_int (fun _ _ => rfl)) ja_nil)) (ja_c (jv 2) ja_nil))))
    (jss_cons (js_if (jt_cmpR jo_eq (je_ix jx_tup (jv 1) je_int (fun _ _ => rfl)) je_str (nomark _))
      (jss_one js_never) jss_nil)
    (jss_cons (js_if (jt_cmpR jo_eq (je_ix jx_tup (jv 1) je_int (fun _ _ => rfl)) je_str (nomark _))
      (jss_one js_never) jss_nil)
    (jss_one (js_ret (je_lst ja_nil))))))), ?_⟩
  have sl := line0
  cases hB with
  | @give x p hB =>
    refine ⟨_, rfl, p, _, _, _, rfl, rfl, SqT.of hB, rfl, rfl, _, rfl, iteF' (by decide +kernel) ?_⟩
    refine ⟨_, rfl, p, _, _, _, rfl, rfl, SqT.of hB, atI_nat (j := 1) rfl, by show 1 <= sizeLine; decide, fun l hl => ?_⟩
    have s1 := same_new hl (.lst [.str x])
    have hB1 := s1 _ _ hB
    refine ⟨_, rfl, l, a, [x], marks seen, rfl, .inl (SqL.of upd_same), s1 _ _ hA, know_unk (fun hu => ?_) (fun n hu => Err.at (q2 (2, n) hu) s1)⟩
    refine ⟨_, rfl, p, _, _, _, rfl, rfl, SqT.of hB1, rfl, rfl, _, rfl, iteF' (by decide +kernel) ?_⟩
    refine ⟨_, rfl, p, _, _, _, rfl, rfl, SqT.of hB1, rfl, rfl, _, rfl, iteF' (by decide +kernel) ?_⟩
    exact ⟨by show 0 <= sizeLine; decide, fun r hr => q1 hu _ r [] (s1.new hr) (s1.free hr) upd_same rfl⟩
  | @lt x d b p q r hB hD hb =>
    refine ⟨_, rfl, p, _, _, _, rfl, rfl, SqT.of hB, rfl, rfl, _, rfl, iteT' (by decide +kernel) ?_⟩
    refine ⟨_, rfl, _, rfl, p, _, _, _, rfl, rfl, SqT.of hB, atI_nat (j := 2) rfl, _, rfl, k, q, a, kt, kp, seen, d, rfl, hk, hD, hA, hfew.1, fun hd H1 s1 => ?_, fun f hf => ?_⟩
    · have hB1 := s1 _ _ hB
      refine ⟨_, rfl, p, _, _, _, rfl, rfl, SqT.of hB1, atI_nat (j := 3) rfl, _, rfl, p, _, _, _, rfl, rfl, SqT.of hB1, atI_nat (j := 1) rfl, by show 1 <= sizeLine; decide, fun l hl => ?_⟩
      have s2 := s1.new (o := .lst [.str x]) hl
      have hh : hdF kt kp (.lt x d b) seen = if x ∈ seen then some (1, x) else none := by
        show (match deF kt kp seen d with | some f => some f | none => if x ∈ seen then some (1, x) else none) = _
        rw [hd]
      refine ⟨_, rfl, l, a, [x], seen, rfl, .inl (SqL.of upd_same), s2 _ _ hA, by show 1 <= 1000; decide, hs, fun hu H3 e s3 fe he => ?_, fun n hu => ?_⟩
      · have hx : x ∉ seen := fun z => by
          have : dup seen [x] = some x := by unfold dup; rw [if_pos z]
          rw [this] at hu
          cases hu
        have s4 := s2.trans s3
        refine ⟨by show 2 <= sizeLine; decide, fun t ht => ⟨by show 1 <= sizeLine; decide, fun r' hr' => ?_⟩⟩
        have s5 := (s4.new (o := .tup [.ref r, .ref e]) ht).new (o := .lst [.ref t]) hr'
        exact q1 (by rw [hh, if_neg hx]) _ r' [t] s5 ((s4.new (o := .tup [.ref r, .ref e]) ht).free hr') upd_same ⟨t, r, e, rfl, old hr' upd_same, hb.keep (.of s5), old hr' (old ht he)⟩
      · have hx : x ∈ seen /\ n = x := by
          unfold dup at hu
          split at hu
          · rename_i z
            cases hu
            exact ⟨z, rfl⟩
          · cases hu
        exact Err.at (q2 (1, n) (by rw [hh, if_pos hx.1, hx.2])) s2
    · have : hdF kt kp (.lt x d b) seen = some f := by
        show (match deF kt kp seen d with | some f => some f | none => if x ∈ seen then some (1, x) else none) = _
        rw [hf]
      have := q2 f this
      rw [clsF_two (Tw := Tw) (deF_k hf)]
      exact this
theorem scThrough : FnScope ["known", "one", "left", "pair", "within"] ["known", "one"] (defScope sThrough) := ⟨rfl, rfl, rfl, by decide +kernel, rfl, by decide +kernel, by decide +kernel⟩
theorem ok_through (F : Fun K "look_through" "look_through" sThrough f fd) (GB : Ca P w K mg base (CXf P w) 3 "with_bound" ["names", "above"] (spBound K Tw)) (GL : Ca P w K mg base (CXf P w) 6 "looked_at" ["known", "body", "above"] (spLooked cK Tw Un Mi)) (m_len : mg "len" = none) (m_reversed : mg "reversed" = none) : FnOk P w K mg base (CXf P w) 7 f fd ["known", "one"] (spThrough cK Tw Un Mi) := by
  refine F.byx scThrough (fun vs H Q E h => ?_) (fun cdv A outer s H vs Q E hr h => ?_)
  · obtain ⟨k, p, kt, kp, d, rfl, _⟩ := h
    rfl
  obtain ⟨k, p, kt, kp, d, rfl, hk, ⟨pq, pb, hp, hq, hb⟩, hfew, hn, q1, q2⟩ := h
  have r3 : Room 3 _ := hr.mono (by decide)
  refine ⟨_,
    (jss_cons (js_set (i := 2) scThrough.nd rfl (Or.inl rfl) (je_lst (ja_c (je_tup (ja_c (je_ix jx_tup (jv 1) je_int (fun _ _ => rfl)) (ja_c (je_ca GB r3 rfl passx (ja_c (je_ix jx_tup (jv 1) je_int (fun _ _ => rfl)) (ja_c je_dnewK ja_nil))) ja_nil))) ja_nil)))
    (jss_one (js_while ownx (jt_cmpR jo_gt (je_fnB jc_len_seq rfl m_len PySem.boot_len (ja_c (jv 2) ja_nil)) je_int (nomark _))
      (jss_cons (js_set (i := 3) scThrough.nd rfl (Or.inl rfl) (je_bm0 PySem.F.plainAttrs_list PySem.F.slot_list_pop PySem.F.type_list_pop jm_pop (jv 2)))
      (jss_one (js_for ownx rfl (ji_rev rfl m_reversed (ja_c (je_ca GL hr rfl passx (ja_c (jv 0) (ja_c (je_ix jx_tup (jv 3) je_int (fun _ _ => rfl)) (ja_c (je_ix jx_tup (jv 3) je_int (fun _ _ => rfl)) ja_nil)))) ja_nil)) (jg_name (i := 4) scThrough.nd rfl (Or.inl rfl))
        (jss_one (js_expr (je_bm PySem.F.plainAttrs_list PySem.F.slot_list_append PySem.F.type_list_append jm_append (jv 2) (ja_c (jv 4) ja_nil)))))))))), ?_⟩
  have sl := line0
  refine ⟨_, rfl, p, _, _, _, rfl, rfl, SqT.of hp, atI_nat (j := 2) rfl, _, rfl, p, _, _, _, rfl, rfl, SqT.of hp, atI_nat (j := 1) rfl, fun a0 ha0 => ?_⟩
  have s1 := same_new ha0 (.dK [])
  refine ⟨pq, a0, d.ps, [], rfl, .inr (s1 _ _ hq), upd_same, by omega, by simp, fun hd H2 e1 s2 hf he => ?_, fun n hd => ?_⟩
  · refine ⟨by show 2 <= sizeLine; decide, fun t1 h1 => ⟨by show 1 <= sizeLine; decide, fun lf h2 => ?_⟩⟩
    have s3 := (s1.trans s2).new (o := .tup [.ref pb, .ref e1]) h1
    have flf : H lf = none := s3.free h2
    have s4 := s3.new (o := .lst [.ref t1]) h2
    have hl4 := upd_same (H := upd H2 t1 (.tup [.ref pb, .ref e1])) (a := lf) (o := .lst [.ref t1])
    have ht4 : upd (upd H2 t1 (.tup [.ref pb, .ref e1])) lf (.lst [.ref t1]) t1 = some (.tup [.ref pb, .ref e1]) := old h2 upd_same
    have he4 : upd (upd H2 t1 (.tup [.ref pb, .ref e1])) lf (.lst [.ref t1]) e1 = some (.dK (marks d.ps)) := old h2 (old h1 he)
    generalize upd (upd H2 t1 (.tup [.ref pb, .ref e1])) lf (.lst [.ref t1]) = H4 at *
    have dd : dueD kt kp d = bdF kt kp d.b d.ps := by unfold dueD; rw [hd]
    refine ⟨fun m σ H' => Same H H' /\ (∃ x y, σ = [some (.ref k), some (.ref p), some (.ref lf), x, y]) /\ ((∃ b seen t r e, m = b.sz /\ H' lf = some (.lst [.ref t]) /\ H' t = some (.tup [.ref r, .ref e]) /\ IsBd H' b r /\ b.few /\ H' e = some (.dK (marks seen)) /\ bdF kt kp b seen = dueD kt kp d /\ seen.length + b.sz <= 1000) \/ (m = 0 /\ H' lf = some (.lst []) /\ dueD kt kp d = none)),
      ⟨_, s4, ⟨none, none, rfl⟩, .inl ⟨d.b, d.ps, t1, pb, e1, rfl, hl4, ht4, hb.keep (.of s4), hfew, he4, dd.symm, hn⟩⟩, ?_⟩
    rintro m σ H3 ⟨s5, ⟨x, y, rfl⟩, ⟨b, seen, t, r, e, rfl, hl, ht, hB, hfw, he', hF, hsz⟩ | ⟨rfl, hl5, hdd⟩⟩
    · refine ⟨_, rfl, _, _, rfl, .inl (SqL.of hl), _, _, rfl, rfl, _, rfl, iteT' rfl ⟨_, fun _ _ h => h, ?_⟩⟩
      refine ⟨_, rfl, .inl ⟨rfl, _, SqL.of hl⟩, lf, _, _, rfl, rfl, hl, rfl, ?_⟩
      have s6 := s5.put (o := .lst []) flf
      have tu : Tups H3 (upd H3 lf (.lst [])) := fun z xs hz => by rw [upd_ne (ne_of hz hl (by intro e; cases e))]; exact hz
      have hl6 := upd_same (H := H3) (a := lf) (o := .lst [])
      have ht6 := tu _ _ ht
      have hB6 := hB.keep tu
      have he6 : upd H3 lf (.lst []) e = some (.dK (marks seen)) := by rw [upd_ne (ne_of he' hl (by intro z; cases z))]; exact he'
      dsimp only [List.dropLast]
      generalize upd H3 lf (.lst []) = H6 at *
      refine ⟨_, rfl, _, rfl, t, _, _, _, rfl, rfl, SqT.of ht6, rfl, _, rfl, t, _, _, _, rfl, rfl, SqT.of ht6, atI_nat (j := 1) rfl, k, r, e, kt, kp, b, seen, rfl, hk.same s6, hB6, hfw, he6, by omega, fun hh H7 l ts s7 hfl hl7 hsub => ?_, fun f hf => ?_⟩
      · have s67 := s6.trans s7
        have hlf7 := s7 _ _ hl6
        have nll : l ≠ lf := fun z => by rw [z, hl6] at hfl; cases hfl
        cases b with
        | give x =>
          have e0 : ts = [] := hsub
          subst e0
          refine ⟨_, _, rfl, SqL.of hl7, for_rev (xs := []) (fun i σ H' => H' = H7 /\ ∃ x y, σ = [some (.ref k), some (.ref p), some (.ref lf), x, y]) ⟨rfl, _, _, rfl⟩ (fun i σ H' _ h => by rw [h.1]; exact SqL.of hl7) (fun i x σ H' hx _ => by simp at hx) ?_⟩
          rintro σ H' ⟨rfl, x, y, rfl⟩
          exact ⟨0, by show 0 < 1; decide, s67, ⟨_, _, rfl⟩, .inr ⟨rfl, hlf7, by rw [<- hF]; exact hh⟩⟩
        | lt x d' b' =>
          obtain ⟨t', r', e', rfl, g1, g2, g3⟩ := hsub
          have hx : deF kt kp seen d' = none /\ x ∉ seen := by
            have h' : (match deF kt kp seen d' with | some f => some f | none => if x ∈ seen then some ((1 : Nat), x) else none) = none := hh
            cases hd' : deF kt kp seen d' with
            | some f => rw [hd'] at h'; cases h'
            | none =>
              rw [hd'] at h'
              refine ⟨rfl, fun z => ?_⟩
              have h2 : (if x ∈ seen then some ((1 : Nat), x) else none) = none := h'
              rw [if_pos z] at h2
              cases h2
          refine ⟨_, _, rfl, SqL.of hl7, for_rev (xs := [.ref t']) (fun i σ H' => (∃ x y, σ = [some (.ref k), some (.ref p), some (.ref lf), x, y]) /\ H' l = some (.lst [.ref t']) /\ ((i = 0 /\ H' = H7) \/ (i = 1 /\ H' = upd H7 lf (.lst [.ref t'])))) ⟨⟨_, _, rfl⟩, hl7, .inl ⟨rfl, rfl⟩⟩ (fun i σ H' _ h => SqL.of h.2.1) ?_ ?_⟩
          · rintro i v σ H' hv ⟨⟨x, y, rfl⟩, hl8, ⟨rfl, rfl⟩ | ⟨rfl, rfl⟩⟩
            · cases hv
              exact ⟨_, rfl, .inl ⟨rfl, _, SqL.of hlf7⟩, _, rfl, lf, _, _, rfl, rfl, hlf7, by show 0 < sizeLine; decide, ⟨_, _, rfl⟩, by rw [upd_ne nll]; exact hl7, .inr ⟨rfl, rfl⟩⟩
            · simp at hv
          · rintro σ H' ⟨⟨x', y', rfl⟩, hl8, ⟨h0, _⟩ | ⟨_, rfl⟩⟩
            · cases h0
            have tu7 : Tups H7 (upd H7 lf (.lst [.ref t'])) := fun z xs hz => by rw [upd_ne (ne_of hz hlf7 (by intro e; cases e))]; exact hz
            refine ⟨b'.sz, by show b'.sz < b'.sz + 1; omega, s67.put flf, ⟨_, _, rfl⟩, .inl ⟨b', seen ++ [x], t', r', e', rfl, upd_same, tu7 _ _ g1, g2.keep tu7, hfw.2, by rw [upd_ne (ne_of g3 hlf7 (by intro z; cases z))]; exact g3, ?_, ?_⟩⟩
            · rw [<- hF]
              show _ = (match deF kt kp seen d' with | some f => some f | none => if x ∈ seen then some (1, x) else bdF kt kp b' (seen ++ [x]))
              rw [hx.1]
              show _ = if x ∈ seen then some (1, x) else bdF kt kp b' (seen ++ [x])
              rw [if_neg hx.2]
            · have : seen.length + (b'.sz + 1) <= 1000 := hsz
              rw [List.length_append]
              show seen.length + 1 + b'.sz <= 1000
              omega
      · refine Err.at (q2 f ?_) s6
        rw [<- hF]
        cases b with
        | give x => exact hf
        | lt x d' b' =>
          have h' : (match deF kt kp seen d' with | some f => some f | none => if x ∈ seen then some ((1 : Nat), x) else none) = some f := hf
          show (match deF kt kp seen d' with | some f => some f | none => if x ∈ seen then some ((1 : Nat), x) else bdF kt kp b' (seen ++ [x])) = some f
          cases hd' : deF kt kp seen d' with
          | some g => rw [hd'] at h'; exact h'
          | none =>
            rw [hd'] at h'
            have h2 : (if x ∈ seen then some ((1 : Nat), x) else none) = some f := h'
            show (if x ∈ seen then some ((1 : Nat), x) else bdF kt kp b' (seen ++ [x])) = some f
            by_cases z : x ∈ seen
            · rw [if_pos z] at h2 ⊢
              exact h2
            · rw [if_neg z] at h2
              cases h2
    · exact ⟨_, rfl, _, _, rfl, .inl (SqL.of hl5), _, _, rfl, rfl, _, rfl, iteF' (by decide) (q1 hdd _ s5)⟩
  · exact Err.at (q2 (1, n) (by unfold dueD; rw [hd])) s1
end
end KD
namespace KD
open PySem L2 K11
def Dfs (H : Hp) (ds : List Dg) (qs : List Addr) : Prop := ds.length = qs.length /\ ∀ (i : Nat) d q, ds[i]? = some d -> qs[i]? = some q -> IsDg H d q
theorem Dfs.keep {H H' : Hp} (t : Tups H H') {ds : List Dg} {qs : List Addr} (h : Dfs H ds qs) : Dfs H' ds qs := ⟨h.1, fun i d q h1 h2 => (h.2 i d q h1 h2).keep t⟩
theorem Dfs.get {H : Hp} {ds : List Dg} {qs : List Addr} (h : Dfs H ds qs) {i : Nat} {q : Addr} (e : qs[i]? = some q) : ∃ d, ds[i]? = some d /\ IsDg H d q := by
  have hi : i < qs.length := (List.getElem?_eq_some_iff.mp e).1
  exact ⟨ds[i]'(by rw [h.1]; exact hi), by simp, h.2 i _ q (by simp) e⟩
def IsP (H : Hp) (ks : List (List (Str × Int))) (ds : List Dg) (p : Addr) : Prop := ∃ pk pd qs rs, H p = some (.tup [.ref pk, .ref pd]) /\ H pk = some (.tup (qs.map V.ref)) /\ KdsT H ks qs /\ H pd = some (.tup (rs.map V.ref)) /\ Dfs H ds rs
theorem IsP.keep {H H' : Hp} (t : Tups H H') {ks : List (List (Str × Int))} {ds : List Dg} {p : Addr} (h : IsP H ks ds p) : IsP H' ks ds p := by
  obtain ⟨pk, pd, qs, rs, h1, h2, h3, h4, h5⟩ := h
  exact ⟨pk, pd, qs, rs, t _ _ h1, t _ _ h2, h3.keep t, t _ _ h4, h5.keep t⟩
theorem dup_none : ∀ {ns seen : List Str}, dup seen ns = none -> (∀ n ∈ ns, n ∉ seen) /\ ns.Nodup
  | [], _, _ => ⟨fun _ h => (nomatch h), List.nodup_nil⟩
  | a :: l, seen, h => by
    unfold dup at h
    split at h
    · cases h
    · rename_i c
      obtain ⟨h1, h2⟩ := dup_none h
      refine ⟨fun n hn => ?_, List.nodup_cons.mpr ⟨fun z => h1 a z (by simp), h2⟩⟩
      rcases List.mem_cons.mp hn with e | hn
      · rw [e]; exact c
      · exact fun z => h1 n hn (List.mem_append_left _ z)
def kpOf (ds : List Dg) : List (Str × Int) := ds.map fun d => (d.n, ((d.ps.length : Nat) : Int))
def due (ks : List (List (Str × Int))) (ds : List Dg) : Option Flt := match dup [] (tagsOf ks) with
  | some n => some (1, n)
  | none => match dup [] (ds.map (·.n)) with
    | some n => some (1, n)
    | none => ds.findSome? (dueD ks.flatten (kpOf ds))
structure Few24 (ks : List (List (Str × Int))) (ds : List Dg) : Prop where
  n : ks.length <= 1000
  k : ks.flatten.length <= 1000
  d : ds.length <= 1000
  p : ∀ d ∈ ds, d.ps.length + d.b.sz <= 1000
  f : ∀ d ∈ ds, d.b.few
def spSound (Tw Un Mi : Addr) : Sp := fun vs H Q E => ∃ (p : Addr) (ks : List (List (Str × Int))) (ds : List Dg), vs = [.ref p] /\ IsP H ks ds p /\ Few24 ks ds /\
  (due ks ds = none -> ∀ H', Same H H' -> Q (.bl true) H') /\ ∀ f, due ks ds = some f -> Err (clsF Tw Un Mi f.1) E H f.2
def cnts (ds : List Dg) : List (Key × V) := ds.map fun d => (.inr d.n, .int (d.ps.length : Nat))
theorem cnts_ents (ds : List Dg) : cnts ds = ents (kpOf ds) := by unfold cnts ents kpOf; rw [List.map_map]; rfl
theorem cnts_none : ∀ {l : List Dg} {t : Str}, t ∉ l.map (·.n) -> valV (cnts l) (.inr t) = none
  | [], _, _ => rfl
  | a :: l, t, h => by
    rw [List.map_cons, List.mem_cons, not_or] at h
    show valV ((Sum.inr a.n, V.int (a.ps.length : Nat)) :: cnts l) (.inr t) = none
    rw [valV_neg (fun e => h.1 (Sum.inr.inj e).symm)]
    exact cnts_none h.2
def spKInit (cK : Addr) : Sp := fun vs H Q _ => ∃ (b dx p : Addr) (ks : List (List (Str × Int))) (ds : List Dg), vs = [.ref b, .ref p] /\ H b = some (.ins cK dx []) /\ IsP H ks ds p /\ Few ks /\ ds.length <= 1000 /\ (ds.map (·.n)).Nodup /\ ∀ H', (∀ a o, a ≠ b -> H a = some o -> H' a = some o) -> IsKn cK H' b ks.flatten (kpOf ds) -> Q .non H'
theorem take_map {α β : Type} {l : List α} {i : Nat} {x : α} (f : α -> β) (h : l[i]? = some x) : (l.take i).map f ++ [f x] = (l.take (i + 1)).map f := by
  rw [List.take_add_one, h, List.map_append]
  rfl
theorem tags_take {ks : List (List (Str × Int))} {i : Nat} {k : List (Str × Int)} (h : ks[i]? = some k) : tagsOf (ks.take (i + 1)) = tagsOf (ks.take i) ++ k.map (·.1) := by
  unfold tagsOf
  rw [fl_take h, List.map_append]
theorem some_take {ds : List Dg} {i : Nat} {d : Dg} {kt kp : List (Str × Int)} (h : ds[i]? = some d) (hn : (ds.take i).findSome? (dueD kt kp) = none) {x : Flt} (hx : dueD kt kp d = some x) : ds.findSome? (dueD kt kp) = some x := by
  have e : ds = ds.take i ++ d :: ds.drop (i + 1) := by
    conv => lhs; rw [<- List.take_append_drop (i + 1) ds, <- take_snoc h, List.append_assoc]
    rfl
  rw [e, List.findSome?_append, hn, Option.none_or, List.findSome?_cons, hx]
theorem some_more {ds : List Dg} {i : Nat} {d : Dg} {kt kp : List (Str × Int)} (h : ds[i]? = some d) (hn : (ds.take i).findSome? (dueD kt kp) = none) (hx : dueD kt kp d = none) : (ds.take (i + 1)).findSome? (dueD kt kp) = none := by
  rw [<- take_snoc h, List.findSome?_append, hn, Option.none_or, List.findSome?_cons, hx]
  rfl
section
variable {P : Program} {w : World} {K : PySem.W.Frag} {mg : Str -> Option Value} {base : Heap} {f R C Tw Un Mi cK : Addr} {fd : FuncData}
theorem scKInit : FnScope ["self", "program", "one"] ["self", "program"] (defScope iKnown) := ⟨rfl, rfl, rfl, by decide +kernel, rfl, by decide +kernel, by decide +kernel⟩
theorem ok_kinit (F : Fun K "__init__" "Known.__init__" iKnown f fd) (T : Kn K cK) (GS : Ca P w K mg base CX0 1 "sizes" ["kinds"] spSizes) (m_len : mg "len" = none) : FnOk P w K mg base CX0 2 f fd ["self", "program"] (spKInit cK) := by
  refine F.by scKInit (fun vs H Q E h => ?_) (fun cdv A outer s H vs Q E hr h => ?_)
  · obtain ⟨b, dx, p, ks, ds, rfl, _⟩ := h
    rfl
  obtain ⟨b, dx, p, ks, ds, rfl, hb, ⟨pk, pd, qs, rs, hp, hpk, hK, hpd, hD⟩, hF, hn, hnd, q⟩ := h
  refine ⟨_,
    (jss_cons (js_fld (jv 0) (je_ix jx_tup (jv 1) je_int (fun _ _ => rfl)))
    (jss_cons (js_fld (jv 0) (je_ca GS hr rfl pass0 (ja_c (je_ix jx_tup (jv 1) je_int (fun _ _ => rfl)) ja_nil)))
    (jss_cons (js_fld (jv 0) je_dnewK)
    (jss_one (js_for PassesOwn.never rfl (ji_tup (je_ix jx_tup (jv 1) je_int (fun _ _ => rfl))) (jg_name (i := 2) scKInit.nd rfl (Or.inl rfl))
      (jss_one (js_dput hr (je_fld (jv 0)) (je_ix jx_tup (jv 2) je_int (fun _ _ => rfl)) (je_fnB jc_len_seq rfl m_len PySem.boot_len (ja_c (je_ix jx_tup (jv 2) je_int (fun _ _ => rfl)) ja_nil))))))))), ?_⟩
  have sl := line0
  -- tuples stay though b is written
  have tu : ∀ (H1 : Hp) (o : HO) (C : Addr) (dx : Addr) (fs : List (Str × V)), H1 b = some (.ins C dx fs) -> Tups H1 (upd H1 b o) := fun H1 o C dx fs h a xs z => by
    rw [upd_ne (fun e => by rw [e, h] at z; cases z)]
    exact z
  have kb : ∀ (H1 : Hp) (o : HO) (a : Addr) (u : HO), a ≠ b -> H1 a = some u -> upd H1 b o a = some u := fun H1 o a u n z => by rw [upd_ne n]; exact z
  refine ⟨_, rfl, p, _, _, _, rfl, rfl, SqT.of hp, rfl, _, rfl, b, cK, dx, _, rfl, hb, T.cl, T.a1, by show 0 < 1000; decide, ?_⟩
  have t1 := tu H (.ins cK dx (putF "kinds" (.ref pk) [])) _ _ _ hb
  have k1 : ∀ a u, a ≠ b -> H a = some u -> upd H b (.ins cK dx (putF "kinds" (.ref pk) [])) a = some u := kb H _
  have b1 := upd_same (H := H) (a := b) (o := .ins cK dx (putF "kinds" (.ref pk) []))
  generalize upd H b (.ins cK dx (putF "kinds" (.ref pk) [])) = H1 at *
  refine ⟨_, rfl, p, _, _, _, rfl, rfl, SqT.of (t1 _ _ hp), rfl, pk, qs, ks, rfl, t1 _ _ hpk, hK.keep t1, hF, fun H2 d1 s2 f2 e2 => ?_⟩
  have t2 : Tups H H2 := fun a xs z => s2 _ _ (t1 _ _ z)
  have k2 : ∀ a u, a ≠ b -> H a = some u -> H2 a = some u := fun a u n z => s2 _ _ (k1 a u n z)
  have b2 := s2 _ _ b1
  refine ⟨_, rfl, b, cK, dx, _, rfl, b2, T.cl, T.a2, by show 1 < 1000; decide, ?_⟩
  obtain ⟨fs2, efs2⟩ : ∃ fs, fs = putF "tag_sizes" (.ref d1) (putF "kinds" (.ref pk) []) := ⟨_, rfl⟩
  rw [<- efs2]
  have nd1b : d1 ≠ b := fun e => by rw [e, b1] at f2; cases f2
  have e3 : upd H2 b (.ins cK dx fs2) d1 = some (.dK (ents ks.flatten)) := by rw [upd_ne nd1b]; exact e2
  have t3 : Tups H (upd H2 b (.ins cK dx fs2)) := fun a xs z => tu H2 _ _ _ _ b2 _ _ (t2 _ _ z)
  have k3 : ∀ a u, a ≠ b -> H a = some u -> upd H2 b (.ins cK dx fs2) a = some u := fun a u n z => kb H2 _ a u n (k2 a u n z)
  have b3 := upd_same (H := H2) (a := b) (o := .ins cK dx fs2)
  generalize upd H2 b (.ins cK dx fs2) = H3 at *
  intro d2 hd2
  have n2 : d2 ≠ b := fun e => by rw [e, b3] at hd2; cases hd2
  have fd2 : H d2 = none := by
    cases e : H d2 with
    | none => rfl
    | some o => have := k3 d2 o n2 e; rw [hd2] at this; cases this
  refine ⟨_, rfl, b, cK, dx, _, rfl, by rw [upd_ne n2.symm]; exact b3, T.cl, T.a3, by rw [efs2]; show 2 < 1000; decide, ?_⟩
  have look : (putF "param_counts" (.ref d2) fs2).lookup ("param_counts" : Str) = some (V.ref d2) := by rw [efs2]; rfl
  have k4 : ∀ a u, a ≠ b -> H a = some u -> upd (upd H3 d2 (.dK [])) b (.ins cK dx (putF "param_counts" (.ref d2) fs2)) a = some u := fun a u n z => by
    rw [upd_ne n, upd_ne (ne_of_none z fd2)]
    exact k3 a u n z
  have nd12 : d1 ≠ d2 := fun e => by rw [<- e, e3] at hd2; cases hd2
  have e4 : upd (upd H3 d2 (.dK [])) b (.ins cK dx (putF "param_counts" (.ref d2) fs2)) d1 = some (.dK (ents ks.flatten)) := by rw [upd_ne nd1b, upd_ne nd12]; exact e3
  have b4 := upd_same (H := upd H3 d2 (.dK [])) (a := b) (o := .ins cK dx (putF "param_counts" (.ref d2) fs2))
  have d4 : upd (upd H3 d2 (.dK [])) b (.ins cK dx (putF "param_counts" (.ref d2) fs2)) d2 = some (.dK []) := by rw [upd_ne n2]; exact upd_same
  generalize upd (upd H3 d2 (.dK [])) b (.ins cK dx (putF "param_counts" (.ref d2) fs2)) = H4 at *
  have npb : ∀ {a : Addr} {xs : List V}, H a = some (.tup xs) -> a ≠ b := fun z e => by rw [e, hb] at z; cases z
  have tt : ∀ {H5 : Hp}, (∀ a u, a ≠ b -> H a = some u -> H5 a = some u) -> Tups H H5 := fun h a xs z => h a _ (npb z) z
  refine ⟨_, rfl, p, _, _, _, rfl, rfl, SqT.of (tt k4 _ _ hp), atI_nat (j := 1) rfl, _, rfl, ⟨_, SqT.of (tt k4 _ _ hpd)⟩, for_tup (xs := rs.map V.ref) (fun i σ H' => (∀ a u, a ≠ b -> H a = some u -> H' a = some u) /\ H' b = some (.ins cK dx (putF "param_counts" (.ref d2) fs2)) /\ H' d2 = some (.dK (cnts (ds.take i))) /\ H' d1 = some (.dK (ents ks.flatten)) /\ ∃ x, σ = [some (.ref b), some (.ref p), x]) ⟨k4, b4, d4, e4, none, rfl⟩ (fun i σ H' _ h => SqT.of (tt h.1 _ _ hpd)) ?_ ?_⟩
  · rintro i v σ H5 hv ⟨k5, b5, d5, e5', x, rfl⟩
    rw [List.getElem?_map] at hv
    obtain ⟨r, hr', rfl⟩ := Option.map_eq_some_iff.mp hv
    obtain ⟨dg, hdg, pq, pb, e1, e2, e3⟩ := hD.get hr'
    have hi : i < ds.length := (List.getElem?_eq_some_iff.mp hdg).1
    refine ⟨_, rfl, r, _, _, _, rfl, rfl, SqT.of (tt k5 _ _ e1), atI_nat (j := 1) rfl, pq, _, rfl, .inr (SqT.of (tt k5 _ _ e2)), _, rfl, b, cK, dx, _, _, rfl, b5, T.cl, T.a3, look, _, rfl, r, _, _, _, rfl, rfl, SqT.of (tt k5 _ _ e1), rfl, d2, _, rfl, DPut.k (k := .inr dg.n) d5 ?_, fun a u n z => ?_, ?_, ?_, ?_, _, rfl⟩
    · unfold cnts
      rw [List.length_map, List.length_take]
      omega
    · rw [upd_ne (ne_of_none z fd2)]
      exact k5 a u n z
    · rw [upd_ne n2.symm]
      exact b5
    · have nn : dg.n ∉ (ds.take i).map (·.n) := by
        have e : ds = ds.take i ++ dg :: ds.drop (i + 1) := by
          conv => lhs; rw [<- List.take_append_drop (i + 1) ds, <- take_snoc hdg, List.append_assoc]
          rfl
        rw [e, List.map_append, List.nodup_append] at hnd
        exact fun z => hnd.2.2 _ z dg.n (by simp) rfl
      rw [upd_same, putK_new _ (cnts_none nn), <- take_snoc hdg]
      unfold cnts
      rw [List.map_append, List.length_map]
      rfl
    · rw [upd_ne nd12]
      exact e5'
  · rintro σ H5 ⟨k5, b5, d5, e5', x, rfl⟩
    rw [List.length_map, <- hD.1, List.take_of_length_le (Nat.le_refl _), cnts_ents] at d5
    refine q _ k5 ⟨dx, pk, d1, d2, ?_, e5', d5⟩
    rw [b5, efs2]
    rfl
theorem scSound : FnScope ["program", "tags", "kind", "known", "one"] ["program"] (defScope sSound) := ⟨rfl, rfl, rfl, by decide +kernel, rfl, by decide +kernel, by decide +kernel⟩
theorem ndSound : (["program", "tags", "kind", "known", "one", "pair"] : List Str).Nodup := by decide +kernel
theorem ok_sound (F : Fun K "sound" "sound" sSound f fd) (GB : Ca P w K mg base (CXf P w) 3 "with_bound" ["names", "above"] (spBound K Tw)) (GK : Ma P w K mg base CX0 2 "Known" cK ["self", "program"] (spKInit cK)) (GT : Ca P w K mg base (CXf P w) 7 "look_through" ["known", "one"] (spThrough cK Tw Un Mi)) : FnOk P w K mg base (CXf P w) 8 f fd ["program"] (spSound Tw Un Mi) := by
  refine F.byx scSound (fun vs H Q E h => ?_) (fun cdv A outer s H vs Q E hr h => ?_)
  · obtain ⟨p, ks, ds, rfl, _⟩ := h
    rfl
  obtain ⟨p, ks, ds, rfl, ⟨pk, pd, qs, rs, hp, hpk, hK, hpd, hD⟩, hF, q1, q2⟩ := h
  have r3 : Room 3 _ := hr.mono (by decide)
  refine ⟨_,
    (jss_cons (js_set (i := 1) scSound.nd rfl (Or.inl rfl) (je_lst ja_nil))
    (jss_cons (js_for ownx rfl (ji_tup (je_ix jx_tup (jv 0) je_int (fun _ _ => rfl))) (jg_name (i := 2) scSound.nd rfl (Or.inl rfl))
      (jss_one (js_expr (je_bm PySem.F.plainAttrs_list PySem.F.slot_list_extend PySem.F.type_list_extend jm_extend (jv 1) (ja_c (je_comp ["pair"] rfl (ji_tup (jv 2)) (fun _ _ _ _ _ => (jg_name (i := 5) ndSound rfl (Or.inl rfl))) (fun _ _ _ _ _ => jts_nil) (fun _ _ _ _ _ => (je_ix (jx_tupK K) (jv 5) je_int (fun _ _ => rfl)))) ja_nil)))))
    (jss_cons (js_expr (je_ca GB r3 rfl passx (ja_c (jv 1) (ja_c je_dnewK ja_nil))))
    (jss_cons (js_expr (je_ca GB r3 rfl passx (ja_c (je_compS [4] [] rfl (ji_tup (je_ix jx_tup (jv 0) je_int (fun _ _ => rfl))) (fun _ _ _ _ _ => (jg_name (i := 4) scSound.nd rfl (Or.inl rfl))) (fun _ _ _ _ _ => jts_nil) (fun _ _ _ _ _ => (je_ix (jx_tupK K) (jv 4) je_int (fun _ _ => rfl)))) (ja_c je_dnewK ja_nil))))
    (jss_cons (js_set (i := 3) scSound.nd rfl (Or.inl rfl) (je_ma GK r3 rfl pass0 (ja_c (jv 0) ja_nil)))
    (jss_cons (js_for ownx rfl (ji_tup (je_ix jx_tup (jv 0) je_int (fun _ _ => rfl))) (jg_name (i := 4) scSound.nd rfl (Or.inl rfl))
      (jss_one (js_expr (je_ca GT hr rfl passx (ja_c (jv 3) (ja_c (jv 4) ja_nil))))))
    (jss_one (js_ret je_bl)))))))), ?_⟩
  have sl := line0
  have hkl := hK.len
  have fn := hF.n
  have fk := hF.k
  have fdl := hF.d
  have hdl := hD.1
  have tgl : (tagsOf ks).length = ks.flatten.length := by unfold tagsOf; rw [List.length_map]
  refine ⟨by show 0 <= sizeLine; decide, fun lt h1 => ?_⟩
  have s1 := same_new h1 (.lst [])
  refine ⟨_, rfl, p, _, _, _, rfl, rfl, SqT.of (s1 _ _ hp), rfl, _, rfl, ⟨_, SqT.of (s1 _ _ hpk)⟩, for_tup (xs := qs.map V.ref) (fun i σ H' => Same H H' /\ H' lt = some (.lst ((tagsOf (ks.take i)).map V.str)) /\ ∃ x, σ = [some (.ref p), some (.ref lt), x, none, none]) ⟨s1, upd_same, none, rfl⟩ (fun i σ H' _ h => SqT.of (h.1 _ _ hpk)) ?_ ?_⟩
  · rintro i v σ H1 hv ⟨s2, e2, x, rfl⟩
    rw [List.getElem?_map] at hv
    obtain ⟨qq, hq, rfl⟩ := Option.map_eq_some_iff.mp hv
    obtain ⟨k, hk, ts, hts, hT⟩ := hK.get hq
    have hl := fl_len hk
    have htl := hT.len
    refine ⟨_, rfl, .inl ⟨rfl, _, SqL.of e2⟩, _, rfl, _, rfl, ⟨_, SqT.of (s2 _ _ hts)⟩, lc_tup (xs := ts.map V.ref) (fun j τ ys H' => H' = H1 /\ (∃ v, τ = [some (.ref p), some (.ref lt), some (.ref qq), none, none, v]) /\ ys = (k.take j).map fun a => V.str a.1) ⟨rfl, ⟨none, rfl⟩, rfl⟩ (fun j τ ys H' _ h => by rw [h.1]; exact SqT.of (s2 _ _ hts)) ?_ ?_⟩
    · rintro j v τ ys H2 hv ⟨rfl, ⟨u, rfl⟩, rfl⟩
      rw [List.getElem?_map] at hv
      obtain ⟨tt, ht, rfl⟩ := Option.map_eq_some_iff.mp hv
      obtain ⟨a, n, e1, e3⟩ := hT.get ht
      have hj : j < k.length := (List.getElem?_eq_some_iff.mp e1).1
      refine ⟨_, rfl, _, _, _, _, rfl, rfl, SqT.of (s2 _ _ e3), rfl, ?_, rfl, ⟨_, rfl⟩, take_map (fun a : Str × Int => V.str a.1) e1⟩
      rw [List.length_map, List.length_take]
      omega
    · rintro τ ys H2 ⟨rfl, _, rfl⟩ r hr
      rw [List.length_map, <- htl, List.take_of_length_le (Nat.le_refl _)]
      refine ⟨lt, r, _, _, rfl, rfl, old hr e2, upd_same, ?_, ?_, ?_, _, rfl⟩
      · rw [List.length_map, List.length_map]
        unfold tagsOf
        rw [List.length_map]
        omega
      · exact (s2.new hr).put h1
      · rw [upd_same, tags_take hk, List.map_append, List.map_map]
        rfl
  rintro σ H1 ⟨s2, e2, x, rfl⟩
  rw [List.length_map, <- hkl, List.take_of_length_le (Nat.le_refl _)] at e2
  refine ⟨_, rfl, fun a0 ha0 => ?_⟩
  refine ⟨lt, a0, tagsOf ks, [], rfl, .inl (SqL.of (old ha0 e2)), upd_same, by omega, by simp, fun hd1 H2 e3 s3 _ _ => ?_, fun n hd => Err.at (q2 (1, n) (by unfold due; rw [hd])) (s2.new ha0)⟩
  have s4 := (s2.new (o := .dK []) ha0).trans s3
  refine ⟨_, rfl, p, _, _, _, rfl, rfl, SqT.of (s4 _ _ hp), atI_nat (j := 1) rfl, _, rfl, ⟨_, SqT.of (s4 _ _ hpd)⟩, lc_tup (xs := rs.map V.ref) (fun j τ ys H' => H' = H2 /\ (∃ v, τ = [some (.ref p), some (.ref lt), x, none, v]) /\ ys = (ds.take j).map fun a => V.str a.n) ⟨rfl, ⟨none, rfl⟩, rfl⟩ (fun j τ ys H' _ h => by rw [h.1]; exact SqT.of (s4 _ _ hpd)) ?_ ?_⟩
  · rintro j v τ ys H3 hv ⟨rfl, ⟨u, rfl⟩, rfl⟩
    rw [List.getElem?_map] at hv
    obtain ⟨r, hr', rfl⟩ := Option.map_eq_some_iff.mp hv
    obtain ⟨dg, hdg, pq, pb, e4, e5, e6⟩ := hD.get hr'
    have hj : j < ds.length := (List.getElem?_eq_some_iff.mp hdg).1
    refine ⟨_, rfl, _, _, _, _, rfl, rfl, SqT.of (s4 _ _ e4), rfl, ?_, rfl, ⟨_, rfl⟩, take_map (fun a : Dg => V.str a.n) hdg⟩
    rw [List.length_map, List.length_take]
    omega
  rintro τ ys H3 ⟨rfl, _, rfl⟩ ln hln
  rw [List.length_map, <- hdl, List.take_of_length_le (Nat.le_refl _)]
  intro a1 ha1
  have s5 := (s4.new (o := .lst (ds.map fun a => V.str a.n)) hln).new (o := .dK []) ha1
  have eln : (ds.map fun a => V.str a.n) = (ds.map (·.n)).map V.str := by rw [List.map_map]; rfl
  refine ⟨ln, a1, ds.map (·.n), [], rfl, .inl (SqL.of (by rw [<- eln]; exact old ha1 upd_same)), upd_same, by rw [List.length_map]; omega, by simp, fun hd2 H4 e4 s6 _ _ => ?_, fun n hd => Err.at (q2 (1, n) (by unfold due; rw [hd1]; show (match dup [] (ds.map (·.n)) with | some n => some (1, n) | none => ds.findSome? (dueD ks.flatten (kpOf ds))) = _; rw [hd])) s5⟩
  have s7 := s5.trans s6
  have hdue : due ks ds = ds.findSome? (dueD ks.flatten (kpOf ds)) := by
    unfold due
    rw [hd1]
    show (match dup [] (ds.map (·.n)) with | some n => some (1, n) | none => ds.findSome? (dueD ks.flatten (kpOf ds))) = _
    rw [hd2]
  refine ⟨_, rfl, fun kx dx hkx hdx hne => ?_⟩
  have s8 : Same H (upd H4 dx (.own kx)) := s7.new hdx
  have hkx' : upd H4 dx (.own kx) kx = none := by rw [upd_ne hne.symm]; exact hkx
  have s9 : Same H (upd (upd H4 dx (.own kx)) kx (.ins cK dx [])) := s8.new hkx'
  refine ⟨kx, dx, p, ks, ds, rfl, upd_same, ⟨pk, pd, qs, rs, s9 _ _ hp, s9 _ _ hpk, hK.keep (.of s9), s9 _ _ hpd, hD.keep (.of s9)⟩, ⟨fn, fk, (dup_none hd1).2⟩, fdl, (dup_none hd2).2, fun H5 k5 kn => ⟨rfl, ?_⟩⟩
  have fkx : H kx = none := s8.free hkx'
  have s10 : Same H H5 := fun a o z => k5 a o (ne_of_none z fkx) (s9 _ _ z)
  refine ⟨_, rfl, p, _, _, _, rfl, rfl, SqT.of (s10 _ _ hp), atI_nat (j := 1) rfl, _, rfl, ⟨_, SqT.of (s10 _ _ hpd)⟩, for_tup (xs := rs.map V.ref) (fun i σ H' => Same H5 H' /\ (ds.take i).findSome? (dueD ks.flatten (kpOf ds)) = none /\ ∃ x y, σ = [some (.ref p), some (.ref lt), x, some (.ref kx), y]) ⟨Same.refl _, rfl, _, _, rfl⟩ (fun i σ H' _ h => SqT.of (h.1 _ _ (s10 _ _ hpd))) ?_ ?_⟩
  · rintro i v σ H6 hv ⟨s11, hnd, x, y, rfl⟩
    rw [List.getElem?_map] at hv
    obtain ⟨r, hr', rfl⟩ := Option.map_eq_some_iff.mp hv
    obtain ⟨dg, hdg, hdD⟩ := hD.get hr'
    refine ⟨_, rfl, _, rfl, kx, r, ks.flatten, kpOf ds, dg, rfl, kn.same s11, hdD.keep (.of (s10.trans s11)), hF.f dg (List.mem_of_getElem? hdg), hF.p dg (List.mem_of_getElem? hdg), fun hd H7 s12 => ⟨s11.trans s12, some_more hdg hnd hd, _, _, rfl⟩, fun f hd => Err.at (q2 f (by rw [hdue]; exact some_take hdg hnd hd)) (s10.trans s11)⟩
  · rintro σ H6 ⟨s11, hnd, x, y, rfl⟩
    rw [List.length_map, <- hdl, List.take_of_length_le (Nat.le_refl _)] at hnd
    exact q1 (by rw [hdue]; exact hnd) _ (s10.trans s11)
end
end KD
namespace KD
open PySem L2 K11
structure Xs where
  nt : Addr
  tw : Addr
  un : Addr
  mi : Addr
  uh : Addr
  la : Addr
  nv : Addr
  go : Addr
  fu : Addr
  fa : Addr
  R : Addr
abbrev Xs.all (c : Xs) : List Addr := [c.nt, c.tw, c.un, c.mi, c.uh, c.la, c.nv, c.go, c.fu, c.fa]
structure XT (K : PySem.W.Frag) (mg : Str -> Option Value) (c : Xs) : Prop where
  nt : mg "NoText" = some (.ref c.nt)
  tw : mg "Twice" = some (.ref c.tw)
  un : mg "Unknown" = some (.ref c.un)
  mi : mg "Misfit" = some (.ref c.mi)
  uh : mg "Unheld" = some (.ref c.uh)
  la : mg "Lacking" = some (.ref c.la)
  nv : mg "NoValue" = some (.ref c.nv)
  go : mg "Gone" = some (.ref c.go)
  fu : mg "Full" = some (.ref c.fu)
  fa : mg "Fault" = some (.ref c.fa)
  R : mg "ReuseError" = some (.ref c.R)
  V : mg "ValueError" = none
  xi : ∀ C ∈ c.all, PySem.W.XIs K C
  one : ∀ (i j : Nat) C D, c.all[i]? = some C -> c.all[j]? = some D -> PySem.W.kitOne K (.ref C) (.ref D) = some (decide (i = j))
  kR : ∀ C ∈ c.all, PySem.W.kitOne K (.ref C) (.ref c.R) = some true
  kV : ∀ C ∈ c.all, PySem.W.kitOne K (.ref C) (.type "ValueError") = some true
  e11 : PySem.W.exmOne K (.ref c.tw) (.ref c.tw) = some true
  e21 : PySem.W.exmOne K (.ref c.un) (.ref c.tw) = some false
  e22 : PySem.W.exmOne K (.ref c.un) (.ref c.un) = some true
  e31 : PySem.W.exmOne K (.ref c.mi) (.ref c.tw) = some false
  e32 : PySem.W.exmOne K (.ref c.mi) (.ref c.un) = some false
  e33 : PySem.W.exmOne K (.ref c.mi) (.ref c.mi) = some true
  exR : ∀ C ∈ [c.tw, c.un, c.mi], PySem.W.exmOne K (.ref C) (.ref c.R) = some true
  fn : ∀ C ∈ [c.tw, c.un, c.mi, c.uh, c.la], PySem.W.findIn K (.ref C) "name" = some none
  ft : PySem.W.findIn K (.ref c.la) "tags" = some none
  cl : ∀ C ∈ [c.nt, c.tw, c.un, c.mi, c.uh, c.la, c.fa], ∃ f, XCl K C f
theorem len3 {σ : St} (h : σ.length = 3) : ∃ x y z, σ = [x, y, z] := by
  match σ, h with
  | [x, y, z], _ => exact ⟨x, y, z, rfl⟩
def kitSq (K : PySem.W.Frag) (cs : List Addr) : Bool := cs.zipIdx.all fun x => cs.zipIdx.all fun y => PySem.W.kitOne K (.ref x.1) (.ref y.1) == some (decide (x.2 = y.2))
theorem kitSq.at {K : PySem.W.Frag} {cs : List Addr} (h : kitSq K cs = true) (i j : Nat) (C D : Addr) (hi : cs[i]? = some C) (hj : cs[j]? = some D) : PySem.W.kitOne K (.ref C) (.ref D) = some (decide (i = j)) := by
  unfold kitSq at h
  have m : ∀ {k : Nat} {A : Addr}, cs[k]? = some A -> (A, k) ∈ cs.zipIdx := fun {k A} h => by
    refine List.mem_of_getElem? (i := k) ?_
    rw [List.getElem?_zipIdx, h]
    simp
  have := List.all_eq_true.mp (List.all_eq_true.mp h _ (m hi)) _ (m hj)
  exact beq_iff_eq.mp this
theorem boot_VE : bootBuiltins "ValueError" = some (.type "ValueError") := by decide +kernel
def wdF (k : Nat) : Str := if k = 1 then "twice" else if k = 2 then "unknown" else "misfit"
def toldV : Option Flt -> List V
  | none => [.str "sound", .bl true]
  | some (k, n) => [.str (wdF k), .str n]
def ixF (k : Nat) : Nat := if k = 1 then 1 else if k = 2 then 2 else 3
theorem three (k : Nat) (P : Nat -> Addr -> Str -> Nat -> Prop) (Tw Un Mi : Addr) (h1 : P 1 Tw "twice" 1) (h2 : P 2 Un "unknown" 2) (h3 : ∀ k, k ≠ 1 -> k ≠ 2 -> P k Mi "misfit" 3) : P k (clsF Tw Un Mi k) (wdF k) (ixF k) := by
  by_cases c1 : k = 1
  · subst c1; exact h1
  · by_cases c2 : k = 2
    · subst c2; exact h2
    · have : clsF Tw Un Mi k = Mi := by unfold clsF; rw [if_neg c1, if_neg c2]
      rw [this, show wdF k = "misfit" by unfold wdF; rw [if_neg c1, if_neg c2], show ixF k = 3 by unfold ixF; rw [if_neg c1, if_neg c2]]
      exact h3 k c1 c2
def spTold : Sp := fun vs H Q _ => ∃ (p : Addr) (ks : List (List (Str × Int))) (ds : List Dg), vs = [.ref p] /\ IsP H ks ds p /\ Few24 ks ds /\ ∀ H' r, Same H H' -> H' r = some (.tup (toldV (due ks ds))) -> Q (.ref r) H'
def spBase : Sp := fun vs H Q _ => ∃ (p : Addr) (ks : List (List (Str × Int))) (ds : List Dg) (b : Nat) (n : Str), vs = [.ref p] /\ IsP H ks ds p /\ Few24 ks ds /\ due ks ds = some (b, n) /\ ∀ H' r, Same H H' -> H' r = some (.lst [.bl true, .bl (decide (ixF b = 1)), .bl (decide (ixF b = 2)), .bl (decide (ixF b = 3)), .bl false, .bl false]) -> Q (.ref r) H'
section
variable {P : Program} {w : World} {K : PySem.W.Frag} {mg : Str -> Option Value} {base : Heap} {f : Addr} {fd : FuncData} {c : Xs}
theorem scTold : FnScope ["_law_program", "_law_said", "e"] ["_law_program"] (defScope sTold) := ⟨rfl, rfl, rfl, by decide +kernel, rfl, by decide +kernel, by decide +kernel⟩
theorem scBase : FnScope ["_law_program", "_law_said", "e"] ["_law_program"] (defScope sBase) := ⟨rfl, rfl, rfl, by decide +kernel, rfl, by decide +kernel, by decide +kernel⟩
theorem ok_told (F : Fun K "_law_told" "_law_told" sTold f fd) (T : XT K mg c) (GS : Ca P w K mg base (CXf P w) 8 "sound" ["program"] (spSound c.tw c.un c.mi)) : FnOk P w K mg base CX0 9 f fd ["_law_program"] spTold := by
  refine F.by scTold (fun vs H Q E h => ?_) (fun cdv A outer s H vs Q E hr h => ?_)
  · obtain ⟨p, ks, ds, rfl, _⟩ := h
    rfl
  obtain ⟨p, ks, ds, rfl, hP, hF, q⟩ := h
  obtain ⟨f1, M1⟩ := T.cl c.tw (by simp)
  obtain ⟨f2, M2⟩ := T.cl c.un (by simp)
  obtain ⟨f3, M3⟩ := T.cl c.mi (by simp)
  obtain ⟨f4, M4⟩ := T.cl c.la (by simp)
  refine ⟨_,
    (jss_cons (js_set (i := 1) scTold.nd rfl (Or.inl rfl) (je_tup (ja_c je_str (ja_c je_str ja_nil))))
    (jss_cons (js_tryN (tb := fun E => _) (fun pins E => jss_one (js_set (i := 1) scTold.nd rfl (Or.inl rfl) (je_tup (ja_c je_str (ja_c (je_ca GS hr rfl pass_try (ja_c (jv 0) ja_nil)) ja_nil)))))
      (hb_as (i := 2) (th := fun e oe => _) (hb_as (i := 2) (th := fun e oe => _) (hb_as (i := 2) (th := fun e oe => _) (hb_as (i := 2) (th := fun e oe => _) hb_nil
        scTold.nd rfl rfl T.la (fun e oe => jss_one (js_set (i := 1) scTold.nd rfl (Or.inl rfl) (je_tup (ja_c je_str (ja_c (je_xfld (e := e) (oe := oe) List.mem_cons_self M4 (T.fn c.la (by simp)) (T.xi c.la (by simp)).hd (jv 2)) (ja_c (je_xfld (e := e) (oe := oe) List.mem_cons_self M4 T.ft (T.xi c.la (by simp)).hd (jv 2)) ja_nil)))))))
        scTold.nd rfl rfl T.mi (fun e oe => jss_one (js_set (i := 1) scTold.nd rfl (Or.inl rfl) (je_tup (ja_c je_str (ja_c (je_xfld (e := e) (oe := oe) List.mem_cons_self M3 (T.fn c.mi (by simp)) (T.xi c.mi (by simp)).hd (jv 2)) ja_nil))))))
        scTold.nd rfl rfl T.un (fun e oe => jss_one (js_set (i := 1) scTold.nd rfl (Or.inl rfl) (je_tup (ja_c je_str (ja_c (je_xfld (e := e) (oe := oe) List.mem_cons_self M2 (T.fn c.un (by simp)) (T.xi c.un (by simp)).hd (jv 2)) ja_nil))))))
        scTold.nd rfl rfl T.tw (fun e oe => jss_one (js_set (i := 1) scTold.nd rfl (Or.inl rfl) (je_tup (ja_c je_str (ja_c (je_xfld (e := e) (oe := oe) List.mem_cons_self M1 (T.fn c.tw (by simp)) (T.xi c.tw (by simp)).hd (jv 2)) ja_nil)))))))
    (jss_one (js_ret (jv 1))))), ?_⟩
  have sl := line0
  refine ⟨by show 2 <= sizeLine; decide, fun t0 ht0 => ?_⟩
  have s1 := same_new ht0 (.tup [.str "no", .str ""])
  have hP1 := hP.keep (.of s1)
  generalize upd H t0 (.tup [.str "no", .str ""]) = H1 at *
  refine ⟨_, rfl, p, ks, ds, rfl, hP1, hF, fun hd H2 s2 => ⟨by show 2 <= sizeLine; decide, fun r hr => ?_⟩, fun ⟨b, n⟩ hd d H2 s2 h2 => ?_⟩
  · exact ⟨_, rfl, q _ r ((s1.trans s2).new hr) (by rw [upd_same, hd]; rfl)⟩
  · have fin : ∀ (e : Addr) (oe : Obj) (ws : Array Value) (σ : St) (C : Addr) (z : Str), toldV (due ks ds) = [.str z, .str n] -> σ.length = 3 -> oe.cls = .ref C -> oe.dict = some d -> oe.data = .fields ws ->
        (tAsg (tTup (tCons (tC (.str z)) (tCons (tXFld C e oe (tVar 2) "name") tNil))) (gName 1) : TS) (Ends.behind { nx := fun σ H' => (tRet (tVar 1) : TS) { nx := fun _ H' => Q .non H', rt := Q } σ H', rt := Q } 2) (σ.set 2 (some (.ref e))) H2 := by
      intro e oe ws σ C z hz hσ hc hdx hdt
      refine ⟨_, by rw [List.getElem?_set_self (by omega)], rfl, hc, ⟨ws, hdt⟩, d, _, _, hdx, h2, rfl, by show 2 <= sizeLine; decide, fun r hr => ?_⟩
      refine ⟨.ref r, ?_, q _ r ((s1.trans s2).new hr) (by rw [upd_same, hz])⟩
      rw [List.getElem?_set_ne (by decide), List.getElem?_set_self (by rw [List.length_set]; omega)]
    have alt : (clsF c.tw c.un c.mi b = c.tw /\ wdF b = "twice") \/ (clsF c.tw c.un c.mi b = c.un /\ wdF b = "unknown") \/ (clsF c.tw c.un c.mi b = c.mi /\ wdF b = "misfit") :=
      three b (fun _ C z _ => (C = c.tw /\ z = "twice") \/ (C = c.un /\ z = "unknown") \/ (C = c.mi /\ z = "misfit")) c.tw c.un c.mi (.inl ⟨rfl, rfl⟩) (.inr (.inl ⟨rfl, rfl⟩)) (fun _ _ _ => .inr (.inr ⟨rfl, rfl⟩))
    have hz : toldV (due ks ds) = [.str (wdF b), .str n] := by rw [hd]; rfl
    dsimp only
    rcases alt with ⟨e1, e2⟩ | ⟨e1, e2⟩ | ⟨e1, e2⟩
    · rw [e2] at hz
      rw [e1]
      exact .inl ⟨T.e11, fun e oe ws σ hσ hc hdx hdt _ _ => fin e oe ws σ c.tw "twice" hz hσ hc hdx hdt⟩
    · rw [e2] at hz
      rw [e1]
      exact .inr ⟨T.e21, .inl ⟨T.e22, fun e oe ws σ hσ hc hdx hdt _ _ => fin e oe ws σ c.un "unknown" hz hσ hc hdx hdt⟩⟩
    · rw [e2] at hz
      rw [e1]
      exact .inr ⟨T.e31, .inr ⟨T.e32, .inl ⟨T.e33, fun e oe ws σ hσ hc hdx hdt _ _ => fin e oe ws σ c.mi "misfit" hz hσ hc hdx hdt⟩⟩⟩
theorem ok_base (F : Fun K "_law_base" "_law_base" sBase f fd) (T : XT K mg c) (GS : Ca P w K mg base (CXf P w) 8 "sound" ["program"] (spSound c.tw c.un c.mi)) (m_isinstance : mg "isinstance" = none) : FnOk P w K mg base CX0 9 f fd ["_law_program"] spBase := by
  refine F.by scBase (fun vs H Q E h => ?_) (fun cdv A outer s H vs Q E hr h => ?_)
  · obtain ⟨p, ks, ds, b, n, rfl, _⟩ := h
    rfl
  obtain ⟨p, ks, ds, b, n, rfl, hP, hF, hd, q⟩ := h
  obtain ⟨C, eC⟩ : ∃ C, C = clsF c.tw c.un c.mi b := ⟨_, rfl⟩
  obtain ⟨k, ek⟩ : ∃ k, k = ixF b := ⟨_, rfl⟩
  have hk : c.all[k]? = some C := by
    rw [eC, ek]
    exact three b (fun _ C _ j => c.all[j]? = some C) c.tw c.un c.mi rfl rfl (fun _ _ _ => rfl)
  have hk3 : k = 1 \/ k = 2 \/ k = 3 := by
    rw [ek]
    exact three b (fun _ _ _ j => j = 1 \/ j = 2 \/ j = 3) c.tw c.un c.mi (.inl rfl) (.inr (.inl rfl)) (fun _ _ _ => .inr (.inr rfl))
  rw [<- ek] at q
  have hC : C ∈ c.all := List.mem_of_getElem? hk
  have xC := T.xi C hC
  refine ⟨_,
    (jss_cons (js_set (i := 1) scBase.nd rfl (Or.inl rfl) (je_lst ja_nil))
    (jss_cons (js_tryN (tb := fun E => _) (fun pins E => jss_one (js_expr (je_ca GS hr rfl pass_try (ja_c (jv 0) ja_nil))))
      (hb_as (i := 2) (th := fun e oe => _) hb_nil scBase.nd rfl rfl T.R (fun e oe =>
        jss_cons (js_set (i := 1) scBase.nd rfl (Or.inl rfl) (je_lst (ja_c (je_fnB (jc_isiA (e := e) (oe := oe) (C := C) List.mem_cons_self xC) rfl m_isinstance PyProof.Rows.boot_isinstance (ja_c (jv 2) (ja_c (je_bltn (v := .ty "ValueError") rfl T.V boot_VE rfl) ja_nil))) (ja_c (je_fnB (jc_isiA (e := e) (oe := oe) (C := C) List.mem_cons_self xC) rfl m_isinstance PyProof.Rows.boot_isinstance (ja_c (jv 2) (ja_c (je_glob (v := .ref c.tw) rfl T.tw rfl) ja_nil))) (ja_c (je_fnB (jc_isiA (e := e) (oe := oe) (C := C) List.mem_cons_self xC) rfl m_isinstance PyProof.Rows.boot_isinstance (ja_c (jv 2) (ja_c (je_glob (v := .ref c.un) rfl T.un rfl) ja_nil))) ja_nil)))))
        (jss_cons (js_set (i := 1) scBase.nd rfl (Or.inl rfl) (je_op jo_cat (jv 1) (je_lst (ja_c (je_fnB (jc_isiA (e := e) (oe := oe) (C := C) List.mem_cons_self xC) rfl m_isinstance PyProof.Rows.boot_isinstance (ja_c (jv 2) (ja_c (je_glob (v := .ref c.mi) rfl T.mi rfl) ja_nil))) (ja_c (je_fnB (jc_isiA (e := e) (oe := oe) (C := C) List.mem_cons_self xC) rfl m_isinstance PyProof.Rows.boot_isinstance (ja_c (jv 2) (ja_c (je_glob (v := .ref c.la) rfl T.la rfl) ja_nil))) ja_nil)))))
        (jss_one (js_expr (je_bm PySem.F.plainAttrs_list PySem.F.slot_list_append PySem.F.type_list_append jm_append (jv 1) (ja_c (je_fnB (jc_isiA (e := e) (oe := oe) (C := C) List.mem_cons_self xC) rfl m_isinstance PyProof.Rows.boot_isinstance (ja_c (jv 2) (ja_c (je_tup (ja_c (je_glob (v := .ref c.nt) rfl T.nt rfl) (ja_c (je_glob (v := .ref c.uh) rfl T.uh rfl) (ja_c (je_glob (v := .ref c.nv) rfl T.nv rfl) (ja_c (je_glob (v := .ref c.go) rfl T.go rfl) (ja_c (je_glob (v := .ref c.fu) rfl T.fu rfl) (ja_c (je_glob (v := .ref c.fa) rfl T.fa rfl) ja_nil))))))) ja_nil))) ja_nil))))))))
    (jss_one (js_ret (jv 1))))), ?_⟩
  have sl := line0
  refine ⟨by show 0 <= sizeLine; decide, fun t0 ht0 => ?_⟩
  have s1 := same_new ht0 (.lst [])
  have hP1 := hP.keep (.of s1)
  generalize upd H t0 (.lst []) = H1 at *
  refine ⟨_, rfl, p, ks, ds, rfl, hP1, hF, fun hd' => (by rw [hd] at hd'; cases hd'), fun f' hd' d H2 s2 h2 => ?_⟩
  rw [hd] at hd'
  cases hd'
  rw [<- eC]
  refine .inl ⟨T.exR C (by rw [eC]; exact three b (fun _ C _ _ => C ∈ [c.tw, c.un, c.mi]) c.tw c.un c.mi (by simp) (by simp) (fun _ _ _ => by simp)), fun e oe ws σ hσ hc hdx hdt _ he => ?_⟩
  obtain ⟨x0, x1, x2, rfl⟩ := len3 hσ
  have k1 := T.one k 1 C c.tw hk rfl
  have k2 := T.one k 2 C c.un hk rfl
  have k3 := T.one k 3 C c.mi hk rfl
  have no : ∀ (j : Nat) (D : Addr), c.all[j]? = some D -> j ≠ 1 -> j ≠ 2 -> j ≠ 3 -> PySem.W.kitOne K (.ref C) (.ref D) = some false := fun j D hj n1 n2 n3 => by
    rw [T.one k j C D hk hj, decide_eq_false (by omega)]
  have ask : ∀ {H' : Hp} (D : Addr) (v : Bool), PySem.W.kitOne K (.ref C) (.ref D) = some v -> Asked K (.ref C) H' (.ref D) v := fun D v h => .one (.ref D) h
  have cd : ∀ {H' : Hp}, Same H2 H' -> (oe.dict = none \/ ∃ d fs, oe.dict = some d /\ H' d = some (XD d fs)) := fun s' => .inr ⟨d, _, hdx, s' _ _ h2⟩
  have hda : ∃ vs, oe.data = .fields vs := ⟨ws, hdt⟩
  have any : PySem.W.kitAny K (.ref C) [.ref c.nt, .ref c.uh, .ref c.nv, .ref c.go, .ref c.fu, .ref c.fa] = some false := by simp only [PySem.W.kitAny, no 0 c.nt rfl (by decide) (by decide) (by decide), no 4 c.uh rfl (by decide) (by decide) (by decide), no 6 c.nv rfl (by decide) (by decide) (by decide), no 7 c.go rfl (by decide) (by decide) (by decide), no 8 c.fu rfl (by decide) (by decide) (by decide), no 9 c.fa rfl (by decide) (by decide) (by decide)]
  refine ⟨_, rfl, .ty "ValueError", true, rfl, hc, hda, cd (Same.refl _), .one (.ty _) (T.kV C hC), _, rfl, .ref c.tw, _, rfl, hc, hda, cd (Same.refl _), ask c.tw _ k1, _, rfl, .ref c.un, _, rfl, hc, hda, cd (Same.refl _), ask c.un _ k2, by show 3 <= sizeLine; decide, fun l1 hl1 => ?_⟩
  have s3 := same_new hl1 (.lst [.bl true, .bl (decide (k = 1)), .bl (decide (k = 2))])
  have t3 := upd_same (H := H2) (a := l1) (o := .lst [.bl true, .bl (decide (k = 1)), .bl (decide (k = 2))])
  show (tSeq _ _ : TS) _ _ (upd H2 l1 (.lst [.bl true, .bl (decide (k = 1)), .bl (decide (k = 2))]))
  generalize upd H2 l1 (.lst [.bl true, .bl (decide (k = 1)), .bl (decide (k = 2))]) = H3 at *
  refine ⟨_, rfl, _, rfl, .ref c.mi, _, rfl, hc, hda, cd s3, ask c.mi _ k3, _, rfl, .ref c.la, _, rfl, hc, hda, cd s3, ask c.la _ (no 5 c.la rfl (by decide) (by decide) (by decide)), by show 2 <= sizeLine; decide, fun l2 hl2 => ⟨l1, l2, _, _, rfl, rfl, old hl2 t3, upd_same, by show 5 <= sizeLine; decide, fun l3 hl3 => ?_⟩⟩
  have s4 := s3.new (o := .lst [.bl (decide (k = 3)), .bl false]) hl2
  have s5 := s4.new (o := .lst [.bl true, .bl (decide (k = 1)), .bl (decide (k = 2)), .bl (decide (k = 3)), .bl false]) hl3
  have t5 := upd_same (H := upd H3 l2 (.lst [.bl (decide (k = 3)), .bl false])) (a := l3) (o := .lst [.bl true, .bl (decide (k = 1)), .bl (decide (k = 2)), .bl (decide (k = 3)), .bl false])
  have f5 : H2 l3 = none := s4.free hl3
  refine ⟨_, rfl, .inl ⟨rfl, _, SqL.of t5⟩, _, rfl, by show 6 <= sizeLine; decide, fun tp htp => ?_⟩
  refine ⟨.ref tp, false, rfl, hc, hda, cd (s5.new htp), .tup upd_same (.cons (.ref _) (.cons (.ref _) (.cons (.ref _) (.cons (.ref _) (.cons (.ref _) (.cons (.ref _) .nil)))))) any, l3, _, _, rfl, rfl, old htp t5, by show 5 < sizeLine; decide, ?_⟩
  exact ⟨_, rfl, q _ l3 ((s1.trans s2).trans ((s5.new htp).put f5)) upd_same⟩
end
end KD
namespace L2
open PySem PySem.Spec PyProof.Rows
section
variable {X : Cx}
end
end L2
namespace L2
open PySem PySem.Spec PyProof.Rows
def Sme : Nat -> Hp -> V -> V -> Prop
  | 0, _, _, _ => False
  | n + 1, H, x, y => (flatV x = true /\ x = y) \/ ∃ a b xs ys, x = .ref a /\ y = .ref b /\ ((H a = some (.lst xs) /\ H b = some (.lst ys)) \/ (H a = some (.tup xs) /\ H b = some (.tup ys))) /\ xs.length = ys.length /\ ∀ (i : Nat) u v, xs[i]? = some u -> ys[i]? = some v -> Sme n H u v
section
variable {X : Cx} {pins : List (Addr × Obj)} {σ : St} {H : Hp} {s : Shared}
theorem sme_items {A : Around} {n : Nat} {xs ys : List V} {us vs : List Value} (r : Vals xs us) (r' : Vals ys vs) (go : ∀ {x y : V} {u v : Value}, Sme n H x y -> RelV x u -> RelV y v -> SeqAt.EqAt A s u v true)
    (h : ∀ (i : Nat) u v, xs[i]? = some u -> ys[i]? = some v -> Sme n H u v) (j : Nat) (h1 : j < us.toArray.size) (h2 : j < vs.toArray.size) : SeqAt.EqAt A s us.toArray[j] vs.toArray[j] true := by
  have l1 := r.length
  have l2 := r'.length
  simp at h1 h2
  have hx : xs[j]? = some (xs[j]'(by omega)) := List.getElem?_eq_getElem _
  have hy : ys[j]? = some (ys[j]'(by omega)) := List.getElem?_eq_getElem _
  obtain ⟨u, e1, rx⟩ := r.get hx
  obtain ⟨v, e2, ry⟩ := r'.get hy
  have g1 : us.toArray[j] = u := by
    have := List.getElem?_eq_some_iff.mp e1
    simpa using this.2
  have g2 : vs.toArray[j] = v := by
    have := List.getElem?_eq_some_iff.mp e2
    simpa using this.2
  rw [g1, g2]
  exact go (h j _ _ hx hy) rx ry
theorem sme_rc {A : Around} {n : Nat} {a b : Addr} {xs ys : List V} (hu : A.units < cLine) (I : Inv X pins σ H s) (hl : xs.length = ys.length) (hab : (H a = some (.lst xs) /\ H b = some (.lst ys)) \/ (H a = some (.tup xs) /\ H b = some (.tup ys)))
    (go : ∀ {x y : V} {u v : Value}, Sme n H x y -> RelV x u -> RelV y v -> SeqAt.EqAt A.in1 s u v true) (h : ∀ (i : Nat) u v, xs[i]? = some u -> ys[i]? = some v -> Sme n H u v) : SeqAt.RcAt A s (.ref a) (.ref b) true := by
  rcases hab with ⟨h1, h2⟩ | ⟨h1, h2⟩
  · obtain ⟨i1, v1, m1, _⟩ := I.list (SqL.of h1)
    obtain ⟨i2, v2, m2, _⟩ := I.list (SqL.of h2)
    have n1 := v1.length
    have n2 := v2.length
    have main := SeqAt.RcAt.lists (A := A) (s := s) (e := fun _ => true) m1.isList m2.isList (by simp; omega) hu (fun j x y => sme_items v1 v2 go h j x y)
    rw [show ((List.range i1.toArray.size).all fun _ => true) = true from List.all_eq_true.mpr fun _ _ => rfl] at main
    exact main
  · obtain ⟨i1, v1, m1, _⟩ := I.tuple (SqT.of h1)
    obtain ⟨i2, v2, m2, _⟩ := I.tuple (SqT.of h2)
    have n1 := v1.length
    have n2 := v2.length
    have main := SeqAt.RcAt.tuples (A := A) (s := s) (e := fun _ => true) m1 m2 hu (fun j x y => sme_items v1 v2 go h j x y)
    have eb : ((List.range (min i1.toArray.size i2.toArray.size)).all (fun _ => true) && i1.toArray.size == i2.toArray.size) = true := by
      rw [show (List.range (min i1.toArray.size i2.toArray.size)).all (fun _ => true) = true from List.all_eq_true.mpr fun _ _ => rfl]
      simp
      omega
    rw [eb] at main
    exact main
theorem sme_eq (I : Inv X pins σ H s) : ∀ (n : Nat) {A : Around} (hu : A.units + n < cLine) {x y : V} {u v : Value}, Sme n H x y -> RelV x u -> RelV y v -> SeqAt.EqAt A s u v true
  | 0, _, _, _, _, _, _, h, _, _ => h.elim
  | n + 1, A, hu, x, y, u, v, h, rx, ry => by
    rcases h with ⟨f, rfl⟩ | ⟨a, b, xs, ys, rfl, rfl, hab, hl, h⟩
    · have k := eqAt_V (A := A) (s := s) rx ry f f
      rw [eqV_self f] at k
      exact k
    · cases rx
      cases ry
      by_cases c : a = b
      · subst c
        exact .same _
      · exact .of_refs c (sme_rc (by omega) I hl hab (fun {x y u v} => sme_eq I n (A := A.in1) (by show A.units + 1 + n < cLine; omega)) h)
def rSme (n : Nat) (b : Bool) : R2 := fun x y H Q => ∃ p p', x = .ref p /\ y = .ref p' /\ Sme n H x y /\ Q (.bl b) H
theorem op_eqD {n : Nat} (hn : n <= 32) (hu : X.A.units + 64 < cLine) : OpR X (compareOp .Eq) (rSme n true) := by
  intro pins s σ H x y v u Q I rx ry h
  obtain ⟨p, p', rfl, rfl, h, q⟩ := h
  cases rx
  cases ry
  match n, h with
  | n + 1, h =>
    rcases h with ⟨f, _⟩ | ⟨a, b, xs, ys, e1, e2, hab, hl, h⟩
    · cases f
    · cases e1
      cases e2
      exact sme_rc (A := X.A) (by omega) I hl hab (fun {x y u v} => sme_eq I n (A := X.A.in1) (by show X.A.units + 1 + n < cLine; omega)) h _ _ _ _ ⟨.bl true, H, I, rfl, q⟩
theorem jo_eqD {k n : Nat} (hn : n <= 32) (hr : Room k X.A) : jOp X (compareOp .Eq) (rSme n true) := ⟨op_eqD hn hr.units⟩
theorem op_neD {n : Nat} (hn : n <= 32) (hu : X.A.units + 64 < cLine) : OpR X (compareOp .NotEq) (rSme n false) := by
  intro pins s σ H x y v u Q I rx ry h
  obtain ⟨p, p', rfl, rfl, h, q⟩ := h
  cases rx
  cases ry
  match n, h with
  | n + 1, h =>
    rcases h with ⟨f, _⟩ | ⟨a, b, xs, ys, e1, e2, hab, hl, h⟩
    · cases f
    · cases e1
      cases e2
      have go : ∀ {x y : V} {u v : Value}, Sme n H x y -> RelV x u -> RelV y v -> SeqAt.EqAt X.A.in1 s u v true := fun {x y u v} => sme_eq I n (A := X.A.in1) (by show X.A.units + 1 + n < cLine; omega)
      rcases hab with ⟨h1, h2⟩ | ⟨h1, h2⟩
      · obtain ⟨i1, v1, m1, _⟩ := I.list (SqL.of h1)
        obtain ⟨i2, v2, m2, _⟩ := I.list (SqL.of h2)
        have n1 := v1.length
        have n2 := v2.length
        have main := SeqAt.RcNeAt.lists (A := X.A) (s := s) (e := fun _ => true) m1.isList m2.isList (by simp; omega) (by omega) (fun j x y => sme_items v1 v2 go h j x y)
        rw [show ((List.range i1.toArray.size).all fun _ => true) = true from List.all_eq_true.mpr fun _ _ => rfl] at main
        exact main _ _ _ _ ⟨.bl false, H, I, rfl, q⟩
      · obtain ⟨i1, v1, m1, _⟩ := I.tuple (SqT.of h1)
        obtain ⟨i2, v2, m2, _⟩ := I.tuple (SqT.of h2)
        have n1 := v1.length
        have n2 := v2.length
        have main := SeqAt.RcNeAt.tuples (A := X.A) (s := s) (e := fun _ => true) m1 m2 (by omega) (fun j x y => sme_items v1 v2 go h j x y)
        have eb : ((List.range (min i1.toArray.size i2.toArray.size)).all (fun _ => true) && i1.toArray.size == i2.toArray.size) = true := by
          rw [show (List.range (min i1.toArray.size i2.toArray.size)).all (fun _ => true) = true from List.all_eq_true.mpr fun _ _ => rfl]
          simp
          omega
        rw [eb] at main
        exact main _ _ _ _ ⟨.bl false, H, I, rfl, q⟩
theorem jo_neD {k n : Nat} (hn : n <= 32) (hr : Room k X.A) : jOp X (compareOp .NotEq) (rSme n false) := ⟨op_neD hn hr.units⟩
end
end L2
namespace KD
open PySem L2 K11
theorem in_strs {x : Str} : ∀ {l : List Str}, inV (.str x) (l.map V.str) = decide (x ∈ l)
  | [] => rfl
  | y :: l => by
    have ih := in_strs (x := x) (l := l)
    unfold inV at ih ⊢
    rw [List.map_cons, List.any_cons, ih]
    show ((y == x) || decide (x ∈ l)) = _
    by_cases e : y = x
    · subst e; simp
    · have e' : (y == x) = false := beq_eq_false_iff_ne.mpr e
      have e2 : ¬ x = y := fun z => e z.symm
      simp [e', e2]
theorem sme_flat {H : Hp} {xs : List V} {a b : Addr} (h : (H a = some (.lst xs) /\ H b = some (.lst xs)) \/ (H a = some (.tup xs) /\ H b = some (.tup xs))) (f : xs.all flatV = true) : Sme 2 H (.ref a) (.ref b) :=
  .inr ⟨a, b, xs, xs, rfl, rfl, h, rfl, fun i u v h1 h2 => .inl ⟨List.all_eq_true.mp f u (List.mem_of_getElem? h1), by rw [h1] at h2; exact Option.some.inj h2⟩⟩
theorem told_flat (o : Option Flt) : (toldV o).all flatV = true := by
  match o with
  | none => rfl
  | some (k, n) => rfl
def wds : List Str := ["any", "twice", "unknown", "misfit", "lacking", "none"]
def spMeets : Sp := fun vs H Q _ => ∃ (p du : Addr) (ks : List (List (Str × Int))) (ds : List Dg), vs = [.ref p, .ref du] /\ IsP H ks ds p /\ Few24 ks ds /\ H du = some (.tup (toldV (due ks ds))) /\ ∀ H', Same H H' -> Q (.bl true) H'
section
variable {P : Program} {w : World} {K : PySem.W.Frag} {mg : Str -> Option Value} {base : Heap} {f : Addr} {fd : FuncData} {c : Xs}
theorem scMeets : FnScope ["_law_program", "_law_due", "_law_found", "_law_words"] ["_law_program", "_law_due"] (defScope sMeets) := ⟨rfl, rfl, rfl, by decide +kernel, rfl, by decide +kernel, by decide +kernel⟩
theorem ndMeets : (["_law_program", "_law_due", "_law_found", "_law_words", "_law_word"] : List Str).Nodup := by decide +kernel
theorem ok_meets (F : Fun K "_law_meets" "_law_meets" sMeets f fd) (GT : Ca P w K mg base CX0 9 "_law_told" ["_law_program"] spTold) (GB : Ca P w K mg base CX0 9 "_law_base" ["_law_program"] spBase) (m_isinstance : mg "isinstance" = none) (m_str : mg "str" = none) (m_list : mg "list" = none) (m_len : mg "len" = none) : FnOk P w K mg base CX0 10 f fd ["_law_program", "_law_due"] spMeets := by
  refine F.by scMeets (fun vs H Q E h => ?_) (fun cdv A outer s H vs Q E hr h => ?_)
  · obtain ⟨p, du, ks, ds, rfl, _⟩ := h
    rfl
  obtain ⟨p, du, ks, ds, rfl, hP, hF, hdu, q⟩ := h
  refine ⟨_,
    (jss_cons (js_set (i := 2) scMeets.nd rfl (Or.inl rfl) (je_ca GT hr rfl pass0 (ja_c (jv 0) ja_nil)))
    (jss_cons (js_if (jW.pt (jw_or (jt_cmpR (jo_neD (n := 2) (by decide) hr) (jv 2) (jv 1) (nomark _)) (jw_or1 (jt_cmpR jo_eq (je_ix jx_tup (jv 1) je_int (fun _ _ => rfl)) je_str (nomark _)))))
      (jss_one (js_ret (je_and (je_cmpR (jo_eqD (n := 2) (by decide) hr) (jv 2) (jv 1) (nomark _)) (je_one (je_cmpR jo_isB (je_ix jx_tup (jv 2) je_int (fun _ _ => rfl)) je_bl (nomark _)))))) jss_nil)
    (jss_cons (js_if (jW.pt (jw_or (jt_not (jt_val (je_fnB jc_isinst rfl m_isinstance PyProof.Rows.boot_isinstance (ja_c (je_ix jx_tup (jv 2) je_int (fun _ _ => rfl)) (ja_c (je_bltn (v := .ty "str") rfl m_str PyProof.Rows.boot_str rfl) ja_nil))))) (jw_or1 (jW.pt (jw_and (jt_cmpR jo_eq (je_fnB jc_len_seq rfl m_len PySem.boot_len (ja_c (jv 1) ja_nil)) je_int (nomark _)) (jw_and1 (jt_not (jt_val (je_fnB jc_isinst rfl m_isinstance PyProof.Rows.boot_isinstance (ja_c (je_ix jx_tup (jv 2) je_int (fun _ _ => rfl)) (ja_c (je_bltn (v := .ty "list") rfl m_list PyProof.Rows.boot_list rfl) ja_nil)))))))))))
      (jss_one (js_ret je_bl)) jss_nil)
    (jss_cons (js_set (i := 3) scMeets.nd rfl (Or.inl rfl) (je_lst (ja_c je_str (ja_c je_str (ja_c je_str (ja_c je_str (ja_c je_str (ja_c je_str ja_nil))))))))
    (jss_one (js_ret (je_cmpR (jo_eqD (n := 2) (by decide) hr) (je_ca GB hr rfl pass0 (ja_c (jv 0) ja_nil)) (je_comp ["_law_word"] rfl (ji_list (jv 3)) (fun _ _ _ _ _ => (jg_name (i := 4) ndMeets rfl (Or.inl rfl))) (fun _ _ _ _ _ => jts_nil) (fun _ _ _ _ _ => (je_cmpR (jo_inK K) (jv 4) (je_tup (ja_c je_str (ja_c (je_ix (jx_tupK K) (jv 1) je_int (fun _ _ => rfl)) ja_nil))) (by with_unfolding_all rfl)))) (nomark _)))))))), ?_⟩
  have sl := line0
  refine ⟨_, rfl, p, ks, ds, rfl, hP, hF, fun H1 r s1 h1 => ?_⟩
  have hdu1 := s1 _ _ hdu
  have sm : Sme 2 H1 (.ref r) (.ref du) := sme_flat (.inr ⟨h1, hdu1⟩) (told_flat _)
  match hd : due ks ds with
  | none =>
    rw [hd] at h1 hdu1
    refine ⟨_, rfl, _, rfl, r, du, rfl, rfl, sm, _, rfl, iteF ?_⟩
    refine ⟨_, rfl, du, _, _, _, rfl, rfl, SqT.of hdu1, rfl, rfl, _, rfl, iteT' (by decide +kernel) ?_⟩
    exact ⟨_, rfl, _, rfl, r, du, rfl, rfl, sm, true, rfl, iteT ⟨_, rfl, r, _, _, _, rfl, rfl, SqT.of h1, atI_nat (j := 1) rfl, true, true, rfl, rfl, q _ s1⟩⟩
  | some (b, n) =>
    rw [hd] at h1 hdu1
    obtain ⟨z, hz, hzs, hzb⟩ : ∃ z : Str, toldV (some (b, n)) = [.str z, .str n] /\ z ≠ "sound" /\ (wds.map fun w => decide (w ∈ [("any" : Str), z])) = [true, decide (ixF b = 1), decide (ixF b = 2), decide (ixF b = 3), false, false] := by
      refine ⟨wdF b, rfl, ?_⟩
      exact three b (fun _ _ z j => z ≠ "sound" /\ (wds.map fun w => decide (w ∈ [("any" : Str), z])) = [true, decide (j = 1), decide (j = 2), decide (j = 3), false, false]) 0 0 0 ⟨by decide, by decide +kernel⟩ ⟨by decide, by decide +kernel⟩ (fun _ _ _ => ⟨by decide, by decide +kernel⟩)
    rw [hz] at h1 hdu1
    refine ⟨_, rfl, _, rfl, r, du, rfl, rfl, sm, _, rfl, iteF ?_⟩
    refine ⟨_, rfl, du, _, _, _, rfl, rfl, SqT.of hdu1, rfl, rfl, _, rfl, iteF' (by rw [decide_eq_false_iff_not]; intro e; exact hzs (V.str.inj e)) ?_⟩
    refine ⟨_, rfl, r, _, _, _, rfl, rfl, SqT.of h1, atI_nat (j := 1) rfl, _, _, _, true, rfl, .str _, rfl, _, rfl, iteF ?_⟩
    refine ⟨_, rfl, du, _, rfl, .inr (SqT.of hdu1), rfl, _, rfl, iteF' (decide_eq_false fun e => by have := V.int.inj e; simp at this) (iteF ?_)⟩
    refine ⟨by show 6 <= sizeLine; decide, fun l hl => ?_⟩
    have s2 := s1.new (o := .lst (wds.map V.str)) hl
    have l2 := upd_same (H := H1) (a := l) (o := .lst (wds.map V.str))
    refine ⟨_, rfl, p, ks, ds, b, n, rfl, hP.keep (.of s2), hF, hd, fun H3 rb s3 h3 => ?_⟩
    have s4 := s2.trans s3
    have l3 := s3 _ _ l2
    refine ⟨_, rfl, _, rfl, ⟨_, SqL.of l3⟩, lc_list (xs := wds.map V.str) (fun i τ ys H' => Same H3 H' /\ (∃ v, τ = [some (.ref p), some (.ref du), some (.ref r), some (.ref l), v]) /\ ys = (wds.take i).map fun w => .bl (decide (w ∈ [("any" : Str), z]))) ⟨Same.refl _, ⟨none, rfl⟩, rfl⟩ (fun i τ ys H' _ h => SqL.of (h.1 _ _ l3)) ?_ ?_⟩
    · rintro i v τ ys H4 hv ⟨s5, ⟨u, rfl⟩, rfl⟩
      rw [List.getElem?_map] at hv
      obtain ⟨wd, hw, rfl⟩ := Option.map_eq_some_iff.mp hv
      have hi : i < 6 := (List.getElem?_eq_some_iff.mp hw).1
      have hdu4 := s5 _ _ (s4 _ _ hdu)
      rw [hd, hz] at hdu4
      refine ⟨_, rfl, _, rfl, du, _, _, _, rfl, rfl, SqT.of hdu4, rfl, by show 2 <= sizeLine; decide, fun tq htq => ⟨tq, [("any" : Str), z].map V.str, rfl, .inr (SqT.of upd_same), rfl, rfl, ?_, s5.new htq, ⟨_, rfl⟩, ?_⟩⟩
      · rw [List.length_map, List.length_take]
        omega
      · rw [<- take_map (fun w => V.bl (decide (w ∈ [("any" : Str), z]))) hw]
        congr 2
        exact congrArg V.bl in_strs
    · rintro τ ys H4 ⟨s5, _, rfl⟩ lr hlr
      rw [List.length_map, List.take_of_length_le (Nat.le_refl _)]
      have s6 := s5.new (o := .lst (wds.map fun w => V.bl (decide (w ∈ [("any" : Str), z])))) hlr
      have e1 : (wds.map fun w => V.bl (decide (w ∈ [("any" : Str), z]))) = [.bl true, .bl (decide (ixF b = 1)), .bl (decide (ixF b = 2)), .bl (decide (ixF b = 3)), .bl false, .bl false] := by
        have := congrArg (List.map V.bl) hzb
        rw [List.map_map] at this
        exact this
      refine ⟨rb, lr, rfl, rfl, sme_flat (.inl ⟨s6 _ _ h3, by rw [upd_same, e1]⟩) rfl, q _ (s4.trans s6)⟩
end
end KD
namespace KD
open PySem L2 K11
def spStream : Sp := fun vs H Q _ => ∃ (c : Int) (m : Nat), vs = [.int c, .int (m : Nat)] /\ m <= 100 /\ ∀ H' r (xs : List Int), Same H H' -> H' r = some (.lst (xs.map V.int)) -> xs.length = m -> Q (.ref r) H'
def spMany : Sp := fun vs H Q _ => ∃ (w g : Nat) (px : Addr) (xs : List Int) (wl : Bool), vs = [.int (w : Nat), .int (g : Nat), .ref px, .bl wl] /\ H px = some (.lst (xs.map V.int)) /\ 3 <= xs.length /\ g <= 9 /\ ∀ m : Nat, m <= 9 -> Q (.int (m : Nat)) H
def spUsed : Sp := fun vs H Q _ => ∃ (pp pa px : Addr) (pool above : List Str) (xs : List Int) (m : Nat) (wl : Bool), vs = [.ref pp, .ref pa, .ref px, .int (m : Nat), .bl wl] /\ H pp = some (.lst (pool.map V.str)) /\ H pa = some (.lst (above.map V.str)) /\ H px = some (.lst (xs.map V.int)) /\ pool.length = 60 /\ 0 < above.length /\ 4 + m <= xs.length /\ xs.length <= 100 /\
  ∀ H' r (ns : List Str), Same H H' -> H' r = some (.lst (ns.map V.str)) -> ns.length = m -> Q (.ref r) H'
theorem cut_drop1 (xs : List Int) : cutV (xs.map V.int) (some 1) none = (xs.drop 1).map V.int := by
  unfold cutV
  have c2 : HT.sIx (xs.map V.int).length (xs.map V.int).length none = (xs.map V.int).length := rfl
  have c1 : HT.sIx (xs.map V.int).length 0 (some 1) = min 1 (xs.map V.int).length := rfl
  rw [c1, c2, List.map_drop]
  cases xs with
  | nil => rfl
  | cons a l =>
    have : min 1 ((a :: l).map V.int).length = 1 := by simp
    rw [this, List.take_of_length_le (by rw [List.length_drop]; omega)]
theorem cut_mid4 (xs : List Int) (m : Nat) (h : 4 + m <= xs.length) : cutV (xs.map V.int) (some 4) (some (4 + (m : Int))) = ((xs.drop 4).take m).map V.int := by
  unfold cutV
  have c1 : HT.sIx (xs.map V.int).length 0 (some 4) = min 4 (xs.map V.int).length := rfl
  have c2 : HT.sIx (xs.map V.int).length (xs.map V.int).length (some (4 + (m : Int))) = min (4 + m) (xs.map V.int).length := by
    show (if (4 + (m : Int)) < 0 then ((4 + (m : Int)) + ((xs.map V.int).length : Nat)).toNat else min (4 + (m : Int)).toNat (xs.map V.int).length) = _
    rw [if_neg (by omega)]
    congr 1
  have h4 : min 4 xs.length = 4 := by omega
  have hm : min (4 + m) xs.length = 4 + m := by omega
  rw [c1, c2, List.length_map, h4, hm, <- List.map_drop, <- List.map_take]
  congr 2
  omega
section
variable {P : Program} {w : World} {K : PySem.W.Frag} {mg : Str -> Option Value} {base : Heap} {f R C : Addr} {fd : FuncData}
theorem scStream : FnScope ["_law_cell", "_law_many_here", "_law_found", "_law_number", "_law_k"] ["_law_cell", "_law_many_here"] (defScope sStream) := ⟨rfl, rfl, rfl, by decide +kernel, rfl, by decide +kernel, by decide +kernel⟩
theorem ok_stream (F : Fun K "_law_stream" "_law_stream" sStream f fd) (m_range : mg "range" = none) : FnOk P w K mg base CX0 1 f fd ["_law_cell", "_law_many_here"] spStream := by
  refine F.by scStream (fun vs H Q E h => ?_) (fun cdv A outer s H vs Q E hr h => ?_)
  · obtain ⟨c, m, rfl, _⟩ := h
    rfl
  obtain ⟨c, m, rfl, hm, q⟩ := h
  refine ⟨_,
    (jss_cons (js_set (i := 2) scStream.nd rfl (Or.inl rfl) (je_lst ja_nil))
    (jss_cons (js_set (i := 3) scStream.nd rfl (Or.inl rfl) (je_op jo_add (je_op jo_mod (jv 0) je_int) je_int))
    (jss_cons (js_for PassesOwn.never rfl (ji_range1 rfl m_range (ja_c (je_op jo_add (jv 1) je_int) ja_nil)) (jg_name (i := 4) scStream.nd rfl (Or.inl rfl))
      (jss_cons (js_set (i := 3) scStream.nd rfl (Or.inl rfl) (je_op jo_mod (je_op jo_add (je_op jo_add (je_op jo_mul (jv 3) (jv 3)) (je_op jo_mul je_int (jv 3))) (jv 4)) je_int))
      (jss_one (js_expr (je_bm PySem.F.plainAttrs_list PySem.F.slot_list_append PySem.F.type_list_append jm_append (jv 2) (ja_c (jv 3) ja_nil))))))
    (jss_one (js_ret (je_slice jl_list (jv 2) (jo_some je_int) jo_none)))))), ?_⟩
  have sl := line0
  refine ⟨by show 0 <= sizeLine; decide, fun l hl => ?_⟩
  have s1 := same_new hl (.lst [])
  have b0 := Int.emod_nonneg c (show (2147483647 : Int) ≠ 0 by decide)
  have b1 := Int.emod_lt_of_pos c (show (0 : Int) < 2147483647 by decide)
  refine ⟨_, rfl, _, _, rfl, rfl, (by show (0 : Int) < _; decide), _, _, rfl, rfl, ?_⟩
  refine ⟨_, rfl, _, _, rfl, rfl, _, rfl, by show -(2 ^ 62) <= (m : Int) + 1; omega, by show (m : Int) + 1 < 2 ^ 62; omega, for_range (fun i σ H' => Same H H' /\ ∃ (xs : List Int) (n : Int) (x : Option V), σ = [some (.int c), some (.int (m : Nat)), some (.ref l), some (.int n), x] /\ H' l = some (.lst (xs.map V.int)) /\ xs.length = i /\ 0 <= n /\ n < 4294967296) ⟨s1, [], _, none, rfl, upd_same, rfl, by show (0 : Int) <= c % 2147483647 + 48271; omega, by show c % 2147483647 + 48271 < 4294967296; omega⟩ ?_ ?_⟩
  · rintro i σ H1 hi ⟨s2, xs, n, x, rfl, hx, hlen, n0, n1⟩
    replace hi : i < m + 1 := by have : (((m : Nat) : Int) + 1).toNat = m + 1 := by omega
                                 rw [<- this]; exact hi
    refine ⟨_, rfl, _, rfl, _, _, rfl, rfl, .inl ⟨by omega, by omega⟩, _, rfl, _, _, rfl, rfl, .inl ⟨by decide, by decide⟩, _, _, rfl, rfl, _, rfl, _, _, rfl, rfl, _, _, rfl, rfl, (by show (0 : Int) < _; decide), ?_⟩
    have c0 := Int.emod_nonneg (n * n + 48271 * n + (0 + (i : Int))) (show (2147483647 : Int) ≠ 0 by decide)
    have c1 := Int.emod_lt_of_pos (n * n + 48271 * n + (0 + (i : Int))) (show (0 : Int) < 2147483647 by decide)
    refine ⟨_, rfl, .inl ⟨rfl, _, SqL.of hx⟩, _, rfl, l, _, _, rfl, rfl, hx, by rw [List.length_map]; omega, s2.put hl, xs ++ [(n * n + 48271 * n + (0 + (i : Int))) % 2147483647], _, _, rfl, ?_, ?_, c0, by omega⟩
    · rw [upd_same, List.map_append]
      rfl
    · rw [List.length_append, hlen]
      rfl
  · rintro σ H1 ⟨s2, xs, n, x, rfl, hx, hlen, n0, n1⟩
    refine ⟨_, rfl, _, rfl, l, _, rfl, SqL.of hx, fun p hp => ?_⟩
    rw [cut_drop1]
    refine q _ p _ (s2.new hp) upd_same ?_
    rw [List.length_drop, hlen]
    omega
theorem scMany : FnScope ["_law_way", "_law_goal", "_law_xs", "_law_wild"] ["_law_way", "_law_goal", "_law_xs", "_law_wild"] (defScope sMany) := ⟨rfl, rfl, rfl, by decide +kernel, rfl, by decide +kernel, by decide +kernel⟩
theorem ok_many (F : Fun K "_law_many" "_law_many" sMany f fd) : FnOk P w K mg base CX0 1 f fd ["_law_way", "_law_goal", "_law_xs", "_law_wild"] spMany := by
  refine F.by scMany (fun vs H Q E h => ?_) (fun cdv A outer s H vs Q E hr h => ?_)
  · obtain ⟨w, g, px, xs, wl, rfl, _⟩ := h
    rfl
  obtain ⟨wy, g, px, xs, wl, rfl, hx, h3, hg, q⟩ := h
  refine ⟨_,
    (jss_cons (js_if (jW.pt (jw_and (jt_val (jv 3)) (jw_and1 (jt_cmpR jo_eq (je_op jo_mod (je_ix jx_list (jv 2) je_int (fun _ _ => rfl)) je_int) je_int (nomark _)))))
      (jss_one (js_ret (je_op jo_mod (je_ix jx_list (jv 2) je_int (fun _ _ => rfl)) je_int))) jss_nil)
    (jss_cons (js_if (jt_cmpR jo_eq (jv 0) je_int (nomark _))
      (jss_one (js_ret (je_op jo_mod (je_op jo_add (je_op jo_mul je_int (jv 1)) je_int) je_int))) jss_nil)
    (jss_cons (js_if (jt_cmpR jo_eq (jv 0) je_int (nomark _))
      (jss_one (js_ret (je_op jo_mod (je_ix jx_list (jv 2) je_int (fun _ _ => rfl)) (je_op jo_add (jv 1) je_int)))) jss_nil)
    (jss_cons (js_if (jt_cmpR jo_eq (jv 0) je_int (nomark _))
      (jss_one (js_ret (jv 1))) jss_nil)
    (jss_one (js_ret (je_op jo_mod (je_ix jx_list (jv 2) je_int (fun _ _ => rfl)) je_int))))))), ?_⟩
  have at1 : (xs.map V.int)[1]? = some (.int (xs[1]'(by omega))) := by rw [List.getElem?_map, List.getElem?_eq_getElem (by omega)]; rfl
  have at2 : (xs.map V.int)[2]? = some (.int (xs[2]'(by omega))) := by rw [List.getElem?_map, List.getElem?_eq_getElem (by omega)]; rfl
  have md : ∀ (x k : Int), 0 < k -> k <= 10 -> Q (.int (x % k)) H := fun x k h0 h1 => by
    have c0 := Int.emod_nonneg x (show k ≠ 0 by omega)
    have c1 := Int.emod_lt_of_pos x h0
    have e : x % k = (((x % k).toNat : Nat) : Int) := by omega
    rw [e]
    exact q _ (by omega)
  suffices rest : (tSeq _ _ : TS) _ [some (.int (wy : Nat)), some (.int (g : Nat)), some (.ref px), some (.bl wl)] H by
    refine ⟨_, rfl, wl, rfl, ?_⟩
    cases wl with
    | false => exact iteF (iteF rest)
    | true =>
      refine iteT ⟨_, rfl, px, _, _, _, rfl, rfl, SqL.of hx, atI_nat (j := 1) at1, _, _, rfl, rfl, (by show (0 : Int) < _; decide), rfl, _, rfl, ite2 (fun _ => ?_) (fun _ => rest)⟩
      exact ⟨_, rfl, px, _, _, _, rfl, rfl, SqL.of hx, atI_nat (j := 2) at2, _, _, rfl, rfl, (by show (0 : Int) < _; decide), md _ 10 (by decide) (by decide)⟩
  refine ⟨_, rfl, rfl, _, rfl, ite2 (fun _ => ?_) (fun _ => ?_)⟩
  · exact ⟨_, rfl, _, _, rfl, rfl, .inl ⟨by decide, by decide⟩, _, _, rfl, rfl, _, _, rfl, rfl, (by show (0 : Int) < _; decide), md _ 10 (by decide) (by decide)⟩
  refine ⟨_, rfl, rfl, _, rfl, ite2 (fun _ => ?_) (fun _ => ?_)⟩
  · exact ⟨_, rfl, px, _, _, _, rfl, rfl, SqL.of hx, atI_nat (j := 2) at2, _, rfl, _, _, rfl, rfl, _, _, rfl, rfl, (by show (0 : Int) < (g : Int) + 1; omega), md _ ((g : Int) + 1) (by omega) (by omega)⟩
  refine ⟨_, rfl, rfl, _, rfl, ite2 (fun _ => ⟨_, rfl, q g hg⟩) (fun _ => ?_)⟩
  exact ⟨_, rfl, px, _, _, _, rfl, rfl, SqL.of hx, atI_nat (j := 2) at2, _, _, rfl, rfl, (by show (0 : Int) < _; decide), md _ 10 (by decide) (by decide)⟩
theorem scUsed : FnScope ["_law_pool", "_law_above", "_law_xs", "_law_many_here", "_law_wild", "_law_names", "_law_number"] ["_law_pool", "_law_above", "_law_xs", "_law_many_here", "_law_wild"] (defScope sUsed) := ⟨rfl, rfl, rfl, by decide +kernel, rfl, by decide +kernel, by decide +kernel⟩
theorem ok_used (F : Fun K "_law_used" "_law_used" sUsed f fd) (m_len : mg "len" = none) : FnOk P w K mg base CX0 1 f fd ["_law_pool", "_law_above", "_law_xs", "_law_many_here", "_law_wild"] spUsed := by
  refine F.by scUsed (fun vs H Q E h => ?_) (fun cdv A outer s H vs Q E hr h => ?_)
  · obtain ⟨pp, pa, px, pool, above, xs, m, wl, rfl, _⟩ := h
    rfl
  obtain ⟨pp, pa, px, pool, above, xs, m, wl, rfl, hp, ha, hx, l60, la, lx, lx2, q⟩ := h
  refine ⟨_,
    (jss_cons (js_set (i := 5) scUsed.nd rfl (Or.inl rfl) (je_lst ja_nil))
    (jss_cons (js_for PassesOwn.never rfl (ji_list (je_slice jl_list (jv 2) (jo_some je_int) (jo_some (je_op jo_add je_int (jv 3))))) (jg_name (i := 6) scUsed.nd rfl (Or.inl rfl))
      (jss_one (js_if (jW.pt (jw_and (jt_val (jv 4)) (jw_and1 (jt_cmpR jo_eq (je_op jo_mod (jv 6) je_int) je_int (nomark _)))))
        (jss_one (js_expr (je_bm PySem.F.plainAttrs_list PySem.F.slot_list_append PySem.F.type_list_append jm_append (jv 5) (ja_c (je_ix jx_list (jv 0) (je_op jo_mod (je_op jo_fdiv (jv 6) je_int) je_int) (fun _ _ => rfl)) ja_nil))))
        (jss_one (js_expr (je_bm PySem.F.plainAttrs_list PySem.F.slot_list_append PySem.F.type_list_append jm_append (jv 5) (ja_c (je_ix jx_list (jv 1) (je_op jo_mod (je_op jo_fdiv (jv 6) je_int) (je_fnB jc_len_seq rfl m_len PySem.boot_len (ja_c (jv 1) ja_nil))) (fun _ _ => rfl)) ja_nil)))))))
    (jss_one (js_ret (jv 5))))), ?_⟩
  have sl := line0
  refine ⟨by show 0 <= sizeLine; decide, fun l hl => ?_⟩
  have s1 := same_new hl (.lst [])
  refine ⟨_, rfl, _, rfl, _, rfl, _, _, rfl, rfl, _, rfl, px, _, rfl, SqL.of (s1 _ _ hx), fun pc hpc => ?_⟩
  have ec := cut_mid4 xs m lx
  obtain ⟨ys, eys⟩ : ∃ ys, ys = (xs.drop 4).take m := ⟨_, rfl⟩
  have lys : ys.length = m := by rw [eys, List.length_take, List.length_drop]; omega
  rw [<- eys] at ec
  have ec' : cutV (xs.map V.int) (some 4) (some ((fun i j : Int => i + j) 4 ((m : Nat) : Int))) = ys.map V.int := ec
  have s2 := s1.new (o := .lst (ys.map V.int)) hpc
  have npl : pc ≠ l := (ne_of_none upd_same hpc).symm
  have fpc : H pc = none := s1.free hpc
  refine ⟨_, rfl, ⟨_, SqL.of upd_same⟩, for_list (xs := ys.map V.int) (fun i σ H' => Same H H' /\ H' pc = some (.lst (ys.map V.int)) /\ ∃ (ns : List Str) (x : Option V), σ = [some (.ref pp), some (.ref pa), some (.ref px), some (.int (m : Nat)), some (.bl wl), some (.ref l), x] /\ H' l = some (.lst (ns.map V.str)) /\ ns.length = i) ?_ (fun i σ H' _ h => SqL.of h.2.1) ?_ ?_⟩
  · rw [ec']
    exact ⟨s2, upd_same, [], none, rfl, old hpc upd_same, rfl⟩
  · rintro i v σ H3 hv ⟨s3, hpc3, ns, x, rfl, hl3, hlen⟩
    rw [List.getElem?_map] at hv
    obtain ⟨nu, hnu, rfl⟩ := Option.map_eq_some_iff.mp hv
    have hi : i < ys.length := (List.getElem?_eq_some_iff.mp hnu).1
    have pick : ∀ (zs : List Str), 0 < zs.length -> ∃ z, atI (zs.map V.str) (nu / 4 % ((zs.length : Nat) : Int)) = some (.str z) := fun zs hz => by
      have c0 := Int.emod_nonneg (nu / 4) (show ((zs.length : Nat) : Int) ≠ 0 by omega)
      have c1 := Int.emod_lt_of_pos (nu / 4) (show (0 : Int) < ((zs.length : Nat) : Int) by omega)
      obtain ⟨r, er⟩ : ∃ r : Nat, nu / 4 % ((zs.length : Nat) : Int) = (r : Int) := ⟨(nu / 4 % ((zs.length : Nat) : Int)).toNat, by omega⟩
      rw [er]
      have hr : r < zs.length := by omega
      exact ⟨zs[r], atI_nat (by rw [List.getElem?_map, List.getElem?_eq_getElem hr]; rfl)⟩
    obtain ⟨z1, hz1⟩ := pick pool (by omega)
    obtain ⟨z2, hz2⟩ := pick above la
    rw [l60] at hz1
    have fin : ∀ z : Str, Same H (upd H3 l (.lst (ns.map V.str ++ [.str z]))) /\ upd H3 l (.lst (ns.map V.str ++ [.str z])) pc = some (.lst (ys.map V.int)) /\ ∃ (ns' : List Str) (x : Option V), [some (V.ref pp), some (.ref pa), some (.ref px), some (.int (m : Nat)), some (.bl wl), some (.ref l), some (.int nu)] = [some (.ref pp), some (.ref pa), some (.ref px), some (.int (m : Nat)), some (.bl wl), some (.ref l), x] /\ upd H3 l (.lst (ns.map V.str ++ [.str z])) l = some (.lst (ns'.map V.str)) /\ ns'.length = i + 1 := fun z =>
      ⟨s3.put hl, by rw [upd_ne npl]; exact hpc3, ns ++ [z], _, rfl, by rw [upd_same, List.map_append]; rfl, by rw [List.length_append, hlen]; rfl⟩
    suffices no : (tDrop _ : TS) _ [some (.ref pp), some (.ref pa), some (.ref px), some (.int (m : Nat)), some (.bl wl), some (.ref l), some (.int nu)] H3 by
      refine ⟨_, rfl, wl, rfl, ?_⟩
      refine ite2 (fun _ => ⟨_, rfl, _, _, rfl, rfl, (by show (0 : Int) < _; decide), rfl, _, rfl, ite2 (fun _ => ?_) (fun _ => no)⟩) (fun _ => iteF no)
      exact ⟨_, rfl, .inl ⟨rfl, _, SqL.of hl3⟩, _, rfl, _, rfl, _, _, rfl, rfl, ⟨by decide, by decide⟩, _, _, rfl, rfl, (by show (0 : Int) < _; decide), pp, _, _, _, rfl, rfl, SqL.of (s3 _ _ hp), hz1, l, _, _, rfl, rfl, hl3, by rw [List.length_map]; omega, fin z1⟩
    exact ⟨_, rfl, .inl ⟨rfl, _, SqL.of hl3⟩, _, rfl, _, rfl, _, _, rfl, rfl, ⟨by decide, by decide⟩, _, rfl, pa, _, rfl, .inl (SqL.of (s3 _ _ ha)), _, _, rfl, rfl, (by rw [List.length_map]; show (0 : Int) < ((above.length : Nat) : Int); omega), pa, _, _, _, rfl, rfl, SqL.of (s3 _ _ ha), (by rw [List.length_map]; exact hz2), l, _, _, rfl, rfl, hl3, by rw [List.length_map]; omega, fin z2⟩
  · rintro σ H3 ⟨s3, hpc3, ns, x, rfl, hl3, hlen⟩
    rw [List.length_map, lys] at hlen
    exact ⟨_, rfl, q _ l ns s3 hl3 hlen⟩
end
end KD
namespace KD
open PySem L2 K11
def spLDeed : Sp := fun vs H Q _ => ∃ (pp pa px : Addr) (pool above : List Str) (xs : List Int) (wy : Nat) (wl : Bool), vs = [.ref pp, .ref pa, .ref px, .int (wy : Nat), .bl wl] /\ H pp = some (.lst (pool.map V.str)) /\ H pa = some (.lst (above.map V.str)) /\ H px = some (.lst (xs.map V.int)) /\ pool.length = 60 /\ 0 < above.length /\ xs.length = 15 /\ wy < 6 /\
  ∀ H' r (d : De), Same H H' -> IsDe H' d r -> (∀ g ns, d = .ask g ns -> ns.length <= 1000) -> (∀ w t ns, d = .app w t ns -> t ∈ pool.take 15) -> Q (.ref r) H'
section
variable {P : Program} {w : World} {K : PySem.W.Frag} {mg : Str -> Option Value} {base : Heap} {f R C : Addr} {fd : FuncData}
theorem scLDeed : FnScope ["_law_pool", "_law_above", "_law_xs", "_law_way", "_law_wild", "_law_goal", "_law_names", "_law_word", "_law_other"] ["_law_pool", "_law_above", "_law_xs", "_law_way", "_law_wild"] (defScope sLDeed) := ⟨rfl, rfl, rfl, by decide +kernel, rfl, by decide +kernel, by decide +kernel⟩
theorem at_str {zs : List Str} {k : Int} (h0 : 0 <= k) (h1 : k < ((zs.length : Nat) : Int)) : ∃ z, atI (zs.map V.str) k = some (.str z) := by
  obtain ⟨r, rfl⟩ : ∃ r : Nat, k = (r : Int) := ⟨k.toNat, by omega⟩
  have hr : r < zs.length := by omega
  exact ⟨zs[r], atI_nat (by rw [List.getElem?_map, List.getElem?_eq_getElem hr]; rfl)⟩
theorem at_str15 {zs : List Str} {k : Int} (h0 : 0 <= k) (h1 : k < ((zs.length : Nat) : Int)) (h2 : k < 15) : ∃ z, atI (zs.map V.str) k = some (.str z) /\ z ∈ zs.take 15 := by
  obtain ⟨r, rfl⟩ : ∃ r : Nat, k = (r : Int) := ⟨k.toNat, by omega⟩
  have hr : r < zs.length := by omega
  refine ⟨zs[r], atI_nat (by rw [List.getElem?_map, List.getElem?_eq_getElem hr]; rfl), ?_⟩
  refine List.mem_of_getElem? (i := r) ?_
  rw [List.getElem?_take, if_pos (by omega), List.getElem?_eq_getElem hr]
theorem cut_drop9 (xs : List Int) (h : xs.length = 15) : cutV (xs.map V.int) (some 9) none = (xs.drop 9).map V.int := by
  unfold cutV
  have c2 : HT.sIx (xs.map V.int).length (xs.map V.int).length none = (xs.map V.int).length := rfl
  have c1 : HT.sIx (xs.map V.int).length 0 (some 9) = min 9 (xs.map V.int).length := rfl
  have h9 : min 9 xs.length = 9 := by omega
  rw [c1, c2, List.length_map, h9, List.map_drop, List.take_of_length_le (by rw [List.length_drop, List.length_map]; omega)]
theorem ok_ldeed (F : Fun K "_law_deed" "_law_deed" sLDeed f fd) (GU : Ca P w K mg base CX0 1 "_law_used" ["_law_pool", "_law_above", "_law_xs", "_law_many_here", "_law_wild"] spUsed) (GM : Ca P w K mg base CX0 1 "_law_many" ["_law_way", "_law_goal", "_law_xs", "_law_wild"] spMany) (m_int : mg "int" = none) (m_tuple : mg "tuple" = none) : FnOk P w K mg base CX0 2 f fd ["_law_pool", "_law_above", "_law_xs", "_law_way", "_law_wild"] spLDeed := by
  refine F.by scLDeed (fun vs H Q E h => ?_) (fun cdv A outer s H vs Q E hr h => ?_)
  · obtain ⟨pp, pa, px, pool, above, xs, wy, wl, rfl, _⟩ := h
    rfl
  obtain ⟨pp, pa, px, pool, above, xs, wy, wl, rfl, hp, ha, hx, l60, la, lx, hwy, q⟩ := h
  refine ⟨_,
    (jss_cons (js_set (i := 5) scLDeed.nd rfl (Or.inl rfl) (je_op jo_mod (je_ix jx_list (jv 2) je_int (fun _ _ => rfl)) je_int))
    (jss_cons (js_if (jt_cmpR jo_eq (jv 3) je_int (nomark _))
      (jss_one (js_ret (je_tup (ja_c je_str (ja_c (je_op jo_sub (je_ix jx_list (jv 2) je_int (fun _ _ => rfl)) (je_op jo_pow je_int je_int)) ja_nil))))) jss_nil)
    (jss_cons (js_if (jt_cmpR jo_eq (jv 3) je_int (nomark _))
      (jss_cons (js_set (i := 6) scLDeed.nd rfl (Or.inl rfl) (je_ca GU hr rfl pass0 (ja_c (jv 0) (ja_c (jv 1) (ja_c (jv 2) (ja_c je_int (ja_c (jv 4) ja_nil)))))))
      (jss_cons (js_set (i := 7) scLDeed.nd rfl (Or.inl rfl) (je_ix jx_list (je_lst (ja_c je_str (ja_c je_str (ja_c je_str (ja_c je_str (ja_c je_str (ja_c je_str (ja_c je_str ja_nil)))))))) (je_op jo_mod (je_ix jx_list (jv 2) je_int (fun _ _ => rfl)) je_int) (fun _ _ => rfl)))
      (jss_one (js_ret (je_tup (ja_c je_str (ja_c (jv 7) (ja_c (je_ix jx_list (jv 6) je_int (fun _ _ => rfl)) (ja_c (je_ix jx_list (jv 6) je_int (fun _ _ => rfl)) ja_nil))))))))) jss_nil)
    (jss_cons (js_set (i := 6) scLDeed.nd rfl (Or.inl rfl) (je_ca GU hr rfl pass0 (ja_c (jv 0) (ja_c (jv 1) (ja_c (jv 2) (ja_c (je_ca GM hr rfl pass0 (ja_c (jv 3) (ja_c (jv 5) (ja_c (jv 2) (ja_c (jv 4) ja_nil))))) (ja_c (jv 4) ja_nil)))))))
    (jss_cons (js_set (i := 8) scLDeed.nd rfl (Or.inl rfl) (je_and (jv 4) (je_one (je_cmpR jo_eq (je_op jo_mod (je_ix jx_list (jv 2) je_int (fun _ _ => rfl)) je_int) je_int (nomark _)))))
    (jss_cons (js_if (jt_cmpR jo_eq (jv 3) je_int (nomark _))
      (jss_one (js_ret (je_tup (ja_c je_str (ja_c (je_ix jx_list (je_lst (ja_c (je_ix jx_list (jv 0) (jv 5) (fun _ _ => rfl)) (ja_c (je_ix jx_list (jv 0) (je_op jo_add je_int (je_op jo_mod (jv 5) je_int)) (fun _ _ => rfl)) ja_nil))) (je_fnTy jc_int1 rfl m_int PyProof.Rows.boot_int (ja_c (jv 8) ja_nil)) (fun _ _ => rfl)) (ja_c (je_fnTy jc_tuple_of rfl m_tuple PyProof.Rows.boot_tuple (ja_c (jv 6) ja_nil)) ja_nil)))))) jss_nil)
    (jss_cons (js_if (jt_cmpR jo_eq (jv 3) je_int (nomark _))
      (jss_one (js_ret (je_tup (ja_c je_str (ja_c (je_ix jx_list (je_ca GU hr rfl pass0 (ja_c (jv 0) (ja_c (jv 1) (ja_c (je_slice jl_list (jv 2) (jo_some je_int) jo_none) (ja_c je_int (ja_c (jv 4) ja_nil)))))) je_int (fun _ _ => rfl)) (ja_c (je_fnTy jc_tuple_of rfl m_tuple PyProof.Rows.boot_tuple (ja_c (jv 6) ja_nil)) ja_nil)))))) jss_nil)
    (jss_one (js_ret (je_tup (ja_c (je_ix jx_list (je_lst (ja_c je_str (ja_c je_str ja_nil))) (je_op jo_sub (jv 3) je_int) (fun _ _ => rfl)) (ja_c (je_ix jx_list (je_lst (ja_c (je_ix jx_list (jv 0) (je_op jo_add je_int (jv 5)) (fun _ _ => rfl)) (ja_c (je_ix jx_list (jv 0) (je_op jo_mod (jv 5) je_int) (fun _ _ => rfl)) ja_nil))) (je_fnTy jc_int1 rfl m_int PyProof.Rows.boot_int (ja_c (jv 8) ja_nil)) (fun _ _ => rfl)) (ja_c (je_fnTy jc_tuple_of rfl m_tuple PyProof.Rows.boot_tuple (ja_c (jv 6) ja_nil)) ja_nil))))))))))))), ?_⟩
  have sl := line0
  have at0 : (xs.map V.int)[0]? = some (.int (xs[0]'(by omega))) := by rw [List.getElem?_map, List.getElem?_eq_getElem (by omega)]; rfl
  have at13 : (xs.map V.int)[13]? = some (.int (xs[13]'(by omega))) := by rw [List.getElem?_map, List.getElem?_eq_getElem (by omega)]; rfl
  have g0 := Int.emod_nonneg (xs[0]'(by omega)) (show (10 : Int) ≠ 0 by decide)
  have g1 := Int.emod_lt_of_pos (xs[0]'(by omega)) (show (0 : Int) < 10 by decide)
  refine ⟨_, rfl, px, _, _, _, rfl, rfl, SqL.of hx, atI_nat (j := 0) at0, _, _, rfl, rfl, (by show (0 : Int) < _; decide), ?_⟩
  obtain ⟨g, eg⟩ : ∃ g : Nat, (xs[0]'(by omega)) % 10 = (g : Int) := ⟨((xs[0]'(by omega)) % 10).toNat, by omega⟩
  have hg : g <= 9 := by omega
  show (tSeq _ _ : TS) _ [some (.ref pp), some (.ref pa), some (.ref px), some (.int (wy : Nat)), some (.bl wl), some (.int ((xs[0]'(by omega)) % 10)), none, none, none] H
  rw [eg]
  refine ⟨_, rfl, rfl, _, rfl, ite2 (fun _ => ?_) (fun c0 => ?_)⟩
  · exact ⟨_, rfl, px, _, _, _, rfl, rfl, SqL.of hx, atI_nat (j := 0) at0, _, _, rfl, rfl, ⟨by decide, by decide, by decide⟩, _, _, rfl, rfl, by show 2 <= sizeLine; decide, fun r hr => q _ r (.num _) (same_new hr _) (.num upd_same) (fun g ns e => by cases e) (fun w t ns e => by cases e)⟩
  have c0' : wy ≠ 0 := fun e => c0 (by rw [e]; rfl)
  refine ⟨_, rfl, rfl, _, rfl, ite2 (fun _ => ?_) (fun c1 => ?_)⟩
  · refine ⟨_, rfl, _, rfl, _, rfl, _, rfl, pp, pa, px, pool, above, xs, 2, wl, rfl, hp, ha, hx, l60, la, by omega, by omega, fun H1 r ns s1 h1 hlen => ?_⟩
    obtain ⟨x, y, rfl⟩ : ∃ x y, ns = [x, y] := by
      match ns, hlen with
      | [x, y], _ => exact ⟨x, y, rfl⟩
    have w0 := Int.emod_nonneg (xs[0]'(by omega)) (show (7 : Int) ≠ 0 by decide)
    have w1 := Int.emod_lt_of_pos (xs[0]'(by omega)) (show (0 : Int) < 7 by decide)
    obtain ⟨z, hz⟩ := at_str (zs := ["plus", "minus", "times", "over", "rest", "less", "same"]) w0 w1
    refine ⟨by show 7 <= sizeLine; decide, fun lw hlw => ⟨_, rfl, px, _, _, _, rfl, rfl, SqL.of (old hlw (s1 _ _ hx)), atI_nat (j := 0) at0, _, _, rfl, rfl, (by show (0 : Int) < _; decide), lw, _, _, _, rfl, rfl, SqL.of upd_same, hz, ?_⟩⟩
    refine ⟨_, rfl, _, rfl, r, _, _, _, rfl, rfl, SqL.of (old hlw h1), atI_nat (j := 0) rfl, _, rfl, r, _, _, _, rfl, rfl, SqL.of (old hlw h1), atI_nat (j := 1) rfl, by show 4 <= sizeLine; decide, fun t ht => q _ t (.op z x y) ((s1.new hlw).new ht) (.op upd_same) (fun g ns e => by cases e) (fun w t ns e => by cases e)⟩
  have c1' : wy ≠ 1 := fun e => c1 (by rw [e]; rfl)
  refine ⟨_, rfl, _, rfl, _, rfl, _, rfl, _, rfl, _, rfl, _, rfl, wy, g, px, xs, wl, rfl, hx, by omega, hg, fun m hm => ⟨_, rfl, pp, pa, px, pool, above, xs, m, wl, rfl, hp, ha, hx, l60, la, by omega, by omega, fun H1 r ns s1 h1 hlen => ?_⟩⟩
  obtain ⟨ob, eob⟩ : ∃ ob, ob = (wl && decide (V.int ((xs[13]'(by omega)) % 4) = V.int 1)) := ⟨_, rfl⟩
  suffices rest : (tSeq _ _ : TS) _ [some (.ref pp), some (.ref pa), some (.ref px), some (.int (wy : Nat)), some (.bl wl), some (.int (g : Nat)), some (.ref r), none, some (.bl ob)] H1 by
    refine ⟨_, rfl, wl, rfl, ite2 (fun hw => ?_) (fun hw => ?_)⟩
    · refine ⟨_, rfl, px, _, _, _, rfl, rfl, SqL.of (s1 _ _ hx), atI_nat (j := 13) at13, _, _, rfl, rfl, (by show (0 : Int) < _; decide), rfl, ?_⟩
      have e : decide (V.int ((xs[13]'(by omega)) % 4) = V.int 1) = ob := by rw [eob, hw]; rfl
      dsimp only
      rw [e]
      exact rest
    · have e : false = ob := by rw [eob]; simp at hw; rw [hw]; rfl
      rw [e]
      exact rest
  have two : ∀ (z1 z2 : Str), atI [V.str z1, V.str z2] (if ob = true then 1 else 0) = some (.str (if ob then z2 else z1)) := fun z1 z2 => by cases ob <;> rfl
  have m3 := Int.emod_nonneg ((g : Nat) : Int) (show (3 : Int) ≠ 0 by decide)
  have m3' := Int.emod_lt_of_pos ((g : Nat) : Int) (show (0 : Int) < 3 by decide)
  have m5 := Int.emod_nonneg ((g : Nat) : Int) (show (5 : Int) ≠ 0 by decide)
  have m5' := Int.emod_lt_of_pos ((g : Nat) : Int) (show (0 : Int) < 5 by decide)
  refine ⟨_, rfl, rfl, _, rfl, ite2 (fun _ => ?_) (fun c2 => ?_)⟩
  · obtain ⟨z1, h1', i1⟩ := at_str15 (zs := pool) (k := ((g : Nat) : Int)) (by omega) (by omega) (by omega)
    obtain ⟨z2, h2', i2⟩ := at_str15 (zs := pool) (k := 12 + ((g : Nat) : Int) % 3) (by omega) (by omega) (by omega)
    refine ⟨_, rfl, _, rfl, pp, _, _, _, rfl, rfl, SqL.of (s1 _ _ hp), h1', _, rfl, _, rfl, _, _, rfl, rfl, (by show (0 : Int) < _; decide), _, _, rfl, rfl, pp, _, _, _, rfl, rfl, SqL.of (s1 _ _ hp), h2', by show 2 <= sizeLine; decide, fun l2 hl2 => ⟨_, rfl, .inr ⟨ob, rfl, l2, _, _, _, rfl, rfl, SqL.of upd_same, two z1 z2, ?_⟩⟩⟩
    refine ⟨_, rfl, r, _, rfl, .inl ⟨SqL.of (old hl2 h1), fun tq htq => ⟨by show 3 <= sizeLine; decide, fun t ht => q _ t (.app "make" _ ns) (((s1.new hl2).new htq).new ht) (.app (.inl rfl) upd_same (old ht upd_same)) (fun g ns e => by cases e) (fun w t ns e => by cases e; cases ob <;> assumption)⟩⟩⟩
  have c2' : wy ≠ 2 := fun e => c2 (by rw [e]; rfl)
  refine ⟨_, rfl, rfl, _, rfl, ite2 (fun _ => ?_) (fun c5 => ?_)⟩
  · refine ⟨_, rfl, _, rfl, _, rfl, _, rfl, px, _, rfl, SqL.of (s1 _ _ hx), fun pc hpc => ?_⟩
    rw [cut_drop9 xs lx]
    have s2 := s1.new (o := .lst ((xs.drop 9).map V.int)) hpc
    refine ⟨_, rfl, pp, pa, pc, pool, above, xs.drop 9, 1, wl, rfl, s2 _ _ hp, s2 _ _ ha, upd_same, l60, la, by rw [List.length_drop]; omega, by rw [List.length_drop]; omega, fun H3 r3 ns3 s3 h3 hl3 => ?_⟩
    obtain ⟨x, rfl⟩ : ∃ x, ns3 = [x] := by
      match ns3, hl3 with
      | [x], _ => exact ⟨x, rfl⟩
    have s4 := s2.trans s3
    refine ⟨r3, _, _, _, rfl, rfl, SqL.of h3, atI_nat (j := 0) rfl, _, rfl, r, _, rfl, .inl ⟨SqL.of (s3 _ _ (old hpc h1)), fun tq htq => ⟨by show 3 <= sizeLine; decide, fun t ht => q _ t (.ask x ns) ((s4.new htq).new ht) (.ask upd_same (old ht upd_same)) (fun g ns' e => by cases e; omega) (fun w t ns e => by cases e)⟩⟩⟩
  have c5' : wy ≠ 5 := fun e => c5 (by rw [e]; rfl)
  obtain ⟨z1, h1', i1⟩ := at_str15 (zs := pool) (k := 5 + ((g : Nat) : Int)) (by omega) (by omega) (by omega)
  obtain ⟨z2, h2', i2⟩ := at_str15 (zs := pool) (k := ((g : Nat) : Int) % 5) (by omega) (by omega) (by omega)
  have hw : wy = 3 \/ wy = 4 := by omega
  obtain ⟨zw, hzw, ezw⟩ : ∃ zw : Str, atI [V.str "call", V.str "func"] (((wy : Nat) : Int) - 3) = some (.str zw) /\ (zw = "make" \/ zw = "call" \/ zw = "func") := by
    rcases hw with rfl | rfl
    · exact ⟨"call", rfl, .inr (.inl rfl)⟩
    · exact ⟨"func", rfl, .inr (.inr rfl)⟩
  refine ⟨by show 2 <= sizeLine; decide, fun l0 hl0 => ⟨_, rfl, _, _, rfl, rfl, l0, _, _, _, rfl, rfl, SqL.of upd_same, hzw, ?_⟩⟩
  have s2 := s1.new (o := .lst [V.str "call", V.str "func"]) hl0
  refine ⟨_, rfl, _, rfl, _, _, rfl, rfl, pp, _, _, _, rfl, rfl, SqL.of (s2 _ _ hp), h1', _, rfl, _, rfl, _, _, rfl, rfl, (by show (0 : Int) < _; decide), pp, _, _, _, rfl, rfl, SqL.of (s2 _ _ hp), h2', by show 2 <= sizeLine; decide, fun l2 hl2 => ⟨_, rfl, .inr ⟨ob, rfl, l2, _, _, _, rfl, rfl, SqL.of upd_same, two z1 z2, ?_⟩⟩⟩
  exact ⟨_, rfl, r, _, rfl, .inl ⟨SqL.of (old hl2 (old hl0 h1)), fun tq htq => ⟨by show 3 <= sizeLine; decide, fun t ht => q _ t (.app zw _ ns) (((s2.new hl2).new htq).new ht) (.app ezw upd_same (old ht upd_same)) (fun g ns e => by cases e) (fun w t ns e => by cases e; cases ob <;> assumption)⟩⟩⟩
end
end KD
namespace KD
open PySem L2 K11
def IsRows (H : Hp) (rows : List (Str × De)) (ts : List Addr) : Prop := rows.length = ts.length /\ ∀ (i : Nat) r t, rows[i]? = some r -> ts[i]? = some t -> ∃ p, H t = some (.tup [.str r.1, .ref p]) /\ IsDe H r.2 p
theorem IsRows.keep {H H' : Hp} (t : Tups H H') {rows : List (Str × De)} {ts : List Addr} (h : IsRows H rows ts) : IsRows H' rows ts := ⟨h.1, fun i r x h1 h2 => let ⟨p, a, b⟩ := h.2 i r x h1 h2; ⟨p, t _ _ a, b.keep t⟩⟩
theorem IsRows.get {H : Hp} {rows : List (Str × De)} {ts : List Addr} (h : IsRows H rows ts) {i : Nat} {t : Addr} (e : ts[i]? = some t) : ∃ x d p, rows[i]? = some (x, d) /\ H t = some (.tup [.str x, .ref p]) /\ IsDe H d p := by
  have hi : i < rows.length := by rw [h.1]; exact (List.getElem?_eq_some_iff.mp e).1
  obtain ⟨p, a, b⟩ := h.2 i (rows[i]) t (List.getElem?_eq_getElem hi) e
  exact ⟨rows[i].1, rows[i].2, p, List.getElem?_eq_getElem hi, a, b⟩
def bdOf (last : Str) : List (Str × De) -> Bd
  | [] => .give last
  | (x, d) :: r => .lt x d (bdOf last r)
def spBody : Sp := fun vs H Q _ => ∃ (pr : Addr) (last : Str) (rows : List (Str × De)) (ts : List Addr), vs = [.ref pr, .str last] /\ H pr = some (.lst (ts.map V.ref)) /\ IsRows H rows ts /\ ∀ H' r, Same H H' -> IsBd H' (bdOf last rows) r -> Q (.ref r) H'
def spDeedDue : Sp := fun vs H Q _ => ∃ (pd pa pt pf : Addr) (d : De) (above : List Str) (kt kp : List (Str × Int)), vs = [.ref pd, .ref pa, .ref pt, .ref pf] /\ IsDe H d pd /\ H pa = some (.lst (above.map V.str)) /\ H pt = some (.dK (ents kt)) /\ H pf = some (.dK (ents kp)) /\ (∀ g ns, d = .ask g ns -> ns.length <= 1000) /\
  ∀ H' r, Same H H' -> H' r = some (.tup (toldV (deF kt kp above d))) -> Q (.ref r) H'
section
variable {P : Program} {w : World} {K : PySem.W.Frag} {mg : Str -> Option Value} {base : Heap} {f R C : Addr} {fd : FuncData}
theorem scBody : FnScope ["_law_rows_here", "_law_last", "_law_body_here", "_law_x", "_law_deed_here"] ["_law_rows_here", "_law_last"] (defScope sBody) := ⟨rfl, rfl, rfl, by decide +kernel, rfl, by decide +kernel, by decide +kernel⟩
theorem ok_body (F : Fun K "_law_body" "_law_body" sBody f fd) (m_reversed : mg "reversed" = none) : FnOk P w K mg base CX0 1 f fd ["_law_rows_here", "_law_last"] spBody := by
  refine F.by scBody (fun vs H Q E h => ?_) (fun cdv A outer s H vs Q E hr h => ?_)
  · obtain ⟨pr, last, rows, ts, rfl, _⟩ := h
    rfl
  obtain ⟨pr, last, rows, ts, rfl, hp, hR, q⟩ := h
  refine ⟨_,
    (jss_cons (js_set (i := 2) scBody.nd rfl (Or.inl rfl) (je_tup (ja_c je_str (ja_c (jv 1) ja_nil))))
    (jss_cons (js_for PassesOwn.never rfl (ji_rev rfl m_reversed (ja_c (jv 0) ja_nil)) (jg_tup rfl (jgs_cons (jg_name (i := 3) scBody.nd rfl (Or.inl rfl)) (jgs_cons (jg_name (i := 4) scBody.nd rfl (Or.inl rfl)) jgs_nil)))
      (jss_one (js_set (i := 2) scBody.nd rfl (Or.inl rfl) (je_tup (ja_c je_str (ja_c (jv 3) (ja_c (jv 4) (ja_c (jv 2) ja_nil))))))))
    (jss_one (js_ret (jv 2))))), ?_⟩
  have sl := line0
  have hl := hR.1
  refine ⟨_, rfl, by show 2 <= sizeLine; decide, fun b0 hb0 => ?_⟩
  have s1 := same_new hb0 (.tup [.str "give", .str last])
  refine ⟨_, rfl, _, _, rfl, SqL.of (s1 _ _ hp), for_rev (xs := ts.map V.ref) (fun i σ H' => Same H H' /\ ∃ (b : Addr) (x y : Option V), σ = [some (.ref pr), some (.str last), some (.ref b), x, y] /\ IsBd H' (bdOf last (rows.drop (rows.length - i))) b) ⟨s1, b0, none, none, rfl, by rw [Nat.sub_zero, List.drop_length]; exact .give upd_same⟩ (fun i σ H' _ h => SqL.of (h.1 _ _ hp)) ?_ ?_⟩
  · rintro i v σ H1 hv ⟨s2, b, x, y, rfl, hB⟩
    rw [<- List.map_reverse, List.getElem?_map] at hv
    obtain ⟨t, ht, rfl⟩ := Option.map_eq_some_iff.mp hv
    have hi : i < ts.length := by
      have := (List.getElem?_eq_some_iff.mp ht).1
      rwa [List.length_reverse] at this
    rw [List.getElem?_reverse hi] at ht
    obtain ⟨n, d, p, e1, e2, e3⟩ := hR.get ht
    refine ⟨_, _, rfl, SqT.of (s2 _ _ e2), rfl, _, _, rfl, _, _, rfl, rfl, _, rfl, _, rfl, _, rfl, by show 4 <= sizeLine; decide, fun b' hb' => ⟨s2.new hb', b', _, _, rfl, ?_⟩⟩
    have ed : rows.drop (rows.length - (i + 1)) = (n, d) :: rows.drop (rows.length - i) := by
      have ej : rows.length - (i + 1) = ts.length - 1 - i := by omega
      have ek : rows.length - i = (ts.length - 1 - i) + 1 := by omega
      rw [ej, ek]
      have hlt : ts.length - 1 - i < rows.length := by omega
      rw [List.drop_eq_getElem_cons hlt]
      congr 1
      exact Option.some.inj ((List.getElem?_eq_getElem hlt).symm.trans e1)
    rw [ed]
    exact .lt upd_same (e3.keep (.of (s2.new hb'))) (hB.keep (.of (same_new hb' _)))
  · rintro σ H1 ⟨s2, b, x, y, rfl, hB⟩
    rw [List.length_map, <- hl, Nat.sub_self, List.drop_zero] at hB
    exact ⟨_, rfl, q _ b s2 hB⟩
end
end KD
namespace KD
open PySem L2 K11
theorem flat_strs (l : List Str) : (l.map V.str).all flatV = true := by
  rw [List.all_map]
  exact List.all_eq_true.mpr fun _ _ => rfl
def taking : De -> List Str
  | .num _ => []
  | .op _ a b => [a, b]
  | .ask g ns => g :: ns
  | .app _ _ ns => ns
section
variable {P : Program} {w : World} {K : PySem.W.Frag} {mg : Str -> Option Value} {base : Heap} {f R C : Addr} {fd : FuncData}
theorem scDeedDue : FnScope ["_law_deed_here", "_law_above", "_law_tags", "_law_defs", "_law_taking", "_law_name_here", "_law_some"] ["_law_deed_here", "_law_above", "_law_tags", "_law_defs"] (defScope sDeedDue) := ⟨rfl, rfl, rfl, by decide +kernel, rfl, by decide +kernel, by decide +kernel⟩
theorem ok_deeddue (F : Fun K "_law_deed_due" "_law_deed_due" sDeedDue f fd) (m_len : mg "len" = none) (m_list : mg "list" = none) : FnOk P w K mg base CX0 1 f fd ["_law_deed_here", "_law_above", "_law_tags", "_law_defs"] spDeedDue := by
  refine F.by scDeedDue (fun vs H Q E h => ?_) (fun cdv A outer s H vs Q E hr h => ?_)
  · obtain ⟨pd, pa, pt, pf, d, above, kt, kp, rfl, _⟩ := h
    rfl
  obtain ⟨pd, pa, pt, pf, d, above, kt, kp, rfl, hd, ha, ht, hf, hfew, q⟩ := h
  refine ⟨_,
    (jss_cons (js_set (i := 4) scDeedDue.nd rfl (Or.inl rfl) (je_lst ja_nil))
    (jss_cons (js_if (jt_cmpR jo_eq (je_ix jx_tup (jv 0) je_int (fun _ _ => rfl)) je_str (nomark _))
      (jss_one (js_set (i := 4) scDeedDue.nd rfl (Or.inl rfl) (je_lst (ja_c (je_ix jx_tup (jv 0) je_int (fun _ _ => rfl)) (ja_c (je_ix jx_tup (jv 0) je_int (fun _ _ => rfl)) ja_nil)))))
      (jss_one (js_if (jt_cmpR jo_eq (je_ix jx_tup (jv 0) je_int (fun _ _ => rfl)) je_str (nomark _))
        (jss_one (js_set (i := 4) scDeedDue.nd rfl (Or.inl rfl) (je_op jo_cat (je_lst (ja_c (je_ix jx_tup (jv 0) je_int (fun _ _ => rfl)) ja_nil)) (je_fnTy jc_list_of rfl m_list PyProof.Rows.boot_list (ja_c (je_ix jx_tup (jv 0) je_int (fun _ _ => rfl)) ja_nil)))))
        (jss_one (js_if (jt_cmpR jo_ne (je_ix jx_tup (jv 0) je_int (fun _ _ => rfl)) je_str (nomark _))
          (jss_one (js_set (i := 4) scDeedDue.nd rfl (Or.inl rfl) (je_fnTy jc_list_of rfl m_list PyProof.Rows.boot_list (ja_c (je_ix jx_tup (jv 0) je_int (fun _ _ => rfl)) ja_nil)))) jss_nil)))))
    (jss_cons (js_for PassesOwn.never rfl (ji_list (jv 4)) (jg_name (i := 5) scDeedDue.nd rfl (Or.inl rfl))
      (jss_one (js_if (jt_cmpR jo_notIn_seq (jv 5) (jv 1) (by with_unfolding_all rfl))
        (jss_one (js_ret (je_tup (ja_c je_str (ja_c (jv 5) ja_nil))))) jss_nil)))
    (jss_cons (js_if (jt_cmpR jo_notIn_seq (je_ix jx_tup (jv 0) je_int (fun _ _ => rfl)) (je_tup (ja_c je_str (ja_c je_str (ja_c je_str ja_nil)))) (by with_unfolding_all rfl))
      (jss_one (js_ret (je_tup (ja_c je_str (ja_c je_bl ja_nil))))) jss_nil)
    (jss_cons (js_set (i := 6) scDeedDue.nd rfl (Or.inl rfl) (jv 3))
    (jss_cons (js_if (jt_cmpR jo_eq (je_ix jx_tup (jv 0) je_int (fun _ _ => rfl)) je_str (nomark _))
      (jss_one (js_set (i := 6) scDeedDue.nd rfl (Or.inl rfl) (jv 2))) jss_nil)
    (jss_cons (js_if (jt_dnotin hr (je_ix jx_tup (jv 0) je_int (fun _ _ => rfl)) (jv 6))
      (jss_one (js_ret (je_tup (ja_c je_str (ja_c (je_ix jx_tup (jv 0) je_int (fun _ _ => rfl)) ja_nil))))) jss_nil)
    (jss_cons (js_if (jW.pt (jw_or (jt_cmpR jo_gt (je_fnB jc_len_seq rfl m_len PySem.boot_len (ja_c (je_ix jx_tup (jv 0) je_int (fun _ _ => rfl)) ja_nil)) (je_dget hr (jv 6) (je_ix jx_tup (jv 0) je_int (fun _ _ => rfl))) (nomark _)) (jw_or1 (jW.pt (jw_and (jt_cmpR jo_ne (je_ix jx_tup (jv 0) je_int (fun _ _ => rfl)) je_str (nomark _)) (jw_and1 (jt_cmpR jo_lt (je_fnB jc_len_seq rfl m_len PySem.boot_len (ja_c (je_ix jx_tup (jv 0) je_int (fun _ _ => rfl)) ja_nil)) (je_dget hr (jv 6) (je_ix jx_tup (jv 0) je_int (fun _ _ => rfl))) (nomark _))))))))
      (jss_one (js_ret (je_tup (ja_c je_str (ja_c (je_ix jx_tup (jv 0) je_int (fun _ _ => rfl)) ja_nil))))) jss_nil)
    (jss_one (js_ret (je_tup (ja_c je_str (ja_c je_bl ja_nil))))))))))))), ?_⟩
  have sl := line0
  have fin : ∀ (H' : Hp) (r : Addr) (o : Option Flt), Same H H' -> H' r = none -> deF kt kp above d = o -> Q (.ref r) (upd H' r (.tup (toldV o))) := fun H' r o s' hr e => q _ r (s'.new hr) (by rw [upd_same, e])
  refine ⟨by show 0 <= sizeLine; decide, fun l0 hl0 => ?_⟩
  have s0 := same_new hl0 (.lst [])
  suffices rest : ∀ (lt : Addr) (H2 : Hp), Same H H2 -> H2 lt = some (.lst ((taking d).map V.str)) -> (tSeq _ _ : TS) _ [some (.ref pd), some (.ref pa), some (.ref pt), some (.ref pf), some (.ref lt), none, none] H2 by
    cases hd with
    | num h =>
      refine ⟨_, rfl, pd, _, _, _, rfl, rfl, SqT.of (s0 _ _ h), rfl, rfl, _, rfl, iteF' (by decide +kernel) ?_⟩
      refine ⟨_, rfl, pd, _, _, _, rfl, rfl, SqT.of (s0 _ _ h), rfl, rfl, _, rfl, iteF' (by decide +kernel) ?_⟩
      exact ⟨_, rfl, pd, _, _, _, rfl, rfl, SqT.of (s0 _ _ h), rfl, rfl, _, rfl, iteF' (by decide +kernel) (rest l0 _ s0 upd_same)⟩
    | @op w' x y p h =>
      refine ⟨_, rfl, pd, _, _, _, rfl, rfl, SqT.of (s0 _ _ h), rfl, rfl, _, rfl, iteT' (by decide +kernel) ?_⟩
      exact ⟨_, rfl, pd, _, _, _, rfl, rfl, SqT.of (s0 _ _ h), atI_nat (j := 2) rfl, _, rfl, pd, _, _, _, rfl, rfl, SqT.of (s0 _ _ h), atI_nat (j := 3) rfl, by show 2 <= sizeLine; decide, fun l1 hl1 => rest l1 _ (s0.new hl1) upd_same⟩
    | @ask g ns p qq h hq =>
      have hl := hfew g ns rfl
      refine ⟨_, rfl, pd, _, _, _, rfl, rfl, SqT.of (s0 _ _ h), rfl, rfl, _, rfl, iteF' (by decide +kernel) ?_⟩
      refine ⟨_, rfl, pd, _, _, _, rfl, rfl, SqT.of (s0 _ _ h), rfl, rfl, _, rfl, iteT' (by decide +kernel) ?_⟩
      refine ⟨_, rfl, pd, _, _, _, rfl, rfl, SqT.of (s0 _ _ h), atI_nat (j := 1) rfl, by show 1 <= sizeLine; decide, fun l1 hl1 => ?_⟩
      have s1 := s0.new (o := .lst [.str g]) hl1
      refine ⟨_, rfl, pd, _, _, _, rfl, rfl, SqT.of (s1 _ _ h), atI_nat (j := 2) rfl, qq, _, rfl, .inr (SqT.of (s1 _ _ hq)), fun l2 hl2 => ⟨l1, l2, _, _, rfl, rfl, old hl2 upd_same, upd_same, by rw [List.length_map]; show 1 + ns.length <= sizeLine; omega, fun l3 hl3 => ?_⟩⟩
      exact rest l3 _ ((s1.new hl2).new hl3) upd_same
    | @app w' t ns p qq hw h hq =>
      have n1 : w' ≠ "op" /\ w' ≠ "ask" /\ w' ≠ "num" := by rcases hw with rfl | rfl | rfl <;> decide +kernel
      refine ⟨_, rfl, pd, _, _, _, rfl, rfl, SqT.of (s0 _ _ h), rfl, rfl, _, rfl, iteF' (decide_eq_false fun e => n1.1 (V.str.inj e)) ?_⟩
      refine ⟨_, rfl, pd, _, _, _, rfl, rfl, SqT.of (s0 _ _ h), rfl, rfl, _, rfl, iteF' (decide_eq_false fun e => n1.2.1 (V.str.inj e)) ?_⟩
      refine ⟨_, rfl, pd, _, _, _, rfl, rfl, SqT.of (s0 _ _ h), rfl, rfl, _, rfl, iteT' (by rw [decide_eq_false fun e => n1.2.2 (V.str.inj e)]; rfl) ?_⟩
      exact ⟨_, rfl, pd, _, _, _, rfl, rfl, SqT.of (s0 _ _ h), atI_nat (j := 2) rfl, qq, _, rfl, .inr (SqT.of (s0 _ _ hq)), fun l1 hl1 => rest l1 _ (s0.new hl1) upd_same⟩
  intro lt H2 s2 hlt
  refine ⟨_, rfl, _, rfl, ⟨_, SqL.of hlt⟩, for_list (xs := (taking d).map V.str) (fun i σ H' => H' = H2 /\ (∀ n ∈ (taking d).take i, n ∈ above) /\ ∃ x, σ = [some (.ref pd), some (.ref pa), some (.ref pt), some (.ref pf), some (.ref lt), x, none]) ⟨rfl, (fun n hn => by simp at hn), none, rfl⟩ (fun i σ H' _ h => by rw [h.1]; exact SqL.of hlt) ?_ ?_⟩
  · rintro i v σ H' hv ⟨rfl, hall, x, rfl⟩
    rw [List.getElem?_map] at hv
    obtain ⟨n, hn1, rfl⟩ := Option.map_eq_some_iff.mp hv
    refine ⟨_, rfl, _, rfl, pa, _, rfl, .inl (SqL.of (s2 _ _ ha)), rfl, flat_strs _, _, rfl, ?_⟩
    rw [show (if true = true then !inV (V.str n) (above.map V.str) else inV (V.str n) (above.map V.str)) = !decide (n ∈ above) by rw [in_strs]; rfl]
    by_cases c : n ∈ above
    · refine iteF' (by rw [decide_eq_true c]; rfl) ⟨rfl, fun m hm => ?_, _, rfl⟩
      rw [<- take_snoc hn1] at hm
      rcases List.mem_append.mp hm with h | h
      · exact hall m h
      · rw [List.mem_singleton.mp h]
        exact c
    · refine iteT' (by rw [decide_eq_false c]; rfl) ⟨_, rfl, by show 2 <= sizeLine; decide, fun r hr => fin _ r (some (2, n)) s2 hr ?_⟩
      have hu : unkF above (taking d) = some (2, n) := by
        have e1 : taking d = (taking d).take i ++ n :: (taking d).drop (i + 1) := by
          conv => lhs; rw [<- List.take_append_drop (i + 1) (taking d), <- take_snoc hn1, List.append_assoc]
          rfl
        unfold unkF
        rw [e1, List.find?_append, List.find?_eq_none.mpr (fun m hm => by simp [hall m hm]), Option.none_or, List.find?_cons_of_pos (by simp [c])]
        rfl
      cases d with
      | num i => simp [taking] at hn1
      | op w a b => exact hu
      | ask g ns => exact hu
      | app w t ns =>
        show (match unkF above ns with | some f => some f | none => numF kt kp w t ns.length) = _
        rw [show unkF above ns = some (2, n) from hu]
  rintro σ H' ⟨rfl, hall, x, rfl⟩
  rw [List.length_map, List.take_of_length_le (Nat.le_refl _)] at hall
  have hu : unkF above (taking d) = none := by
    unfold unkF
    rw [List.find?_eq_none.mpr (fun m hm => by simp [hall m hm])]
    rfl
  have w3 : ∀ (z : Str), (if true = true then !inV (V.str z) ([("make" : Str), "call", "func"].map V.str) else inV (V.str z) ([("make" : Str), "call", "func"].map V.str)) = !decide (z ∈ [("make" : Str), "call", "func"]) := fun z => by rw [in_strs]; rfl
  obtain ⟨z, l, hz, hcase⟩ : ∃ (z : Str) (l : List V), H' pd = some (.tup (.str z :: l)) /\ ((z ∉ [("make" : Str), "call", "func"] /\ deF kt kp above d = none) \/ (∃ t ns qq, d = .app z t ns /\ z ∈ [("make" : Str), "call", "func"] /\ l = [.str t, .ref qq] /\ H' qq = some (.tup (ns.map V.str)))) := by
    cases hd with
    | num h => exact ⟨_, _, s2 _ _ h, .inl ⟨by decide +kernel, rfl⟩⟩
    | op h => exact ⟨_, _, s2 _ _ h, .inl ⟨by decide +kernel, hu⟩⟩
    | ask h hq => exact ⟨_, _, s2 _ _ h, .inl ⟨by decide +kernel, hu⟩⟩
    | app hw h hq => exact ⟨_, _, s2 _ _ h, .inr ⟨_, _, _, rfl, by rcases hw with rfl | rfl | rfl <;> decide +kernel, rfl, s2 _ _ hq⟩⟩
  refine ⟨_, rfl, pd, _, _, _, rfl, rfl, SqT.of hz, atI_nat (j := 0) (v := V.str z) rfl, by show 3 <= sizeLine; decide, fun t3 ht3 => ⟨t3, [("make" : Str), "call", "func"].map V.str, rfl, .inr (SqT.of upd_same), rfl, rfl, _, rfl, ?_⟩⟩
  have s3 := s2.new (o := .tup ([("make" : Str), "call", "func"].map V.str)) ht3
  have hz3 := old (o := .tup ([("make" : Str), "call", "func"].map V.str)) ht3 hz
  rw [w3 z]
  rcases hcase with ⟨hn, hdf⟩ | ⟨t, ns, qq, rfl, hin, rfl, hqq⟩
  · exact iteT' (by rw [decide_eq_false hn]; rfl) ⟨by show 2 <= sizeLine; decide, fun r hr => fin _ r none s3 hr hdf⟩
  refine iteF' (by rw [decide_eq_true hin]; rfl) ?_
  have hq3 := old (o := .tup ([("make" : Str), "call", "func"].map V.str)) ht3 hqq
  have de : deF kt kp above (.app z t ns) = numF kt kp z t ns.length := by
    show (match unkF above ns with | some f => some f | none => numF kt kp z t ns.length) = _
    rw [show unkF above ns = none from hu]
  rw [de] at fin
  refine ⟨_, rfl, ?_⟩
  suffices rest : ∀ (dc : Addr) (kc : List (Str × Int)), (upd H' t3 (.tup [.str "make", .str "call", .str "func"])) dc = some (.dK (ents kc)) -> kc = (if z = "make" then kt else kp) -> (tSeq _ _ : TS) _ [some (.ref pd), some (.ref pa), some (.ref pt), some (.ref pf), some (.ref lt), x, some (.ref dc)] (upd H' t3 (.tup [.str "make", .str "call", .str "func"])) by
    refine ⟨_, rfl, pd, _, _, _, rfl, rfl, SqT.of hz3, rfl, rfl, _, rfl, ?_⟩
    by_cases c : z = "make"
    · exact iteT' (decide_eq_true (congrArg V.str c)) ⟨_, rfl, rest pt kt (s3 _ _ ht) (by rw [if_pos c])⟩
    · exact iteF' (decide_eq_false fun e => c (V.str.inj e)) (rest pf kp (s3 _ _ hf) (by rw [if_neg c]))
  intro dc kc hdc ekc
  have nf : numF kt kp z t ns.length = match kc.lookup t with
    | none => some (2, t)
    | some k => if (if z = "func" then ((ns.length : Nat) : Int) <= k else ((ns.length : Nat) : Int) = k) then none else some (3, t) := by
    unfold numF
    rw [<- ekc]
    try (cases kc.lookup t <;> rfl)
  have dg := DGet.k (k := .inr t) hdc
  rw [ents_at] at dg
  refine ⟨_, rfl, pd, _, _, _, rfl, rfl, SqT.of hz3, atI_nat (j := 1) rfl, _, rfl, dc, _, rfl, dg, _, rfl, ?_⟩
  cases hk : kc.lookup t with
  | none =>
    rw [hk] at nf
    exact iteT' rfl ⟨_, rfl, pd, _, _, _, rfl, rfl, SqT.of hz3, atI_nat (j := 1) rfl, by show 2 <= sizeLine; decide, fun r hr => fin _ r _ s3 hr nf⟩
  | some m =>
    rw [hk] at nf dg
    have nf' : numF kt kp z t ns.length = if (if z = "func" then ((ns.length : Nat) : Int) <= m else ((ns.length : Nat) : Int) = m) then none else some (3, t) := nf
    refine iteF' rfl ?_
    have bad : (if z = "func" then ((ns.length : Nat) : Int) <= m else ((ns.length : Nat) : Int) = m) -> numF kt kp z t ns.length = none := fun h => by rw [nf', if_pos h]
    have god : ¬ (if z = "func" then ((ns.length : Nat) : Int) <= m else ((ns.length : Nat) : Int) = m) -> numF kt kp z t ns.length = some (3, t) := fun h => by rw [nf', if_neg h]
    suffices two : (numF kt kp z t ns.length = some (3, t) -> (tRet _ : TS) _ [some (.ref pd), some (.ref pa), some (.ref pt), some (.ref pf), some (.ref lt), x, some (.ref dc)] (upd H' t3 (.tup [.str "make", .str "call", .str "func"]))) /\ (numF kt kp z t ns.length = none -> (tRet (tTup (tCons (tC (.str "sound")) (tCons (tC (.bl true)) tNil))) : TS) { nx := fun _ H' => Q .non H', rt := Q } [some (.ref pd), some (.ref pa), some (.ref pt), some (.ref pf), some (.ref lt), x, some (.ref dc)] (upd H' t3 (.tup [.str "make", .str "call", .str "func"]))) by
      refine ⟨_, rfl, pd, _, _, _, rfl, rfl, SqT.of hz3, atI_nat (j := 2) rfl, qq, _, rfl, .inr (SqT.of hq3), _, rfl, _, rfl, pd, _, _, _, rfl, rfl, SqT.of hz3, atI_nat (j := 1) rfl, dc, _, rfl, dg, _, _, rfl, rfl, _, rfl, ite2 (fun h => ?_) (fun h => ?_)⟩
      · refine iteT (two.1 (god ?_))
        have h' : m < (((ns.map V.str).length : Nat) : Int) := of_decide_eq_true h
        rw [List.length_map] at h'
        split <;> omega
      · have h1 : ¬ m < ((ns.length : Nat) : Int) := fun e => h (decide_eq_true (by rw [List.length_map]; exact e))
        refine ⟨_, rfl, pd, _, _, _, rfl, rfl, SqT.of hz3, rfl, rfl, _, rfl, ?_⟩
        by_cases c : z = "func"
        · refine iteF' (by rw [decide_eq_true (congrArg V.str c)]; rfl) (iteF (nxt (two.2 (bad ?_))))
          rw [if_pos c]
          omega
        · refine iteT' (by rw [decide_eq_false fun e => c (V.str.inj e)]; rfl) ?_
          refine ⟨_, rfl, pd, _, _, _, rfl, rfl, SqT.of hz3, atI_nat (j := 2) rfl, qq, _, rfl, .inr (SqT.of hq3), _, rfl, _, rfl, pd, _, _, _, rfl, rfl, SqT.of hz3, atI_nat (j := 1) rfl, dc, _, rfl, dg, _, _, rfl, rfl, _, rfl, ite2 (fun h2 => ?_) (fun h2 => ?_)⟩
          · have h' : (((ns.map V.str).length : Nat) : Int) < m := of_decide_eq_true h2
            rw [List.length_map] at h'
            refine two.1 (god ?_)
            rw [if_neg c]
            omega
          · have h3 : ¬ ((ns.length : Nat) : Int) < m := fun e => h2 (decide_eq_true (by rw [List.length_map]; exact e))
            refine nxt (two.2 (bad ?_))
            rw [if_neg c]
            omega
    exact ⟨fun e => ⟨_, rfl, pd, _, _, _, rfl, rfl, SqT.of hz3, atI_nat (j := 1) rfl, by show 2 <= sizeLine; decide, fun r hr => fin _ r _ s3 hr e⟩, fun e => ⟨by show 2 <= sizeLine; decide, fun r hr => fin _ r _ s3 hr e⟩⟩
end
end KD
namespace KD
open PySem L2 K11
def spRowsDue : Sp := fun vs H Q _ => ∃ (ps pq pr pt pf : Addr) (params : List Str) (rows : List (Str × De)) (ts : List Addr) (last : Str) (kt kp : List (Str × Int)), vs = [.ref ps, .ref pt, .ref pf] /\ H ps = some (.tup [.ref pq, .ref pr, .str last]) /\ H pq = some (.tup (params.map V.str)) /\ H pr = some (.lst (ts.map V.ref)) /\ IsRows H rows ts /\ (∀ r ∈ rows, ∀ g ns, r.2 = .ask g ns -> ns.length <= 1000) /\ H pt = some (.dK (ents kt)) /\ H pf = some (.dK (ents kp)) /\ params.length + rows.length <= 1000 /\
  ∀ H' r, Same H H' -> H' r = some (.tup (toldV (bdF kt kp (bdOf last rows) params))) -> Q (.ref r) H'
theorem bdF_cons {kt kp : List (Str × Int)} {last x : Str} {d : De} {r : List (Str × De)} {seen : List Str} : bdF kt kp (bdOf last ((x, d) :: r)) seen = match deF kt kp seen d with
    | some f => some f
    | none => if x ∈ seen then some (1, x) else bdF kt kp (bdOf last r) (seen ++ [x]) := rfl
section
variable {P : Program} {w : World} {K : PySem.W.Frag} {mg : Str -> Option Value} {base : Heap} {f R C : Addr} {fd : FuncData}
theorem scRowsDue : FnScope ["_law_said", "_law_tags", "_law_defs", "_law_params", "_law_rows_here", "_law_last", "_law_above", "_law_x", "_law_deed_here", "_law_due"] ["_law_said", "_law_tags", "_law_defs"] (defScope sRowsDue) := ⟨rfl, rfl, rfl, by decide +kernel, rfl, by decide +kernel, by decide +kernel⟩
theorem ok_rowsdue (F : Fun K "_law_rows_due" "_law_rows_due" sRowsDue f fd) (GD : Ca P w K mg base CX0 1 "_law_deed_due" ["_law_deed_here", "_law_above", "_law_tags", "_law_defs"] spDeedDue) (m_list : mg "list" = none) : FnOk P w K mg base CX0 2 f fd ["_law_said", "_law_tags", "_law_defs"] spRowsDue := by
  refine F.by scRowsDue (fun vs H Q E h => ?_) (fun cdv A outer s H vs Q E hr h => ?_)
  · obtain ⟨ps, pq, pr, pt, pf, params, rows, ts, last, kt, kp, rfl, _⟩ := h
    rfl
  obtain ⟨ps, pq, pr, pt, pf, params, rows, ts, last, kt, kp, rfl, hs, hq, hp, hR, hfew, ht, hf, hn, q⟩ := h
  refine ⟨_,
    (jss_cons (js_asg (jv 0) (jg_tup rfl (jgs_cons (jg_name (i := 3) scRowsDue.nd rfl (Or.inl rfl)) (jgs_cons (jg_name (i := 4) scRowsDue.nd rfl (Or.inl rfl)) (jgs_cons (jg_name (i := 5) scRowsDue.nd rfl (Or.inl rfl)) jgs_nil)))))
    (jss_cons (js_set (i := 6) scRowsDue.nd rfl (Or.inl rfl) (je_fnTy jc_list_of rfl m_list PyProof.Rows.boot_list (ja_c (jv 3) ja_nil)))
    (jss_cons (js_for PassesOwn.never rfl (ji_list (jv 4)) (jg_tup rfl (jgs_cons (jg_name (i := 7) scRowsDue.nd rfl (Or.inl rfl)) (jgs_cons (jg_name (i := 8) scRowsDue.nd rfl (Or.inl rfl)) jgs_nil)))
      (jss_cons (js_set (i := 9) scRowsDue.nd rfl (Or.inl rfl) (je_ca GD hr rfl pass0 (ja_c (jv 8) (ja_c (jv 6) (ja_c (jv 1) (ja_c (jv 2) ja_nil))))))
      (jss_cons (js_if (jW.pt (jw_and (jt_cmpR jo_eq (je_ix jx_tup (jv 9) je_int (fun _ _ => rfl)) je_str (nomark _)) (jw_and1 (jt_cmpR jo_in_seq (jv 7) (jv 6) (by with_unfolding_all rfl)))))
        (jss_one (js_set (i := 9) scRowsDue.nd rfl (Or.inl rfl) (je_tup (ja_c je_str (ja_c (jv 7) ja_nil))))) jss_nil)
      (jss_cons (js_if (jt_cmpR jo_ne (je_ix jx_tup (jv 9) je_int (fun _ _ => rfl)) je_str (nomark _))
        (jss_one (js_ret (jv 9))) jss_nil)
      (jss_one (js_expr (je_bm PySem.F.plainAttrs_list PySem.F.slot_list_append PySem.F.type_list_append jm_append (jv 6) (ja_c (jv 7) ja_nil))))))))
    (jss_cons (js_if (jt_cmpR jo_notIn_seq (jv 5) (jv 6) (by with_unfolding_all rfl))
      (jss_one (js_ret (je_tup (ja_c je_str (ja_c (jv 5) ja_nil))))) jss_nil)
    (jss_one (js_ret (je_tup (ja_c je_str (ja_c je_bl ja_nil))))))))), ?_⟩
  have sl := line0
  have hl := hR.1
  refine ⟨_, rfl, _, _, rfl, SqT.of hs, rfl, _, _, rfl, _, _, rfl, _, _, rfl, rfl, ?_⟩
  refine ⟨_, rfl, pq, _, rfl, .inr (SqT.of hq), fun la hla => ?_⟩
  have s1 := same_new hla (.lst (params.map V.str))
  refine ⟨_, rfl, _, rfl, ⟨_, SqL.of (s1 _ _ hp)⟩, for_list (xs := ts.map V.ref) (fun i σ H' => Same H H' /\ H' la = some (.lst ((params ++ (rows.take i).map (·.1)).map V.str)) /\ bdF kt kp (bdOf last (rows.drop i)) (params ++ (rows.take i).map (·.1)) = bdF kt kp (bdOf last rows) params /\ ∃ x y z, σ = [some (.ref ps), some (.ref pt), some (.ref pf), some (.ref pq), some (.ref pr), some (.str last), some (.ref la), x, y, z]) ⟨s1, by rw [List.take_zero, List.map_nil, List.append_nil]; exact upd_same, by rw [List.take_zero, List.map_nil, List.append_nil, List.drop_zero], none, none, none, rfl⟩ (fun i σ H' _ h => SqL.of (h.1 _ _ hp)) ?_ ?_⟩
  · rintro i v σ H1 hv ⟨s2, e2, hb, x, y, z, rfl⟩
    rw [List.getElem?_map] at hv
    obtain ⟨t, htt, rfl⟩ := Option.map_eq_some_iff.mp hv
    obtain ⟨n, d, p, e1, e3, e4⟩ := hR.get htt
    have hi : i < rows.length := (List.getElem?_eq_some_iff.mp e1).1
    have ed : rows.drop i = (n, d) :: rows.drop (i + 1) := by
      rw [List.drop_eq_getElem_cons hi]
      congr 1
      exact Option.some.inj ((List.getElem?_eq_getElem hi).symm.trans e1)
    have et : (rows.take (i + 1)).map (·.1) = (rows.take i).map (·.1) ++ [n] := by rw [<- take_snoc e1, List.map_append]; rfl
    rw [ed, bdF_cons] at hb
    obtain ⟨seen, es⟩ : ∃ seen, seen = params ++ (rows.take i).map (·.1) := ⟨_, rfl⟩
    rw [<- es] at hb e2
    have lseen : seen.length <= 1000 := by rw [es, List.length_append, List.length_map, List.length_take]; omega
    refine ⟨_, _, rfl, SqT.of (s2 _ _ e3), rfl, _, _, rfl, _, _, rfl, rfl, ?_⟩
    refine ⟨_, rfl, _, rfl, _, rfl, _, rfl, p, la, pt, pf, d, seen, kt, kp, rfl, e4.keep (.of s2), e2, s2 _ _ ht, s2 _ _ hf, hfew (n, d) (List.mem_of_getElem? e1), fun H3 r s3 h3 => ?_⟩
    have s4 := s2.trans s3
    have e5 := s3 _ _ e2
    cases hd : deF kt kp seen d with
    | some fl =>
      obtain ⟨k, m⟩ := fl
      rw [hd] at h3 hb
      have nw : wdF k ≠ "sound" := three k (fun _ _ z _ => z ≠ "sound") 0 0 0 (by decide) (by decide) (fun _ _ _ => by decide)
      refine ⟨_, rfl, r, _, _, _, rfl, rfl, SqT.of h3, rfl, rfl, _, rfl, iteF' (decide_eq_false fun e => nw (V.str.inj e)) (iteF ?_)⟩
      refine ⟨_, rfl, r, _, _, _, rfl, rfl, SqT.of h3, rfl, rfl, _, rfl, iteT' (by rw [decide_eq_false fun e => nw (V.str.inj e)]; rfl) ⟨_, rfl, q _ r s4 (by rw [h3, <- hb])⟩⟩
    | none =>
      rw [hd] at h3 hb
      have hb' : (if n ∈ seen then some (1, n) else bdF kt kp (bdOf last (rows.drop (i + 1))) (seen ++ [n])) = bdF kt kp (bdOf last rows) params := hb
      refine ⟨_, rfl, r, _, _, _, rfl, rfl, SqT.of h3, rfl, rfl, _, rfl, iteT' (by decide +kernel) ?_⟩
      refine ⟨_, rfl, _, rfl, la, _, rfl, .inl (SqL.of e5), rfl, flat_strs _, _, rfl, ?_⟩
      rw [show (if false = true then !inV (V.str n) (seen.map V.str) else inV (V.str n) (seen.map V.str)) = decide (n ∈ seen) from in_strs]
      by_cases c : n ∈ seen
      · rw [if_pos c] at hb'
        refine iteT' (decide_eq_true c) ⟨_, rfl, by show 2 <= sizeLine; decide, fun r2 hr2 => ?_⟩
        refine ⟨_, rfl, r2, _, _, _, rfl, rfl, SqT.of upd_same, rfl, rfl, _, rfl, iteT' (by decide +kernel) ⟨_, rfl, q _ r2 (s4.new hr2) ?_⟩⟩
        rw [upd_same, <- hb']
        rfl
      · rw [if_neg c] at hb'
        refine iteF' (decide_eq_false c) ?_
        refine ⟨_, rfl, r, _, _, _, rfl, rfl, SqT.of h3, rfl, rfl, _, rfl, iteF' (by decide +kernel) ?_⟩
        refine ⟨_, rfl, .inl ⟨rfl, _, SqL.of e5⟩, _, rfl, la, _, _, rfl, rfl, e5, by rw [List.length_map]; omega, s4.put hla, ?_, ?_, _, _, _, rfl⟩
        · rw [upd_same, et, <- List.append_assoc, <- es, List.map_append]
          rfl
        · rw [et, <- List.append_assoc, <- es]
          exact hb'
  · rintro σ H1 ⟨s2, e2, hb, x, y, z, rfl⟩
    rw [List.length_map, <- hl, List.drop_length, List.take_of_length_le (Nat.le_refl _)] at hb
    rw [List.length_map, <- hl, List.take_of_length_le (Nat.le_refl _)] at e2
    obtain ⟨seen, es⟩ : ∃ seen, seen = params ++ rows.map (·.1) := ⟨_, rfl⟩
    rw [<- es] at hb e2
    have hb' : unkF seen [last] = bdF kt kp (bdOf last rows) params := hb
    refine ⟨_, rfl, _, rfl, la, _, rfl, .inl (SqL.of e2), rfl, flat_strs _, _, rfl, ?_⟩
    rw [show (if true = true then !inV (V.str last) (seen.map V.str) else inV (V.str last) (seen.map V.str)) = !decide (last ∈ seen) by rw [in_strs]; rfl]
    by_cases c : last ∈ seen
    · refine iteF' (by rw [decide_eq_true c]; rfl) ⟨by show 2 <= sizeLine; decide, fun r hr => q _ r (s2.new hr) ?_⟩
      rw [upd_same, <- hb']
      have : unkF seen [last] = none := by unfold unkF; simp [c]
      rw [this]
      rfl
    · refine iteT' (by rw [decide_eq_false c]; rfl) ⟨_, rfl, by show 2 <= sizeLine; decide, fun r hr => q _ r (s2.new hr) ?_⟩
      rw [upd_same, <- hb']
      have : unkF seen [last] = some (2, last) := by unfold unkF; simp [c]
      rw [this]
      rfl
end
end KD
namespace KD
open PySem L2 K11
theorem cut_take {α : Type} {f : α -> V} {s : List α} {m : Int} (h : 0 <= m) : cutV (s.map f) none (some m) = (s.take m.toNat).map f := by
  unfold cutV
  have c1 : HT.sIx (s.map f).length 0 none = 0 := rfl
  have c2 : HT.sIx (s.map f).length (s.map f).length (some m) = min m.toNat (s.map f).length := by
    show (if m < 0 then (m + ((s.map f).length : Nat)).toNat else min m.toNat (s.map f).length) = _
    rw [if_neg (by omega)]
  rw [c1, c2, List.drop_zero, Nat.sub_zero, List.map_take]
  by_cases z : m.toNat <= (s.map f).length
  · rw [Nat.min_eq_left z]
  · rw [Nat.min_eq_right (by omega), List.take_of_length_le (Nat.le_refl _), List.take_of_length_le (by omega)]
def spRows (K : PySem.W.Frag) : Sp := fun vs H Q _ => ∃ (pp pc : Addr) (pool : List Str) (ns : List Int) (wy : Nat), vs = [.ref pp, .ref pc, .int (wy : Nat)] /\ H pp = some (.lst (pool.map V.str)) /\ H pc = some (.lst (ns.map V.int)) /\ pool.length = 60 /\ ns.length <= 45 /\ 0 < wy /\ wy <= 6 /\
  ∀ (H' : Hp) (sd pq pr : Addr) (params : List Str) (rows : List (Str × De)) (ts : List Addr) (last : Str), Same H H' -> H' sd = some (.tup [.ref pq, .ref pr, .str last]) -> H' pq = some (.tup (params.map V.str)) -> H' pr = some (.lst (ts.map V.ref)) -> H pr = none -> IsRows H' rows ts -> (∀ r ∈ rows, ∀ g ns, r.2 = .ask g ns -> ns.length <= 1000) -> (∀ r ∈ rows, ∀ w t ns, r.2 = .app w t ns -> t ∈ pool.take 15) -> (∃ m, params = pool.take m) -> params.length <= 3 -> rows.length <= 45 -> Q (.ref sd) H'
theorem IsRows.snoc {H : Hp} {rows : List (Str × De)} {ts : List Addr} (h : IsRows H rows ts) {x : Str} {d : De} {t p : Addr} (g : H t = some (.tup [.str x, .ref p])) (e : IsDe H d p) : IsRows H (rows ++ [(x, d)]) (ts ++ [t]) := by
  refine ⟨by rw [List.length_append, List.length_append, h.1]; rfl, fun i r s h1 h2 => ?_⟩
  by_cases hi : i < rows.length
  · rw [List.getElem?_append_left hi] at h1
    rw [List.getElem?_append_left (by rw [<- h.1]; exact hi)] at h2
    exact h.2 i r s h1 h2
  · rw [List.getElem?_append_right (by omega)] at h1
    rw [List.getElem?_append_right (by rw [<- h.1]; omega), <- h.1] at h2
    have : i - rows.length = 0 := by
      have := (List.getElem?_eq_some_iff.mp h1).1
      simp at this
      omega
    rw [this] at h1 h2
    cases h1
    cases h2
    exact ⟨p, g, e⟩
section
variable {P : Program} {w : World} {K : PySem.W.Frag} {mg : Str -> Option Value} {base : Heap} {f R C : Addr} {fd : FuncData}
theorem scRows : FnScope ["_law_pool", "_law_cells", "_law_ways", "_law_first", "_law_above", "_law_params", "_law_rows_here", "_law_cell", "_law_xs", "_law_wild", "_law_deed_here", "_law_x", "_law_last"] ["_law_pool", "_law_cells", "_law_ways"] (defScope sRows) := ⟨rfl, rfl, rfl, by decide +kernel, rfl, by decide +kernel, by decide +kernel⟩
theorem ok_rows (F : Fun K "_law_rows" "_law_rows" sRows f fd) (GC : Ca P w K mg base CX0 1 "_law_cell_at" ["_law_script", "_law_k"] (spCellAt K)) (GS : Ca P w K mg base CX0 1 "_law_stream" ["_law_cell", "_law_many_here"] spStream) (GD : Ca P w K mg base CX0 2 "_law_deed" ["_law_pool", "_law_above", "_law_xs", "_law_way", "_law_wild"] spLDeed) (m_tuple : mg "tuple" = none) (m_len : mg "len" = none) : FnOk P w K mg base CX0 3 f fd ["_law_pool", "_law_cells", "_law_ways"] (spRows K) := by
  refine F.by scRows (fun vs H Q E h => ?_) (fun cdv A outer s H vs Q E hr h => ?_)
  · obtain ⟨pp, pc, pool, ns, wy, rfl, _⟩ := h
    rfl
  obtain ⟨pp, pc, pool, ns, wy, rfl, hp, hc, l60, ln, w0, w6, q⟩ := h
  have r1 : Room 1 _ := hr.mono (by decide)
  refine ⟨_,
    (jss_cons (js_set (i := 3) scRows.nd rfl (Or.inl rfl) (je_ca GC r1 rfl pass0 (ja_c (jv 1) (ja_c je_int ja_nil))))
    (jss_cons (js_set (i := 4) scRows.nd rfl (Or.inl rfl) (je_slice jl_list (jv 0) jo_none (jo_some (je_op jo_add je_int (je_op jo_mod (je_op jo_fdiv (jv 3) je_int) je_int)))))
    (jss_cons (js_set (i := 5) scRows.nd rfl (Or.inl rfl) (je_fnTy jc_tuple_of rfl m_tuple PyProof.Rows.boot_tuple (ja_c (jv 4) ja_nil)))
    (jss_cons (js_set (i := 6) scRows.nd rfl (Or.inl rfl) (je_lst ja_nil))
    (jss_cons (js_for PassesOwn.never rfl (ji_list (jv 1)) (jg_name (i := 7) scRows.nd rfl (Or.inl rfl))
      (jss_cons (js_set (i := 8) scRows.nd rfl (Or.inl rfl) (je_ca GS r1 rfl pass0 (ja_c (jv 7) (ja_c je_int ja_nil))))
      (jss_cons (js_set (i := 9) scRows.nd rfl (Or.inl rfl) (je_cmpR jo_eq (je_op jo_mod (je_op jo_fdiv (jv 7) je_int) je_int) je_int (nomark _)))
      (jss_cons (js_set (i := 10) scRows.nd rfl (Or.inl rfl) (je_ca GD hr rfl pass0 (ja_c (jv 0) (ja_c (jv 4) (ja_c (jv 8) (ja_c (je_op jo_mod (jv 7) (jv 2)) (ja_c (jv 9) ja_nil)))))))
      (jss_cons (js_set (i := 11) scRows.nd rfl (Or.inl rfl) (je_ix jx_list (jv 0) (je_fnB jc_len_seq rfl m_len PySem.boot_len (ja_c (jv 4) ja_nil)) (fun _ _ => rfl)))
      (jss_cons (js_if (jW.pt (jw_and (jt_val (jv 9)) (jw_and1 (jt_cmpR jo_eq (je_op jo_mod (je_ix jx_list (jv 8) je_int (fun _ _ => rfl)) je_int) je_int (nomark _)))))
        (jss_one (js_set (i := 11) scRows.nd rfl (Or.inl rfl) (je_ix jx_list (jv 4) (je_op jo_mod (je_op jo_fdiv (je_ix jx_list (jv 8) je_int (fun _ _ => rfl)) je_int) (je_fnB jc_len_seq rfl m_len PySem.boot_len (ja_c (jv 4) ja_nil))) (fun _ _ => rfl)))) jss_nil)
      (jss_cons (js_expr (je_bm PySem.F.plainAttrs_list PySem.F.slot_list_append PySem.F.type_list_append jm_append (jv 6) (ja_c (je_tup (ja_c (jv 11) (ja_c (jv 10) ja_nil))) ja_nil)))
      (jss_one (js_set (i := 4) scRows.nd rfl (Or.inl rfl) (je_op jo_cat (jv 4) (je_lst (ja_c (jv 11) ja_nil))))))))))))
    (jss_cons (js_set (i := 12) scRows.nd rfl (Or.inl rfl) (je_ix jx_list (jv 4) (je_op jo_mod (je_op jo_fdiv (jv 3) je_int) (je_fnB jc_len_seq rfl m_len PySem.boot_len (ja_c (jv 4) ja_nil))) (fun _ _ => rfl)))
    (jss_cons (js_if (jt_cmpR jo_eq (je_op jo_mod (je_op jo_fdiv (jv 3) je_int) je_int) je_int (nomark _))
      (jss_one (js_set (i := 12) scRows.nd rfl (Or.inl rfl) (je_ix jx_list (jv 0) (je_op jo_mod (je_op jo_fdiv (jv 3) je_int) je_int) (fun _ _ => rfl)))) jss_nil)
    (jss_one (js_ret (je_tup (ja_c (jv 5) (ja_c (jv 6) (ja_c (jv 12) ja_nil))))))))))))), ?_⟩
  have sl := line0
  refine ⟨_, rfl, pc, ns, 0, rfl, SqL.of hc, fun c0 => ?_⟩
  have b0 := Int.emod_nonneg (c0 / 30) (show (3 : Int) ≠ 0 by decide)
  have b1 := Int.emod_lt_of_pos (c0 / 30) (show (0 : Int) < 3 by decide)
  refine ⟨_, rfl, _, rfl, _, _, rfl, rfl, ⟨by decide, by decide⟩, _, _, rfl, rfl, (by show (0 : Int) < _; decide), _, _, rfl, rfl, _, rfl, pp, _, rfl, SqL.of hp, fun la0 hla0 => ?_⟩
  have ec : cutV (pool.map V.str) none (some (1 + c0 / 30 % 3)) = (pool.take (1 + c0 / 30 % 3).toNat).map V.str := cut_take (by omega)
  obtain ⟨par, epar⟩ : ∃ par, par = pool.take (1 + c0 / 30 % 3).toNat := ⟨_, rfl⟩
  rw [<- epar] at ec
  have lp0 : 0 < par.length := by rw [epar, List.length_take]; omega
  have lp3 : par.length <= 3 := by rw [epar, List.length_take]; omega
  have hla : upd H la0 (.lst (cutV (pool.map V.str) none (some (1 + c0 / 30 % 3)))) la0 = some (.lst (par.map V.str)) := by rw [upd_same, ec]
  have s1 := same_new hla0 (.lst (cutV (pool.map V.str) none (some (1 + c0 / 30 % 3))))
  show (tSeq _ _ : TS) _ _ (upd H la0 (.lst (cutV (pool.map V.str) none (some (1 + c0 / 30 % 3)))))
  generalize upd H la0 (.lst (cutV (pool.map V.str) none (some (1 + c0 / 30 % 3)))) = H1 at *
  refine ⟨_, rfl, la0, _, rfl, .inl ⟨SqL.of hla, fun pq hpq => ⟨by show 0 <= sizeLine; decide, fun pr hpr => ?_⟩⟩⟩
  have s2 := (s1.new (o := .tup (par.map V.str)) hpq).new (o := .lst []) hpr
  have fpr : H pr = none := (s1.new (o := .tup (par.map V.str)) hpq).free hpr
  refine ⟨_, rfl, _, rfl, ⟨_, SqL.of (s2 _ _ hc)⟩, for_list (xs := ns.map V.int) (fun i σ H' => Same H H' /\ H' pq = some (.tup (par.map V.str)) /\ ∃ (la : Addr) (above : List Str) (rows : List (Str × De)) (ts : List Addr) (x7 x8 x9 xa xb xc : Option V), σ = [some (.ref pp), some (.ref pc), some (.int (wy : Nat)), some (.int c0), some (.ref la), some (.ref pq), some (.ref pr), x7, x8, x9, xa, xb, xc] /\ H' la = some (.lst (above.map V.str)) /\ la ≠ pr /\ above.length = par.length + i /\ H' pr = some (.lst (ts.map V.ref)) /\ IsRows H' rows ts /\ rows.length = i /\ (∀ r ∈ rows, ∀ g ns, r.2 = .ask g ns -> ns.length <= 1000) /\ ∀ r ∈ rows, ∀ w t ns, r.2 = .app w t ns -> t ∈ pool.take 15)
    ⟨s2, old hpr upd_same, la0, par, [], [], none, none, none, none, none, none, rfl, old hpr (old hpq hla), ne_of_none (old hpq hla) hpr, rfl, upd_same, ⟨rfl, fun i r t h => by simp at h⟩, rfl, (fun r hr => by cases hr), (fun r hr => by cases hr)⟩ (fun i σ H' _ h => SqL.of (h.1 _ _ hc)) ?_ ?_⟩
  · rintro i v σ H3 hv ⟨s3, hq3, la, above, rows, ts, x7, x8, x9, xa, xb, xc, rfl, ha3, nlp, lab, hr3, hR, lr, hfew, htg⟩
    rw [List.getElem?_map] at hv
    obtain ⟨ce, hce, rfl⟩ := Option.map_eq_some_iff.mp hv
    have hi : i < ns.length := (List.getElem?_eq_some_iff.mp hce).1
    have g0 := Int.emod_nonneg ce (show ((wy : Nat) : Int) ≠ 0 by omega)
    have g1 := Int.emod_lt_of_pos ce (show (0 : Int) < ((wy : Nat) : Int) by omega)
    refine ⟨_, rfl, ce, 15, rfl, by decide, fun H4 px xs s4 h4 hxs => ?_⟩
    have S4 := s3.trans s4
    refine ⟨_, rfl, _, _, rfl, rfl, ⟨by decide, by decide⟩, _, _, rfl, rfl, (by show (0 : Int) < _; decide), rfl, ?_⟩
    generalize decide (_ = V.int 3) = wl
    refine ⟨_, rfl, _, rfl, _, rfl, _, rfl, _, rfl, _, _, rfl, rfl, (by show (0 : Int) < ((wy : Nat) : Int); omega), _, rfl, pp, la, px, pool, above, xs, (ce % ((wy : Nat) : Int)).toNat, wl, ?_, S4 _ _ hp, s4 _ _ ha3, h4, l60, by omega, hxs, by omega, fun H5 pd d s5 hd5 hf5 hg5 => ?_⟩
    · have e : ce % ((wy : Nat) : Int) = (((ce % ((wy : Nat) : Int)).toNat : Nat) : Int) := by omega
      show [V.ref pp, V.ref la, V.ref px, V.int (ce % ((wy : Nat) : Int)), V.bl wl] = _
      rw [e]
      rfl
    have S5 := S4.trans s5
    have ha5 := s5 _ _ (s4 _ _ ha3)
    have h5 := s5 _ _ h4
    obtain ⟨z1, hz1⟩ := at_str (zs := pool) (k := ((above.length : Nat) : Int)) (by omega) (by omega)
    suffices rest : ∀ x : Str, (tSeq _ _ : TS) _ [some (.ref pp), some (.ref pc), some (.int (wy : Nat)), some (.int c0), some (.ref la), some (.ref pq), some (.ref pr), some (.int ce), some (.ref px), some (.bl wl), some (.ref pd), some (.str x), xc] H5 by
      refine ⟨_, rfl, _, rfl, la, _, rfl, .inl (SqL.of ha5), pp, _, _, _, rfl, rfl, SqL.of (S5 _ _ hp), (by rw [List.length_map]; exact hz1), ?_⟩
      have r1 := rest z1
      have at14 : (xs.map V.int)[14]? = some (.int (xs[14]'(by omega))) := by rw [List.getElem?_map, List.getElem?_eq_getElem (by omega)]; rfl
      refine ⟨_, rfl, wl, rfl, ite2 (fun _ => ?_) (fun _ => iteF r1)⟩
      refine ⟨_, rfl, px, _, _, _, rfl, rfl, SqL.of h5, atI_nat (j := 14) at14, _, _, rfl, rfl, (by show (0 : Int) < _; decide), rfl, _, rfl, ite2 (fun _ => ?_) (fun _ => r1)⟩
      have k0 := Int.emod_nonneg ((xs[14]'(by omega)) / 4) (show ((above.length : Nat) : Int) ≠ 0 by omega)
      have k1 := Int.emod_lt_of_pos ((xs[14]'(by omega)) / 4) (show (0 : Int) < ((above.length : Nat) : Int) by omega)
      obtain ⟨z2, hz2⟩ := at_str (zs := above) (k := (xs[14]'(by omega)) / 4 % ((above.length : Nat) : Int)) k0 k1
      exact ⟨_, rfl, _, rfl, px, _, _, _, rfl, rfl, SqL.of h5, atI_nat (j := 14) at14, _, _, rfl, rfl, ⟨by decide, by decide⟩, _, rfl, la, _, rfl, .inl (SqL.of ha5), _, _, rfl, rfl, (by rw [List.length_map]; show (0 : Int) < ((above.length : Nat) : Int); omega), la, _, _, _, rfl, rfl, SqL.of ha5, (by rw [List.length_map]; exact hz2), rest z2⟩
    intro x
    have hr5 := s5 _ _ (s4 _ _ hr3)
    have lts := hR.1
    refine ⟨_, rfl, .inl ⟨rfl, _, SqL.of hr5⟩, _, rfl, _, rfl, by show 2 <= sizeLine; decide, fun t ht => ⟨pr, _, _, rfl, rfl, old ht hr5, by rw [List.length_map]; omega, ?_⟩⟩
    have s6 := S5.new (o := .tup [.str x, .ref pd]) ht
    have e6 := upd_same (H := H5) (a := t) (o := .tup [.str x, .ref pd])
    have hR6 := hR.keep (.of (((s4.trans s5).new (o := .tup [.str x, .ref pd]) ht)))
    have hd6 := hd5.keep (.of (same_new ht (.tup [.str x, .ref pd])))
    have ha6 := old (o := .tup [.str x, .ref pd]) ht ha5
    have hr6 := old (o := .tup [.str x, .ref pd]) ht hr5
    have hq6 := old (o := .tup [.str x, .ref pd]) ht (s5 _ _ (s4 _ _ hq3))
    generalize upd H5 t (.tup [.str x, .ref pd]) = H6 at *
    have tu : Tups H6 (upd H6 pr (.lst (ts.map V.ref ++ [.ref t]))) := fun z zs hz => by
      rw [upd_ne (ne_of hz hr6 (by intro e; cases e))]
      exact hz
    have s7 := s6.put (o := .lst (ts.map V.ref ++ [.ref t])) fpr
    have ha7 : upd H6 pr (.lst (ts.map V.ref ++ [.ref t])) la = some (.lst (above.map V.str)) := by rw [upd_ne nlp]; exact ha6
    have hr7 := upd_same (H := H6) (a := pr) (o := .lst (ts.map V.ref ++ [.ref t]))
    have hR7 := (hR6.keep tu).snoc (tu _ _ e6) (hd6.keep tu)
    have hq7 := tu _ _ hq6
    generalize upd H6 pr (.lst (ts.map V.ref ++ [.ref t])) = H7 at *
    refine ⟨_, rfl, _, rfl, by show 1 <= sizeLine; decide, fun l1 hl1 => ⟨la, l1, _, _, rfl, rfl, old hl1 ha7, upd_same, by rw [List.length_map]; show above.length + 1 <= sizeLine; omega, fun l2 hl2 => ?_⟩⟩
    have s8 := (same_new hl1 (.lst [V.str x])).new (o := .lst (above.map V.str ++ [V.str x])) hl2
    refine ⟨s7.trans s8, s8 _ _ hq7, l2, above ++ [x], rows ++ [(x, d)], ts ++ [t], _, _, _, _, _, _, rfl, by rw [upd_same, List.map_append]; rfl, (ne_of_none (old hl1 hr7) hl2).symm, by rw [List.length_append, lab]; rfl, by rw [s8 _ _ hr7, List.map_append]; rfl, hR7.keep (.of s8), by rw [List.length_append, lr]; rfl, fun r hr g ns' e => ?_, fun r hr w t' ns' e => ?_⟩
    · rcases List.mem_append.mp hr with h | h
      · exact hfew r h g ns' e
      · rw [List.mem_singleton.mp h] at e
        exact hf5 g ns' e
    · rcases List.mem_append.mp hr with h | h
      · exact htg r h w t' ns' e
      · rw [List.mem_singleton.mp h] at e
        exact hg5 w t' ns' e
  · rintro σ H3 ⟨s3, hq3, la, above, rows, ts, x7, x8, x9, xa, xb, xc, rfl, ha3, nlp, lab, hr3, hR, lr, hfew, htg⟩
    rw [List.length_map] at lab lr
    have k0 := Int.emod_nonneg (c0 / 90) (show ((above.length : Nat) : Int) ≠ 0 by omega)
    have k1 := Int.emod_lt_of_pos (c0 / 90) (show (0 : Int) < ((above.length : Nat) : Int) by omega)
    obtain ⟨z1, hz1⟩ := at_str (zs := above) (k := c0 / 90 % ((above.length : Nat) : Int)) k0 k1
    have j0 := Int.emod_nonneg (c0 / 90) (show (60 : Int) ≠ 0 by decide)
    have j1 := Int.emod_lt_of_pos (c0 / 90) (show (0 : Int) < 60 by decide)
    obtain ⟨z2, hz2⟩ := at_str (zs := pool) (k := c0 / 90 % 60) j0 (by rw [l60]; exact j1)
    suffices rest : ∀ z : Str, (tRet (tTup (tCons (tVar 5) (tCons (tVar 6) (tCons (tVar 12) tNil)))) : TS) { nx := fun _ H' => Q .non H', rt := Q } [some (.ref pp), some (.ref pc), some (.int (wy : Nat)), some (.int c0), some (.ref la), some (.ref pq), some (.ref pr), x7, x8, x9, xa, xb, some (.str z)] H3 by
      refine ⟨_, rfl, _, rfl, _, _, rfl, rfl, ⟨by decide, by decide⟩, _, rfl, la, _, rfl, .inl (SqL.of ha3), _, _, rfl, rfl, (by rw [List.length_map]; show (0 : Int) < ((above.length : Nat) : Int); omega), la, _, _, _, rfl, rfl, SqL.of ha3, (by rw [List.length_map]; exact hz1), ?_⟩
      have r1 := rest z1
      refine ⟨_, rfl, _, _, rfl, rfl, ⟨by decide, by decide⟩, _, _, rfl, rfl, (by show (0 : Int) < _; decide), rfl, _, rfl, ite2 (fun _ => ?_) (fun _ => nxt r1)⟩
      exact ⟨_, rfl, _, rfl, _, _, rfl, rfl, ⟨by decide, by decide⟩, _, _, rfl, rfl, (by show (0 : Int) < _; decide), pp, _, _, _, rfl, rfl, SqL.of (s3 _ _ hp), hz2, rest z2⟩
    intro z
    refine ⟨_, rfl, _, rfl, _, rfl, by show 3 <= sizeLine; decide, fun sd hsd => ?_⟩
    have s4 := same_new hsd (.tup [.ref pq, .ref pr, .str z])
    exact q _ sd pq pr par rows ts z (s3.trans s4) upd_same (s4 _ _ hq3) (s4 _ _ hr3) fpr (hR.keep (.of s4)) hfew htg ⟨_, epar⟩ lp3 (by omega)
end
end KD
namespace KD
open PySem L2 K11
def poolS (st : Str) : List Str := (List.range 60).map (nm st)
def tagL (st : Str) : List (Str × Int) := (List.range 10).map fun k => (nm st k, (7 * (k : Int) + 3) % 10)
def fixD (st : Str) (k : Nat) : Dg := ⟨nm st (5 + k), (List.range k).map (nm st), .lt (nm st 40) (.num (k : Nat)) (.give (nm st 40))⟩
def fixL (st : Str) : List Dg := (List.range 10).map (fixD st)
def cntL (st : Str) : List (Str × Int) := kpOf (fixL st)
theorem dup_of : ∀ {ns seen : List Str}, (∀ n ∈ ns, n ∉ seen) -> ns.Nodup -> dup seen ns = none
  | [], _, _, _ => rfl
  | a :: l, seen, h, hn => by
    unfold dup
    rw [if_neg (h a List.mem_cons_self)]
    have := List.nodup_cons.mp hn
    refine dup_of (fun n hm z => ?_) this.2
    rcases List.mem_append.mp z with z | z
    · exact h n (List.mem_cons_of_mem _ hm) z
    · rw [List.mem_singleton.mp z] at hm
      exact this.1 hm
theorem nm_nodup {st : Str} : ∀ {l : List Nat}, l.Nodup -> (∀ k ∈ l, k < 676) -> (l.map (nm st)).Nodup
  | [], _, _ => List.nodup_nil
  | a :: l, h, hk => by
    have h' := List.nodup_cons.mp h
    refine List.nodup_cons.mpr ⟨fun z => ?_, nm_nodup h'.2 fun k hm => hk k (List.mem_cons_of_mem _ hm)⟩
    obtain ⟨b, hb, e⟩ := List.mem_map.mp z
    have := nm_inj (hk b (List.mem_cons_of_mem _ hb)) (hk a List.mem_cons_self) e
    rw [this] at hb
    exact h'.1 hb
theorem pool_nodup (st : Str) : (poolS st).Nodup := nm_nodup List.nodup_range fun k h => by have := List.mem_range.mp h; omega
theorem pool_len (st : Str) : (poolS st).length = 60 := by unfold poolS; rw [List.length_map, List.length_range]
theorem pool_at {st : Str} {k : Nat} (h : k < 60) : (poolS st)[k]? = some (nm st k) := by
  unfold poolS
  rw [List.getElem?_map, List.getElem?_range h]
  rfl
theorem pool_take {st : Str} {k : Nat} (h : k <= 60) : (poolS st).take k = (List.range k).map (nm st) := by
  unfold poolS
  rw [<- List.map_take]
  congr 1
  apply List.ext_getElem?
  intro i
  rw [List.getElem?_take]
  by_cases c : i < k
  · rw [if_pos c, List.getElem?_range (by omega), List.getElem?_range c]
  · rw [if_neg c, List.getElem?_eq_none (by rw [List.length_range]; omega)]
theorem take15 {st t : Str} (h : t ∈ (poolS st).take 15) : ∃ j, j < 15 /\ t = nm st j := by
  rw [pool_take (by decide)] at h
  obtain ⟨j, hj, rfl⟩ := List.mem_map.mp h
  exact ⟨j, List.mem_range.mp hj, rfl⟩
theorem deF_congr {kt kp kp' : List (Str × Int)} {seen : List Str} {d : De} (h : ∀ w t ns, d = .app w t ns -> kp.lookup t = kp'.lookup t) : deF kt kp seen d = deF kt kp' seen d := by
  cases d with
  | num i => rfl
  | op w a b => rfl
  | ask g ns => rfl
  | app w t ns =>
    have e := h w t ns rfl
    show (match unkF seen ns with | some f => some f | none => numF kt kp w t ns.length) = (match unkF seen ns with | some f => some f | none => numF kt kp' w t ns.length)
    have : numF kt kp w t ns.length = numF kt kp' w t ns.length := by
      unfold numF
      by_cases c : w = "make"
      · rw [if_pos c, if_pos c]
      · rw [if_neg c, if_neg c, e]
    rw [this]
theorem bdF_congr {kt kp kp' : List (Str × Int)} {last : Str} : ∀ {rows : List (Str × De)} {seen : List Str}, (∀ r ∈ rows, ∀ w t ns, r.2 = .app w t ns -> kp.lookup t = kp'.lookup t) -> bdF kt kp (bdOf last rows) seen = bdF kt kp' (bdOf last rows) seen
  | [], _, _ => rfl
  | (x, d) :: r, seen, h => by
    rw [bdF_cons, bdF_cons, deF_congr (h (x, d) List.mem_cons_self), bdF_congr fun r' hr => h r' (List.mem_cons_of_mem _ hr)]
theorem bdOf_sz {last : Str} : ∀ {rows : List (Str × De)}, (bdOf last rows).sz = rows.length + 1
  | [] => rfl
  | (x, d) :: r => by
    show (bdOf last r).sz + 1 = _
    rw [bdOf_sz, List.length_cons]
theorem bdOf_few {last : Str} : ∀ {rows : List (Str × De)}, (∀ r ∈ rows, ∀ g ns, r.2 = .ask g ns -> ns.length <= 1000) -> (bdOf last rows).few
  | [], _ => trivial
  | (x, d) :: r, h => ⟨h (x, d) List.mem_cons_self, bdOf_few fun r' hr => h r' (List.mem_cons_of_mem _ hr)⟩
structure Str25 (st : Str) (j : Nat) (d : Dg) : Prop where
  n : d.n = nm st j
  lo : 50 <= j
  hi : j < 60
  ps : d.ps.Nodup
  pl : d.ps.length <= 3
  b : ∃ last rows, d.b = bdOf last rows /\ rows.length <= 45 /\ (∀ r ∈ rows, ∀ g ns, r.2 = .ask g ns -> ns.length <= 1000) /\ ∀ r ∈ rows, ∀ w t ns, r.2 = .app w t ns -> t ∈ (poolS st).take 15
inductive Strs (st : Str) : List Nat -> List Dg -> Prop
  | nil : Strs st [] []
  | cons {j : Nat} {d : Dg} {js : List Nat} {ds : List Dg} : Str25 st j d -> Strs st js ds -> Strs st (j :: js) (d :: ds)
theorem Strs.snoc {st : Str} {js : List Nat} {ds : List Dg} (h : Strs st js ds) {j : Nat} {d : Dg} (g : Str25 st j d) : Strs st (js ++ [j]) (ds ++ [d]) := by
  induction h with
  | nil => exact .cons g .nil
  | cons a _ ih => exact .cons a ih
theorem Strs.names {st : Str} {js : List Nat} {ds : List Dg} (h : Strs st js ds) : ds.map (·.n) = js.map (nm st) := by
  induction h with
  | nil => rfl
  | cons a _ ih => rw [List.map_cons, List.map_cons, a.n, ih]
theorem Strs.mem {st : Str} {js : List Nat} {ds : List Dg} (h : Strs st js ds) : ∀ d ∈ ds, ∃ j, Str25 st j d := by
  induction h with
  | nil => intro d hd; cases hd
  | cons a _ ih =>
    intro d hd
    rcases List.mem_cons.mp hd with e | hd
    · rw [e]; exact ⟨_, a⟩
    · exact ih d hd
theorem Strs.js {st : Str} {js : List Nat} {ds : List Dg} (h : Strs st js ds) : ∀ j ∈ js, 50 <= j /\ j < 60 := by
  induction h with
  | nil => intro d hd; cases hd
  | cons a _ ih =>
    intro d hd
    rcases List.mem_cons.mp hd with e | hd
    · rw [e]; exact ⟨a.lo, a.hi⟩
    · exact ih d hd
def dueS (st : Str) (d : Dg) : Option Flt := bdF (tagL st) (cntL st) d.b d.ps
theorem fix_names (st : Str) : (fixL st).map (·.n) = (List.range 10).map fun k => nm st (5 + k) := by
  unfold fixL
  rw [List.map_map]
  rfl
theorem lookup_out {l : List (Str × Int)} {t : Str} (h : t ∉ l.map (·.1)) : l.lookup t = none := by
  induction l with
  | nil => rfl
  | cons a l ih =>
    rw [List.map_cons, List.mem_cons, not_or] at h
    rw [List.lookup_cons, beq_eq_false_iff_ne.mpr h.1]
    exact ih h.2
theorem lookup_app {a b : List (Str × Int)} {t : Str} : (a ++ b).lookup t = (a.lookup t).or (b.lookup t) := by
  induction a with
  | nil => rfl
  | cons x a ih =>
    rw [List.cons_append, List.lookup_cons, List.lookup_cons]
    cases t == x.1 with
    | true => rfl
    | false => exact ih
theorem kp_agree {st t : Str} {js : List Nat} {ds : List Dg} (h : Strs st js ds) (a : Nat) (ht : t ∈ (poolS st).take 15) : (kpOf ((fixL st).take a ++ ds ++ (fixL st).drop a)).lookup t = (cntL st).lookup t := by
  obtain ⟨j, hj, rfl⟩ := take15 ht
  unfold kpOf cntL
  have out : (ds.map fun d => (d.n, ((d.ps.length : Nat) : Int))).lookup (nm st j) = none := lookup_out fun z => by
    have e : (ds.map fun d => (d.n, ((d.ps.length : Nat) : Int))).map (·.1) = ds.map (·.n) := by rw [List.map_map]; rfl
    rw [e, h.names] at z
    obtain ⟨i, hi, ei⟩ := List.mem_map.mp z
    have := h.js i hi
    have := nm_inj (by omega) (by omega) ei
    omega
  rw [List.map_append, List.map_append, lookup_app, lookup_app, out, Option.or_none, <- lookup_app, <- List.map_append, List.take_append_drop]
  rfl
theorem fix_due {st : Str} {k : Nat} (hk : k < 10) (kp : List (Str × Int)) (kt : List (Str × Int)) : dueD kt kp (fixD st k) = none := by
  have n1 : ((List.range k).map (nm st)).Nodup := nm_nodup List.nodup_range fun i h => by have := List.mem_range.mp h; omega
  unfold dueD
  rw [show (fixD st k).ps = (List.range k).map (nm st) from rfl, dup_of (fun _ _ z => by cases z) n1]
  have n2 : nm st 40 ∉ (List.range k).map (nm st) := fun z => by
    obtain ⟨i, hi, e⟩ := List.mem_map.mp z
    have := List.mem_range.mp hi
    have := nm_inj (by omega) (by omega) e
    omega
  show (match deF kt kp ((List.range k).map (nm st)) (.num (k : Nat)) with
    | some f => some f
    | none => if nm st 40 ∈ (List.range k).map (nm st) then some ((1 : Nat), nm st 40) else unkF ((List.range k).map (nm st) ++ [nm st 40]) [nm st 40]) = none
  show (if nm st 40 ∈ (List.range k).map (nm st) then some ((1 : Nat), nm st 40) else unkF ((List.range k).map (nm st) ++ [nm st 40]) [nm st 40]) = none
  rw [if_neg n2]
  unfold unkF
  rw [List.find?_cons_of_neg (by simp)]
  rfl
theorem fix_none {st : Str} {l : List Dg} (h : ∀ d ∈ l, d ∈ fixL st) (kt kp : List (Str × Int)) : l.findSome? (dueD kt kp) = none := by
  rw [List.findSome?_eq_none_iff]
  intro d hd
  obtain ⟨k, hk, rfl⟩ := List.mem_map.mp (h d hd)
  exact fix_due (List.mem_range.mp hk) kp kt
theorem find_congr {α β : Type} {f g : α -> Option β} : ∀ {l : List α}, (∀ x ∈ l, f x = g x) -> l.findSome? f = l.findSome? g
  | [], _ => rfl
  | a :: l, h => by
    rw [List.findSome?_cons, List.findSome?_cons, h a List.mem_cons_self, find_congr fun x hx => h x (List.mem_cons_of_mem _ hx)]
def progL (st : Str) (ds : List Dg) (a : Nat) : List Dg := (fixL st).take a ++ ds ++ (fixL st).drop a
theorem prog_due {st : Str} {js : List Nat} {ds : List Dg} (h : Strs st js ds) (hj : js.Nodup) (a : Nat) : due [tagL st] (progL st ds a) = ds.findSome? (dueS st) := by
  have e1 : tagsOf [tagL st] = (List.range 10).map (nm st) := by
    unfold tagsOf
    rw [List.flatten_cons, List.flatten_nil, List.append_nil]
    unfold tagL
    rw [List.map_map]
    rfl
  have d1 : dup [] (tagsOf [tagL st]) = none := by
    rw [e1]
    exact dup_of (fun _ _ z => by cases z) (nm_nodup List.nodup_range fun k h => by have := List.mem_range.mp h; omega)
  have nd : ((progL st ds a).map (·.n)).Nodup := by
    have p : List.Perm ((progL st ds a).map (·.n)) ((fixL st ++ ds).map (·.n)) := by
      refine List.Perm.map _ ?_
      unfold progL
      have := List.perm_append_comm (l₁ := ds) (l₂ := (fixL st).drop a)
      rw [List.append_assoc]
      refine (List.Perm.append_left _ this).trans ?_
      rw [<- List.append_assoc, List.take_append_drop]
    rw [p.nodup_iff, List.map_append, fix_names, h.names]
    have e : ((List.range 10).map fun k => nm st (5 + k)) ++ js.map (nm st) = (((List.range 10).map fun k => 5 + k) ++ js).map (nm st) := by
      rw [List.map_append, List.map_map]
      rfl
    rw [e]
    refine nm_nodup (List.nodup_append.mpr ⟨by decide, hj, fun x hx y hy z => ?_⟩) fun k hk => ?_
    · obtain ⟨k, hk, rfl⟩ := List.mem_map.mp hx
      have := List.mem_range.mp hk
      have := h.js y hy
      omega
    · rcases List.mem_append.mp hk with hk | hk
      · obtain ⟨i, hi, rfl⟩ := List.mem_map.mp hk
        have := List.mem_range.mp hi
        omega
      · have := h.js k hk
        omega
  have d2 : dup [] ((progL st ds a).map (·.n)) = none := dup_of (fun _ _ z => by cases z) nd
  unfold due
  rw [d1]
  dsimp only
  rw [d2]
  dsimp only
  rw [List.flatten_cons, List.flatten_nil, List.append_nil]
  obtain ⟨kp, ekp⟩ : ∃ kp, kp = kpOf (progL st ds a) := ⟨_, rfl⟩
  rw [<- ekp]
  unfold progL
  rw [List.findSome?_append, List.findSome?_append, fix_none (fun d hd => List.mem_of_mem_take hd), fix_none (fun d hd => List.mem_of_mem_drop hd), Option.none_or, Option.or_none]
  refine find_congr fun d hd => ?_
  obtain ⟨j, g⟩ := h.mem d hd
  obtain ⟨last, rows, eb, _, _, ht⟩ := g.b
  unfold dueD dueS
  rw [dup_of (fun _ _ z => by cases z) g.ps, eb]
  refine bdF_congr fun r hr w t ns e => ?_
  rw [ekp]
  exact kp_agree h a (ht r hr w t ns e)
theorem prog_few {st : Str} {js : List Nat} {ds : List Dg} (h : Strs st js ds) (hl : ds.length <= 100) (a : Nat) : Few24 [tagL st] (progL st ds a) := by
  have hf : (fixL st).length = 10 := by unfold fixL; rw [List.length_map, List.length_range]
  have mem : ∀ d ∈ progL st ds a, d.ps.length + d.b.sz <= 1000 /\ d.b.few := by
    intro d hd
    unfold progL at hd
    have fx : d ∈ fixL st -> d.ps.length + d.b.sz <= 1000 /\ d.b.few := fun hd => by
      obtain ⟨k, hk, rfl⟩ := List.mem_map.mp hd
      have := List.mem_range.mp hk
      refine ⟨?_, (fun _ _ e => by cases e), trivial⟩
      show ((List.range k).map (nm st)).length + 2 <= 1000
      rw [List.length_map, List.length_range]
      omega
    rcases List.mem_append.mp hd with hd | hd
    · rcases List.mem_append.mp hd with hd | hd
      · exact fx (List.mem_of_mem_take hd)
      · obtain ⟨j, g⟩ := h.mem d hd
        obtain ⟨last, rows, eb, hr, hfw, _⟩ := g.b
        have := g.pl
        rw [eb, bdOf_sz]
        exact ⟨by omega, bdOf_few hfw⟩
    · exact fx (List.mem_of_mem_drop hd)
  refine ⟨by show 1 <= 1000; decide, ?_, ?_, fun d hd => (mem d hd).1, fun d hd => (mem d hd).2⟩
  · rw [List.flatten_cons, List.flatten_nil, List.append_nil]
    unfold tagL
    rw [List.length_map, List.length_range]
    decide
  · unfold progL
    rw [List.length_append, List.length_append, List.length_take, List.length_drop]
    omega
end KD
namespace L2
open PySem PySem.Spec PyProof.Rows
theorem miss_keys : typeLookup (.type "list") "keys" = pure none := am_miss_of_fast (by decide +kernel)
theorem keys_named : (["__module__", "__name__", "__qualname__", "__doc__", "__annotations__"] : List Str).contains ("keys" : Str) = false := by decide +kernel
theorem entry_pairs_loop : entryFor table "dict.update.loop" = some Builtin.«dict.update.loop» := entryFor_of_tree (by kernel_rfl)
theorem plain_pairs_loop : plainId "dict.update.loop" = true := by decide +kernel
section
variable {prog : Program} {w : World} {A : Around}
theorem keys_none {E : Value -> Shared -> Prop} {s : Shared} {a : Addr} {xs : Array Value} {k : Nat} {Q : Option Value -> Shared -> Prop} (hx : s.heap.get? a = some { cls := .type "list", data := .seq xs k }) (hA : A.handled = none)
    (h : ∀ h' tk, (∀ b o, s.heap.get? b = some o -> h'.get? b = some o) -> Q none { s with heap := h', toks := tk }) : wpAny (model prog w) A (getAttr? (.ref a) "keys") Q E s := by
  obtain ⟨hp, g, d, tk, os⟩ := s
  have hT : ∀ t', (⟨hp, g, d, t', os⟩ : Shared).TypeIs (.ref a) "list" := fun _ => ⟨_, hx, rfl⟩
  have g1 := sub_AttributeError
  have g2 := PySem.F.slot_list_getattribute.lookup
  have g3 := PySem.F.slot_list_getattribute.bind (.ref a)
  have g4 := am_list_getattr_none
  unfold getAttr? getAttrBy? getAttrBy
  repeat (any_goals (first | assumption | exact hT _ | ((with_reducible show wpAny _ _ (call (Value.builtin "list.__getattribute__") _ _) _ _ _); refine call_meets PySem.F.slot_list_getattribute (hT _) am_entry_list_getattribute (PySem.F.args_list_getattribute_2 _ _) (meets_getattribute_miss_list a xs k #[] "keys" _ miss_keys keys_named (by show 4 + 100 <= sizeLine; decide)) ⟨hx, hA, fun h' tk' e hx' => ?_⟩) | wp_step))
  obtain ⟨t', u', he⟩ := hx'.there
  show wpAny _ _ (getattributeRaised _ _ _ _ _ _ _) _ _ _
  unfold getattributeRaised
  repeat (any_goals (first | assumption | wp_step))
  exact h _ _ hx'.keeps
theorem pairs_loop {κ : Type} [DecidableEq κ] {knd : KeyKind prog w κ} {R : Result -> Shared -> Prop} {I ax D : Addr} {items : Array Value} {more : List (κ × Value)} {res : Value} (hh : A.handled = none) (n1 : ax ≠ I) (n2 : D ≠ I) (n3 : D ≠ ax) (hl : items.size = more.length) (hz : more.length <= sizeLine) :
    ∀ (m i : Nat) (s : Shared), more.length - i = m -> i <= more.length -> s.heap.IsListIter I ax i -> s.heap.IsList ax items -> s.heap.DictOf knd D (merged [] (more.take i)) ->
      (∀ (j : Nat) k v, more[j]? = some (k, v) -> ∃ t ku, items[j]? = some (.ref t) /\ knd.is k ku = true /\ IsTup s.heap t #[ku, v] /\ t ≠ I /\ t ≠ D) ->
      (∀ h' tk, (∀ b o, b ≠ I -> b ≠ D -> s.heap.get? b = some o -> h'.get? b = some o) -> h'.DictOf knd D (merged [] more) -> R (.ok (.ret res)) { s with heap := h', toks := tk }) ->
      codeAny (model prog w) A (.builtin "dict.update.loop" ⟨[.ref D, .ref I, rawInt i, res], []⟩) R s := by
  intro m
  induction m with
  | zero =>
    intro i s hm hi hit hls hd hp hR
    have e : i = more.length := by omega
    refine codeAny_builtin entry_pairs_loop ?_
    rw [Around.under_plainId plain_pairs_loop _]
    show wpAny _ A.in1 (pyNext (.ref I) >>= _) _ _ s
    refine wpAny_bind (wpAny_pyNext_list_end hh hit hls (by rw [Array.getElem?_eq_none (by omega)]) fun h' eb => ?_)
    show wpAny _ A.in1 (Builtin.Dict.addKeywords D [] >>= fun _ => ret res) _ _ _
    refine wpAny_bind (wpAny_pure (wpAny_pure ?_))
    rw [e, List.take_of_length_le (Nat.le_refl _)] at hd
    obtain ⟨o, es, ep, ho, hr⟩ := hd
    exact hR h' s.toks (fun b o nb _ e' => eb b o nb e') ⟨o, es, ep, eb _ _ n2 ho, hr⟩
  | succ m ih =>
    intro i s hm hi hit hls hd hp hR
    have hlt : i < more.length := by omega
    obtain ⟨k, v⟩ : ∃ kv, kv = more[i] := ⟨_, rfl⟩
    obtain ⟨kv, ekv⟩ : ∃ kv, more[i]? = some kv := ⟨_, List.getElem?_eq_getElem hlt⟩
    obtain ⟨k, v⟩ := kv
    obtain ⟨t, ku, e1, e2, e3, e4, e5⟩ := hp i k v ekv
    refine codeAny_builtin entry_pairs_loop ?_
    rw [Around.under_plainId plain_pairs_loop _]
    show wpAny _ A.in1 (pyNext (.ref I) >>= _) _ _ s
    refine wpAny_bind (wpAny_pyNext_list_item hit hls e1 fun h' hit' sb => ?_)
    have ls' := hls.extBut sb.extBut n1
    have tp' := e3.extBut sb.extBut e4
    obtain ⟨ot, hot, hct, nt, hdt⟩ := id tp'
    show wpAny _ A.in1 (holding [Value.ref t] _ >>= _) _ _ _
    refine wpAny_bind (wpAny_holding (wpAny_bind (wpAny_tryCatch ?_)))
    unfold Builtin.Dict.pairItems
    refine wpAny_bind (wpAny_typeOf ⟨ot, hot, hct⟩ ?_)
    rw [if_pos (by decide +kernel)]
    refine wpAny_bind ?_
    unfold seqItems?
    refine wpAny_bind (wpAny_load hot ?_)
    rw [hdt]
    refine wpAny_pure (wpAny_pure ?_)
    show wpAny _ A.in1 (holding [ku, v] (dictSet D ku v)) _ _ _
    have hd' : h'.DictOf knd D (merged [] (more.take i)) := by
      obtain ⟨o, es, ep, ho, hr⟩ := hd
      exact ⟨o, es, ep, sb.extBut _ _ n2 ho, hr⟩
    have lz : (merged [] (more.take i)).length <= sizeLine := by
      have := merged_length_le [] (more.take i)
      rw [List.length_take] at this
      simp only [List.length_nil] at this
      omega
    refine wpAny_holding (wpAny_dictSet_pairs (hsz := lz) e2 hd' fun h'' hd'' sb'' => ?_)
    rw [<- merged_take_succ [] more i (k, v) ekv] at hd''
    have ls'' := ls'.extBut sb''.extBut n3.symm
    have hit'' := hit'.extBut sb''.extBut n2.symm
    refine wpAny_pure ⟨plainId_quiet plain_pairs_loop _, ih (i + 1) _ (by omega) hlt hit'' ls'' hd'' (fun j k' v' ej => ?_) fun h3 tk k3 d3 => ?_⟩
    · obtain ⟨t', ku', a1, a2, a3, a4, a5⟩ := hp j k' v' ej
      exact ⟨t', ku', a1, a2, (a3.extBut sb.extBut a4).extBut sb''.extBut a5, a4, a5⟩
    · exact hR h3 tk (fun b o b1 b2 e' => k3 b o b1 b2 (sb''.extBut _ _ b2 (sb.extBut _ _ b1 e'))) d3
end
section
variable {X : Cx}
theorem prs_vals {s : Shared} {pins : List (Addr × Obj)} {σ : St} {H : Hp} (I : Inv X pins σ H s) : ∀ {kvs : List (Key × V)} {ts : List Addr}, Prs H kvs ts -> ∃ more : List (Key × Value), KV kvs more /\ ∀ (j : Nat) k v, more[j]? = some (k, v) -> ∃ t ku, ts[j]? = some t /\ (mixKind X.prog X.w).is k ku = true /\ IsTup s.heap t #[ku, v]
  | [], _, .nil => ⟨[], .nil, fun j k v h => by simp at h⟩
  | (k, x) :: kvs, t :: ts, .cons h r => by
    obtain ⟨more, e1, e2⟩ := prs_vals I r
    obtain ⟨its, rv, tp, _⟩ := I.tuple (SqT.of h)
    obtain ⟨ku, vu, rfl⟩ : ∃ a b, its = [a, b] := by
      have := rv.length
      match its, this with
      | [a, b], _ => exact ⟨a, b, rfl⟩
    cases rv with
    | cons r1 r2 =>
      cases r2 with
      | cons r2 _ =>
        refine ⟨(k, vu) :: more, .cons ⟨rfl, r2⟩ e1, fun j k' v' hj => ?_⟩
        match j, hj with
        | 0, hj =>
          cases hj
          refine ⟨t, ku, rfl, ?_, tp⟩
          cases k with
          | inl i => obtain ⟨u, rfl⟩ := r1; exact mixKind_int _ _ i u
          | inr z => obtain ⟨u, rfl⟩ := r1; exact mixKind_str _ _ z u
        | j + 1, hj => exact e2 j k' v' hj
def rDictP : List V -> Hp -> VK -> Prop := fun xs H Q => ∃ (l : Addr) (kvs : List (Key × V)) (ts : List Addr), xs = [.ref l] /\ H l = some (.lst (ts.map V.ref)) /\ Prs H kvs ts /\ (kvs.map (·.1)).Nodup /\ ∀ l', H l' = none -> Q (.ref l') (upd H l' (.dK kvs))
theorem call_dict_pairs (hc : X.calm = true) : CallR X (.type "dict") rDictP := by
  intro pins s σ H xs us Q I r h
  obtain ⟨l, kvs, ts, rfl, hl, hp, hn, q⟩ := h
  obtain ⟨u, rfl, rx⟩ := vals1 r
  cases rx
  obtain ⟨its, n, rv, hol, hz⟩ := I.lst hl
  obtain ⟨more, km, hm⟩ := prs_vals I hp
  have hh : X.A.handled = none := I.ok.hd hc
  have lk : kvs.length = more.length := Paired.length km
  have lt : kvs.length = ts.length := Paired.length hp
  have li := rv.length
  rw [List.length_map] at li hz
  have keys : more.map (·.1) = kvs.map (·.1) := by
    have : ∀ {a : List (Key × V)} {b : List (Key × Value)}, KV a b -> b.map (·.1) = a.map (·.1) := fun {a b} z => by
      induction z with
      | nil => rfl
      | cons h _ ih => rw [List.map_cons, List.map_cons, h.1, ih]
    exact this km
  refine callType_codes (Q₁ := fun obj s₁ => obj = .ref s.heap.objs.size /\ s₁ = { s with heap := s.heap.push { cls := .type "dict", data := .dict #[] } }) PySem.F.kt_called_dict (PySem.F.kt_typeCall_dict_1 _) PySem.F.entry_dict_init (kt_code_dict_new _ ⟨rfl, rfl⟩) ?_
  rintro obj s₁ ⟨rfl, rfl⟩
  have new : (s.heap.push { cls := .type "dict", data := .dict #[] }).DictOf (mixKind X.prog X.w) s.heap.objs.size [] := Heap.DictOf.new s.heap
  have hol' : (s.heap.push { cls := .type "dict", data := .dict #[] }).get? l = some { cls := .type "list", data := .seq its.toArray n } := Heap.get?_push_of_some _ hol
  refine ⟨new.typeIs, PySem.F.args_dict_init_2 _ _, ?_⟩
  unfold Builtin.«dict.__init__»
  refine wpAny_bind ?_
  unfold Builtin.Dict.selfAndRest
  refine wpAny_bind (wpAny_notOrdered_dict new.typeIs ?_)
  show wpAny _ _ (pure (s.heap.objs.size, [Value.ref l])) _ _ _
  refine wpAny_pure ?_
  show wpAny _ _ (Builtin.Dict.updateFrom "dict.__init__" s.heap.objs.size (.ref l) [] .none) _ _ _
  unfold Builtin.Dict.updateFrom
  refine wpAny_bind (wpAny_typeOf ⟨_, hol', rfl⟩ ?_)
  rw [if_pos (by decide +kernel)]
  refine wpAny_bind (keys_none hol' hh fun h1 t1 k1 => ?_)
  rw [if_pos (show ((none : Option Value).isNone = true) from rfl)]
  have hol1 := k1 _ _ hol'
  have big := I.big
  obtain ⟨o, es, ep, ho, hr⟩ := id new
  have ho1 := k1 _ _ ho
  have ltD : s.heap.objs.size < h1.objs.size := Heap.lt_size ho1
  have ltl : l < s.heap.objs.size := Heap.lt_size hol
  refine wpAny_bind (wpAny_rule (wpAny_bind (wpAny_pyIter_list (items := its.toArray) ⟨_, hol1, rfl, n, rfl⟩ ?_)))
  refine wpAny_pure ⟨plainId_quiet plain_pairs_loop _, ?_⟩
  refine pairs_loop (A := X.A.in1) (knd := mixKind X.prog X.w) (ax := l) (more := more) (items := its.toArray) hh (Nat.ne_of_lt (Nat.lt_trans ltl ltD)) (Nat.ne_of_lt ltD) (Nat.ne_of_gt ltl) (by rw [List.size_toArray]; omega) (by omega) more.length 0 _ (by omega) (Nat.zero_le _) ⟨_, Heap.get?_push_size _ rfl, rfl, rfl⟩ ⟨_, Heap.get?_push_of_some _ hol1, rfl, n, rfl⟩ ⟨o, es, ep, Heap.get?_push_of_some _ ho1, hr⟩ (fun j k v ej => ?_) (fun h' tk kk dd => ?_)
  · obtain ⟨t, ku, a1, a2, ⟨ot, a3, a4⟩⟩ := hm j k v ej
    have ltt : t < s.heap.objs.size := Heap.lt_size a3
    obtain ⟨u, hu, ru⟩ := rv.get (i := j) (x := .ref t) (by rw [List.getElem?_map, a1]; rfl)
    cases ru
    exact ⟨t, ku, by simpa using hu, a2, ⟨ot, Heap.get?_push_of_some _ (k1 _ _ (Heap.get?_push_of_some _ a3)), a4⟩, Nat.ne_of_lt (Nat.lt_trans ltt ltD), Nat.ne_of_lt ltt⟩
  · rw [merged_nil_of_nodup more (by rw [keys]; exact hn)] at dd
    have hk : ∀ b o, s.heap.get? b = some o -> h'.get? b = some o := fun b o e => kk b o (Nat.ne_of_lt (Nat.lt_trans (Heap.lt_size e) ltD)) (Nat.ne_of_lt (Heap.lt_size e)) (Heap.get?_push_of_some _ (k1 _ _ (Heap.get?_push_of_some _ e)))
    refine ⟨rfl, .ref s.heap.objs.size, _, I.laid (t' := tk) hk (Nat.le_refl _) (show ObjOk X.prog X.w _ h' _ (.dK kvs) from ⟨by omega, ?_, more, km, dd⟩), rfl, q _ (I.hok.fresh (Nat.le_refl _))⟩
    exact beq_eq_false_iff_ne.mpr (fun e => by rw [e] at big; exact Nat.lt_irrefl _ big)
theorem jc_dict_pairs (hc : X.calm = true) : jCa X (.type "dict") rDictP := ⟨call_dict_pairs hc⟩
end
end L2
namespace L2
open PySem PySem.Spec PyProof.Rows
def Itr3 (lo st : Int) (n : Nat) : It := ⟨fun i _ => i < n, fun i H x H' => H' = H /\ x = .int (lo + i * st), fun i _ => n <= i⟩
theorem turn_range3 {P : Program} {w : World} {K : PySem.W.Frag} {tg : Expr} (it : Addr) (lo st : Int) (n : Nat) : Turn P w K tg (Itr3 lo st n) [it] it (fun i h => IsRangeIter h it (lo + (i : Nat) * st) ((n : Int) - (i : Nat)) st) where
  mem := by simp
  obj := fun i h st b hb => by
    have e : b = it := by simpa using hb
    subst e
    exact ⟨_, st, fun v z => by
      have z' : Data.fields _ = Data.cell v := z
      cases z'⟩
  keep := fun i h h' st k => k it (by simp) _ st
  item := by
    intro X hP hw hK hc i pins s σ H E I hf sti hg
    subst hP hw hK
    obtain ⟨f0, f1, f2, f3, f4, f5⟩ := hf it (by simp)
    have W := Walks.range (prog := X.prog) (w := X.w) (I.ok.hd hc) it lo st n
    refine W.item i s _ _ hg sti fun v h' tk hv st' kk => ?_
    obtain ⟨t, rfl⟩ := hv
    have I1 : Inv X pins σ H { s with heap := h', toks := tk } := I.turned (fun b o hb e => kk b o (by simpa using hb) e) f0 f1 f3 f4 f5
    exact ⟨_, rfl, go_of (s := { s with heap := h', toks := tk }) (n := "range_iterator") st' rfl rfl (by decide) ⟨.int (lo + i * st), H, I1, ⟨t, rfl⟩, ⟨rfl, rfl⟩, st', fun b hb => (hf b hb).1⟩⟩
  done := by
    intro X hP hw hK hc i pins s σ H E I hf sti hg
    subst hP hw hK
    obtain ⟨f0, f1, f2, f3, f4, f5⟩ := hf it (by simp)
    exact wpAny_pyNext_range_end (I.ok.hd hc) sti (by have : n <= i := hg; omega) fun h' eb => ⟨rfl, I.turned (t' := s.toks) (fun b o hb e => eb b o hb e) f0 f1 f3 f4 f5⟩
  self := fun _ _ _ _ _ st h => wpAny_pyIter_rangeiter st h
theorem small_three {a b c : Int} (ha : 0 <= a) (ha' : a < 2 ^ 40) (hb : 0 <= b) (hb' : b < 2 ^ 40) (hc : 0 < c) (hc' : c < 2 ^ 30) : Builtin.Range.small a b c = true := by
  unfold Builtin.Range.small Builtin.Range.rangeSize
  have q1 : (b - a - 1) / c <= 2 ^ 40 := by
    by_cases h : 0 <= b - a - 1
    · have := Int.ediv_le_self c h
      omega
    · have := Int.ediv_nonpos_of_nonpos_of_neg (show b - a - 1 <= 0 by omega) hc
      omega
  have q2 : a < b -> 0 <= (b - a - 1) / c := fun h => Int.ediv_nonneg (by omega) (by omega)
  simp only [Builtin.Range.rangeFitsLong, Bool.and_eq_true, Bool.or_eq_true, decide_eq_true_eq, beq_iff_eq, show c > 0 from hc, if_true]
  split
  · have := q2 (by assumption)
    omega
  · omega
section
variable {X : Cx} {tg : Expr}
def iRng3 (ta : TA) : TI := fun σ H R => ta σ H fun vs H1 => ∃ a b c : Int, vs = [.int a, .int b, .int c] /\ (0 <= a /\ a < 2 ^ 40 /\ 0 <= b /\ b < 2 ^ 40 /\ 0 < c /\ c < 2 ^ 30) /\ R (Itr3 a c (Builtin.Range.rangeSize a b c).toNat) H1
theorem pi_range3 {a b c : Expr} {ta : TA} {p pos : Pos} (hg : Gl X "range") (hm : X.mg "range" = none) (ha : PA X [a, b, c] ta) (hs : starEach [a, b, c] X.env = [(false, eval a X.env), (false, eval b X.env), (false, eval c X.env)] := by rfl) (hs2 : starEach [b, c] X.env = [(false, eval b X.env), (false, eval c X.env)] := by rfl) :
    PI X tg (.Call (.Name "range" p) [a, b, c] [] pos) (iRng3 ta) := by
  intro pins s σ H R I h
  refine Call_ (ld_blt I hg hm boot_range (PyProof.Rows.callWith_type1 (thn (ha pos pins s σ H _ I h) fun us s1 ⟨vs, H1, I1, r1, q1⟩ => ?_) (by rw [hs, hs2]) (by rw [hs2]; rfl)))
  obtain ⟨i, j, k, e, ⟨q1, q2, q3, q4, q5, q6⟩, q⟩ := q1
  subst e
  cases r1 with
  | cons r rr =>
    cases rr with
    | cons r' rr =>
      cases rr with
      | cons r'' rr =>
        cases rr
        obtain ⟨t, rfl⟩ := r
        obtain ⟨t', rfl⟩ := r'
        obtain ⟨t'', rfl⟩ := r''
        refine call_range_3 (by omega) ?_ (.inl (PyProof.noPylong_small (by omega)))
        refine wpAny_pyIter_range (IsRange.new ..) (small_three q1 q2 q3 q4 q5 q6) ?_
        have I2 : Inv X pins σ H1 { s1 with heap := s1.heap.push { cls := .type "range", data := .fields #[.int i t, .int j t', .int k t''] }, toks := s1.toks } := I1.kept fun b o e => Heap.get?_push_of_some _ e
        refine ⟨(s1.heap.push { cls := .type "range", data := .fields #[.int i t, .int j t', .int k t''] }).objs.size, [(s1.heap.push { cls := .type "range", data := .fields #[.int i t, .int j t', .int k t''] }).objs.size], _, _, H1, rfl, I2.kept (t' := s1.toks) fun b o e => Heap.get?_push_of_some _ e,
          turn_range3 _ i k (Builtin.Range.rangeSize i j k).toNat, ?_, fun b hb => ?_, q⟩
        · have e1 : i + ((0 : Nat) : Int) * k = i := by simp
          have p0 : 0 <= Builtin.Range.rangeSize i j k := by
            unfold Builtin.Range.rangeSize
            rw [if_pos q5]
            split
            · have := Int.ediv_nonneg (show 0 <= j - i - 1 by omega) (show 0 <= k by omega)
              omega
            · exact Int.le_refl _
          have e2 : (((Builtin.Range.rangeSize i j k).toNat : Nat) : Int) - ((0 : Nat) : Int) = Builtin.Range.rangeSize i j k := by omega
          show IsRangeIter _ _ (i + ((0 : Nat) : Int) * k) ((((Builtin.Range.rangeSize i j k).toNat : Nat) : Int) - ((0 : Nat) : Int)) k
          rw [e1, e2]
          exact Heap.get?_push_size _ rfl
        · have e : b = (s1.heap.push { cls := .type "range", data := .fields #[.int i t, .int j t', .int k t''] }).objs.size := by simpa using hb
          subst e
          exact I2.fpOk (Nat.le_refl _) (I2.hok.fresh (Nat.le_refl _))
theorem ji_range3 {a b c : Expr} {t : TA} {p pos : Pos} (hg : Gl X "range") (hm : X.mg "range" = none) (ha : jA X [a, b, c] t) (h1 : isStar a = false := by rfl) (h2 : isStar b = false := by rfl) (h3 : isStar c = false := by rfl) : jI X tg (.Call (.Name "range" p) [a, b, c] [] pos) (iRng3 t) :=
  ⟨pi_range3 hg hm ha.out (by rw [star_cons h1, star_cons h2, star_cons h3]; rfl) (by rw [star_cons h2, star_cons h3]; rfl)⟩
end
theorem for_range3 {lo st : Int} {n : Nat} {g : TG} {tb : TS} {D : Ends} {σ : St} {H : Hp} (Pv : Nat -> St -> Hp -> Prop) (h0 : Pv 0 σ H)
    (hs : ∀ i σ H, i < n -> Pv i σ H -> g (.int (lo + i * st)) σ H fun σ2 H2 => tb { D with nx := Pv (i + 1), ct := Pv (i + 1), bk := D.nx } σ2 H2) (hd : ∀ σ H, Pv n σ H -> D.nx σ H) :
    ∃ W : Nat -> Nat -> St -> Hp -> Prop, (∃ m, W 0 m σ H) /\ ∀ i m σ H, W i m σ H ->
      ((Itr3 lo st n).stop i H /\ D.nx σ H) \/ ((Itr3 lo st n).go i H /\ ∃ N : St -> Hp -> Prop, (∀ σ' H', N σ' H' -> ∃ m', m' < m /\ W (i + 1) m' σ' H') /\ ∀ x H', (Itr3 lo st n).yld i H x H' -> g x σ H' fun σ2 H2 => tb { D with nx := N, ct := N, bk := D.nx } σ2 H2) := by
  refine ⟨fun i m σ H => m = n - i /\ i <= n /\ Pv i σ H, ⟨n, by simp, Nat.zero_le _, h0⟩, ?_⟩
  rintro i m σ H ⟨rfl, hi, p⟩
  by_cases hlt : i < n
  · refine .inr ⟨hlt, Pv (i + 1), fun σ' H' p' => ⟨n - (i + 1), by omega, rfl, hlt, p'⟩, fun x H' y => ?_⟩
    obtain ⟨e, y⟩ := y
    subst e y
    exact hs i σ _ hlt p
  · have e : i = n := by omega
    subst e
    exact .inl ⟨Nat.le_refl _, hd σ H p⟩
end L2
namespace KD
open PySem L2 K11
section
variable {X : Cx}
theorem jc_max2 (hc : X.calm = true) : jCa X (.builtin "max") (fun xs H Q => ∃ i j, xs = [.int i, .int j] /\ Q (.int (if j > i then j else i)) H) := ⟨call_max2 hc⟩
end
theorem prs_of {H : Hp} {l : List (Str × Int)} {ts : List Addr} (h : Tps H l ts) : Prs H (ents l) ts := by
  induction h with
  | nil => exact .nil
  | cons a _ ih => exact .cons a ih
theorem nd_map {α β : Type} {f : α -> β} (hf : ∀ a b, f a = f b -> a = b) : ∀ {l : List α}, l.Nodup -> (l.map f).Nodup
  | [], _ => List.nodup_nil
  | a :: l, h => by
    have h' := List.nodup_cons.mp h
    refine List.nodup_cons.mpr ⟨fun z => ?_, nd_map hf h'.2⟩
    obtain ⟨b, hb, e⟩ := List.mem_map.mp z
    rw [hf _ _ e] at hb
    exact h'.1 hb
theorem ents_nodup {l : List (Str × Int)} (h : (l.map (·.1)).Nodup) : ((ents l).map (·.1)).Nodup := by
  have e : (ents l).map (·.1) = (l.map (·.1)).map (Sum.inr (α := Int)) := by
    unfold ents
    rw [List.map_map, List.map_map]
    rfl
  rw [e]
  exact nd_map (fun _ _ z => Sum.inr.inj z) h
theorem tag_nodup (st : Str) : ((tagL st).map (·.1)).Nodup := by
  have e : (tagL st).map (·.1) = (List.range 10).map (nm st) := by
    unfold tagL
    rw [List.map_map]
    rfl
  rw [e]
  exact nm_nodup List.nodup_range fun k h => by have := List.mem_range.mp h; omega
theorem cnt_nodup (st : Str) : ((cntL st).map (·.1)).Nodup := by
  have e : (cntL st).map (·.1) = ((List.range 10).map fun k => 5 + k).map (nm st) := by
    unfold cntL kpOf fixL
    rw [List.map_map, List.map_map, List.map_map]
    rfl
  rw [e]
  exact nm_nodup (by decide) fun k hk => by
    obtain ⟨i, hi, rfl⟩ := List.mem_map.mp hk
    have := List.mem_range.mp hi
    omega
theorem told_sound (o : Option Flt) : ∃ z u, toldV o = [.str z, u] /\ (z = "sound" ↔ o = none) := by
  match o with
  | none => exact ⟨_, _, rfl, by simp⟩
  | some (k, n) =>
    refine ⟨_, _, rfl, fun e => ?_, fun e => by cases e⟩
    exfalso
    unfold wdF at e
    split at e
    · revert e; decide +kernel
    · split at e
      · revert e; decide +kernel
      · revert e; decide +kernel
theorem Dfs.app {H : Hp} {a b : List Dg} {p q : List Addr} (h : Dfs H a p) (g : Dfs H b q) : Dfs H (a ++ b) (p ++ q) := by
  refine ⟨by rw [List.length_append, List.length_append, h.1, g.1], fun i d r h1 h2 => ?_⟩
  by_cases c : i < a.length
  · rw [List.getElem?_append_left c] at h1
    rw [List.getElem?_append_left (by rw [<- h.1]; exact c)] at h2
    exact h.2 i d r h1 h2
  · rw [List.getElem?_append_right (by omega)] at h1
    rw [List.getElem?_append_right (by rw [<- h.1]; omega), <- h.1] at h2
    exact g.2 _ d r h1 h2
theorem Dfs.take {H : Hp} {ds : List Dg} {rs : List Addr} (h : Dfs H ds rs) (a : Nat) : Dfs H (ds.take a) (rs.take a) := by
  refine ⟨by rw [List.length_take, List.length_take, h.1], fun i d q h1 h2 => ?_⟩
  rw [List.getElem?_take] at h1 h2
  split at h1
  · rename_i hi
    rw [if_pos hi] at h2
    exact h.2 i d q h1 h2
  · cases h1
theorem Dfs.drop {H : Hp} {ds : List Dg} {rs : List Addr} (h : Dfs H ds rs) (a : Nat) : Dfs H (ds.drop a) (rs.drop a) := by
  refine ⟨by rw [List.length_drop, List.length_drop, h.1], fun i d q h1 h2 => ?_⟩
  rw [List.getElem?_drop] at h1 h2
  exact h.2 _ d q h1 h2
theorem Dfs.one {H : Hp} {d : Dg} {r : Addr} (h : IsDg H d r) : Dfs H [d] [r] := ⟨rfl, fun i d' q h1 h2 => by
  match i, h1, h2 with
  | 0, h1, h2 => cases h1; cases h2; exact h
  | i + 1, h1, _ => simp at h1⟩
theorem cut_drop {α : Type} {f : α -> V} {s : List α} {m : Int} (h : 0 <= m) : cutV (s.map f) (some m) none = (s.drop m.toNat).map f := by
  unfold cutV
  have c1 : HT.sIx (s.map f).length 0 (some m) = min m.toNat (s.map f).length := by
    show (if m < 0 then (m + ((s.map f).length : Nat)).toNat else min m.toNat (s.map f).length) = _
    rw [if_neg (by omega)]
  have c2 : HT.sIx (s.map f).length (s.map f).length none = (s.map f).length := rfl
  rw [c1, c2, <- List.map_drop, <- List.map_take]
  congr 1
  rw [List.length_map]
  by_cases z : m.toNat <= s.length
  · rw [Nat.min_eq_left z, List.take_of_length_le (by rw [List.length_drop]; omega)]
  · rw [Nat.min_eq_right (by omega), List.drop_eq_nil_of_le (Nat.le_refl _), List.drop_eq_nil_of_le (by omega), List.take_nil]
theorem cut_len {α : Type} {f : α -> V} {s : List α} {lo hi : Int} {n : Nat} (h0 : 0 <= lo) (h1 : 0 <= hi) (h2 : hi <= lo + (n : Nat)) : ∃ l : List α, cutV (s.map f) (some lo) (some hi) = l.map f /\ l.length <= n := by
  refine ⟨(s.drop (HT.sIx (s.map f).length 0 (some lo))).take (HT.sIx (s.map f).length (s.map f).length (some hi) - HT.sIx (s.map f).length 0 (some lo)), ?_, ?_⟩
  · unfold cutV
    rw [<- List.map_drop, <- List.map_take]
  · have c1 : HT.sIx (s.map f).length 0 (some lo) = min lo.toNat (s.map f).length := by
      show (if lo < 0 then (lo + ((s.map f).length : Nat)).toNat else min lo.toNat (s.map f).length) = _
      rw [if_neg (by omega)]
    have c2 : HT.sIx (s.map f).length (s.map f).length (some hi) = min hi.toNat (s.map f).length := by
      show (if hi < 0 then (hi + ((s.map f).length : Nat)).toNat else min hi.toNat (s.map f).length) = _
      rw [if_neg (by omega)]
    rw [c1, c2, List.length_take, List.length_drop, List.length_map]
    omega
section
variable {P : Program} {w : World} {K : PySem.W.Frag} {mg : Str -> Option Value} {base : Heap} {f R C : Addr} {fd : FuncData} {c : Xs}
theorem scMisfit : FnScope ["self", "name"] ["self", "name"] (defScope iMisfit) := ⟨rfl, rfl, rfl, by decide +kernel, rfl, by decide +kernel, by decide +kernel⟩
theorem ok_misfit {fi : Addr} (F : Fun K "__init__" "Misfit.__init__" iMisfit f fd) (xw : PySem.W.takerIn K C "name" = some none) (M : XCl K C fi) (B : XBase K R) (mR : mg "ReuseError" = some (.ref R)) : FnOk P w K mg base CX0 1 f fd ["self", "name"] (spX C "name") := by
  refine F.by scMisfit (fun vs H Q E h => ?_) (fun cdv A' outer s H vs Q E hr h => ?_)
  · obtain ⟨e, v, rfl, _⟩ := h
    rfl
  obtain ⟨e, v, rfl, hX, q⟩ := h
  refine ⟨_, jss_cons (js_expr ⟨pe_xinit M B rfl mR (ja_c (jv 0) (ja_c (jv 1) ja_nil)).out⟩) (jss_one ⟨ps_xnew M (jv 0).out (jv 1).out⟩), ?_⟩
  refine ⟨_, rfl, _, rfl, e, [v], none, rfl, by show 1 <= sizeLine; decide, hX, ?_⟩
  exact ⟨_, rfl, _, rfl, e, rfl, hX, xw, fun d hd ne => q d hd ne⟩
theorem scLaw : FnScope ["_law_script", "_law_first", "_law_stem_here", "_law_pool", "_law_tags", "_law_defs", "_law_counts", "_law_some", "_law_due", "_law_long", "_law_ways", "_law_at", "_law_said", "_law_params", "_law_rows_here", "_law_last", "_law_program"] ["_law_script"] (defScope sLaw) := ⟨rfl, rfl, rfl, by decide +kernel, rfl, by decide +kernel, by decide +kernel⟩
theorem ndLaw1 : (["_law_script", "_law_first", "_law_stem_here", "_law_pool", "_law_tags", "_law_defs", "_law_counts", "_law_some", "_law_due", "_law_long", "_law_ways", "_law_at", "_law_said", "_law_params", "_law_rows_here", "_law_last", "_law_program", "_law_k"] : List Str).Nodup := by decide +kernel
theorem ndLaw2 : (["_law_script", "_law_first", "_law_stem_here", "_law_pool", "_law_tags", "_law_defs", "_law_counts", "_law_some", "_law_due", "_law_long", "_law_ways", "_law_at", "_law_said", "_law_params", "_law_rows_here", "_law_last", "_law_program", "_law_name_here", "_law_body_here"] : List Str).Nodup := by decide +kernel
theorem ok_law (F : Fun K "law" "law" sLaw f fd) (GC : Ca P w K mg base CX0 1 "_law_cell_at" ["_law_script", "_law_k"] (spCellAt K)) (GS : Ca P w K mg base CX0 1 "_law_stem" ["_law_cell"] spStem) (GN : Ca P w K mg base CX0 1 "_law_name" ["_law_stem_here", "_law_k"] spNm)
    (GR : Ca P w K mg base CX0 3 "_law_rows" ["_law_pool", "_law_cells", "_law_ways"] (spRows K)) (GB : Ca P w K mg base CX0 1 "_law_body" ["_law_rows_here", "_law_last"] spBody) (GD : Ca P w K mg base CX0 2 "_law_rows_due" ["_law_said", "_law_tags", "_law_defs"] spRowsDue) (GM : Ca P w K mg base CX0 10 "_law_meets" ["_law_program", "_law_due"] spMeets)
    (m_range : mg "range" = none) (m_tuple : mg "tuple" = none) (m_len : mg "len" = none) (m_min : mg "min" = none) (m_max : mg "max" = none) (m_dict : mg "dict" = none) : FnOk P w K mg base CX0 11 f fd ["_law_script"] (spTop K) := by
  refine F.by scLaw (fun vs H Q E h => ?_) (fun cdv A outer s H vs Q E hr h => ?_)
  · obtain ⟨a, ns, rfl, _⟩ := h
    rfl
  obtain ⟨a, ns, rfl, hS, h63, q⟩ := h
  have r1 : Room 1 _ := hr.mono (by decide)
  have r2 : Room 2 _ := hr.mono (by decide)
  have r3 : Room 3 _ := hr.mono (by decide)
  refine ⟨_,
    (jss_cons (js_set (i := 1) scLaw.nd rfl (Or.inl rfl) (je_ca GC r1 rfl pass0 (ja_c (jv 0) (ja_c je_int ja_nil))))
    (jss_cons (js_set (i := 2) scLaw.nd rfl (Or.inr rfl) (je_ca GS r1 rfl pass0 (ja_c (je_op jo_add (je_op jo_fdiv (jv 1) je_int) (je_op jo_mul je_int (je_ca GC r1 rfl pass0 (ja_c (jv 0) (ja_c je_int ja_nil))))) ja_nil)))
    (jss_cons (js_set (i := 3) scLaw.nd rfl (Or.inr rfl) (je_comp ["_law_k"] rfl (ji_range1 rfl m_range (ja_c je_int ja_nil)) (fun _ _ _ _ _ => (jg_name (i := 17) ndLaw1 rfl (Or.inl rfl))) (fun _ _ _ _ _ => jts_nil) (fun _ _ _ _ _ => (je_ca GN r1 rfl pass0 (ja_c (jv 2) (ja_c (jv 17) ja_nil))))))
    (jss_cons (js_comp ["_law_k"] (i := 4) scLaw.nd rfl (Or.inl rfl) rfl (ji_range1 rfl m_range (ja_c je_int ja_nil)) (fun _ _ _ _ _ => (jg_name (i := 17) ndLaw1 rfl (Or.inl rfl))) (fun _ _ _ _ _ => jts_nil) (fun _ _ _ _ _ => (je_tup (ja_c (je_ix (jx_listK K) (jv 3) (jv 17) (fun _ _ => rfl)) (ja_c (je_op jo_mod (je_op jo_add (je_op jo_mul je_int (jv 17)) je_int) je_int) ja_nil)))))
    (jss_cons (js_comp ["_law_k"] (i := 5) scLaw.nd rfl (Or.inl rfl) rfl (ji_range1 rfl m_range (ja_c je_int ja_nil)) (fun _ _ _ _ _ => (jg_name (i := 17) ndLaw1 rfl (Or.inl rfl))) (fun _ _ _ _ _ => jts_nil) (fun _ _ _ _ _ => (je_tup (ja_c (je_ix (jx_listK K) (jv 3) (je_op jo_add je_int (jv 17)) (fun _ _ => rfl)) (ja_c (je_fnTy (jc_tuple_ofK K) rfl m_tuple PyProof.Rows.boot_tuple (ja_c (je_slice (jl_listK K) (jv 3) jo_none (jo_some (jv 17))) ja_nil)) (ja_c (je_tup (ja_c je_str (ja_c (je_ix (jx_listK K) (jv 3) je_int (fun _ _ => rfl)) (ja_c (je_tup (ja_c je_str (ja_c (jv 17) ja_nil))) (ja_c (je_tup (ja_c je_str (ja_c (je_ix (jx_listK K) (jv 3) je_int (fun _ _ => rfl)) ja_nil))) ja_nil))))) ja_nil))))))
    (jss_cons (js_compS [13] ["_law_name_here", "_law_body_here"] (i := 6) scLaw.nd rfl (Or.inl rfl) rfl (ji_list (jv 5)) (fun _ _ _ _ _ => (jg_tupK K (n := 3) rfl (jgs_cons (jg_name (i := 17) ndLaw2 rfl (Or.inl rfl)) (jgs_cons (jg_name (i := 13) ndLaw2 rfl (Or.inl rfl)) (jgs_cons (jg_name (i := 18) ndLaw2 rfl (Or.inl rfl)) jgs_nil))))) (fun _ _ _ _ _ => jts_nil) (fun _ _ _ _ _ => (je_tup (ja_c (jv 17) (ja_c (je_fnB (jc_len_seqK K) rfl m_len PySem.boot_len (ja_c (jv 13) ja_nil)) ja_nil)))))
    (jss_cons (js_set (i := 7) scLaw.nd rfl (Or.inl rfl) (je_lst ja_nil))
    (jss_cons (js_set (i := 8) scLaw.nd rfl (Or.inl rfl) (je_tup (ja_c je_str (ja_c je_bl ja_nil))))
    (jss_cons (js_set (i := 9) scLaw.nd rfl (Or.inl rfl) je_int)
    (jss_cons (js_set (i := 10) scLaw.nd rfl (Or.inl rfl) je_int)
    (jss_cons (js_if (jt_cmpR jo_eq (je_op jo_mod (je_op jo_fdiv (jv 1) je_int) je_int) je_int (nomark _))
      (jss_cons (js_set (i := 9) scLaw.nd rfl (Or.inl rfl) je_int)
      (jss_one (js_set (i := 10) scLaw.nd rfl (Or.inl rfl) je_int))) jss_nil)
    (jss_cons (js_for PassesOwn.never rfl (ji_range3 rfl m_range (ja_c je_int (ja_c (je_fnB (jc_min2 rfl) rfl m_min PyProof.Rows.boot_min (ja_c je_int (ja_c (je_fnB (jc_max2 rfl) rfl m_max PyProof.Rows.boot_max (ja_c je_int (ja_c (je_fnB jc_len_seq rfl m_len PySem.boot_len (ja_c (jv 0) ja_nil)) ja_nil))) ja_nil))) (ja_c (jv 9) ja_nil)))) (jg_name (i := 11) scLaw.nd rfl (Or.inl rfl))
      (jss_cons (js_set (i := 12) scLaw.nd rfl (Or.inl rfl) (je_ca GR r3 rfl pass0 (ja_c (jv 3) (ja_c (je_slice jl_list (jv 0) (jo_some (jv 11)) (jo_some (je_fnB (jc_min2 rfl) rfl m_min PyProof.Rows.boot_min (ja_c je_int (ja_c (je_op jo_add (jv 11) (jv 9)) ja_nil))))) (ja_c (jv 10) ja_nil)))))
      (jss_cons (js_asg (jv 12) (jg_tup rfl (jgs_cons (jg_name (i := 13) scLaw.nd rfl (Or.inl rfl)) (jgs_cons (jg_name (i := 14) scLaw.nd rfl (Or.inl rfl)) (jgs_cons (jg_name (i := 15) scLaw.nd rfl (Or.inl rfl)) jgs_nil)))))
      (jss_cons (js_expr (je_bm PySem.F.plainAttrs_list PySem.F.slot_list_append PySem.F.type_list_append jm_append (jv 7) (ja_c (je_tup (ja_c (je_ix jx_list (jv 3) (je_op jo_add je_int (je_op jo_fdiv (jv 11) je_int)) (fun _ _ => rfl)) (ja_c (jv 13) (ja_c (je_ca GB r1 rfl pass0 (ja_c (jv 14) (ja_c (jv 15) ja_nil))) ja_nil)))) ja_nil)))
      (jss_one (js_if (jt_cmpR jo_eq (je_ix jx_tup (jv 8) je_int (fun _ _ => rfl)) je_str (nomark _))
        (jss_one (js_set (i := 8) scLaw.nd rfl (Or.inl rfl) (je_ca GD r2 rfl pass0 (ja_c (jv 12) (ja_c (je_fnTy (jc_dict_pairs rfl) rfl m_dict PyProof.Rows.boot_dict (ja_c (jv 4) ja_nil)) (ja_c (je_fnTy (jc_dict_pairs rfl) rfl m_dict PyProof.Rows.boot_dict (ja_c (jv 6) ja_nil)) ja_nil)))))) jss_nil))))))
    (jss_cons (js_set (i := 11) scLaw.nd rfl (Or.inl rfl) (je_op jo_mod (je_op jo_fdiv (jv 1) je_int) je_int))
    (jss_cons (js_set (i := 16) scLaw.nd rfl (Or.inl rfl) (je_tup (ja_c (je_tup (ja_c (je_fnTy jc_tuple_of rfl m_tuple PyProof.Rows.boot_tuple (ja_c (jv 4) ja_nil)) ja_nil)) (ja_c (je_fnTy jc_tuple_of rfl m_tuple PyProof.Rows.boot_tuple (ja_c (je_op jo_cat (je_op jo_cat (je_slice jl_list (jv 5) jo_none (jo_some (jv 11))) (jv 7)) (je_slice jl_list (jv 5) (jo_some (jv 11)) jo_none)) ja_nil)) ja_nil))))
    (jss_one (js_ret (je_and (je_ca GM hr rfl pass0 (ja_c (jv 16) (ja_c (jv 8) ja_nil))) (je_one (je_ca GM hr rfl pass0 (ja_c (jv 16) (ja_c (jv 8) ja_nil))))))))))))))))))))), ?_⟩
  have sl := line0
  refine ⟨_, rfl, a, ns, 0, rfl, hS, fun c0 => ?_⟩
  refine ⟨_, rfl, _, _, rfl, rfl, ⟨by decide, by decide⟩, _, rfl, a, ns, 1, rfl, hS, fun c1 => ⟨_, _, rfl, rfl, .inl ⟨by decide, by decide⟩, _, _, rfl, rfl, _, rfl, fun st hst => ?_⟩⟩
  refine ⟨_, rfl, by decide, by decide, lc_range (n := 60) (fun j τ ys H' => H' = H /\ (∃ v, τ = [some (.ref a), some (.int c0), some (.str st), none, none, none, none, none, none, none, none, none, none, none, none, none, none, v]) /\ ys = (List.range j).map fun k => V.str (nm st k)) ⟨rfl, ⟨none, rfl⟩, rfl⟩ ?_ ?_⟩
  · rintro j τ ys H' hj ⟨rfl, ⟨v, rfl⟩, rfl⟩
    refine ⟨_, rfl, _, rfl, st, j, (by rw [Int.zero_add]; rfl), hst, by omega, ?_, rfl, ⟨_, rfl⟩, ?_⟩
    · rw [List.length_map, List.length_range]; omega
    · rw [List.range_succ, List.map_append]
      rfl
  rintro τ ys H' ⟨rfl, _, rfl⟩ pp hpp
  have ep : ((List.range 60).map fun k => V.str (nm st k)) = (poolS st).map V.str := by unfold poolS; rw [List.map_map]; rfl
  rw [ep]
  have s1 := same_new hpp (.lst ((poolS st).map V.str))
  have hp1 := upd_same (H := H') (a := pp) (o := .lst ((poolS st).map V.str))
  dsimp only [List.set]
  generalize upd H' pp (.lst ((poolS st).map V.str)) = H1 at *
  have atp : ∀ {k : Nat}, k < 60 -> ((poolS st).map V.str)[k]? = some (.str (nm st k)) := fun h => by rw [List.getElem?_map, pool_at h]; rfl
  refine ⟨_, rfl, by decide, by decide, lc_range (n := 10) (fun j τ ys H' => Same H1 H' /\ (∃ v, τ = [some (.ref a), some (.int c0), some (.str st), some (.ref pp), none, none, none, none, none, none, none, none, none, none, none, none, none, v]) /\ ∃ ts : List Addr, ys = ts.map V.ref /\ ts.length = j /\ Tps H' ((List.range j).map fun k => (nm st k, (7 * (k : Int) + 3) % 10)) ts) ⟨Same.refl _, ⟨none, rfl⟩, [], rfl, rfl, .nil⟩ ?_ ?_⟩
  · rintro j τ ys H2 hj ⟨s2, ⟨v, rfl⟩, ts, rfl, lt, hT⟩
    refine ⟨_, rfl, _, rfl, pp, _, _, _, rfl, rfl, SqL.of (s2 _ _ hp1), (by rw [Int.zero_add]; exact atI_nat (atp (by omega))), _, rfl, _, _, rfl, rfl, .inl ⟨by decide, by decide⟩, _, _, rfl, rfl, _, _, rfl, rfl, (by show (0 : Int) < _; decide), by show 2 <= sizeLine; decide, fun t ht => ⟨?_, s2.new ht, ⟨_, rfl⟩, ts ++ [t], ?_, ?_, ?_⟩⟩
    · rw [List.length_map]; omega
    · rw [List.map_append]; rfl
    · rw [List.length_append, lt]; rfl
    · rw [List.range_succ, List.map_append]
      exact (hT.keep (.of (same_new ht _))).app (.cons (by rw [upd_same, Int.zero_add]) .nil)
  rintro τ ys H2 ⟨s2, _, tt, rfl, ltt, hT⟩ pt hpt
  have s3 := s2.new (o := .lst (tt.map V.ref)) hpt
  have hp3 := s3 _ _ hp1
  have ht3 := upd_same (H := H2) (a := pt) (o := .lst (tt.map V.ref))
  have hT3 : Tps _ (tagL st) tt := hT.keep (.of (same_new hpt (.lst (tt.map V.ref))))
  dsimp only [List.set]
  generalize upd H2 pt (.lst (tt.map V.ref)) = H3 at *
  refine ⟨_, rfl, by decide, by decide, lc_range (n := 10) (fun j τ ys H' => Same H3 H' /\ (∃ v, τ = [some (.ref a), some (.int c0), some (.str st), some (.ref pp), some (.ref pt), none, none, none, none, none, none, none, none, none, none, none, none, v]) /\ ∃ ts : List Addr, ys = ts.map V.ref /\ ts.length = j /\ Dfs H' ((List.range j).map (fixD st)) ts) ⟨Same.refl _, ⟨none, rfl⟩, [], rfl, rfl, ⟨rfl, fun i d q h => by simp at h⟩⟩ ?_ ?_⟩
  · rintro j τ ys H4 hj ⟨s4, ⟨v, rfl⟩, ts, rfl, lt, hD⟩
    have hp4 := s4 _ _ hp3
    have ec : cutV ((poolS st).map V.str) none (some (0 + (j : Int))) = ((List.range j).map (nm st)).map V.str := by
      rw [cut_take (by omega), show (0 + (j : Int)).toNat = j by omega, pool_take (by omega)]
    refine ⟨_, rfl, _, rfl, _, _, rfl, rfl, pp, _, _, _, rfl, rfl, SqL.of hp4, (by rw [show (5 : Int) + (0 + (j : Int)) = ((5 + j : Nat) : Int) by omega]; exact atI_nat (atp (by omega))), _, rfl, _, rfl, _, rfl, pp, _, rfl, SqL.of hp4, fun l1 hl1 => ⟨l1, _, rfl, .inl ⟨SqL.of upd_same, fun t1 ht1 => ?_⟩⟩⟩
    rw [ec] at ht1 ⊢
    have s5 := (same_new hl1 (.lst (((List.range j).map (nm st)).map V.str))).new (o := .tup (((List.range j).map (nm st)).map V.str)) ht1
    have ht5 := upd_same (H := upd H4 l1 (.lst (((List.range j).map (nm st)).map V.str))) (a := t1) (o := .tup (((List.range j).map (nm st)).map V.str))
    have hp5 := s5 _ _ hp4
    have hD5 := hD.keep (.of s5)
    generalize upd (upd H4 l1 (.lst (((List.range j).map (nm st)).map V.str))) t1 (.tup (((List.range j).map (nm st)).map V.str)) = H5 at *
    refine ⟨_, rfl, pp, _, _, _, rfl, rfl, SqL.of hp5, atI_nat (j := 40) (atp (by decide)), _, rfl, by show 2 <= sizeLine; decide, fun t2 ht2 => ?_⟩
    refine ⟨_, rfl, pp, _, _, _, rfl, rfl, SqL.of (old ht2 hp5), atI_nat (j := 40) (atp (by decide)), by show 2 <= sizeLine; decide, fun t3 ht3 => ⟨by show 4 <= sizeLine; decide, fun t4 ht4 => ⟨by show 3 <= sizeLine; decide, fun t5 ht5' => ?_⟩⟩⟩
    rw [Int.zero_add]
    have e2 := upd_same (H := H5) (a := t2) (o := .tup [.str "num", .int (j : Int)])
    rw [Int.zero_add] at ht3 ht4 ht5'
    have q2 := same_new (H := H5) ht2 (.tup [.str "num", .int (j : Int)])
    generalize upd H5 t2 (.tup [.str "num", .int (j : Int)]) = H6 at *
    have q3 := q2.new (o := .tup [.str "give", .str (nm st 40)]) ht3
    have e3 := upd_same (H := H6) (a := t3) (o := .tup [.str "give", .str (nm st 40)])
    have e23 := old (o := .tup [.str "give", .str (nm st 40)]) ht3 e2
    generalize upd H6 t3 (.tup [.str "give", .str (nm st 40)]) = H7 at *
    have q5 := (q3.new (o := .tup [.str "let", .str (nm st 40), .ref t2, .ref t3]) ht4).new (o := .tup [.str (nm st (5 + j)), .ref t1, .ref t4]) ht5'
    refine ⟨?_, s4.trans (s5.trans q5), ⟨_, rfl⟩, ts ++ [t5], ?_, ?_, ?_⟩
    · rw [List.length_map]; omega
    · rw [List.map_append]; rfl
    · rw [List.length_append, lt]; rfl
    · rw [List.range_succ, List.map_append]
      exact (hD5.keep (.of q5)).app (Dfs.one ⟨t1, t4, upd_same, q5 _ _ ht5, .lt (old ht5' upd_same) (.num (old ht5' (old ht4 e23))) (.give (old ht5' (old ht4 e3)))⟩)
  rintro τ ys H4 ⟨s4, _, rs, rfl, lrs, hD⟩ pd hpd
  have s5 := s4.new (o := .lst (rs.map V.ref)) hpd
  have hp5 := s5 _ _ hp3
  have ht5 := s5 _ _ ht3
  have hT5 := hT3.keep (.of s5)
  have hd5 := upd_same (H := H4) (a := pd) (o := .lst (rs.map V.ref))
  have hD5 : Dfs _ (fixL st) rs := hD.keep (.of (same_new hpd (.lst (rs.map V.ref))))
  dsimp only [List.set]
  have S5 := (s1.trans s3).trans s5
  generalize upd H4 pd (.lst (rs.map V.ref)) = H5 at *
  refine ⟨_, rfl, _, rfl, ⟨_, SqL.of hd5⟩, lc_list (xs := rs.map V.ref) (fun j τ ys H' => Same H5 H' /\ (∃ u v w, τ = [some (.ref a), some (.int c0), some (.str st), some (.ref pp), some (.ref pt), some (.ref pd), none, none, none, none, none, none, none, u, none, none, none, v, w]) /\ ∃ ts : List Addr, ys = ts.map V.ref /\ ts.length = j /\ Tps H' (kpOf ((fixL st).take j)) ts) ⟨Same.refl _, ⟨none, none, none, rfl⟩, [], rfl, rfl, .nil⟩ (fun j τ ys H' _ h => SqL.of (h.1 _ _ hd5)) ?_ ?_⟩
  · rintro j x τ ys H6 hx ⟨s6, ⟨u, v, w', rfl⟩, ts, rfl, lt, hC⟩
    rw [List.getElem?_map] at hx
    obtain ⟨r, hr', rfl⟩ := Option.map_eq_some_iff.mp hx
    obtain ⟨dg, hdg, pq, pb, e4, e5, e6⟩ := hD5.get hr'
    have hj : j < rs.length := (List.getElem?_eq_some_iff.mp hr').1
    refine ⟨_, _, rfl, SqT.of (s6 _ _ e4), rfl, _, _, rfl, _, _, rfl, _, _, rfl, rfl, _, rfl, _, rfl, pq, _, rfl, .inr (SqT.of (s6 _ _ e5)), by show 2 <= sizeLine; decide, fun t ht => ⟨?_, s6.new ht, ⟨_, _, _, rfl⟩, ts ++ [t], ?_, ?_, ?_⟩⟩
    · rw [List.length_map]; omega
    · rw [List.map_append]; rfl
    · rw [List.length_append, lt]; rfl
    · unfold kpOf
      rw [<- take_map (fun d : Dg => (d.n, ((d.ps.length : Nat) : Int))) hdg]
      exact (hC.keep (.of (same_new ht _))).app (.cons (by rw [upd_same, List.length_map]) .nil)
  rintro τ ys H6 ⟨s6, _, ct, rfl, lct, hC⟩ pc hpc
  rw [List.length_map, lrs, show (10 : Nat) = (fixL st).length by unfold fixL; rw [List.length_map, List.length_range], List.take_of_length_le (Nat.le_refl _)] at hC
  have s7 := s6.new (o := .lst (ct.map V.ref)) hpc
  have hp7 := s7 _ _ hp5
  have ht7 := s7 _ _ ht5
  have hd7 := s7 _ _ hd5
  have hT7 := hT5.keep (.of s7)
  have hD7 := hD5.keep (.of s7)
  have hc7 := upd_same (H := H6) (a := pc) (o := .lst (ct.map V.ref))
  have hC7 : Tps _ (cntL st) ct := hC.keep (.of (same_new hpc (.lst (ct.map V.ref))))
  dsimp only [List.set]
  have S7 := S5.trans s7
  have hS7 := S7.seq hS
  generalize upd H6 pc (.lst (ct.map V.ref)) = H7 at *
  refine ⟨by show 0 <= sizeLine; decide, fun sm hsm => ⟨by show 2 <= sizeLine; decide, fun du0 hdu0 => ?_⟩⟩
  have s8 := (same_new hsm (.lst [])).new (o := .tup [.str "sound", .bl true]) hdu0
  have hsm8 : upd (upd H7 sm (.lst [])) du0 (.tup [.str "sound", .bl true]) sm = some (.lst []) := old hdu0 upd_same
  have hdu8 := upd_same (H := upd H7 sm (.lst [])) (a := du0) (o := .tup [.str "sound", .bl true])
  dsimp only [List.set]
  generalize upd (upd H7 sm (.lst [])) du0 (.tup [.str "sound", .bl true]) = H8 at *
  suffices rest : ∀ (lg wy : Nat), (lg = 16 /\ wy = 6 \/ lg = 45 /\ wy = 2) -> (tSeq _ _ : TS) _ [some (.ref a), some (.int c0), some (.str st), some (.ref pp), some (.ref pt), some (.ref pd), some (.ref pc), some (.ref sm), some (.ref du0), some (.int (lg : Nat)), some (.int (wy : Nat)), none, none, none, none, none, none] H8 by
    refine ⟨_, rfl, _, _, rfl, rfl, ⟨by decide, by decide⟩, _, _, rfl, rfl, (by show (0 : Int) < _; decide), rfl, _, rfl, ite2 (fun _ => rest 45 2 (.inr ⟨rfl, rfl⟩)) (fun _ => nxt (rest 16 6 (.inl ⟨rfl, rfl⟩)))⟩
  intro lg wy hlw
  have lg16 : 16 <= lg /\ lg <= 45 := by omega
  have wy6 : 0 < wy /\ wy <= 6 := by omega
  refine ⟨_, rfl, a, _, rfl, .inl (s8.seq hS7), _, _, rfl, _, _, rfl, _, rfl, 0, _, ((lg : Nat) : Int), rfl, ?_⟩
  obtain ⟨bv, ebv, b0, b80⟩ : ∃ bv : Int, (if (if (((ns.map V.int).length : Nat) : Int) > 1 then (((ns.map V.int).length : Nat) : Int) else 1) < 80 then (if (((ns.map V.int).length : Nat) : Int) > 1 then (((ns.map V.int).length : Nat) : Int) else 1) else 80) = bv /\ 0 < bv /\ bv <= 80 := by
    refine ⟨_, rfl, ?_, ?_⟩
    · split
      · split <;> omega
      · decide
    · split
      · omega
      · decide
  rw [ebv]
  have inn : ∀ i : Nat, i < (Builtin.Range.rangeSize 0 bv ((lg : Nat) : Int)).toNat -> (i : Int) * ((lg : Nat) : Int) < bv := by
    intro i hi
    unfold Builtin.Range.rangeSize at hi
    rw [if_pos (by omega), if_pos b0] at hi
    have h1 : (i : Int) <= (bv - 0 - 1) / ((lg : Nat) : Int) := by
      have := Int.ediv_nonneg (show 0 <= bv - 0 - 1 by omega) (show 0 <= ((lg : Nat) : Int) by omega)
      omega
    have h2 := (Int.le_ediv_iff_mul_le (show 0 < ((lg : Nat) : Int) by omega)).mp h1
    omega
  refine ⟨⟨by omega, by omega, by omega, by omega, by omega, by omega⟩, for_range3 (fun i σ H' => ∃ (ds : List Dg) (rs' : List Addr) (du : Addr) (x11 x12 x13 x14 x15 : Option V), σ = [some (.ref a), some (.int c0), some (.str st), some (.ref pp), some (.ref pt), some (.ref pd), some (.ref pc), some (.ref sm), some (.ref du), some (.int (lg : Nat)), some (.int (wy : Nat)), x11, x12, x13, x14, x15, none] /\ Same H7 H' /\ H' sm = some (.lst (rs'.map V.ref)) /\ Dfs H' ds rs' /\ Strs st ((List.range i).map fun k => 50 + k * lg / 16) ds /\ H' du = some (.tup (toldV (ds.findSome? (dueS st)))) /\ ds.length = i)
    ⟨[], [], du0, none, none, none, none, none, rfl, s8, hsm8, ⟨rfl, fun i d q h => by simp at h⟩, .nil, hdu8, rfl⟩ ?_ ?_⟩
  · rintro i σ H9 hi ⟨ds, rs', du, x11, x12, x13, x14, x15, rfl, s9, hsm9, hD9, hSt, hdu9, lds⟩
    have hat := inn i hi
    have hp9 := s9 _ _ hp7
    have eat : (0 : Int) + (i : Int) * ((lg : Nat) : Int) = ((i * lg : Nat) : Int) := by rw [Int.zero_add, Int.natCast_mul]
    rw [eat]
    have hat' : i * lg < 80 := by
      have : ((i * lg : Nat) : Int) < bv := by rw [Int.natCast_mul]; exact hat
      omega
    obtain ⟨at_, eatt⟩ : ∃ at_ : Nat, at_ = i * lg := ⟨_, rfl⟩
    rw [<- eatt] at hat' ⊢
    obtain ⟨cells, ecl, lcl⟩ := cut_len (f := V.int) (s := ns) (lo := (at_ : Int)) (hi := if ((at_ : Int) + ((lg : Nat) : Int)) < 80 then ((at_ : Int) + ((lg : Nat) : Int)) else 80) (n := 45) (by omega) (by split <;> omega) (by split <;> omega)
    refine ⟨_, rfl, _, rfl, _, rfl, _, rfl, _, rfl, _, rfl, _, _, rfl, rfl, _, _, rfl, _, rfl, a, _, rfl, s9.seq hS7, fun lc hlc => ?_⟩
    rw [ecl]
    have s10 := s9.new (o := .lst (cells.map V.int)) hlc
    have k10 := same_new hlc (.lst (cells.map V.int))
    have hlc10 := upd_same (H := H9) (a := lc) (o := .lst (cells.map V.int))
    have hp10 := k10 _ _ hp9
    have hsm10 := k10 _ _ hsm9
    have hdu10 := k10 _ _ hdu9
    have hD10 := hD9.keep (.of k10)
    show (tCons (tVar 10) tNil : TA) _ (upd H9 lc (.lst (cells.map V.int))) _
    generalize upd H9 lc (.lst (cells.map V.int)) = H10 at *
    refine ⟨_, rfl, pp, lc, poolS st, cells, wy, rfl, hp10, hlc10, pool_len st, lcl, wy6.1, wy6.2, fun H11 sd pq pr params rows ts last s11 hsd hpq hpr fpr hR hfew htg hpm lp3 lr45 => ?_⟩
    have s12 := s10.trans s11
    have hp11 := s11 _ _ hp10
    have hsm11 := s11 _ _ hsm10
    have hdu11 := s11 _ _ hdu10
    have hD11 := hD10.keep (.of s11)
    refine ⟨_, rfl, _, _, rfl, SqT.of hsd, rfl, _, _, rfl, _, _, rfl, _, _, rfl, rfl, ?_⟩
    have j0 : ((50 : Int) + ((at_ : Nat) : Int) / 16) = ((50 + at_ / 16 : Nat) : Int) := by omega
    refine ⟨_, rfl, .inl ⟨rfl, _, SqL.of hsm11⟩, _, rfl, _, rfl, _, _, rfl, rfl, ⟨by decide, by decide⟩, _, _, rfl, rfl, pp, _, _, _, rfl, rfl, SqL.of hp11, (by rw [j0]; exact atI_nat (atp (by omega))), _, rfl, _, rfl, _, rfl, pr, last, rows, ts, rfl, hpr, hR, fun H12 pb s13 hB => ⟨by show 3 <= sizeLine; decide, fun tp htp => ⟨sm, _, _, rfl, rfl, old htp (s13 _ _ hsm11), ?_, ?_⟩⟩⟩
    · have := hD9.1
      rw [List.length_map]
      have : i < 6 := by
        have : i * 16 <= i * lg := Nat.mul_le_mul_left _ lg16.1
        omega
      omega
    have s14 := s13.new (o := .tup [.str (nm st (50 + at_ / 16)), .ref pq, .ref pb]) htp
    have etp := upd_same (H := H12) (a := tp) (o := .tup [.str (nm st (50 + at_ / 16)), .ref pq, .ref pb])
    have hsm14 := s14 _ _ hsm11
    have hdu14 := s14 _ _ hdu11
    have hB14 := hB.keep (.of (same_new htp (.tup [.str (nm st (50 + at_ / 16)), .ref pq, .ref pb])))
    have s15 := s12.trans s14
    have hD14 := hD11.keep (.of s14)
    have hsd14 := s14 _ _ hsd
    have hpq14 := s14 _ _ hpq
    have hpr14 := s14 _ _ hpr
    have hR14 := hR.keep (.of s14)
    generalize upd H12 tp (.tup [.str (nm st (50 + at_ / 16)), .ref pq, .ref pb]) = H14 at *
    have tu : Tups H14 (upd H14 sm (.lst (rs'.map V.ref ++ [.ref tp]))) := fun z zs hz => by
      rw [upd_ne (ne_of hz hsm14 (by intro e; cases e))]
      exact hz
    have s16 := s15.put (o := .lst (rs'.map V.ref ++ [.ref tp])) hsm
    have nps : pr ≠ sm := fun e => by rw [e, hsm10] at fpr; cases fpr
    have hpr16 : upd H14 sm (.lst (rs'.map V.ref ++ [.ref tp])) pr = some (.lst (ts.map V.ref)) := by rw [upd_ne nps]; exact hpr14
    have hdu16 := tu _ _ hdu14
    have hsd16 := tu _ _ hsd14
    have hpq16 := tu _ _ hpq14
    have hR16 := hR14.keep tu
    have hsm16 := upd_same (H := H14) (a := sm) (o := .lst (rs'.map V.ref ++ [.ref tp]))
    obtain ⟨dn, edn⟩ : ∃ dn : Dg, dn = ⟨nm st (50 + at_ / 16), params, bdOf last rows⟩ := ⟨_, rfl⟩
    have hdg : IsDg (upd H14 sm (.lst (rs'.map V.ref ++ [.ref tp]))) dn tp := by
      rw [edn]
      exact ⟨pq, pb, tu _ _ etp, hpq16, hB14.keep tu⟩
    have hD16 := (hD14.keep tu).app (Dfs.one hdg)
    have hm16 : upd H14 sm (.lst (rs'.map V.ref ++ [.ref tp])) sm = some (.lst ((rs' ++ [tp]).map V.ref)) := by rw [hsm16, List.map_append]; rfl
    have hs25 : Str25 st (50 + at_ / 16) dn := by
      rw [edn]
      refine ⟨rfl, by omega, by omega, ?_, lp3, last, rows, rfl, lr45, hfew, htg⟩
      obtain ⟨m, em⟩ := hpm
      show params.Nodup
      rw [em]
      exact (pool_nodup st).sublist (List.take_sublist _ _)
    have hSt16 : Strs st ((List.range (i + 1)).map fun k => 50 + k * lg / 16) (ds ++ [dn]) := by
      rw [List.range_succ, List.map_append]
      rw [eatt] at hs25
      exact hSt.snoc hs25
    have ht16 := s16 _ _ ht7
    have hc16 := s16 _ _ hc7
    have hT16 := hT7.keep (.of s16)
    have hC16 := hC7.keep (.of s16)
    generalize upd H14 sm (.lst (rs'.map V.ref ++ [.ref tp])) = H16 at *
    obtain ⟨z, u, ez, hz⟩ := told_sound (ds.findSome? (dueS st))
    have efs : (ds ++ [dn]).findSome? (dueS st) = (ds.findSome? (dueS st)).or (dueS st dn) := by
      rw [List.findSome?_append, List.findSome?_cons]
      cases dueS st dn <;> rfl
    have hdu17 := hdu16
    rw [ez] at hdu17
    refine ⟨_, rfl, du, _, _, _, rfl, rfl, SqT.of hdu17, rfl, rfl, _, rfl, ?_⟩
    by_cases cz : z = "sound"
    · have en := hz.mp cz
      refine iteT' (decide_eq_true (congrArg V.str cz)) ⟨_, rfl, _, rfl, pt, ents (tagL st), tt, rfl, ht16, prs_of hT16, ents_nodup (tag_nodup st), fun d1 hd1 => ?_⟩
      have s17 := same_new (H := H16) hd1 (.dK (ents (tagL st)))
      refine ⟨_, rfl, pc, ents (cntL st), ct, rfl, s17 _ _ hc16, prs_of (hC16.keep (.of s17)), ents_nodup (cnt_nodup st), fun d2 hd2 => ?_⟩
      have s18 := s17.new (o := .dK (ents (cntL st))) hd2
      refine ⟨sd, pq, pr, d1, d2, params, rows, ts, last, tagL st, cntL st, rfl, s18 _ _ hsd16, s18 _ _ hpq16, s18 _ _ hpr16, hR16.keep (.of s18), hfew, old hd2 upd_same, upd_same, by omega, fun H19 r s19 h19 => ?_⟩
      have s20 := s18.trans s19
      refine ⟨ds ++ [dn], rs' ++ [tp], r, _, _, _, _, _, rfl, s16.trans s20, s20 _ _ hm16, hD16.keep (.of s20), hSt16, ?_, by rw [List.length_append, lds]; rfl⟩
      rw [efs, en, Option.none_or, edn]
      exact h19
    · refine iteF' (decide_eq_false fun e => cz (V.str.inj e)) (nxt ⟨ds ++ [dn], rs' ++ [tp], du, _, _, _, _, _, rfl, s16, hm16, hD16, hSt16, ?_, by rw [List.length_append, lds]; rfl⟩)
      have : ∃ o, ds.findSome? (dueS st) = some o := by
        cases e : ds.findSome? (dueS st) with
        | none => exact absurd (hz.mpr e) cz
        | some o => exact ⟨o, rfl⟩
      obtain ⟨o, eo⟩ := this
      rw [efs, eo, Option.some_or, <- eo]
      exact hdu16
  · rintro σ H9 ⟨ds, rs', du, x11, x12, x13, x14, x15, rfl, s9, hsm9, hD9, hSt, hdu9, lds⟩
    have i0 := Int.emod_nonneg (c0 / 270) (show (11 : Int) ≠ 0 by decide)
    have i1 := Int.emod_lt_of_pos (c0 / 270) (show (0 : Int) < 11 by decide)
    have ht9 := s9 _ _ ht7
    have hd9 := s9 _ _ hd7
    have hT9 := hT7.keep (.of s9)
    have hDf9 := hD7.keep (.of s9)
    have lrs' := hD9.1
    have lfx : (fixL st).length = 10 := by unfold fixL; rw [List.length_map, List.length_range]
    have lfr := hDf9.1
    have nlt : ds.length <= 5 := by
      rw [lds]
      by_cases c : (Builtin.Range.rangeSize 0 bv ((lg : Nat) : Int)).toNat <= 5
      · exact c
      · have := inn 5 (by omega)
        have : (5 : Int) * 16 <= 5 * ((lg : Nat) : Int) := by omega
        omega
    have jnd : ((List.range (Builtin.Range.rangeSize 0 bv ((lg : Nat) : Int)).toNat).map fun k => 50 + k * lg / 16).Nodup := by
      refine nd_map (fun x y e => ?_) List.nodup_range
      rcases hlw with ⟨e1, _⟩ | ⟨e1, _⟩
      · rw [e1] at e; omega
      · rw [e1] at e; omega
    refine ⟨_, rfl, _, _, rfl, rfl, ⟨by decide, by decide⟩, _, _, rfl, rfl, (by show (0 : Int) < _; decide), ?_⟩
    obtain ⟨an, ean⟩ : ∃ an : Nat, c0 / 270 % 11 = (an : Int) := ⟨(c0 / 270 % 11).toNat, by omega⟩
    dsimp only [List.set]
    rw [ean]
    refine ⟨_, rfl, pt, _, rfl, .inl ⟨SqL.of ht9, fun q1 hq1 => ⟨by show 1 <= sizeLine; decide, fun pk hpk => ?_⟩⟩⟩
    have k1 := (same_new hq1 (.tup (tt.map V.ref))).new (o := .tup [.ref q1]) hpk
    have eq1 := old (o := .tup [.ref q1]) hpk (upd_same (H := H9) (a := q1) (o := .tup (tt.map V.ref)))
    have epk := upd_same (H := upd H9 q1 (.tup (tt.map V.ref))) (a := pk) (o := .tup [.ref q1])
    generalize upd (upd H9 q1 (.tup (tt.map V.ref))) pk (.tup [.ref q1]) = H10 at *
    refine ⟨_, rfl, _, rfl, _, rfl, pd, _, rfl, SqL.of (k1 _ _ hd9), fun l1 hl1 => ?_⟩
    have ec1 : cutV (rs.map V.ref) none (some (an : Int)) = (rs.take an).map V.ref := by rw [cut_take (by omega), show ((an : Nat) : Int).toNat = an by omega]
    have ec2 : cutV (rs.map V.ref) (some (an : Int)) none = (rs.drop an).map V.ref := by rw [cut_drop (by omega), show ((an : Nat) : Int).toNat = an by omega]
    rw [ec1]
    have k2 := k1.new (o := .lst ((rs.take an).map V.ref)) hl1
    have m2 := same_new (H := H10) hl1 (.lst ((rs.take an).map V.ref))
    refine ⟨_, rfl, l1, sm, _, _, rfl, rfl, upd_same, k2 _ _ hsm9, ?_, fun l2 hl2 => ?_⟩
    · rw [List.length_map, List.length_map, List.length_take]
      omega
    have k3 := k2.new (o := .lst ((rs.take an).map V.ref ++ rs'.map V.ref)) hl2
    have m3 := m2.new (o := .lst ((rs.take an).map V.ref ++ rs'.map V.ref)) hl2
    have el2 := upd_same (H := upd H10 l1 (.lst ((rs.take an).map V.ref))) (a := l2) (o := .lst ((rs.take an).map V.ref ++ rs'.map V.ref))
    generalize upd (upd H10 l1 (.lst ((rs.take an).map V.ref))) l2 (.lst ((rs.take an).map V.ref ++ rs'.map V.ref)) = H11 at *
    refine ⟨_, rfl, _, rfl, _, rfl, pd, _, rfl, SqL.of (k3 _ _ hd9), fun l3 hl3 => ?_⟩
    rw [ec2]
    have k4 := k3.new (o := .lst ((rs.drop an).map V.ref)) hl3
    refine ⟨l2, l3, _, _, rfl, rfl, old hl3 el2, upd_same, ?_, fun l4 hl4 => ?_⟩
    · rw [List.length_append, List.length_map, List.length_map, List.length_map, List.length_take, List.length_drop]
      omega
    have el4 : (rs.take an).map V.ref ++ rs'.map V.ref ++ (rs.drop an).map V.ref = (rs.take an ++ rs' ++ rs.drop an).map V.ref := by rw [List.map_append, List.map_append]
    rw [el4]
    have k5 := k4.new (o := .lst ((rs.take an ++ rs' ++ rs.drop an).map V.ref)) hl4
    refine ⟨l4, _, rfl, .inl ⟨SqL.of upd_same, fun p2 hp2 => ⟨by show 2 <= sizeLine; decide, fun pg hpg => ?_⟩⟩⟩
    have k6 := k5.new (o := .tup ((rs.take an ++ rs' ++ rs.drop an).map V.ref)) hp2
    have k7 := k6.new (o := .tup [.ref pk, .ref p2]) hpg
    have m7 := (((m3.new (o := .lst ((rs.drop an).map V.ref)) hl3).new (o := .lst ((rs.take an ++ rs' ++ rs.drop an).map V.ref)) hl4).new (o := .tup ((rs.take an ++ rs' ++ rs.drop an).map V.ref)) hp2).new (o := .tup [.ref pk, .ref p2]) hpg
    have hP : IsP _ [tagL st] (progL st ds an) pg := ⟨pk, p2, [q1], rs.take an ++ rs' ++ rs.drop an, upd_same, m7 _ _ epk, .cons ⟨tt, m7 _ _ eq1, hT9.keep (.of k7)⟩ .nil, old hpg upd_same, (((hDf9.take an).app hD9).app (hDf9.drop an)).keep (.of k7)⟩
    have hF := prog_few hSt (by omega) an
    have hdu := k7 _ _ hdu9
    rw [<- prog_due hSt jnd an] at hdu
    exact ⟨_, rfl, _, rfl, pg, du, [tagL st], progL st ds an, rfl, hP, hF, hdu, fun H15 s15 => ⟨true, rfl, iteT ⟨_, rfl, _, rfl, pg, du, [tagL st], progL st ds an, rfl, hP.keep (.of s15), hF, s15 _ _ hdu, fun H16 s16 => q _⟩⟩⟩
end
end KD
namespace KD
open PySem L2 K11
structure TopK (K : PySem.W.Frag) (cK nt tw un mi uh la nv go fu ft R : Addr) : Prop where
  c_Known : OwnIn K "Known" cK
  a_Known_kinds : PySem.W.findIn K (.ref cK) "kinds" = some none
  a_Known_tag_sizes : PySem.W.findIn K (.ref cK) "tag_sizes" = some none
  a_Known_param_counts : PySem.W.findIn K (.ref cK) "param_counts" = some none
  n_R : PySem.W.nsIn K mainGlobals "ReuseError" = some (some (.ref R))
  n_nt : PySem.W.nsIn K mainGlobals "NoText" = some (some (.ref nt))
  hd_nt : PySem.W.hasDictIn K nt = true
  ga_nt : PySem.W.findIn K (.ref nt) "__getattribute__" = some (some (.builtin "BaseException.__getattribute__"))
  ha_nt : PySem.W.findIn K (.ref nt) "__getattr__" = some none
  sb_nt : PySem.W.subIn K (.ref nt) (.type "BaseException") = some true
  kp_nt : PySem.W.keepIn K (.ref nt) = true
  xc_nt : PySem.W.findIn K (.ref nt) "__class__" = some (some (.builtin "object.__class__"))
  mo_nt : PySem.W.mroIn K nt (.type "object") = some true
  kR_nt : PySem.W.kitOne K (.ref nt) (.ref R) = some true
  kV_nt : PySem.W.kitOne K (.ref nt) (.type "ValueError") = some true
  ov_nt : overIn K nt = true
  sa_nt : PySem.W.findIn K (.ref nt) "__setattr__" = some (some (.builtin "object.__setattr__"))
  an_nt : (PySem.W.clsIn K nt).any (·.hasDict) = true
  cl_nt : ∃ f, PySem.W.findIn K (.ref nt) "__init__" = some (some (.ref f)) /\ xIn K nt f = true /\ PySem.W.typeIn K (.ref f) = some (.type "function")
  frow_nt : PySem.W.findIn K (.ref nt) "row" = some none
  n_tw : PySem.W.nsIn K mainGlobals "Twice" = some (some (.ref tw))
  hd_tw : PySem.W.hasDictIn K tw = true
  ga_tw : PySem.W.findIn K (.ref tw) "__getattribute__" = some (some (.builtin "BaseException.__getattribute__"))
  ha_tw : PySem.W.findIn K (.ref tw) "__getattr__" = some none
  sb_tw : PySem.W.subIn K (.ref tw) (.type "BaseException") = some true
  kp_tw : PySem.W.keepIn K (.ref tw) = true
  xc_tw : PySem.W.findIn K (.ref tw) "__class__" = some (some (.builtin "object.__class__"))
  mo_tw : PySem.W.mroIn K tw (.type "object") = some true
  kR_tw : PySem.W.kitOne K (.ref tw) (.ref R) = some true
  kV_tw : PySem.W.kitOne K (.ref tw) (.type "ValueError") = some true
  in_tw : MeIn K tw "__init__" "Twice.__init__" iTwice
  ov_tw : overIn K tw = true
  sa_tw : PySem.W.findIn K (.ref tw) "__setattr__" = some (some (.builtin "object.__setattr__"))
  an_tw : (PySem.W.clsIn K tw).any (·.hasDict) = true
  cl_tw : ∃ f, PySem.W.findIn K (.ref tw) "__init__" = some (some (.ref f)) /\ xIn K tw f = true /\ PySem.W.typeIn K (.ref f) = some (.type "function")
  tname_tw : PySem.W.takerIn K tw "name" = some none
  fname_tw : PySem.W.findIn K (.ref tw) "name" = some none
  n_un : PySem.W.nsIn K mainGlobals "Unknown" = some (some (.ref un))
  hd_un : PySem.W.hasDictIn K un = true
  ga_un : PySem.W.findIn K (.ref un) "__getattribute__" = some (some (.builtin "BaseException.__getattribute__"))
  ha_un : PySem.W.findIn K (.ref un) "__getattr__" = some none
  sb_un : PySem.W.subIn K (.ref un) (.type "BaseException") = some true
  kp_un : PySem.W.keepIn K (.ref un) = true
  xc_un : PySem.W.findIn K (.ref un) "__class__" = some (some (.builtin "object.__class__"))
  mo_un : PySem.W.mroIn K un (.type "object") = some true
  kR_un : PySem.W.kitOne K (.ref un) (.ref R) = some true
  kV_un : PySem.W.kitOne K (.ref un) (.type "ValueError") = some true
  in_un : MeIn K un "__init__" "Unknown.__init__" iUnknown
  ov_un : overIn K un = true
  sa_un : PySem.W.findIn K (.ref un) "__setattr__" = some (some (.builtin "object.__setattr__"))
  an_un : (PySem.W.clsIn K un).any (·.hasDict) = true
  cl_un : ∃ f, PySem.W.findIn K (.ref un) "__init__" = some (some (.ref f)) /\ xIn K un f = true /\ PySem.W.typeIn K (.ref f) = some (.type "function")
  tname_un : PySem.W.takerIn K un "name" = some none
  fname_un : PySem.W.findIn K (.ref un) "name" = some none
  n_mi : PySem.W.nsIn K mainGlobals "Misfit" = some (some (.ref mi))
  hd_mi : PySem.W.hasDictIn K mi = true
  ga_mi : PySem.W.findIn K (.ref mi) "__getattribute__" = some (some (.builtin "BaseException.__getattribute__"))
  ha_mi : PySem.W.findIn K (.ref mi) "__getattr__" = some none
  sb_mi : PySem.W.subIn K (.ref mi) (.type "BaseException") = some true
  kp_mi : PySem.W.keepIn K (.ref mi) = true
  xc_mi : PySem.W.findIn K (.ref mi) "__class__" = some (some (.builtin "object.__class__"))
  mo_mi : PySem.W.mroIn K mi (.type "object") = some true
  kR_mi : PySem.W.kitOne K (.ref mi) (.ref R) = some true
  kV_mi : PySem.W.kitOne K (.ref mi) (.type "ValueError") = some true
  in_mi : MeIn K mi "__init__" "Misfit.__init__" iMisfit
  ov_mi : overIn K mi = true
  sa_mi : PySem.W.findIn K (.ref mi) "__setattr__" = some (some (.builtin "object.__setattr__"))
  an_mi : (PySem.W.clsIn K mi).any (·.hasDict) = true
  cl_mi : ∃ f, PySem.W.findIn K (.ref mi) "__init__" = some (some (.ref f)) /\ xIn K mi f = true /\ PySem.W.typeIn K (.ref f) = some (.type "function")
  tname_mi : PySem.W.takerIn K mi "name" = some none
  fname_mi : PySem.W.findIn K (.ref mi) "name" = some none
  n_uh : PySem.W.nsIn K mainGlobals "Unheld" = some (some (.ref uh))
  hd_uh : PySem.W.hasDictIn K uh = true
  ga_uh : PySem.W.findIn K (.ref uh) "__getattribute__" = some (some (.builtin "BaseException.__getattribute__"))
  ha_uh : PySem.W.findIn K (.ref uh) "__getattr__" = some none
  sb_uh : PySem.W.subIn K (.ref uh) (.type "BaseException") = some true
  kp_uh : PySem.W.keepIn K (.ref uh) = true
  xc_uh : PySem.W.findIn K (.ref uh) "__class__" = some (some (.builtin "object.__class__"))
  mo_uh : PySem.W.mroIn K uh (.type "object") = some true
  kR_uh : PySem.W.kitOne K (.ref uh) (.ref R) = some true
  kV_uh : PySem.W.kitOne K (.ref uh) (.type "ValueError") = some true
  ov_uh : overIn K uh = true
  sa_uh : PySem.W.findIn K (.ref uh) "__setattr__" = some (some (.builtin "object.__setattr__"))
  an_uh : (PySem.W.clsIn K uh).any (·.hasDict) = true
  cl_uh : ∃ f, PySem.W.findIn K (.ref uh) "__init__" = some (some (.ref f)) /\ xIn K uh f = true /\ PySem.W.typeIn K (.ref f) = some (.type "function")
  fname_uh : PySem.W.findIn K (.ref uh) "name" = some none
  n_la : PySem.W.nsIn K mainGlobals "Lacking" = some (some (.ref la))
  hd_la : PySem.W.hasDictIn K la = true
  ga_la : PySem.W.findIn K (.ref la) "__getattribute__" = some (some (.builtin "BaseException.__getattribute__"))
  ha_la : PySem.W.findIn K (.ref la) "__getattr__" = some none
  sb_la : PySem.W.subIn K (.ref la) (.type "BaseException") = some true
  kp_la : PySem.W.keepIn K (.ref la) = true
  xc_la : PySem.W.findIn K (.ref la) "__class__" = some (some (.builtin "object.__class__"))
  mo_la : PySem.W.mroIn K la (.type "object") = some true
  kR_la : PySem.W.kitOne K (.ref la) (.ref R) = some true
  kV_la : PySem.W.kitOne K (.ref la) (.type "ValueError") = some true
  ov_la : overIn K la = true
  sa_la : PySem.W.findIn K (.ref la) "__setattr__" = some (some (.builtin "object.__setattr__"))
  an_la : (PySem.W.clsIn K la).any (·.hasDict) = true
  cl_la : ∃ f, PySem.W.findIn K (.ref la) "__init__" = some (some (.ref f)) /\ xIn K la f = true /\ PySem.W.typeIn K (.ref f) = some (.type "function")
  fname_la : PySem.W.findIn K (.ref la) "name" = some none
  ftags_la : PySem.W.findIn K (.ref la) "tags" = some none
  n_nv : PySem.W.nsIn K mainGlobals "NoValue" = some (some (.ref nv))
  hd_nv : PySem.W.hasDictIn K nv = true
  ga_nv : PySem.W.findIn K (.ref nv) "__getattribute__" = some (some (.builtin "BaseException.__getattribute__"))
  ha_nv : PySem.W.findIn K (.ref nv) "__getattr__" = some none
  sb_nv : PySem.W.subIn K (.ref nv) (.type "BaseException") = some true
  kp_nv : PySem.W.keepIn K (.ref nv) = true
  xc_nv : PySem.W.findIn K (.ref nv) "__class__" = some (some (.builtin "object.__class__"))
  mo_nv : PySem.W.mroIn K nv (.type "object") = some true
  kR_nv : PySem.W.kitOne K (.ref nv) (.ref R) = some true
  kV_nv : PySem.W.kitOne K (.ref nv) (.type "ValueError") = some true
  x0_nv : xIn0 K nv = true
  n_go : PySem.W.nsIn K mainGlobals "Gone" = some (some (.ref go))
  hd_go : PySem.W.hasDictIn K go = true
  ga_go : PySem.W.findIn K (.ref go) "__getattribute__" = some (some (.builtin "BaseException.__getattribute__"))
  ha_go : PySem.W.findIn K (.ref go) "__getattr__" = some none
  sb_go : PySem.W.subIn K (.ref go) (.type "BaseException") = some true
  kp_go : PySem.W.keepIn K (.ref go) = true
  xc_go : PySem.W.findIn K (.ref go) "__class__" = some (some (.builtin "object.__class__"))
  mo_go : PySem.W.mroIn K go (.type "object") = some true
  kR_go : PySem.W.kitOne K (.ref go) (.ref R) = some true
  kV_go : PySem.W.kitOne K (.ref go) (.type "ValueError") = some true
  x0_go : xIn0 K go = true
  n_fu : PySem.W.nsIn K mainGlobals "Full" = some (some (.ref fu))
  hd_fu : PySem.W.hasDictIn K fu = true
  ga_fu : PySem.W.findIn K (.ref fu) "__getattribute__" = some (some (.builtin "BaseException.__getattribute__"))
  ha_fu : PySem.W.findIn K (.ref fu) "__getattr__" = some none
  sb_fu : PySem.W.subIn K (.ref fu) (.type "BaseException") = some true
  kp_fu : PySem.W.keepIn K (.ref fu) = true
  xc_fu : PySem.W.findIn K (.ref fu) "__class__" = some (some (.builtin "object.__class__"))
  mo_fu : PySem.W.mroIn K fu (.type "object") = some true
  kR_fu : PySem.W.kitOne K (.ref fu) (.ref R) = some true
  kV_fu : PySem.W.kitOne K (.ref fu) (.type "ValueError") = some true
  x0_fu : xIn0 K fu = true
  n_ft : PySem.W.nsIn K mainGlobals "Fault" = some (some (.ref ft))
  hd_ft : PySem.W.hasDictIn K ft = true
  ga_ft : PySem.W.findIn K (.ref ft) "__getattribute__" = some (some (.builtin "BaseException.__getattribute__"))
  ha_ft : PySem.W.findIn K (.ref ft) "__getattr__" = some none
  sb_ft : PySem.W.subIn K (.ref ft) (.type "BaseException") = some true
  kp_ft : PySem.W.keepIn K (.ref ft) = true
  xc_ft : PySem.W.findIn K (.ref ft) "__class__" = some (some (.builtin "object.__class__"))
  mo_ft : PySem.W.mroIn K ft (.type "object") = some true
  kR_ft : PySem.W.kitOne K (.ref ft) (.ref R) = some true
  kV_ft : PySem.W.kitOne K (.ref ft) (.type "ValueError") = some true
  ov_ft : overIn K ft = true
  sa_ft : PySem.W.findIn K (.ref ft) "__setattr__" = some (some (.builtin "object.__setattr__"))
  an_ft : (PySem.W.clsIn K ft).any (·.hasDict) = true
  cl_ft : ∃ f, PySem.W.findIn K (.ref ft) "__init__" = some (some (.ref f)) /\ xIn K ft f = true /\ PySem.W.typeIn K (.ref f) = some (.type "function")
  fword_ft : PySem.W.findIn K (.ref ft) "word" = some none
  r_sp : PySem.W.specialIn K (.ref R) "__getattribute__" = some (some (.builtin "type.__getattribute__"))
  r_rd : PySem.W.readsIn K R (.type "type") = true
  r_fi : PySem.W.findCls K (.ref R) (.type "type") "__init__" = some (.val (.builtin "ValueError.__init__"))
  x_gs : PySem.W.specialIn K (.builtin "object.__class__") "__get__" = some (some (.builtin "getset_descriptor.__get__"))
  x_tk : PySem.W.takesIn K (.builtin "object.__class__") = some true
  k_sq : kitSq K [nt, tw, un, mi, uh, la, nv, go, fu, ft] = true
  e11 : PySem.W.exmOne K (.ref tw) (.ref tw) = some true
  e21 : PySem.W.exmOne K (.ref un) (.ref tw) = some false
  e22 : PySem.W.exmOne K (.ref un) (.ref un) = some true
  e31 : PySem.W.exmOne K (.ref mi) (.ref tw) = some false
  e32 : PySem.W.exmOne K (.ref mi) (.ref un) = some false
  e33 : PySem.W.exmOne K (.ref mi) (.ref mi) = some true
  e3R : PySem.W.exmOne K (.ref mi) (.ref R) = some true
  e1R : PySem.W.exmOne K (.ref tw) (.ref R) = some true
  e2R : PySem.W.exmOne K (.ref un) (.ref R) = some true
  d_sizes : DfIn K "sizes" sSizes
  m_Known___init__ : MeIn K cK "__init__" "Known.__init__" iKnown
  d_with_bound : DfIn K "with_bound" sBound
  d_insist_known : DfIn K "insist_known" sInsist
  d_look_at_number : DfIn K "look_at_number" sNumb
  d_look_at_deed : DfIn K "look_at_deed" sDeed
  d_looked_at : DfIn K "looked_at" sLooked
  d_look_through : DfIn K "look_through" sThrough
  d_sound : DfIn K "sound" sSound
  d__law_cell_at : DfIn K "_law_cell_at" sCellAt
  d__law_stem : DfIn K "_law_stem" sStem
  d__law_name : DfIn K "_law_name" sNm
  d__law_told : DfIn K "_law_told" sTold
  d__law_base : DfIn K "_law_base" sBase
  d__law_meets : DfIn K "_law_meets" sMeets
  d__law_stream : DfIn K "_law_stream" sStream
  d__law_many : DfIn K "_law_many" sMany
  d__law_used : DfIn K "_law_used" sUsed
  d__law_deed : DfIn K "_law_deed" sLDeed
  d__law_body : DfIn K "_law_body" sBody
  d__law_deed_due : DfIn K "_law_deed_due" sDeedDue
  d__law_rows_due : DfIn K "_law_rows_due" sRowsDue
  d__law_rows : DfIn K "_law_rows" sRows
  d_law : DfIn K "law" sLaw
  z_len : PySem.W.nsIn K mainGlobals "len" = some none
  z_range : PySem.W.nsIn K mainGlobals "range" = some none
  z_isinstance : PySem.W.nsIn K mainGlobals "isinstance" = some none
  z_int : PySem.W.nsIn K mainGlobals "int" = some none
  z_tuple : PySem.W.nsIn K mainGlobals "tuple" = some none
  z_list : PySem.W.nsIn K mainGlobals "list" = some none
  z_str : PySem.W.nsIn K mainGlobals "str" = some none
  z_dict : PySem.W.nsIn K mainGlobals "dict" = some none
  z_reversed : PySem.W.nsIn K mainGlobals "reversed" = some none
  z_min : PySem.W.nsIn K mainGlobals "min" = some none
  z_max : PySem.W.nsIn K mainGlobals "max" = some none
  z_ValueError : PySem.W.nsIn K mainGlobals "ValueError" = some none
theorem top_ok {l : PySem.W.OpenLaw} {w : World} {K : PySem.W.Frag} {h : Heap} {mg : Str -> Option Value} {fa cK nt tw un mi uh la nv go fu ft R : Addr} (T : TopK K cK nt tw un mi uh la nv go fu ft R) (X : K.In h) (G : h.Ns mainGlobals mg) (hfa : mg "law" = some (.ref fa)) :
    ∃ fd : FuncData, (∀ (s : Shared) (u : Value), BindsTo s fd ⟨[u], []⟩ [("_law_script", u)]) /\ ∀ base : Heap, K.In base -> base.Ns mainGlobals mg -> FnOk l.prog w K mg base CX0 11 fa fd ["_law_script"] (spTop K) := by
  refine law_in T.d_law X G hfa (fun _ _ _ _ _ _ s v => .of_eq rfl) fun base fd FL => ?_
  have z_len : mg "len" = none := PySem.W.mg_none_of X G T.z_len
  have z_range : mg "range" = none := PySem.W.mg_none_of X G T.z_range
  have z_isinstance : mg "isinstance" = none := PySem.W.mg_none_of X G T.z_isinstance
  have z_int : mg "int" = none := PySem.W.mg_none_of X G T.z_int
  have z_tuple : mg "tuple" = none := PySem.W.mg_none_of X G T.z_tuple
  have z_list : mg "list" = none := PySem.W.mg_none_of X G T.z_list
  have z_str : mg "str" = none := PySem.W.mg_none_of X G T.z_str
  have z_dict : mg "dict" = none := PySem.W.mg_none_of X G T.z_dict
  have z_reversed : mg "reversed" = none := PySem.W.mg_none_of X G T.z_reversed
  have z_min : mg "min" = none := PySem.W.mg_none_of X G T.z_min
  have z_max : mg "max" = none := PySem.W.mg_none_of X G T.z_max
  have z_ValueError : mg "ValueError" = none := PySem.W.mg_none_of X G T.z_ValueError
  have n_Known : mg "Known" = some (.ref cK) := PySem.W.mg_of X G T.c_Known.n
  have n_R := PySem.W.mg_of X G T.n_R
  have B : XBase K R := ⟨T.r_sp, T.r_rd, T.r_fi⟩
  have n_nt := PySem.W.mg_of X G T.n_nt
  have xi_nt : PySem.W.XIs K nt := ⟨T.ga_nt, T.ha_nt, T.sb_nt, T.hd_nt, T.xc_nt, T.x_gs, T.x_tk, T.mo_nt⟩
  obtain ⟨f_nt, a_nt, i_nt, y_nt⟩ := T.cl_nt
  have M_nt : XCl K nt f_nt := ⟨i_nt, y_nt, T.kp_nt, T.ov_nt, T.sa_nt, T.an_nt, T.ga_nt, T.ha_nt, T.sb_nt⟩
  have n_tw := PySem.W.mg_of X G T.n_tw
  have xi_tw : PySem.W.XIs K tw := ⟨T.ga_tw, T.ha_tw, T.sb_tw, T.hd_tw, T.xc_tw, T.x_gs, T.x_tk, T.mo_tw⟩
  obtain ⟨f_tw, a_tw, i_tw, y_tw⟩ := T.cl_tw
  have M_tw : XCl K tw f_tw := ⟨i_tw, y_tw, T.kp_tw, T.ov_tw, T.sa_tw, T.an_tw, T.ga_tw, T.ha_tw, T.sb_tw⟩
  have X_tw : Xa l.prog w K mg base 1 "Twice" tw ["self", "name"] (spX tw "name") := by
    obtain ⟨f, a, n, g⟩ := T.in_tw
    obtain ⟨fd, F, kp⟩ := g.fn
    have e : f = f_tw := by
      rw [a_tw] at a
      injection a with a
      injection a with a
      injection a with a
      exact a.symm
    subst e
    exact ⟨f, fd, M_tw, ok_twice F T.tname_tw M_tw B n_R, F.binds (ps := ["self", "name"]) fun _ _ _ _ _ _ us hl => match us, hl with | [_, _], _ => rfl, n_tw⟩
  have n_un := PySem.W.mg_of X G T.n_un
  have xi_un : PySem.W.XIs K un := ⟨T.ga_un, T.ha_un, T.sb_un, T.hd_un, T.xc_un, T.x_gs, T.x_tk, T.mo_un⟩
  obtain ⟨f_un, a_un, i_un, y_un⟩ := T.cl_un
  have M_un : XCl K un f_un := ⟨i_un, y_un, T.kp_un, T.ov_un, T.sa_un, T.an_un, T.ga_un, T.ha_un, T.sb_un⟩
  have X_un : Xa l.prog w K mg base 1 "Unknown" un ["self", "name"] (spX un "name") := by
    obtain ⟨f, a, n, g⟩ := T.in_un
    obtain ⟨fd, F, kp⟩ := g.fn
    have e : f = f_un := by
      rw [a_un] at a
      injection a with a
      injection a with a
      injection a with a
      exact a.symm
    subst e
    exact ⟨f, fd, M_un, ok_unknown F T.tname_un M_un B n_R, F.binds (ps := ["self", "name"]) fun _ _ _ _ _ _ us hl => match us, hl with | [_, _], _ => rfl, n_un⟩
  have n_mi := PySem.W.mg_of X G T.n_mi
  have xi_mi : PySem.W.XIs K mi := ⟨T.ga_mi, T.ha_mi, T.sb_mi, T.hd_mi, T.xc_mi, T.x_gs, T.x_tk, T.mo_mi⟩
  obtain ⟨f_mi, a_mi, i_mi, y_mi⟩ := T.cl_mi
  have M_mi : XCl K mi f_mi := ⟨i_mi, y_mi, T.kp_mi, T.ov_mi, T.sa_mi, T.an_mi, T.ga_mi, T.ha_mi, T.sb_mi⟩
  have X_mi : Xa l.prog w K mg base 1 "Misfit" mi ["self", "name"] (spX mi "name") := by
    obtain ⟨f, a, n, g⟩ := T.in_mi
    obtain ⟨fd, F, kp⟩ := g.fn
    have e : f = f_mi := by
      rw [a_mi] at a
      injection a with a
      injection a with a
      injection a with a
      exact a.symm
    subst e
    exact ⟨f, fd, M_mi, ok_misfit F T.tname_mi M_mi B n_R, F.binds (ps := ["self", "name"]) fun _ _ _ _ _ _ us hl => match us, hl with | [_, _], _ => rfl, n_mi⟩
  have n_uh := PySem.W.mg_of X G T.n_uh
  have xi_uh : PySem.W.XIs K uh := ⟨T.ga_uh, T.ha_uh, T.sb_uh, T.hd_uh, T.xc_uh, T.x_gs, T.x_tk, T.mo_uh⟩
  obtain ⟨f_uh, a_uh, i_uh, y_uh⟩ := T.cl_uh
  have M_uh : XCl K uh f_uh := ⟨i_uh, y_uh, T.kp_uh, T.ov_uh, T.sa_uh, T.an_uh, T.ga_uh, T.ha_uh, T.sb_uh⟩
  have n_la := PySem.W.mg_of X G T.n_la
  have xi_la : PySem.W.XIs K la := ⟨T.ga_la, T.ha_la, T.sb_la, T.hd_la, T.xc_la, T.x_gs, T.x_tk, T.mo_la⟩
  obtain ⟨f_la, a_la, i_la, y_la⟩ := T.cl_la
  have M_la : XCl K la f_la := ⟨i_la, y_la, T.kp_la, T.ov_la, T.sa_la, T.an_la, T.ga_la, T.ha_la, T.sb_la⟩
  have n_nv := PySem.W.mg_of X G T.n_nv
  have xi_nv : PySem.W.XIs K nv := ⟨T.ga_nv, T.ha_nv, T.sb_nv, T.hd_nv, T.xc_nv, T.x_gs, T.x_tk, T.mo_nv⟩
  have n_go := PySem.W.mg_of X G T.n_go
  have xi_go : PySem.W.XIs K go := ⟨T.ga_go, T.ha_go, T.sb_go, T.hd_go, T.xc_go, T.x_gs, T.x_tk, T.mo_go⟩
  have n_fu := PySem.W.mg_of X G T.n_fu
  have xi_fu : PySem.W.XIs K fu := ⟨T.ga_fu, T.ha_fu, T.sb_fu, T.hd_fu, T.xc_fu, T.x_gs, T.x_tk, T.mo_fu⟩
  have n_ft := PySem.W.mg_of X G T.n_ft
  have xi_ft : PySem.W.XIs K ft := ⟨T.ga_ft, T.ha_ft, T.sb_ft, T.hd_ft, T.xc_ft, T.x_gs, T.x_tk, T.mo_ft⟩
  obtain ⟨f_ft, a_ft, i_ft, y_ft⟩ := T.cl_ft
  have M_ft : XCl K ft f_ft := ⟨i_ft, y_ft, T.kp_ft, T.ov_ft, T.sa_ft, T.an_ft, T.ga_ft, T.ha_ft, T.sb_ft⟩
  obtain ⟨c, ec⟩ : ∃ c : Xs, c = ⟨nt, tw, un, mi, uh, la, nv, go, fu, ft, R⟩ := ⟨_, rfl⟩
  have tx : XT K mg ⟨nt, tw, un, mi, uh, la, nv, go, fu, ft, R⟩ := ⟨n_nt, n_tw, n_un, n_mi, n_uh, n_la, n_nv, n_go, n_fu, n_ft, n_R, z_ValueError, (fun C h => by
      simp only [List.mem_cons, List.not_mem_nil, or_false] at h
      rcases h with rfl | rfl | rfl | rfl | rfl | rfl | rfl | rfl | rfl | rfl
      · exact xi_nt
      · exact xi_tw
      · exact xi_un
      · exact xi_mi
      · exact xi_uh
      · exact xi_la
      · exact xi_nv
      · exact xi_go
      · exact xi_fu
      · exact xi_ft
      ), kitSq.at T.k_sq, (fun C h => by
      simp only [List.mem_cons, List.not_mem_nil, or_false] at h
      rcases h with rfl | rfl | rfl | rfl | rfl | rfl | rfl | rfl | rfl | rfl
      · exact T.kR_nt
      · exact T.kR_tw
      · exact T.kR_un
      · exact T.kR_mi
      · exact T.kR_uh
      · exact T.kR_la
      · exact T.kR_nv
      · exact T.kR_go
      · exact T.kR_fu
      · exact T.kR_ft
      ), (fun C h => by
      simp only [List.mem_cons, List.not_mem_nil, or_false] at h
      rcases h with rfl | rfl | rfl | rfl | rfl | rfl | rfl | rfl | rfl | rfl
      · exact T.kV_nt
      · exact T.kV_tw
      · exact T.kV_un
      · exact T.kV_mi
      · exact T.kV_uh
      · exact T.kV_la
      · exact T.kV_nv
      · exact T.kV_go
      · exact T.kV_fu
      · exact T.kV_ft
      ), T.e11, T.e21, T.e22, T.e31, T.e32, T.e33, (fun C h => by
      simp only [List.mem_cons, List.not_mem_nil, or_false] at h
      rcases h with rfl | rfl | rfl
      · exact T.e1R
      · exact T.e2R
      · exact T.e3R
      ), (fun C h => by
      simp only [List.mem_cons, List.not_mem_nil, or_false] at h
      rcases h with rfl | rfl | rfl | rfl | rfl
      · exact T.fname_tw
      · exact T.fname_un
      · exact T.fname_mi
      · exact T.fname_uh
      · exact T.fname_la
      ), T.ftags_la, (fun C h => by
      simp only [List.mem_cons, List.not_mem_nil, or_false] at h
      rcases h with rfl | rfl | rfl | rfl | rfl | rfl | rfl
      · exact ⟨_, M_nt⟩
      · exact ⟨_, M_tw⟩
      · exact ⟨_, M_un⟩
      · exact ⟨_, M_mi⟩
      · exact ⟨_, M_uh⟩
      · exact ⟨_, M_la⟩
      · exact ⟨_, M_ft⟩
      )⟩
  have kn : Kn K cK := ⟨T.c_Known.cls, T.a_Known_kinds, T.a_Known_tag_sizes, T.a_Known_param_counts⟩
  have G1 := DfIn.ca (P := l.prog) (w := w) (base := base) X G T.d_sizes (ps := ["kinds"]) (fun _ _ _ _ _ _ us hl => match us, hl with | [_], _ => rfl) fun f fd F => ok_sizes F
  have MK := T.m_Known___init__.ma (P := l.prog) (w := w) (mg := mg) (base := base) (x := "Known") (ps := ["self", "program"]) (fun _ _ _ _ _ _ us hl => match us, hl with | [_, _], _ => rfl) T.c_Known.mks T.c_Known.kp n_Known fun f fd F => ok_kinit F kn G1 z_len
  have G2 := DfIn.ca (P := l.prog) (w := w) (base := base) X G T.d_with_bound (ps := ["names", "above"]) (fun _ _ _ _ _ _ us hl => match us, hl with | [_, _], _ => rfl) fun f fd F => ok_bound F X_tw z_dict
  have G3 := DfIn.ca (P := l.prog) (w := w) (base := base) X G T.d_insist_known (ps := ["names", "known_ones"]) (fun _ _ _ _ _ _ us hl => match us, hl with | [_, _], _ => rfl) fun f fd F => ok_knowG F X_un
  have G4 := DfIn.ca (P := l.prog) (w := w) (base := base) X G T.d_look_at_number (ps := ["known", "deed"]) (fun _ _ _ _ _ _ us hl => match us, hl with | [_, _], _ => rfl) fun f fd F => ok_numb F kn G3 X_mi z_len
  have G5 := DfIn.ca (P := l.prog) (w := w) (base := base) X G T.d_look_at_deed (ps := ["known", "deed", "above"]) (fun _ _ _ _ _ _ us hl => match us, hl with | [_, _, _], _ => rfl) fun f fd F => ok_deed F G3 G4
  have G6 := DfIn.ca (P := l.prog) (w := w) (base := base) X G T.d_looked_at (ps := ["known", "body", "above"]) (fun _ _ _ _ _ _ us hl => match us, hl with | [_, _, _], _ => rfl) fun f fd F => ok_looked F G3 G5 G2
  have G7 := DfIn.ca (P := l.prog) (w := w) (base := base) X G T.d_look_through (ps := ["known", "one"]) (fun _ _ _ _ _ _ us hl => match us, hl with | [_, _], _ => rfl) fun f fd F => ok_through F G2 G6 z_len z_reversed
  have G8 := DfIn.ca (P := l.prog) (w := w) (base := base) X G T.d_sound (ps := ["program"]) (fun _ _ _ _ _ _ us hl => match us, hl with | [_], _ => rfl) fun f fd F => ok_sound F G2 MK G7
  have LC := DfIn.ca (P := l.prog) (w := w) (base := base) X G T.d__law_cell_at (ps := ["_law_script", "_law_k"]) (fun _ _ _ _ _ _ us hl => match us, hl with | [_, _], _ => rfl) fun f fd F => ok_cellat F z_len
  have LS := DfIn.ca (P := l.prog) (w := w) (base := base) X G T.d__law_stem (ps := ["_law_cell"]) (fun _ _ _ _ _ _ us hl => match us, hl with | [_], _ => rfl) fun f fd F => ok_stem F z_range
  have LN := DfIn.ca (P := l.prog) (w := w) (base := base) X G T.d__law_name (ps := ["_law_stem_here", "_law_k"]) (fun _ _ _ _ _ _ us hl => match us, hl with | [_, _], _ => rfl) fun f fd F => ok_nm F z_len
  have LT := DfIn.ca (P := l.prog) (w := w) (base := base) X G T.d__law_told (ps := ["_law_program"]) (fun _ _ _ _ _ _ us hl => match us, hl with | [_], _ => rfl) fun f fd F => ok_told F tx G8
  have LB := DfIn.ca (P := l.prog) (w := w) (base := base) X G T.d__law_base (ps := ["_law_program"]) (fun _ _ _ _ _ _ us hl => match us, hl with | [_], _ => rfl) fun f fd F => ok_base F tx G8 z_isinstance
  have LM := DfIn.ca (P := l.prog) (w := w) (base := base) X G T.d__law_meets (ps := ["_law_program", "_law_due"]) (fun _ _ _ _ _ _ us hl => match us, hl with | [_, _], _ => rfl) fun f fd F => ok_meets F LT LB z_isinstance z_str z_list z_len
  have LX := DfIn.ca (P := l.prog) (w := w) (base := base) X G T.d__law_stream (ps := ["_law_cell", "_law_many_here"]) (fun _ _ _ _ _ _ us hl => match us, hl with | [_, _], _ => rfl) fun f fd F => ok_stream F z_range
  have LY := DfIn.ca (P := l.prog) (w := w) (base := base) X G T.d__law_many (ps := ["_law_way", "_law_goal", "_law_xs", "_law_wild"]) (fun _ _ _ _ _ _ us hl => match us, hl with | [_, _, _, _], _ => rfl) fun f fd F => ok_many F
  have LU := DfIn.ca (P := l.prog) (w := w) (base := base) X G T.d__law_used (ps := ["_law_pool", "_law_above", "_law_xs", "_law_many_here", "_law_wild"]) (fun _ _ _ _ _ _ us hl => match us, hl with | [_, _, _, _, _], _ => rfl) fun f fd F => ok_used F z_len
  have LE := DfIn.ca (P := l.prog) (w := w) (base := base) X G T.d__law_deed (ps := ["_law_pool", "_law_above", "_law_xs", "_law_way", "_law_wild"]) (fun _ _ _ _ _ _ us hl => match us, hl with | [_, _, _, _, _], _ => rfl) fun f fd F => ok_ldeed F LU LY z_int z_tuple
  have LO := DfIn.ca (P := l.prog) (w := w) (base := base) X G T.d__law_body (ps := ["_law_rows_here", "_law_last"]) (fun _ _ _ _ _ _ us hl => match us, hl with | [_, _], _ => rfl) fun f fd F => ok_body F z_reversed
  have LZ := DfIn.ca (P := l.prog) (w := w) (base := base) X G T.d__law_deed_due (ps := ["_law_deed_here", "_law_above", "_law_tags", "_law_defs"]) (fun _ _ _ _ _ _ us hl => match us, hl with | [_, _, _, _], _ => rfl) fun f fd F => ok_deeddue F z_len z_list
  have LD := DfIn.ca (P := l.prog) (w := w) (base := base) X G T.d__law_rows_due (ps := ["_law_said", "_law_tags", "_law_defs"]) (fun _ _ _ _ _ _ us hl => match us, hl with | [_, _, _], _ => rfl) fun f fd F => ok_rowsdue F LZ z_list
  have LR := DfIn.ca (P := l.prog) (w := w) (base := base) X G T.d__law_rows (ps := ["_law_pool", "_law_cells", "_law_ways"]) (fun _ _ _ _ _ _ us hl => match us, hl with | [_, _, _], _ => rfl) fun f fd F => ok_rows F LC LX LE z_tuple z_len
  exact ok_law FL LC LS LN LR LO LD LM z_range z_tuple z_len z_min z_max z_dict
end KD
def PySem.W.Fast.tw15884991390890656244 : Unit := ()
def PySem.W.Fast.tw3568213215376581520 : Unit := ()
def PySem.W.Fast.tw14521741968348646611 : Unit := ()
def PySem.W.Fast.tw16694723960490036781 : Unit := ()
def PySem.W.Fast.tw2213654435681251189 : Unit := ()
def PySem.W.Fast.tw10590415754044142118 : Unit := ()
def PySem.W.Fast.tw12295482045247050822 : Unit := ()
def PySem.W.Fast.tw16982140935509778619 : Unit := ()
def PySem.W.Fast.tw14104392603758897084 : Unit := ()
def PySem.W.Fast.tw8791905791573625283 : Unit := ()
def PySem.W.Fast.tw13636550221413664421 : Unit := ()
def PySem.W.Fast.tw5764230112692932921 : Unit := ()
def PySem.W.Fast.tw18323188815458354516 : Unit := ()
def PySem.W.Fast.tw1997897231270019591 : Unit := ()
def PySem.W.Fast.tw971904344684369977 : Unit := ()
def PySem.W.Fast.tw11012870803420522383 : Unit := ()
def PySem.W.Fast.tw2577598522527161686 : Unit := ()
def PySem.W.Fast.tw12644723380825580707 : Unit := ()
def PySem.W.Fast.tw5571959657398092359 : Unit := ()
def PySem.W.Fast.tw7068714332085968760 : Unit := ()
def PySem.W.Fast.tw7690821762322358611 : Unit := ()
def PySem.W.Fast.tw3839802156902315779 : Unit := ()
def PySem.W.Fast.tw6835108598035844386 : Unit := ()
def PySem.W.Fast.tw14522526081018128087 : Unit := ()
def PySem.W.Fast.tw13777975631389131888 : Unit := ()
def PySem.W.Fast.tw15551973758435591809 : Unit := ()
def PySem.W.Fast.tw15851779366309372387 : Unit := ()
def PySem.W.Fast.tw3938015199717687956 : Unit := ()
def PySem.W.Fast.tw7157367109935537055 : Unit := ()
def PySem.W.Fast.tw398079987297793264 : Unit := ()
def PySem.W.Fast.tw14467762804241605063 : Unit := ()
def PySem.W.Fast.tw1758472106409369322 : Unit := ()
def PySem.W.Fast.tw10291831545409260044 : Unit := ()
def PySem.W.Fast.tw4246361406142546431 : Unit := ()
def PySem.W.Fast.tw5094024678534912099 : Unit := ()
def PySem.W.Fast.tw14070329659618281520 : Unit := ()
def PySem.W.Fast.tw13943700700074658030 : Unit := ()
def PySem.W.Fast.tw8156664192814669893 : Unit := ()
def PySem.W.Fast.tw5917238417116436560 : Unit := ()
def PySem.W.Fast.tw10432572299075026293 : Unit := ()
def PySem.W.Fast.tw16090127902013604444 : Unit := ()
def PySem.W.Fast.tw4398914193369926945 : Unit := ()
def PySem.W.Fast.tw327747719708889414 : Unit := ()
def PySem.W.Fast.tw3082477721071098972 : Unit := ()
def PySem.W.Fast.tw4721627476919732537 : Unit := ()
def PySem.W.Fast.tw351836139729432723 : Unit := ()
def PySem.W.Fast.tw5583671021576113348 : Unit := ()
def PySem.W.Fast.tw8570508313311296510 : Unit := ()
def PySem.W.Fast.tw6477005176842242756 : Unit := ()
def PySem.W.Fast.tw9330139196698099513 : Unit := ()
def PySem.W.Fast.tw6714125170050588248 : Unit := ()
def PySem.W.Fast.tw6037415826026507397 : Unit := ()
def PySem.W.Fast.tw9000726747267501524 : Unit := ()
def PySem.W.Fast.tw8648253309850098224 : Unit := ()
def PySem.W.Fast.tw9979789063553830713 : Unit := ()
def PySem.W.Fast.tw11474949157488045755 : Unit := ()
def PySem.W.Fast.tw11518514185760796483 : Unit := ()
def PySem.W.Fast.tw7433963817725098566 : Unit := ()
def PySem.W.Fast.tw8006031284748750154 : Unit := ()
def PySem.W.Fast.tw16693657450234986579 : Unit := ()
def PySem.W.Fast.tw897965782050313023 : Unit := ()
def PySem.W.Fast.tw3745477231557146121 : Unit := ()
def PySem.W.Fast.tw15100123282829206824 : Unit := ()
def PySem.W.Fast.tw4535018755471780487 : Unit := ()
def PySem.W.Fast.tw8196125040122857224 : Unit := ()
def PySem.W.Fast.tw164125101185781199 : Unit := ()
def PySem.W.Fast.tw9765956394161243580 : Unit := ()
def PySem.W.Fast.tw17696879532171821317 : Unit := ()
def PySem.W.Fast.tw14731106261070703893 : Unit := ()
def PySem.W.Fast.tw13515788422332907692 : Unit := ()
def PySem.W.Fast.tw8218598890141151304 : Unit := ()
def PySem.W.Fast.tw10196005830569974924 : Unit := ()
def PySem.W.Fast.tw9977513428438160453 : Unit := ()
def PySem.W.Fast.tw14416815947994721927 : Unit := ()
def PySem.W.Fast.tw286701603066891187 : Unit := ()
def PySem.W.Fast.tw17361100026168055076 : Unit := ()
def PySem.W.Fast.tw13557447981936544827 : Unit := ()
def PySem.W.Fast.tw10983023839264582756 : Unit := ()
def PySem.W.Fast.tw14564648618856896591 : Unit := ()
def PySem.W.Fast.tw11499637309586634749 : Unit := ()
def PySem.W.Fast.tw17333094902122665363 : Unit := ()
open PySem PySem.W PyProof.Rows
set_option maxRecDepth 100000 in
set_option maxHeartbeats 0 in
theorem PySem.Challenge.cw_reusewise_k25_deeds_looked_through_holds : PySem.Challenge.rw_reusewise_k25_deeds_looked_through.Holds := by
  w_on; o_law; k_head; (case hw => w_witness2)
  k_fill
  refine L2.walk1 (l := PySem.Challenge.rw_reusewise_k25_deeds_looked_through) (k := 11) rfl ⟨rfl, by decide, by decide⟩ rfl rfl (fun w h Y => PySem.W.kIn_of Y) ?F
  case F =>
    intro w mg fa h KX G hm
    refine' KD.top_ok (KD.TopK.mk ?c_Known ?a_Known_kinds ?a_Known_tag_sizes ?a_Known_param_counts ?n_R ?n_nt ?hd_nt ?ga_nt ?ha_nt ?sb_nt ?kp_nt ?xc_nt ?mo_nt ?kR_nt ?kV_nt ?ov_nt ?sa_nt ?an_nt ?cl_nt ?frow_nt ?n_tw ?hd_tw ?ga_tw ?ha_tw ?sb_tw ?kp_tw ?xc_tw ?mo_tw ?kR_tw ?kV_tw ?in_tw ?ov_tw ?sa_tw ?an_tw ?cl_tw ?tname_tw ?fname_tw ?n_un ?hd_un ?ga_un ?ha_un ?sb_un ?kp_un ?xc_un ?mo_un ?kR_un ?kV_un ?in_un ?ov_un ?sa_un ?an_un ?cl_un ?tname_un ?fname_un ?n_mi ?hd_mi ?ga_mi ?ha_mi ?sb_mi ?kp_mi ?xc_mi ?mo_mi ?kR_mi ?kV_mi ?in_mi ?ov_mi ?sa_mi ?an_mi ?cl_mi ?tname_mi ?fname_mi ?n_uh ?hd_uh ?ga_uh ?ha_uh ?sb_uh ?kp_uh ?xc_uh ?mo_uh ?kR_uh ?kV_uh ?ov_uh ?sa_uh ?an_uh ?cl_uh ?fname_uh ?n_la ?hd_la ?ga_la ?ha_la ?sb_la ?kp_la ?xc_la ?mo_la ?kR_la ?kV_la ?ov_la ?sa_la ?an_la ?cl_la ?fname_la ?ftags_la ?n_nv ?hd_nv ?ga_nv ?ha_nv ?sb_nv ?kp_nv ?xc_nv ?mo_nv ?kR_nv ?kV_nv ?x0_nv ?n_go ?hd_go ?ga_go ?ha_go ?sb_go ?kp_go ?xc_go ?mo_go ?kR_go ?kV_go ?x0_go ?n_fu ?hd_fu ?ga_fu ?ha_fu ?sb_fu ?kp_fu ?xc_fu ?mo_fu ?kR_fu ?kV_fu ?x0_fu ?n_ft ?hd_ft ?ga_ft ?ha_ft ?sb_ft ?kp_ft ?xc_ft ?mo_ft ?kR_ft ?kV_ft ?ov_ft ?sa_ft ?an_ft ?cl_ft ?fword_ft ?r_sp ?r_rd ?r_fi ?x_gs ?x_tk ?k_sq ?e11 ?e21 ?e22 ?e31 ?e32 ?e33 ?e3R ?e1R ?e2R ?d_sizes ?m_Known___init__ ?d_with_bound ?d_insist_known ?d_look_at_number ?d_look_at_deed ?d_looked_at ?d_look_through ?d_sound ?d__law_cell_at ?d__law_stem ?d__law_name ?d__law_told ?d__law_base ?d__law_meets ?d__law_stream ?d__law_many ?d__law_used ?d__law_deed ?d__law_body ?d__law_deed_due ?d__law_rows_due ?d__law_rows ?d_law ?z_len ?z_range ?z_isinstance ?z_int ?z_tuple ?z_list ?z_str ?z_dict ?z_reversed ?z_min ?z_max ?z_ValueError) KX G hm
    (case c_Known => (refine' L2.OwnIn.mk ?n ?pg ?hd ?po ?sa ?mks ?kp; (case n => k_is); (case pg => k_is); (case hd => k_is); (case po => k_is); (case sa => k_is); (case mks => k_is); (case kp => k_is)))
    (case a_Known_kinds => k_is)
    (case a_Known_tag_sizes => k_is)
    (case a_Known_param_counts => k_is)
    (case n_R => k_is)
    (case n_nt => k_is)
    (case hd_nt => k_is)
    (case ga_nt => k_is)
    (case ha_nt => k_is)
    (case sb_nt => k_is)
    (case kp_nt => k_is)
    (case xc_nt => k_is)
    (case mo_nt => k_is)
    (case kR_nt => (first | kernel_rfl | rfl | decide +kernel))
    (case kV_nt => (first | kernel_rfl | rfl | decide +kernel))
    (case ov_nt => (first | kernel_rfl | rfl | decide +kernel))
    (case sa_nt => k_is)
    (case an_nt => (first | kernel_rfl | rfl | decide +kernel))
    (case cl_nt => (refine' L2.XcIn.mk ?a ?b ?c; (case a => k_is); (case b => (first | kernel_rfl | rfl | decide +kernel)); (case c => k_is)))
    (case frow_nt => k_is)
    (case n_tw => k_is)
    (case hd_tw => k_is)
    (case ga_tw => k_is)
    (case ha_tw => k_is)
    (case sb_tw => k_is)
    (case kp_tw => k_is)
    (case xc_tw => k_is)
    (case mo_tw => k_is)
    (case kR_tw => (first | kernel_rfl | rfl | decide +kernel))
    (case kV_tw => (first | kernel_rfl | rfl | decide +kernel))
    (case in_tw => (refine' L2.MeIn.mk ?a ?l ?c ?k ?n; (case a => k_is); (case l => k_is); (case c => k_is); (case k => k_is); (case n => k_is)))
    (case ov_tw => (first | kernel_rfl | rfl | decide +kernel))
    (case sa_tw => k_is)
    (case an_tw => (first | kernel_rfl | rfl | decide +kernel))
    (case cl_tw => (refine' L2.XcIn.mk ?a ?b ?c; (case a => k_is); (case b => (first | kernel_rfl | rfl | decide +kernel)); (case c => k_is)))
    (case tname_tw => k_is)
    (case fname_tw => k_is)
    (case n_un => k_is)
    (case hd_un => k_is)
    (case ga_un => k_is)
    (case ha_un => k_is)
    (case sb_un => k_is)
    (case kp_un => k_is)
    (case xc_un => k_is)
    (case mo_un => k_is)
    (case kR_un => (first | kernel_rfl | rfl | decide +kernel))
    (case kV_un => (first | kernel_rfl | rfl | decide +kernel))
    (case in_un => (refine' L2.MeIn.mk ?a ?l ?c ?k ?n; (case a => k_is); (case l => k_is); (case c => k_is); (case k => k_is); (case n => k_is)))
    (case ov_un => (first | kernel_rfl | rfl | decide +kernel))
    (case sa_un => k_is)
    (case an_un => (first | kernel_rfl | rfl | decide +kernel))
    (case cl_un => (refine' L2.XcIn.mk ?a ?b ?c; (case a => k_is); (case b => (first | kernel_rfl | rfl | decide +kernel)); (case c => k_is)))
    (case tname_un => k_is)
    (case fname_un => k_is)
    (case n_mi => k_is)
    (case hd_mi => k_is)
    (case ga_mi => k_is)
    (case ha_mi => k_is)
    (case sb_mi => k_is)
    (case kp_mi => k_is)
    (case xc_mi => k_is)
    (case mo_mi => k_is)
    (case kR_mi => (first | kernel_rfl | rfl | decide +kernel))
    (case kV_mi => (first | kernel_rfl | rfl | decide +kernel))
    (case in_mi => (refine' L2.MeIn.mk ?a ?l ?c ?k ?n; (case a => k_is); (case l => k_is); (case c => k_is); (case k => k_is); (case n => k_is)))
    (case ov_mi => (first | kernel_rfl | rfl | decide +kernel))
    (case sa_mi => k_is)
    (case an_mi => (first | kernel_rfl | rfl | decide +kernel))
    (case cl_mi => (refine' L2.XcIn.mk ?a ?b ?c; (case a => k_is); (case b => (first | kernel_rfl | rfl | decide +kernel)); (case c => k_is)))
    (case tname_mi => k_is)
    (case fname_mi => k_is)
    (case n_uh => k_is)
    (case hd_uh => k_is)
    (case ga_uh => k_is)
    (case ha_uh => k_is)
    (case sb_uh => k_is)
    (case kp_uh => k_is)
    (case xc_uh => k_is)
    (case mo_uh => k_is)
    (case kR_uh => (first | kernel_rfl | rfl | decide +kernel))
    (case kV_uh => (first | kernel_rfl | rfl | decide +kernel))
    (case ov_uh => (first | kernel_rfl | rfl | decide +kernel))
    (case sa_uh => k_is)
    (case an_uh => (first | kernel_rfl | rfl | decide +kernel))
    (case cl_uh => (refine' L2.XcIn.mk ?a ?b ?c; (case a => k_is); (case b => (first | kernel_rfl | rfl | decide +kernel)); (case c => k_is)))
    (case fname_uh => k_is)
    (case n_la => k_is)
    (case hd_la => k_is)
    (case ga_la => k_is)
    (case ha_la => k_is)
    (case sb_la => k_is)
    (case kp_la => k_is)
    (case xc_la => k_is)
    (case mo_la => k_is)
    (case kR_la => (first | kernel_rfl | rfl | decide +kernel))
    (case kV_la => (first | kernel_rfl | rfl | decide +kernel))
    (case ov_la => (first | kernel_rfl | rfl | decide +kernel))
    (case sa_la => k_is)
    (case an_la => (first | kernel_rfl | rfl | decide +kernel))
    (case cl_la => (refine' L2.XcIn.mk ?a ?b ?c; (case a => k_is); (case b => (first | kernel_rfl | rfl | decide +kernel)); (case c => k_is)))
    (case fname_la => k_is)
    (case ftags_la => k_is)
    (case n_nv => k_is)
    (case hd_nv => k_is)
    (case ga_nv => k_is)
    (case ha_nv => k_is)
    (case sb_nv => k_is)
    (case kp_nv => k_is)
    (case xc_nv => k_is)
    (case mo_nv => k_is)
    (case kR_nv => (first | kernel_rfl | rfl | decide +kernel))
    (case kV_nv => (first | kernel_rfl | rfl | decide +kernel))
    (case x0_nv => (first | kernel_rfl | rfl | decide +kernel))
    (case n_go => k_is)
    (case hd_go => k_is)
    (case ga_go => k_is)
    (case ha_go => k_is)
    (case sb_go => k_is)
    (case kp_go => k_is)
    (case xc_go => k_is)
    (case mo_go => k_is)
    (case kR_go => (first | kernel_rfl | rfl | decide +kernel))
    (case kV_go => (first | kernel_rfl | rfl | decide +kernel))
    (case x0_go => (first | kernel_rfl | rfl | decide +kernel))
    (case n_fu => k_is)
    (case hd_fu => k_is)
    (case ga_fu => k_is)
    (case ha_fu => k_is)
    (case sb_fu => k_is)
    (case kp_fu => k_is)
    (case xc_fu => k_is)
    (case mo_fu => k_is)
    (case kR_fu => (first | kernel_rfl | rfl | decide +kernel))
    (case kV_fu => (first | kernel_rfl | rfl | decide +kernel))
    (case x0_fu => (first | kernel_rfl | rfl | decide +kernel))
    (case n_ft => k_is)
    (case hd_ft => k_is)
    (case ga_ft => k_is)
    (case ha_ft => k_is)
    (case sb_ft => k_is)
    (case kp_ft => k_is)
    (case xc_ft => k_is)
    (case mo_ft => k_is)
    (case kR_ft => (first | kernel_rfl | rfl | decide +kernel))
    (case kV_ft => (first | kernel_rfl | rfl | decide +kernel))
    (case ov_ft => (first | kernel_rfl | rfl | decide +kernel))
    (case sa_ft => k_is)
    (case an_ft => (first | kernel_rfl | rfl | decide +kernel))
    (case cl_ft => (refine' L2.XcIn.mk ?a ?b ?c; (case a => k_is); (case b => (first | kernel_rfl | rfl | decide +kernel)); (case c => k_is)))
    (case fword_ft => k_is)
    (case r_sp => k_is)
    (case r_rd => k_is)
    (case r_fi => k_is)
    (case x_gs => k_is)
    (case x_tk => k_is)
    (case k_sq => (first | kernel_rfl | rfl | decide +kernel))
    (case e11 => (first | kernel_rfl | rfl | decide +kernel))
    (case e21 => (first | kernel_rfl | rfl | decide +kernel))
    (case e22 => (first | kernel_rfl | rfl | decide +kernel))
    (case e31 => (first | kernel_rfl | rfl | decide +kernel))
    (case e32 => (first | kernel_rfl | rfl | decide +kernel))
    (case e33 => (first | kernel_rfl | rfl | decide +kernel))
    (case e3R => (first | kernel_rfl | rfl | decide +kernel))
    (case e1R => (first | kernel_rfl | rfl | decide +kernel))
    (case e2R => (first | kernel_rfl | rfl | decide +kernel))
    (case d_sizes => (refine' L2.DfIn.mk ?a ?l ?c ?k; (case a => k_is); (case l => k_is); (case c => k_is); (case k => k_is)))
    (case m_Known___init__ => (refine' L2.MeIn.mk ?a ?l ?c ?k ?n; (case a => k_is); (case l => k_is); (case c => k_is); (case k => k_is); (case n => k_is)))
    (case d_with_bound => (refine' L2.DfIn.mk ?a ?l ?c ?k; (case a => k_is); (case l => k_is); (case c => k_is); (case k => k_is)))
    (case d_insist_known => (refine' L2.DfIn.mk ?a ?l ?c ?k; (case a => k_is); (case l => k_is); (case c => k_is); (case k => k_is)))
    (case d_look_at_number => (refine' L2.DfIn.mk ?a ?l ?c ?k; (case a => k_is); (case l => k_is); (case c => k_is); (case k => k_is)))
    (case d_look_at_deed => (refine' L2.DfIn.mk ?a ?l ?c ?k; (case a => k_is); (case l => k_is); (case c => k_is); (case k => k_is)))
    (case d_looked_at => (refine' L2.DfIn.mk ?a ?l ?c ?k; (case a => k_is); (case l => k_is); (case c => k_is); (case k => k_is)))
    (case d_look_through => (refine' L2.DfIn.mk ?a ?l ?c ?k; (case a => k_is); (case l => k_is); (case c => k_is); (case k => k_is)))
    (case d_sound => (refine' L2.DfIn.mk ?a ?l ?c ?k; (case a => k_is); (case l => k_is); (case c => k_is); (case k => k_is)))
    (case d__law_cell_at => (refine' L2.DfIn.mk ?a ?l ?c ?k; (case a => k_is); (case l => k_is); (case c => k_is); (case k => k_is)))
    (case d__law_stem => (refine' L2.DfIn.mk ?a ?l ?c ?k; (case a => k_is); (case l => k_is); (case c => k_is); (case k => k_is)))
    (case d__law_name => (refine' L2.DfIn.mk ?a ?l ?c ?k; (case a => k_is); (case l => k_is); (case c => k_is); (case k => k_is)))
    (case d__law_told => (refine' L2.DfIn.mk ?a ?l ?c ?k; (case a => k_is); (case l => k_is); (case c => k_is); (case k => k_is)))
    (case d__law_base => (refine' L2.DfIn.mk ?a ?l ?c ?k; (case a => k_is); (case l => k_is); (case c => k_is); (case k => k_is)))
    (case d__law_meets => (refine' L2.DfIn.mk ?a ?l ?c ?k; (case a => k_is); (case l => k_is); (case c => k_is); (case k => k_is)))
    (case d__law_stream => (refine' L2.DfIn.mk ?a ?l ?c ?k; (case a => k_is); (case l => k_is); (case c => k_is); (case k => k_is)))
    (case d__law_many => (refine' L2.DfIn.mk ?a ?l ?c ?k; (case a => k_is); (case l => k_is); (case c => k_is); (case k => k_is)))
    (case d__law_used => (refine' L2.DfIn.mk ?a ?l ?c ?k; (case a => k_is); (case l => k_is); (case c => k_is); (case k => k_is)))
    (case d__law_deed => (refine' L2.DfIn.mk ?a ?l ?c ?k; (case a => k_is); (case l => k_is); (case c => k_is); (case k => k_is)))
    (case d__law_body => (refine' L2.DfIn.mk ?a ?l ?c ?k; (case a => k_is); (case l => k_is); (case c => k_is); (case k => k_is)))
    (case d__law_deed_due => (refine' L2.DfIn.mk ?a ?l ?c ?k; (case a => k_is); (case l => k_is); (case c => k_is); (case k => k_is)))
    (case d__law_rows_due => (refine' L2.DfIn.mk ?a ?l ?c ?k; (case a => k_is); (case l => k_is); (case c => k_is); (case k => k_is)))
    (case d__law_rows => (refine' L2.DfIn.mk ?a ?l ?c ?k; (case a => k_is); (case l => k_is); (case c => k_is); (case k => k_is)))
    (case d_law => (refine' L2.DfIn.mk ?a ?l ?c ?k; (case a => k_is); (case l => k_is); (case c => k_is); (case k => k_is)))
    (case z_len => k_is)
    (case z_range => k_is)
    (case z_isinstance => k_is)
    (case z_int => k_is)
    (case z_tuple => k_is)
    (case z_list => k_is)
    (case z_str => k_is)
    (case z_dict => k_is)
    (case z_reversed => k_is)
    (case z_min => k_is)
    (case z_max => k_is)
    (case z_ValueError => k_is)
#print axioms PySem.Challenge.cw_reusewise_k25_deeds_looked_through_holds
