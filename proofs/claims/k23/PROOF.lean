import PyProof.Rows.All
import Wide.All
import OpenK.AllK
import Wide.FinOn
import Lean
import PyProof.EqAt
import PyProof.EqKinds
import PyProof.TupleCall
import PyProof.PassesOwn
import PyProof.StationsW
import OpenK.KCls
import PyProof.ExcAttrAll.ValueError
import PyProof.ExcClass3
import PyProof.WalksEnum
import PyProof.EnumMake
import PyProof.EnumFor
import PyProof.EnumStmt
import KE.KRevIter
import PyProof.AutoSeq1
import PyProof.FactsAll.list
import PyProof.MeetsStr
import PyProof.StrLawsTight
import PyProof.NeKinds
import PyProof.Rows.SumAny
import PyProof.SeqI3
import PyProof.ZipIter
import PyProof.WalksMore
import PyProof.ListNew
import PyProof.IsRules
import PyProof.StrBlockL
import PyProof.StrBlockI
import PyProof.StrBlock2
import PyProof.StrLawsIn
import PyProof.StrLawsChain
import PyProof.Rows.StrLast
import PyProof.Rows.StrItems
import KE.IntTextText
import KE.KItemsList
import KE.KDictList
import KE.KLam
import KE.KNestM
import PyProof.IsiTupleOf
import KE.KDictSum
import PyProof.Rows.SortWalk
import KE.KDictOf
import KE.KIntText
import PyProof.AttrMissHeap
import PyProof.Walks
import PyProof.FactsAll.object_1
import PyProof.CallType
import PySem.Challenge.RW_reusewise_k23_sound_programs
set_option Elab.async false
set_option linter.all false
set_option maxRecDepth 100000
set_option maxHeartbeats 4000000
namespace L2
open PySem PySem.Spec PyProof.Rows
abbrev Key := Sum Int Str
def keyIs : Key -> Value -> Bool
  | .inl k, v => Value.isInt k v
  | .inr x, v => Value.isStrOf x v
def keyH (w : World) : Key -> Int
  | .inl k => hashInt k
  | .inr x => hashStr w x
theorem keyIs_shape : ∀ {k : Key} {v : Value}, keyIs k v = true -> (∃ i t, k = Sum.inl i /\ v = Value.int i t) \/ (∃ x t, k = Sum.inr x /\ v = Value.str x t)
  | .inl i, v, h => by
    obtain ⟨t, e⟩ := Value.isInt_shape (k := i) (v := v) h
    exact .inl ⟨i, t, rfl, e⟩
  | .inr x, v, h => by
    obtain ⟨t, e⟩ := Value.isStrOf_shape (x := x) (v := v) h
    exact .inr ⟨x, t, rfl, e⟩
theorem keyIs_int (i : Int) (t : Tok) : keyIs (.inl i) (.int i t) = true := by simp [keyIs, Value.isInt]
theorem keyIs_str (x : Str) (t : Tok) : keyIs (.inr x) (.str x t) = true := by simp [keyIs, Value.isStrOf]
theorem key_ll (a b : Int) : decide ((Sum.inl a : Key) = Sum.inl b) = (a == b) := by
  by_cases e : a = b
  · subst e; simp
  · have h : ¬ (Sum.inl a : Key) = Sum.inl b := fun q => e (Sum.inl.inj q)
    rw [decide_eq_false h]
    exact (beq_eq_false_iff_ne.mpr e).symm
theorem key_rr (a b : Str) : decide ((Sum.inr a : Key) = Sum.inr b) = decide (a = b) := by
  by_cases e : a = b
  · subst e; simp
  · have h : ¬ (Sum.inr a : Key) = Sum.inr b := fun q => e (Sum.inr.inj q)
    rw [decide_eq_false h, decide_eq_false e]
theorem key_lr (a : Int) (b : Str) : decide ((Sum.inl a : Key) = Sum.inr b) = false := decide_eq_false (fun q => nomatch q)
theorem key_rl (a : Str) (b : Int) : decide ((Sum.inr a : Key) = Sum.inl b) = false := decide_eq_false (fun q => nomatch q)
def mixKind (prog : Program) (w : World) : PySem.KeyKind prog w Key where
  is := keyIs
  hash := keyH w
  inj := fun v a b ha hb => by
    rcases keyIs_shape ha with ⟨i, t, rfl, rfl⟩ | ⟨x, t, rfl, rfl⟩
    · rcases keyIs_shape hb with ⟨j, u, rfl, e⟩ | ⟨y, u, rfl, e⟩
      · injection e with e1 _; rw [e1]
      · exact nomatch e
    · rcases keyIs_shape hb with ⟨j, u, rfl, e⟩ | ⟨y, u, rfl, e⟩
      · exact nomatch e
      · injection e with e1 _; rw [e1]
  byValue := fun k v h => by
    rcases keyIs_shape h with ⟨i, t, rfl, rfl⟩ | ⟨x, t, rfl, rfl⟩ <;> rfl
  pyHash := fun hv h => by
    rcases keyIs_shape hv with ⟨i, t, rfl, rfl⟩ | ⟨x, t, rfl, rfl⟩
    · exact wpAny_pyHash_int h
    · exact wpAny_pyHash_str h
  eqBool := fun hu hv h => by
    rcases keyIs_shape hu with ⟨i, t, rfl, rfl⟩ | ⟨x, t, rfl, rfl⟩
    · rcases keyIs_shape hv with ⟨j, u, rfl, rfl⟩ | ⟨y, u, rfl, rfl⟩
      · rw [key_ll] at h; exact wpAny_eqBool_int h
      · rw [key_lr] at h; exact SeqAt.EqAt.int_str i t y u _ _ _ _ h
    · rcases keyIs_shape hv with ⟨j, u, rfl, rfl⟩ | ⟨y, u, rfl, rfl⟩
      · rw [key_rl] at h; exact SeqAt.EqAt.str_int x t j u _ _ _ _ h
      · rw [key_rr] at h; exact wpAny_eqBool_str h
  «strs» := fun k x t v h => by
    rcases keyIs_shape h with ⟨i, u, rfl, e⟩ | ⟨y, u, rfl, e⟩
    · exact nomatch e
    · injection e with e1 _
      subst e1
      cases v <;> rfl
theorem mixKind_int (prog : Program) (w : World) (i : Int) (t : Tok) : (mixKind prog w).is (.inl i) (.int i t) = true := keyIs_int i t
theorem mixKind_str (prog : Program) (w : World) (x : Str) (t : Tok) : (mixKind prog w).is (.inr x) (.str x t) = true := keyIs_str x t
end L2
namespace L2
open PySem PySem.Spec PyProof.Rows
inductive V where
  | non | bl (b : Bool) | int (i : Int) | str (x : Str) | byt (b : Array UInt8) | flt (b : UInt64) | ref (a : Addr) | ty (n : String)
  deriving DecidableEq
def RelV : V -> Value -> Prop
  | .non, u => u = Value.none
  | .bl b, u => u = Value.bool b
  | .int i, u => ∃ t, u = Value.int i t
  | .str x, u => ∃ t, u = Value.str x t
  | .byt b, u => ∃ t, u = Value.bytes b t
  | .flt b, u => ∃ t, u = Value.float b t
  | .ref a, u => u = Value.ref a
  | .ty n, u => u = Value.type n
abbrev Vals : List V -> List Value -> Prop := Paired RelV
theorem Vals.length {xs : List V} {us : List Value} (r : Vals xs us) : xs.length = us.length := Paired.length r
theorem Vals.get : ∀ {xs : List V} {us : List Value} {i : Nat} {x : V}, Vals xs us -> xs[i]? = some x -> ∃ u, us[i]? = some u /\ RelV x u
  | _, _, _, _, .nil, e => by simp at e
  | _, _, 0, _, .cons r _, e => by simp at e; subst e; exact ⟨_, rfl, r⟩
  | _, _, i + 1, x, .cons _ t, e => by
    obtain ⟨u, h1, h2⟩ := Vals.get (i := i) (x := x) t (by simpa using e)
    exact ⟨u, by simpa using h1, h2⟩
theorem Vals.set {x : V} {u : Value} (r : RelV x u) : ∀ {xs : List V} {us : List Value} (i : Nat), Vals xs us -> Vals (xs.set i x) (us.set i u)
  | _, _, _, .nil => .nil
  | _, _, 0, .cons _ t => .cons r t
  | _, _, i + 1, .cons q t => .cons q (Vals.set r i t)
theorem Vals.append : ∀ {xs ys : List V} {us ws : List Value}, Vals xs us -> Vals ys ws -> Vals (xs ++ ys) (us ++ ws)
  | _, _, _, _, .nil, s => s
  | _, _, _, _, .cons r t, s => .cons r (Vals.append t s)
theorem Vals.take : ∀ {xs : List V} {us : List Value} (n : Nat), Vals xs us -> Vals (xs.take n) (us.take n)
  | _, _, 0, _ => .nil
  | _, _, _ + 1, .nil => .nil
  | _, _, n + 1, .cons r t => .cons r (Vals.take n t)
theorem Vals.drop : ∀ {xs : List V} {us : List Value} (n : Nat), Vals xs us -> Vals (xs.drop n) (us.drop n)
  | _, _, 0, r => r
  | _, _, _ + 1, .nil => .nil
  | _, _, n + 1, .cons _ t => Vals.drop n t
def RelO : Option V -> Option Value -> Prop
  | some v, some u => RelV v u
  | none, none => True
  | _, _ => False
def KV {κ : Type} : List (κ × V) -> List (κ × Value) -> Prop := Paired fun (p : κ × V) (q : κ × Value) => p.1 = q.1 /\ RelV p.2 q.2
def kV : Key -> V
  | .inl i => .int i
  | .inr x => .str x
inductive HO where
  | lst (xs : List V)
  | tup (xs : List V)
  | dK (kvs : List (Key × V)) | dT (kvs : List (List Key × V))
  | set (S : Int -> Bool) (n : Nat)
  | ins (C dx : Addr) (fs : List (Str × V))
  | own (x : Addr)
  | xd (fs : List (Str × V))
  | met (f x : Addr)
  | rng (lo hi : Int)
  | frz (o : Obj) (u : HO)
  | tbl (ps : Array Value)
  | ext (φ : Heap -> Prop)
abbrev Hp := Addr -> Option HO
def upd (H : Hp) (a : Addr) (o : HO) : Hp := fun b => if b = a then some o else H b
theorem upd_same {H : Hp} {a : Addr} {o : HO} : upd H a o a = some o := by unfold upd; rw [if_pos rfl]
theorem upd_ne {H : Hp} {a b : Addr} {o : HO} (h : b ≠ a) : upd H a o b = H b := by unfold upd; rw [if_neg h]
theorem ne_of {H : Hp} {a b : Addr} {o u : HO} (h : H a = some o) (h' : H b = some u) (d : o ≠ u) : a ≠ b := by
  intro e; subst e; rw [h] at h'; exact d (Option.some.inj h')
theorem ne_of_none {H : Hp} {a b : Addr} {o : HO} (h : H a = some o) (h' : H b = none) : a ≠ b := by
  intro e; subst e; rw [h] at h'; cases h'
section
variable (P : Program) (w : World)
def ObjOk (H : Hp) (h : Heap) (a : Addr) : HO -> Prop
  | .lst xs => xs.length <= sizeLine /\ ∃ (its : List Value) (n : Nat), Vals xs its /\ h.get? a = some { cls := .type "list", data := .seq its.toArray n }
  | .tup xs => xs.length <= sizeLine /\ ∃ its : List Value, Vals xs its /\ IsTup h a its.toArray
  | .dK kvs => kvs.length <= sizeLine /\ (a == sysModules) = false /\ ∃ vs, KV kvs vs /\ h.DictOf (mixKind P w) a vs
  | .dT kvs => kvs.length <= sizeLine /\ (a == sysModules) = false /\ ∃ xs : List (List Key × Addr × Value),
      Paired (fun (p : List Key × V) (q : List Key × Addr × Value) => p.1 = q.1 /\ H q.2.1 = some (.tup (p.1.map kV)) /\ RelV p.2 q.2.2) kvs xs /\
      ∃ o es ep, h.get? a = some o /\ o.ExactDict /\ o.data = .dict es ep /\ es.toList = xs.map (entryOfKey (tupleKind (mixKind P w))) /\ (xs.map (·.1)).Nodup
  | .set S n => h.SetOf (intKind P w) a S n
  | .ins C dx fs => H dx = some (.own a) /\ fs.length <= 1000 /\ dx ≠ a /\ h.get? a = some (PySem.W.instObj C dx) /\
      ∃ mA, h.Ns1 dx mA /\ (∀ f, RelO (fs.lookup f) (mA f)) /\ PySem.Within mA (fs.map (·.1))
  | .own _ => ∃ o, h.get? a = some o
  | .xd fs => ∃ mA, h.Ns1 a mA /\ ∀ f, RelO (fs.lookup f) (mA f)
  | .rng lo hi => ∃ t u v, h.get? a = some { cls := .type "range", data := .fields #[.int lo t, .int hi u, .int 1 v] }
  | .frz o u => h.get? a = some o /\ ObjOk H h a u
  | .tbl ps => h.get? a = some { cls := .none, data := .fields ps }
  | .met f x => h.get? a = some (PySem.W.methodObj (.ref f) (.ref x))
  | .ext φ => φ h /\ (∃ o, h.get? a = some o) /\ ∀ h1 h2 : Heap, φ h1 -> (∀ o, h1.get? a = some o -> h2.get? a = some o) -> φ h2
def HOk (H : Hp) (h : Heap) : Prop := ∀ a o, H a = some o -> ObjOk P w H h a o
end
section
variable {P : Program} {w : World} {H H' : Hp} {h h' : Heap} {a : Addr} {o : HO}
theorem ObjOk.lt (x : ObjOk P w H h a o) : a < h.objs.size := by
  cases o with
  | lst xs => obtain ⟨_, _, _, _, e⟩ := x; exact Heap.lt_size e
  | tup xs => obtain ⟨_, _, _, p⟩ := x; exact p.lt
  | dK kvs => obtain ⟨_, _, _, _, o, _, _, e, _⟩ := x; exact Heap.lt_size e
  | dT kvs => obtain ⟨_, _, _, _, o, _, _, e, _⟩ := x; exact Heap.lt_size e
  | set S n => obtain ⟨o, _, _, _, e, _⟩ := x; exact Heap.lt_size e
  | ins C dx fs => obtain ⟨_, _, _, e, _⟩ := x; exact Heap.lt_size e
  | own y => obtain ⟨_, e⟩ := x; exact Heap.lt_size e
  | xd fs => obtain ⟨_, ⟨_, _, _, e, _⟩, _⟩ := x; exact Heap.lt_size e
  | rng lo hi => obtain ⟨_, _, _, e⟩ := x; exact Heap.lt_size e
  | frz ob u => obtain ⟨e, _⟩ := x; exact Heap.lt_size e
  | tbl ps => exact Heap.lt_size (show h.get? a = some _ from x)
  | met f y => exact Heap.lt_size (show h.get? a = some _ from x)
  | ext φ => obtain ⟨_, ⟨_, e⟩, _⟩ := x; exact Heap.lt_size e
theorem Paired.mapP {α β : Type} {F G : α -> β -> Prop} : ∀ {l₁ : List α} {l₂ : List β}, Paired F l₁ l₂ -> (∀ a b, F a b -> G a b) -> Paired G l₁ l₂
  | _, _, .nil, _ => .nil
  | _, _, .cons r t, f => .cons (f _ _ r) (Paired.mapP t f)
theorem ObjOk.stay (x : ObjOk P w H h a o) (k : ∀ b u, (b = a \/ H b = some (.own a)) -> h.get? b = some u -> h'.get? b = some u)
    (ho : ∀ b, H b = some (.own a) -> H' b = some (.own a)) (ht : ∀ b xs, H b = some (.tup xs) -> H' b = some (.tup xs)) : ObjOk P w H' h' a o := by
  induction o with
  | lst xs => obtain ⟨z, its, n, r, e⟩ := x; exact ⟨z, its, n, r, k _ _ (.inl rfl) e⟩
  | tup xs => obtain ⟨z, its, r, ob, e, c⟩ := x; exact ⟨z, its, r, ob, k _ _ (.inl rfl) e, c⟩
  | dK kvs => obtain ⟨z, y, vs, r, ob, es, ep, e, c⟩ := x; exact ⟨z, y, vs, r, ob, es, ep, k _ _ (.inl rfl) e, c⟩
  | dT kvs =>
    obtain ⟨z, y, xs, r, ob, es, ep, e, c⟩ := x
    exact ⟨z, y, xs, Paired.mapP r fun p q z => ⟨z.1, ht _ _ z.2.1, z.2.2⟩, ob, es, ep, k _ _ (.inl rfl) e, c⟩
  | set S n => obtain ⟨ob, es, ep, t, e, c⟩ := x; exact ⟨ob, es, ep, t, k _ _ (.inl rfl) e, c⟩
  | ins C dx fs =>
    obtain ⟨d, z, ne, e, mA, ⟨od, es, ep, e2, c⟩, r⟩ := x
    exact ⟨ho _ d, z, ne, k _ _ (.inl rfl) e, mA, ⟨od, es, ep, k _ _ (.inr d) e2, c⟩, r⟩
  | own y => obtain ⟨ob, e⟩ := x; exact ⟨ob, k _ _ (.inl rfl) e⟩
  | xd fs => obtain ⟨mA, ⟨od, es, ep, e, c⟩, r⟩ := x; exact ⟨mA, ⟨od, es, ep, k _ _ (.inl rfl) e, c⟩, r⟩
  | rng lo hi => obtain ⟨t, u, v, e⟩ := x; exact ⟨t, u, v, k _ _ (.inl rfl) e⟩
  | frz ob u ih => obtain ⟨e, q⟩ := x; exact ⟨k _ _ (.inl rfl) e, ih q⟩
  | tbl ps =>
    have e : h.get? a = some { cls := .none, data := .fields ps } := x
    show h'.get? a = some { cls := .none, data := .fields ps }
    exact k a _ (.inl rfl) e
  | met f y =>
    have e : h.get? a = some (PySem.W.methodObj (.ref f) (.ref y)) := x
    show h'.get? a = some (PySem.W.methodObj (.ref f) (.ref y))
    exact k a _ (.inl rfl) e
  | ext φ => obtain ⟨p, ⟨o, e⟩, st⟩ := x; exact ⟨st _ _ p fun o q => k _ _ (.inl rfl) q, ⟨o, k _ _ (.inl rfl) e⟩, st⟩
theorem HOk.lt (x : HOk P w H h) (e : H a = some o) : a < h.objs.size := (x a o e).lt
theorem HOk.fresh (x : HOk P w H h) (e : h.objs.size <= a) : H a = none := by
  cases q : H a with
  | none => rfl
  | some u => exact absurd (Nat.lt_of_lt_of_le (x.lt q) e) (Nat.lt_irrefl _)
theorem HOk.kept (x : HOk P w H h) (k : ∀ b u, h.get? b = some u -> h'.get? b = some u) : HOk P w H h' := fun a o e =>
  (x a o e).stay (fun b u _ q => k b u q) (fun _ q => q) fun _ _ q => q
theorem HOk.laid (x : HOk P w H h) (k : ∀ b u, h.get? b = some u -> h'.get? b = some u) (hp : h.objs.size <= a) (new : ObjOk P w (upd H a o) h' a o) : HOk P w (upd H a o) h' := fun b u e => by
  have hn := x.fresh hp
  by_cases hb : b = a
  · subst hb; rw [upd_same] at e; cases e; exact new
  · rw [upd_ne hb] at e
    exact (x b u e).stay (fun c v _ q => k c v q) (fun c q => by rw [upd_ne (ne_of_none q hn)]; exact q) fun c xs q => by rw [upd_ne (ne_of_none q hn)]; exact q
end
def Rd (H : Hp) (a : Addr) (u : HO) : Prop := H a = some u \/ ∃ o, H a = some (.frz o u)
theorem Rd.of {H : Hp} {a : Addr} {u : HO} (h : H a = some u) : Rd H a u := .inl h
theorem Rd.ok {P : Program} {w : World} {H : Hp} {h : Heap} {a : Addr} {u : HO} (r : Rd H a u) (x : HOk P w H h) : ObjOk P w H h a u := by
  rcases r with r | ⟨o, r⟩
  · exact x a u r
  · obtain ⟨_, q⟩ := x a _ r
    exact q
def Mut : Option HO -> Prop
  | some (.lst _) => True
  | some (.dK _) => True
  | some (.dT _) => True
  | some (.set _ _) => True
  | some (.ins _ _ _) => True
  | some (.ext _) => True
  | _ => False
section
variable {P : Program} {w : World} {H : Hp} {h h' : Heap} {x e : Addr} {o' : HO}
theorem HOk.write (ok : HOk P w H h) (mu : Mut (H x)) (he : e = x \/ H e = some (.own x)) (k : ∀ b u, b ≠ e -> h.get? b = some u -> h'.get? b = some u) (heo : ∃ u, h'.get? e = some u)
    (new : ObjOk P w (upd H x o') h' x o') : HOk P w (upd H x o') h' := fun b u q => by
  have nown : ∀ c y, H c = some (.own y) -> c ≠ x := fun c y r z => by subst z; rw [r] at mu; exact mu
  have ntup : ∀ c xs, H c = some (.tup xs) -> c ≠ x := fun c xs r z => by subst z; rw [r] at mu; exact mu
  by_cases hb : b = x
  · subst hb; rw [upd_same] at q; cases q; exact new
  · rw [upd_ne hb] at q
    by_cases hbe : b = e
    · have q' : H b = some (.own x) := by
        rcases he with z | z
        · exact absurd (hbe.trans z) hb
        · rw [hbe]; exact z
      rw [q] at q'; cases q'
      obtain ⟨v, hv⟩ := heo
      exact ⟨v, by rw [hbe]; exact hv⟩
    · refine (ok b u q).stay (fun c v hc r => k c v ?_ r) (fun c r => by rw [upd_ne (nown c b r)]; exact r) fun c xs r => by rw [upd_ne (ntup c xs r)]; exact r
      rcases hc with rfl | hc
      · exact hbe
      · rintro rfl
        rcases he with z | z
        · exact nown c b hc z
        · rw [hc] at z; cases z; exact hb rfl
end
structure Un (fs ex : List Addr) (H H' : Hp) (h h' : Heap) : Prop where
  keep : ∀ b o, h.get? b = some o -> H b = none -> b ∉ fs -> b ∉ ex -> h'.get? b = some o
  slot : ∀ b o, h.get? b = some o -> H b = none -> b ∈ fs -> b ∉ ex -> ∃ sl, h'.get? b = some { o with slots := sl }
  free : ∀ b o, h.get? b = some o -> H b = none -> b ∉ ex -> H' b = none
  there : ∀ b o, h.get? b = some o -> b ∉ ex -> ∃ o', h'.get? b = some o'
  tups : ∀ b xs, H b = some (.tup xs) -> H' b = some (.tup xs)
  frzs : ∀ b o u, H b = some (.frz o u) -> H' b = some (.frz o u)
  tbls : ∀ b ps, H b = some (.tbl ps) -> ∃ more, H' b = some (.tbl (ps ++ more))
section
variable {fs fs' ex ex' : List Addr} {H H1 H2 : Hp} {h h1 h2 h' : Heap} {a x e : Addr} {o : HO}
theorem Un.any (u : Un fs ex H H1 h h1) {b : Addr} {ob : Obj} (q : h.get? b = some ob) (n : H b = none) (hx : b ∉ ex) : ∃ sl, h1.get? b = some { ob with slots := sl } := by
  by_cases hb : b ∈ fs
  · exact u.slot b ob q n hb hx
  · exact ⟨ob.slots, u.keep b ob q n hb hx⟩
theorem Un.trans (a : Un fs ex H H1 h h1) (b : Un fs ex H1 H2 h1 h2) : Un fs ex H H2 h h2 where
  keep := fun c ob q n hc hx => b.keep c ob (a.keep c ob q n hc hx) (a.free c ob q n hx) hc hx
  slot := fun c ob q n hc hx => by
    obtain ⟨sl, e1⟩ := a.slot c ob q n hc hx
    obtain ⟨sl', e2⟩ := b.slot c _ e1 (a.free c ob q n hx) hc hx
    exact ⟨sl', e2⟩
  free := fun c ob q n hx => by
    obtain ⟨o', e1⟩ := a.there c ob q hx
    exact b.free c o' e1 (a.free c ob q n hx) hx
  there := fun c ob q hx => by
    obtain ⟨o', e1⟩ := a.there c ob q hx
    exact b.there c o' e1 hx
  tups := fun c xs q => b.tups c xs (a.tups c xs q)
  frzs := fun c ob xs q => b.frzs c ob xs (a.frzs c ob xs q)
  tbls := fun c ps q => by
    obtain ⟨m1, e1⟩ := a.tbls c ps q
    obtain ⟨m2, e2⟩ := b.tbls c _ e1
    exact ⟨m1 ++ m2, by rw [e2, Array.append_assoc]⟩
theorem Un.kept (k : ∀ b u, h.get? b = some u -> h'.get? b = some u) : Un fs ex H H h h' :=
  ⟨fun b ob q _ _ _ => k b ob q, fun b ob q _ _ _ => ⟨ob.slots, k b ob q⟩, fun _ _ _ n _ => n, fun b ob q _ => ⟨ob, k b ob q⟩, fun _ _ q => q, fun _ _ _ q => q, fun _ ps q => ⟨#[], by rw [q]; simp⟩⟩
theorem Un.refl : Un fs ex H H h h := Un.kept fun _ _ q => q
theorem Un.laid (k : ∀ b u, h.get? b = some u -> h'.get? b = some u) (hp : h.objs.size <= a) (hn : H a = none) : Un fs ex H (upd H a o) h h' where
  keep := fun b u q _ _ _ => k b u q
  slot := fun b u q _ _ _ => ⟨u.slots, k b u q⟩
  free := fun b u q n _ => by rw [upd_ne (Nat.ne_of_lt (Nat.lt_of_lt_of_le (Heap.lt_size q) hp))]; exact n
  there := fun b u q _ => ⟨u, k b u q⟩
  tups := fun b xs q => by rw [upd_ne (ne_of_none q hn)]; exact q
  frzs := fun b u xs q => by rw [upd_ne (ne_of_none q hn)]; exact q
  tbls := fun b ps q => ⟨#[], by rw [upd_ne (ne_of_none q hn), q]; simp⟩
theorem Un.write (mu : Mut (H x)) (he : e = x \/ H e = some (.own x)) (k : ∀ b u, b ≠ e -> h.get? b = some u -> h'.get? b = some u) (heo : ∃ u, h'.get? e = some u) : Un fs ex H (upd H x o) h h' := by
  have hx : ∀ b, H b = none -> b ≠ x := fun b n z => by subst z; rw [n] at mu; exact mu
  have hb : ∀ b, H b = none -> b ≠ e := fun b n z => by
    subst z
    rcases he with r | r
    · exact hx b n r
    · rw [n] at r; cases r
  have hm : ∀ b u, H b = some u -> ¬ Mut (some u) -> b ≠ x := fun b u q nm z => by subst z; rw [q] at mu; exact nm mu
  refine ⟨fun b u q n _ _ => k b u (hb b n) q, fun b u q n _ _ => ⟨u.slots, k b u (hb b n) q⟩, fun b u q n _ => by rw [upd_ne (hx b n)]; exact n, fun b u q _ => ?_,
    fun b xs q => by rw [upd_ne (hm b _ q fun z => z)]; exact q, fun b u xs q => by rw [upd_ne (hm b _ q fun z => z)]; exact q, fun b ps q => ⟨#[], by rw [upd_ne (hm b _ q fun z => z), q]; simp⟩⟩
  by_cases hbe : b = e
  · subst hbe; exact heo
  · exact ⟨u, k b u hbe q⟩
theorem Un.mono (u : Un fs ex H H1 h h1) (hs : ∀ b ∈ fs, b ∈ fs') (hx : ∀ b ∈ ex, b ∈ ex') : Un fs' ex' H H1 h h1 :=
  ⟨fun b ob q n hb he => u.keep b ob q n (fun z => hb (hs b z)) fun z => he (hx b z), fun _ _ q n _ he => u.any q n fun z => he (hx _ z), fun b ob q n he => u.free b ob q n fun z => he (hx b z), fun b ob q he => u.there b ob q fun z => he (hx b z), u.tups, u.frzs, u.tbls⟩
end
def trk (h : Heap) (H : Hp) : List Addr := (List.range h.objs.size).filter fun a => (H a).isSome
def hidT (h : Heap) (H : Hp) : Heap := PySem.W.hideAll h (trk h H)
theorem hidT_size (h : Heap) (H : Hp) : (hidT h H).objs.size = h.objs.size := PySem.W.hideAll_size _ _
theorem hidT_get {h : Heap} {H : Hp} {b : Addr} {o : Obj} (e : h.get? b = some o) (n : H b = none) : (hidT h H).get? b = some o :=
  PySem.W.hideAll_get _ e fun hm => by
    have q : (H b).isSome = true := (List.mem_filter.mp hm).2
    rw [n] at q; simp at q
theorem of_hidT {h : Heap} {H : Hp} {b : Addr} {o : Obj} (e : (hidT h H).get? b = some o) : h.get? b = some o /\ H b = none := by
  have e' : h.get? b = some o := PySem.W.of_hideAll (trk h H) e
  refine ⟨e', ?_⟩
  cases q : H b with
  | none => rfl
  | some x =>
    have hm : b ∈ trk h H := List.mem_filter.mpr ⟨List.mem_range.mpr (Heap.lt_size e'), by simp [q]⟩
    have z : (hidT h H).get? b = none := PySem.W.hideAll_none (trk h H) hm
    rw [z] at e; cases e
def allNews (g h : Heap) (L : Addr) : List (Addr × Obj) := (List.range h.objs.size).filterMap fun a => if a = L \/ (g.get? a).isSome = true then none else (h.get? a).map fun o => (a, o)
def rest (g h : Heap) (L d : Addr) : List (Addr × Obj) := (allNews g h L).filter fun p => decide (p.1 ≠ d)
end L2
namespace L2
open PySem PySem.Spec PyProof.Rows
structure Mod (K : PySem.W.Frag) (mg : Str -> Option Value) (base : Heap) : Prop where
  kin : K.In base
  glob : base.Ns mainGlobals mg
  blt : ∃ mb, base.Ns builtinsNs mb /\ ∀ x : Str, x ≠ "__name__" -> mb x = bootBuiltins x
  nolimit : base.NoLimit
/-- the context: a def's body (or a comprehension's block) running. base: fixed through the whole law; s₀, H₀: the entry; outer: the frames whose slots others may change (a def's callers); stack: all frames that run;
   ex: iterators that were made ahead of the entry and are walked here (a comprehension's); fn: the names whose cells were made at the entry (a def: all; a comprehension's block: its own); calm: not within an except suite; pn: pins that every state bears; xe: what is wanted of an exception that leaves the code -/
structure Cx where
  prog : Program
  w : World
  K : PySem.W.Frag
  mg : Str -> Option Value
  base : Heap
  A : Around
  N : List Str
  s₀ : Shared
  H₀ : Hp
  env : Env
  outer : List Env
  stack : List Env
  ex : List Addr
  fn : Str -> Bool
  calm : Bool
  pn : List (Addr × Obj)
  xe : Value -> Shared -> Prop
def frs (l : List Env) : List Addr := l.filterMap (·.frame)
abbrev Cx.fs (X : Cx) : List Addr := frs X.outer
def Vis (sc : Scope) (x : Str) : Prop := sc.names.lookup x = some .local \/ sc.names.lookup x = some .cell \/ sc.names.lookup x = some .free
def Loc (sc : Scope) (x : Str) : Prop := sc.names.lookup x = some .local \/ sc.names.lookup x = some .cell
def Look (env : Env) (h : Heap) (m : Str -> Option Value) (x : Str) (u : Value) : Prop :=
  (env.kindOf x = some .local /\ m x = some u) \/ ((env.kindOf x = some .cell \/ env.kindOf x = some .free) /\ ∃ c, env.cells.lookup x = some c /\ h.IsCell c (some u))
structure Cx.Ok (X : Cx) : Prop where
  mod : Mod X.K X.mg X.base
  kind : X.env.scope.kind = .function
  glob : X.env.globals = mainGlobals
  blt : X.env.builtins = builtinsNs
  above : X.s₀.heap.objs.size <= X.env.locals
  inj : ∀ x y c, X.env.cells.lookup x = some c -> X.env.cells.lookup y = some c -> x = y
  has : ∀ x, (X.env.kindOf x = some .cell \/ X.env.kindOf x = some .free) -> ∃ c, X.env.cells.lookup x = some c
  cab : ∀ x c, X.fn x = true -> X.env.cells.lookup x = some c -> X.s₀.heap.objs.size <= c
  hd : X.calm = true -> X.A.handled = none
  frames : X.A.frames = some X.stack
  stk : X.stack = X.outer \/ (X.stack = X.env :: X.outer /\ X.env.frame = some X.env.locals)
  exf : ∀ b ∈ X.ex, b ≠ X.env.locals /\ ∀ x c, X.env.cells.lookup x = some c -> c ≠ b
  bs : ∀ b o, X.base.get? b = some o -> X.s₀.heap.get? b = some o /\ X.H₀ b = none
  bsz : X.base.objs.size <= X.s₀.heap.objs.size
  noex : ∀ b o, X.base.get? b = some o -> b ∉ X.ex
  exfs : ∀ b ∈ X.ex, b ∉ X.fs
  funs : X.s₀.heap.FunFrames X.base X.outer
  frf : ∀ b ∈ X.fs, X.H₀ b = none
structure Inv (X : Cx) (pins : List (Addr × Obj)) (σ : List (Option V)) (H : Hp) (s : Shared) : Prop where
  ok : X.Ok
  os : s.os = X.s₀.os
  bare : AllBare s.gens
  base : Un X.fs X.ex X.H₀ H X.s₀.heap s.heap
  loc : ∃ m, s.heap.Ns X.env.locals m /\ ∀ (i : Nat) (x : Str) (v : V), X.N[i]? = some x -> σ[i]? = some (some v) -> Vis X.env.scope x -> ∃ u, RelV v u /\ Look X.env s.heap m x u
  cell : ∀ x c, X.env.cells.lookup x = some c -> ∃ v, s.heap.IsCell c v
  free : H X.env.locals = none
  freeC : ∀ x c, X.env.cells.lookup x = some c -> H c = none
  pin : ∀ p ∈ X.pn ++ pins, s.heap.get? p.1 = some p.2 /\ H p.1 = none /\ p.1 ≠ X.env.locals /\ p.1 ∉ X.fs /\ ∀ v, p.2.data ≠ .cell v
  hok : HOk X.prog X.w H s.heap
  len : σ.length = X.N.length
section
variable {X : Cx} {pins : List (Addr × Obj)} {σ : List (Option V)} {H H' : Hp} {s : Shared} {h' : Heap}
theorem Cx.Ok.nofr (ok : X.Ok) {b : Addr} {o : Obj} (e : X.base.get? b = some o) : b ∉ X.fs := fun hb => by
  have := (ok.funs.mem hb).1
  rw [e] at this; cases this
theorem Inv.bs (I : Inv X pins σ H s) : ∀ b o, X.base.get? b = some o -> s.heap.get? b = some o /\ H b = none := fun b o e =>
  ⟨I.base.keep b o (I.ok.bs b o e).1 (I.ok.bs b o e).2 (I.ok.nofr e) (I.ok.noex b o e), I.base.free b o (I.ok.bs b o e).1 (I.ok.bs b o e).2 (I.ok.noex b o e)⟩
theorem Inv.bk (I : Inv X pins σ H s) : ∀ b o, X.base.get? b = some o -> s.heap.get? b = some o := fun b o e => (I.bs b o e).1
theorem Inv.mod (I : Inv X pins σ H s) : Mod X.K X.mg X.base := I.ok.mod
theorem Inv.kIn (I : Inv X pins σ H s) : X.K.In s.heap := I.ok.mod.kin.keeps I.bk
theorem Inv.nolimit (I : Inv X pins σ H s) : s.heap.NoLimit := I.ok.mod.nolimit.keeps I.bk
theorem Inv.fr (I : Inv X pins σ H s) : ∃ m, Fr X.base X.env.locals s.heap m :=
  let ⟨m, hn, _⟩ := I.loc
  ⟨m, hn, I.bk, Nat.le_trans I.ok.bsz I.ok.above⟩
theorem Inv.lt (I : Inv X pins σ H s) : X.env.locals < s.heap.objs.size := let ⟨_, hn, _⟩ := I.loc; hn.lt
theorem Inv.sz (I : Inv X pins σ H s) : X.s₀.heap.objs.size <= s.heap.objs.size := Nat.le_trans I.ok.above (Nat.le_of_lt I.lt)
theorem Inv.nofs (I : Inv X pins σ H s) {a : Addr} (h : s.heap.objs.size <= a) : a ∉ X.fs := fun hb => by
  obtain ⟨_, o, ho, _⟩ := I.ok.funs.mem hb
  exact absurd (Nat.lt_of_lt_of_le (Heap.lt_size ho) (Nat.le_trans I.sz h)) (Nat.lt_irrefl _)
theorem Inv.cne (I : Inv X pins σ H s) : ∀ x c, X.env.cells.lookup x = some c -> c ≠ X.env.locals := fun x c e z => by
  obtain ⟨v, o, ho, hd⟩ := I.cell x c e
  obtain ⟨m, ⟨o', es, ep, ho', hd', _⟩, _⟩ := I.loc
  rw [z, ho'] at ho; cases ho; rw [hd'] at hd; cases hd
theorem Inv.funs (I : Inv X pins σ H s) : s.heap.FunFrames X.base X.outer := by
  have all : ∀ (l : List Env), (∀ b ∈ frs l, b ∈ X.fs) -> X.s₀.heap.FunFrames X.base l -> s.heap.FunFrames X.base l := by
    intro l
    induction l with
    | nil => intro _ _; trivial
    | cons env r ih =>
      intro hs hl
      obtain ⟨hk, ⟨L, o, hf, hn, ho, hd⟩, hr⟩ := hl
      have hL : L ∈ X.fs := hs L (by unfold frs; rw [List.filterMap_cons, hf]; exact List.mem_cons_self)
      obtain ⟨sl, e⟩ := I.base.slot L o ho (I.ok.frf L hL) hL fun z => I.ok.exfs L z hL
      exact ⟨hk, ⟨L, _, hf, hn, e, hd⟩, ih (fun b hb => hs b (by unfold frs; rw [List.filterMap_cons, hf]; exact List.mem_cons_of_mem _ hb)) hr⟩
  exact all X.outer (fun _ hb => hb) I.ok.funs
theorem Inv.stack (I : Inv X pins σ H s) : s.heap.FunFrames X.base X.stack := by
  rcases I.ok.stk with e | ⟨e, hf⟩
  · rw [e]; exact I.funs
  · rw [e]
    obtain ⟨m, hn, _⟩ := I.loc
    refine .cons (by rw [I.ok.kind]; decide) hf hn ?_ I.funs
    exact Heap.get?_none_of_le (Nat.le_trans I.ok.bsz I.ok.above)
theorem Inv.stkSub (I : Inv X pins σ H s) : ∀ b ∈ frs X.stack, b ∈ X.env.locals :: X.fs := fun b hb => by
  rcases I.ok.stk with e | ⟨e, hf⟩
  · rw [e] at hb; exact List.mem_cons_of_mem _ hb
  · rw [e] at hb
    unfold frs at hb
    rw [List.filterMap_cons, hf] at hb
    exact hb
theorem Inv.stkFree (I : Inv X pins σ H s) : ∀ b ∈ frs X.stack, H b = none := fun b hb => by
  rcases List.mem_cons.mp (I.stkSub b hb) with e | hb
  · rw [e]; exact I.free
  · obtain ⟨_, o, ho, _⟩ := I.ok.funs.mem hb
    exact I.base.free b o ho (I.ok.frf b hb) fun z => I.ok.exfs b z hb
theorem Inv.step {g' : Array GenState} {t' : Nat} {d' : Drawn} {ch : List Addr} (I : Inv X pins σ H s)
    (hch : ∀ b ∈ ch, (b ∈ X.ex \/ X.s₀.heap.objs.size <= b) /\ b ≠ X.env.locals /\ (∀ x c, X.env.cells.lookup x = some c -> c ≠ b) /\ ∀ p ∈ X.pn ++ pins, p.1 ≠ b)
    (keep : ∀ b o, b ≠ X.env.locals -> b ∉ X.fs -> b ∉ ch -> s.heap.get? b = some o -> H b = none -> h'.get? b = some o)
    (slot : ∀ b o, b ≠ X.env.locals -> b ∈ X.fs -> b ∉ ch -> s.heap.get? b = some o -> H b = none -> ∃ sl, h'.get? b = some { o with slots := sl }) (free : ∀ b o, b ∉ ch -> s.heap.get? b = some o -> H b = none -> H' b = none)
    (there : ∀ b o, b ∉ ch -> s.heap.get? b = some o -> ∃ o', h'.get? b = some o')
    (tups : ∀ b xs, H b = some (.tup xs) -> H' b = some (.tup xs)) (frzs : ∀ b o u, H b = some (.frz o u) -> H' b = some (.frz o u)) (tbls : ∀ b ps, H b = some (.tbl ps) -> ∃ more, H' b = some (.tbl (ps ++ more)))
    (ns : ∀ m, s.heap.Ns X.env.locals m -> h'.Ns X.env.locals m) (hok : HOk X.prog X.w H' h') (hg : AllBare g') :
    Inv X pins σ H' { s with heap := h', gens := g', drawn := d', toks := t' } := by
  have neL : ∀ b o, X.s₀.heap.get? b = some o -> b ≠ X.env.locals := fun b o e => Nat.ne_of_lt (Nat.lt_of_lt_of_le (Heap.lt_size e) I.ok.above)
  have neC : ∀ b o, X.s₀.heap.get? b = some o -> b ∉ X.ex -> b ∉ ch := fun b o e hx hb => by
    rcases (hch b hb).1 with z | z
    · exact hx z
    · exact absurd (Nat.lt_of_lt_of_le (Heap.lt_size e) z) (Nat.lt_irrefl _)
  have cellK : ∀ x c, X.env.cells.lookup x = some c -> ∀ v, s.heap.IsCell c v -> h'.IsCell c v := fun x c e v ⟨o, ho, hd⟩ => by
    have nch : c ∉ ch := fun z => (hch c z).2.2.1 x c e rfl
    by_cases hc : c ∈ X.fs
    · obtain ⟨sl, q⟩ := slot c o (I.cne x c e) hc nch ho (I.freeC x c e)
      exact ⟨_, q, hd⟩
    · exact ⟨o, keep c o (I.cne x c e) hc nch ho (I.freeC x c e), hd⟩
  refine ⟨I.ok, I.os, hg, ⟨fun b o e n hb hx => ?_, fun b o e n hb hx => ?_, fun b o e n hx => ?_, fun b o e hx => ?_, fun b xs e => tups b xs (I.base.tups b xs e), fun b o xs e => frzs b o xs (I.base.frzs b o xs e), fun b ps e => ?_⟩, ?_, fun x c e => ?_, ?_, fun x c e => ?_, fun p hp => ?_, hok, I.len⟩
  · exact keep b o (neL b o e) hb (neC b o e hx) (I.base.keep b o e n hb hx) (I.base.free b o e n hx)
  · obtain ⟨sl, e1⟩ := I.base.slot b o e n hb hx
    obtain ⟨sl', e2⟩ := slot b _ (neL b o e) hb (neC b o e hx) e1 (I.base.free b o e n hx)
    exact ⟨sl', e2⟩
  · obtain ⟨o', e1⟩ := I.base.there b o e hx
    exact free b o' (neC b o e hx) e1 (I.base.free b o e n hx)
  · obtain ⟨o', e1⟩ := I.base.there b o e hx
    exact there b o' (neC b o e hx) e1
  · obtain ⟨m1, e1⟩ := I.base.tbls b ps e
    obtain ⟨m2, e2⟩ := tbls b _ e1
    exact ⟨m1 ++ m2, by rw [e2, Array.append_assoc]⟩
  · obtain ⟨m, hn, hl⟩ := I.loc
    refine ⟨m, ns m hn, fun i x v e1 e2 e3 => ?_⟩
    obtain ⟨u, r, l⟩ := hl i x v e1 e2 e3
    refine ⟨u, r, ?_⟩
    rcases l with l | ⟨k, c, e, z⟩
    · exact .inl l
    · exact .inr ⟨k, c, e, cellK x c e _ z⟩
  · obtain ⟨v, z⟩ := I.cell x c e
    exact ⟨v, cellK x c e v z⟩
  · obtain ⟨m, ⟨o, _, _, ho, _⟩, _⟩ := I.loc
    exact free _ o (fun z => (hch _ z).2.1 rfl) ho I.free
  · obtain ⟨v, o, ho, hd⟩ := I.cell x c e
    exact free c o (fun z => (hch c z).2.2.1 x c e rfl) ho (I.freeC x c e)
  · obtain ⟨e, n, ne, nf, d⟩ := I.pin p hp
    have nch : p.1 ∉ ch := fun z => (hch p.1 z).2.2.2 p hp rfl
    exact ⟨keep p.1 p.2 ne nf nch e n, free p.1 p.2 nch e n, ne, nf, d⟩
theorem Inv.un {t' : Nat} (I : Inv X pins σ H s) (u : Un X.fs [] H H' s.heap h') (hok : HOk X.prog X.w H' h') : Inv X pins σ H' { s with heap := h', toks := t' } := by
  obtain ⟨m, ⟨o, es, ep, ho, r⟩, _⟩ := id I.loc
  obtain ⟨sl, hL⟩ := u.any ho I.free (by simp)
  exact I.step (g' := s.gens) (d' := s.drawn) (ch := []) (fun _ z => nomatch z) (fun b o _ hb _ e n => u.keep b o e n hb (by simp)) (fun b o _ hb _ e n => u.slot b o e n hb (by simp)) (fun b o _ e n => u.free b o e n (by simp)) (fun b o _ e => u.there b o e (by simp)) u.tups u.frzs u.tbls (fun m' hm => by
    obtain ⟨o', es', ep', ho', r'⟩ := hm
    rw [ho] at ho'; cases ho'
    exact ⟨_, es', ep', hL, r'⟩) hok I.bare
theorem Inv.call {g' : Array GenState} {t' : Nat} {d' : Drawn} {ch : List Addr} (I : Inv X pins σ H s) (u : Un (frs X.stack) ch H H' s.heap h') (hok : HOk X.prog X.w H' h') (hg : AllBare g')
    (hch : ∀ b ∈ ch, (b ∈ X.ex \/ X.s₀.heap.objs.size <= b) /\ b ≠ X.env.locals /\ (∀ x c, X.env.cells.lookup x = some c -> c ≠ b) /\ ∀ p ∈ X.pn ++ pins, p.1 ≠ b) :
    Inv X pins σ H' { s with heap := h', gens := g', drawn := d', toks := t' } := by
  obtain ⟨m, ⟨o, es, ep, ho, r⟩, _⟩ := id I.loc
  obtain ⟨sl, hL⟩ := u.any ho I.free fun z => (hch _ z).2.1 rfl
  exact I.step (ch := ch) hch (fun b o hL hb hc e n => u.keep b o e n (fun z => (List.mem_cons.mp (I.stkSub b z)).elim hL hb) hc) (fun b o _ _ hc e n => u.any e n hc) (fun b o hc e n => u.free b o e n hc) (fun b o hc e => u.there b o e hc) u.tups u.frzs u.tbls (fun m' hm => by
    obtain ⟨o', es', ep', ho', r'⟩ := hm
    rw [ho] at ho'; cases ho'
    exact ⟨_, es', ep', hL, r'⟩) hok hg
theorem Inv.turned {t' : Nat} {it : Addr} (I : Inv X pins σ H s) (k : ∀ b o, b ≠ it -> s.heap.get? b = some o -> h'.get? b = some o) (hn : H it = none) (hL : it ≠ X.env.locals)
    (h1 : it ∈ X.ex \/ X.s₀.heap.objs.size <= it) (h2 : ∀ x c, X.env.cells.lookup x = some c -> c ≠ it) (h3 : ∀ p ∈ X.pn ++ pins, p.1 ≠ it) : Inv X pins σ H { s with heap := h', toks := t' } := by
  have nit : ∀ b u, H b = some u -> b ≠ it := fun b u e z => by rw [z, hn] at e; cases e
  refine I.step (g' := s.gens) (d' := s.drawn) (ch := [it]) (fun b hb => ?_) (fun b o _ _ hc e _ => k b o (fun z => hc (by simp [z])) e) (fun b o _ _ hc e _ => ⟨o.slots, k b o (fun z => hc (by simp [z])) e⟩) (fun _ _ _ _ n => n)
    (fun b o hc e => ⟨o, k b o (fun z => hc (by simp [z])) e⟩) (fun _ _ e => e) (fun _ _ _ e => e) (fun b ps e => ⟨#[], by rw [e]; simp⟩) (fun m hm => ?_) (fun b u e => ?_) I.bare
  · have e : b = it := by simpa using hb
    subst e
    exact ⟨h1, hL, h2, h3⟩
  · obtain ⟨o, es, ep, ho, r⟩ := hm
    exact ⟨o, es, ep, k _ o (Ne.symm hL) ho, r⟩
  · refine (I.hok b u e).stay (fun c v hc q => k c v ?_ q) (fun _ q => q) fun _ _ q => q
    rcases hc with z | z
    · rw [z]; exact nit b u e
    · exact nit c _ z
theorem Inv.tok (I : Inv X pins σ H s) (t : Nat) : Inv X pins σ H { s with toks := t } := I.un (h' := s.heap) (t' := t) Un.refl I.hok
theorem Inv.kept {t' : Nat} (I : Inv X pins σ H s) (k : ∀ b u, s.heap.get? b = some u -> h'.get? b = some u) : Inv X pins σ H { s with heap := h', toks := t' } := I.un (Un.kept k) (I.hok.kept k)
theorem Inv.laid {a : Addr} {o : HO} {t' : Nat} (I : Inv X pins σ H s) (k : ∀ b u, s.heap.get? b = some u -> h'.get? b = some u) (hp : s.heap.objs.size <= a) (new : ObjOk X.prog X.w (upd H a o) h' a o) :
    Inv X pins σ (upd H a o) { s with heap := h', toks := t' } := I.un (Un.laid k hp (I.hok.fresh hp)) (I.hok.laid k hp new)
theorem Inv.write {x e : Addr} {o : HO} {t' : Nat} (I : Inv X pins σ H s) (mu : Mut (H x)) (he : e = x \/ H e = some (.own x)) (k : ∀ b u, b ≠ e -> s.heap.get? b = some u -> h'.get? b = some u) (heo : ∃ u, h'.get? e = some u)
    (new : ObjOk X.prog X.w (upd H x o) h' x o) : Inv X pins σ (upd H x o) { s with heap := h', toks := t' } := I.un (Un.write mu he k heo) (I.hok.write mu he k heo new)
theorem Inv.pins_of {pins' : List (Addr × Obj)} (I : Inv X pins σ H s) (h : ∀ p ∈ pins', s.heap.get? p.1 = some p.2 /\ H p.1 = none /\ p.1 ≠ X.env.locals /\ p.1 ∉ X.fs /\ ∀ v, p.2.data ≠ .cell v) : Inv X pins' σ H s :=
  ⟨I.ok, I.os, I.bare, I.base, I.loc, I.cell, I.free, I.freeC, fun p hp => (List.mem_append.mp hp).elim (fun z => I.pin p (List.mem_append_left _ z)) (h p), I.hok, I.len⟩
theorem nodup_ix {N : List Str} (hN : N.Nodup) {i j : Nat} {x : Str} (a : N[i]? = some x) (b : N[j]? = some x) : i = j := by
  obtain ⟨h1, e1⟩ := List.getElem?_eq_some_iff.mp a
  obtain ⟨h2, e2⟩ := List.getElem?_eq_some_iff.mp b
  exact (List.getElem_inj hN).mp (e1.trans e2.symm)
theorem store_ok2 {M : Model} {A : Around} {E : Value -> Shared -> Prop} {i : Nat} {x : Str} {v : V} {u : Value} {Q : Unit -> Shared -> Prop} (I : Inv X pins σ H s) (hN : X.N.Nodup) (hi : X.N[i]? = some x) (hx : Loc X.env.scope x) (r : RelV v u)
    (h : ∀ s', Inv X pins (σ.set i (some v)) H s' -> (∃ a, Heap.SameBut a s.heap s'.heap /\ (a = X.env.locals \/ X.env.cells.lookup x = some a)) -> Q () s') (hf : X.fn x = true \/ X.env.scope.names.lookup x = some .local := by first | exact .inl rfl | exact .inr rfl | assumption) : wpAny M A (storeName X.env x u) Q E s := by
  obtain ⟨m, hn, hl⟩ := id I.loc
  have hcls : (X.env.scope.kind == .class || (X.env.scope.kind == .module && X.env.locals != X.env.globals)) = false := by rw [I.ok.kind]; rfl
  have hiσ : i < σ.length := by rw [I.len]; exact (List.getElem?_eq_some_iff.mp hi).1
  have cne := I.cne
  have tracked : ∀ {a : Addr} {h' : Heap}, (∃ o, s.heap.get? a = some o /\ H a = none) -> Heap.SameBut a s.heap h' -> HOk X.prog X.w H h' := fun {a h'} ha hs b ob e => by
    obtain ⟨_, _, hfree⟩ := ha
    refine (I.hok b ob e).stay (fun c w' hc q => (hs.2 c ?_).trans q) (fun _ q => q) fun _ _ q => q
    rintro rfl
    rcases hc with rfl | hc
    · rw [hfree] at e; cases e
    · rw [hfree] at hc; cases hc
  rcases hx with hk | hk
  · refine wpAny_storeName_local hk hn (fun h' hn' hs => ?_) hcls
    obtain ⟨oL, _, _, hoL, _⟩ := id hn
    refine h _ ⟨I.ok, I.os, I.bare, ⟨fun b o e n hb hx => ?_, fun b o e n hb hx => ?_, I.base.free, fun b o e hx => ?_, I.base.tups, I.base.frzs, I.base.tbls⟩, ⟨_, hn', fun j y v' e1 e2 e3 => ?_⟩, fun y c e => ?_, I.free, I.freeC, fun p hp => ?_, tracked ⟨oL, hoL, I.free⟩ hs, by simpa using I.len⟩ ⟨_, hs, .inl rfl⟩
    · exact (hs.2 b (Nat.ne_of_lt (Nat.lt_of_lt_of_le (Heap.lt_size e) I.ok.above))).trans (I.base.keep b o e n hb hx)
    · obtain ⟨sl, e1⟩ := I.base.slot b o e n hb hx
      exact ⟨sl, (hs.2 b (Nat.ne_of_lt (Nat.lt_of_lt_of_le (Heap.lt_size e) I.ok.above))).trans e1⟩
    · obtain ⟨o', e1⟩ := I.base.there b o e hx
      exact ⟨o', (hs.2 b (Nat.ne_of_lt (Nat.lt_of_lt_of_le (Heap.lt_size e) I.ok.above))).trans e1⟩
    · by_cases hj : j = i
      · subst hj
        rw [hi] at e1; cases e1
        rw [List.getElem?_set_self hiσ] at e2
        cases e2
        exact ⟨u, r, .inl ⟨hk, by simp⟩⟩
      · rw [List.getElem?_set_ne (Ne.symm hj)] at e2
        obtain ⟨u', r', q⟩ := hl j y v' e1 e2 e3
        refine ⟨u', r', ?_⟩
        rcases q with ⟨k, e⟩ | ⟨k, c, e, z⟩
        · refine .inl ⟨k, ?_⟩
          have : y ≠ x := fun e => hj (nodup_ix hN e1 (e ▸ hi))
          simp [this, e]
        · exact .inr ⟨k, c, e, z.sameBut hs (cne y c e)⟩
    · obtain ⟨w', z⟩ := I.cell y c e
      exact ⟨w', z.sameBut hs (cne y c e)⟩
    · obtain ⟨e, n, ne, nf, d⟩ := I.pin p hp
      exact ⟨(hs.2 p.1 ne).trans e, n, ne, nf, d⟩
  · have hfn : X.fn x = true := by
      rcases hf with z | z
      · exact z
      · rw [z] at hk; cases hk
    obtain ⟨c, hc⟩ := I.ok.has x (.inl hk)
    obtain ⟨w', z⟩ := I.cell x c hc
    refine wpAny_storeName_cell I.ok.kind hk hc z (fun h' hc' hs => ?_)
    obtain ⟨oc, hoc, hocd⟩ := id z
    refine h { s with heap := h' } ⟨I.ok, I.os, I.bare, ⟨fun b o e n hb hx => ?_, fun b o e n hb hx => ?_, I.base.free, fun b o e hx => ?_, I.base.tups, I.base.frzs, I.base.tbls⟩, ⟨m, hn.sameBut hs (Ne.symm (cne x c hc)), fun j y v' e1 e2 e3 => ?_⟩, fun y c' e => ?_, I.free, I.freeC, fun p hp => ?_, tracked ⟨oc, hoc, I.freeC x c hc⟩ hs, by simpa using I.len⟩ ⟨c, hs, .inr hc⟩
    · exact (hs.2 b (Nat.ne_of_lt (Nat.lt_of_lt_of_le (Heap.lt_size e) (I.ok.cab x c hfn hc)))).trans (I.base.keep b o e n hb hx)
    · obtain ⟨sl, e1⟩ := I.base.slot b o e n hb hx
      exact ⟨sl, (hs.2 b (Nat.ne_of_lt (Nat.lt_of_lt_of_le (Heap.lt_size e) (I.ok.cab x c hfn hc)))).trans e1⟩
    · obtain ⟨o', e1⟩ := I.base.there b o e hx
      exact ⟨o', (hs.2 b (Nat.ne_of_lt (Nat.lt_of_lt_of_le (Heap.lt_size e) (I.ok.cab x c hfn hc)))).trans e1⟩
    · by_cases hj : j = i
      · subst hj
        rw [hi] at e1; cases e1
        rw [List.getElem?_set_self hiσ] at e2
        cases e2
        exact ⟨u, r, .inr ⟨.inl hk, c, hc, hc'⟩⟩
      · rw [List.getElem?_set_ne (Ne.symm hj)] at e2
        obtain ⟨u', r', q⟩ := hl j y v' e1 e2 e3
        refine ⟨u', r', ?_⟩
        rcases q with q | ⟨k, c', e, z'⟩
        · exact .inl q
        · refine .inr ⟨k, c', e, z'.sameBut hs ?_⟩
          rintro rfl
          exact hj (nodup_ix hN e1 (I.ok.inj _ _ _ e hc ▸ hi))
    · by_cases hcc : c' = c
      · subst hcc; exact ⟨_, hc'⟩
      · obtain ⟨w2, z2⟩ := I.cell y c' e
        exact ⟨w2, z2.sameBut hs hcc⟩
    · obtain ⟨e, n, ne, nf, d⟩ := I.pin p hp
      refine ⟨(hs.2 p.1 ?_).trans e, n, ne, nf, d⟩
      intro q
      rw [q, hoc] at e
      have q' : oc = p.2 := Option.some.inj e
      exact d w' (by rw [<- q']; exact hocd)
theorem store_ok {M : Model} {A : Around} {E : Value -> Shared -> Prop} {i : Nat} {x : Str} {v : V} {u : Value} {Q : Unit -> Shared -> Prop} (I : Inv X pins σ H s) (hN : X.N.Nodup) (hi : X.N[i]? = some x) (hx : Loc X.env.scope x) (r : RelV v u)
    (h : ∀ s', Inv X pins (σ.set i (some v)) H s' -> Q () s') (hf : X.fn x = true \/ X.env.scope.names.lookup x = some .local := by first | exact .inl rfl | exact .inr rfl | assumption) : wpAny M A (storeName X.env x u) Q E s :=
  store_ok2 I hN hi hx r (fun s' I' _ => h s' I') hf
theorem Inv.call' {s' : Shared} {ch : List Addr} (I : Inv X pins σ H s) (ho : s'.os = s.os) (u : Un (frs X.stack) ch H H' s.heap s'.heap) (hok : HOk X.prog X.w H' s'.heap) (hg : AllBare s'.gens)
    (hch : ∀ b ∈ ch, (b ∈ X.ex \/ X.s₀.heap.objs.size <= b) /\ b ≠ X.env.locals /\ (∀ x c, X.env.cells.lookup x = some c -> c ≠ b) /\ ∀ p ∈ X.pn ++ pins, p.1 ≠ b) : Inv X pins σ H' s' := by
  obtain ⟨h', g', d', t', o'⟩ := s'
  have e : o' = s.os := ho
  subst e
  exact I.call (g' := g') (t' := t') (d' := d') u hok hg hch
end
abbrev XK := Value -> Option Addr -> Hp -> Prop
abbrev St := List (Option V)
abbrev VK := V -> Hp -> Prop
abbrev TE := St -> Hp -> VK -> Prop
abbrev TT := St -> Hp -> (Bool -> Hp -> Prop) -> Prop
abbrev TA := St -> Hp -> (List V -> Hp -> Prop) -> Prop
structure Ends where
  nx : St -> Hp -> Prop
  rt : VK
  bk : St -> Hp -> Prop := fun _ _ => False
  ct : St -> Hp -> Prop := fun _ _ => False
abbrev TS := Ends -> St -> Hp -> Prop
def EP (X : Cx) (pins : List (Addr × Obj)) (σ : St) (Q : VK) (u : Value) (s' : Shared) : Prop := ∃ v H', Inv X pins σ H' s' /\ RelV v u /\ Q v H'
def TP (X : Cx) (pins : List (Addr × Obj)) (σ : St) (Q : Bool -> Hp -> Prop) (b : Bool) (s' : Shared) : Prop := ∃ H', Inv X pins σ H' s' /\ Q b H'
def AP (X : Cx) (pins : List (Addr × Obj)) (σ : St) (Q : List V -> Hp -> Prop) (us : List Value) (s' : Shared) : Prop := ∃ vs H', Inv X pins σ H' s' /\ Vals vs us /\ Q vs H'
def SP (X : Cx) (pins : List (Addr × Obj)) (D : Ends) (f : Flow) (s' : Shared) : Prop :=
  match f with
  | .next => ∃ σ' H', Inv X pins σ' H' s' /\ D.nx σ' H'
  | .brk => ∃ σ' H', Inv X pins σ' H' s' /\ D.bk σ' H'
  | .cont => ∃ σ' H', Inv X pins σ' H' s' /\ D.ct σ' H'
  | .ret u => ∃ v σ' H', Inv X pins σ' H' s' /\ RelV v u /\ D.rt v H'
def PE (X : Cx) (e : Expr) (t : TE) : Prop :=
  ∀ (pins : List (Addr × Obj)) (s : Shared) (σ : St) (H : Hp) (Q : VK), Inv X pins σ H s -> t σ H Q -> wpAny (model X.prog X.w) X.A (eval e X.env) (EP X pins σ Q) X.xe s
def PT (X : Cx) (e : Expr) (t : TT) : Prop :=
  ∀ (pins : List (Addr × Obj)) (s : Shared) (σ : St) (H : Hp) (Q : Bool -> Hp -> Prop), Inv X pins σ H s -> t σ H Q -> wpAny (model X.prog X.w) X.A (isTrue e X.env (eval e X.env)) (TP X pins σ Q) X.xe s
def PW (X : Cx) (e : Expr) (t : TT) : Prop :=
  ∀ (whole : Sem Value) (pins : List (Addr × Obj)) (s : Shared) (σ : St) (H : Hp) (Q : Bool -> Hp -> Prop), Inv X pins σ H s -> t σ H Q -> wpAny (model X.prog X.w) X.A (isTrue e X.env whole) (TP X pins σ Q) X.xe s
theorem PW.pt {X : Cx} {e : Expr} {t : TT} (h : PW X e t) : PT X e t := h _
def PA (X : Cx) (es : List Expr) (t : TA) : Prop :=
  ∀ (pos : Pos) (pins : List (Addr × Obj)) (s : Shared) (σ : St) (H : Hp) (Q : List V -> Hp -> Prop), Inv X pins σ H s -> t σ H Q -> wpAny (model X.prog X.w) X.A (spliced (backTo pos (starEach es X.env))) (AP X pins σ Q) X.xe s
def PS (X : Cx) (st : Stmt) (t : TS) : Prop :=
  ∀ (pins : List (Addr × Obj)) (s : Shared) (σ : St) (H : Hp) (D : Ends), Inv X pins σ H s -> t D σ H -> wpAny (model X.prog X.w) X.A (exec st X.env) (SP X pins D) X.xe s
def PSs (X : Cx) (st : List Stmt) (t : TS) : Prop :=
  ∀ (pins : List (Addr × Obj)) (s : Shared) (σ : St) (H : Hp) (D : Ends), Inv X pins σ H s -> t D σ H -> wpAny (model X.prog X.w) X.A (execs st X.env) (SP X pins D) X.xe s
theorem thn {α : Type} {t : Sem α} {Q Q' : α -> Shared -> Prop} {M : Model} {A : Around} {E : Value -> Shared -> Prop} {s : Shared} (h : wpAny M A t Q E s) (hQ : ∀ a s, Q a s -> Q' a s) : wpAny M A t Q' E s := wpAny_mono h hQ fun _ _ x => x
end L2
namespace L2
open PySem PySem.Spec PyProof.Rows
section
variable {X : Cx}
def tVar (i : Nat) : TE := fun σ H Q => ∃ v, σ[i]? = some (some v) /\ Q v H
def tC (v : V) : TE := fun _ H Q => Q v H
theorem pe_var {i : Nat} {x : Str} {pos : Pos} (hN : X.N[i]? = some x) (hv : Vis X.env.scope x) (hd : (x == ("__debug__" : Str)) = false := by decide) (hcd : (x == ("__classdict__" : Str)) = false := by decide) : PE X (.Name x pos) (tVar i) := by
  intro pins s σ H Q I h
  obtain ⟨v, e, h⟩ := h
  obtain ⟨m, hn, hl⟩ := I.loc
  obtain ⟨u, r, l⟩ := hl i x v hN e hv
  have fin : EP X pins σ Q u s := ⟨v, H, I, r, h⟩
  rcases l with ⟨hk, hm⟩ | ⟨hk, c, hc, hcell⟩
  · exact wpAny_Name (wpAny_loadName_local I.ok.kind hk hn hm fin) hd
  · rcases hk with hk | hk
    · exact wpAny_Name (wpAny_loadName_cell I.ok.kind hk hc hcell fin) hd
    · exact wpAny_Name (wpAny_loadName_free I.ok.kind hk hc hcell fin hcd) hd
theorem pe_int {i j pos} : PE X (.Constant (.int i) j pos) (tC (.int i)) := fun _ _ _ H _ I h => wpAny_Constant_int ⟨.int i, H, I.tok _, ⟨_, rfl⟩, h⟩
theorem pe_bl {b j pos} : PE X (.Constant (.bool b) j pos) (tC (.bl b)) := fun _ _ _ H _ I h => Constant_bool ⟨.bl b, H, I, rfl, h⟩
theorem pe_non {j pos} : PE X (.Constant .none j pos) (tC .non) := fun _ _ _ H _ I h => Constant_none ⟨.non, H, I, rfl, h⟩
theorem pe_str {x j pos} : PE X (.Constant (.str x) j pos) (tC (.str x)) := fun _ _ _ H _ I h => Calls.Constant_str ⟨.str x, H, I.tok _, ⟨_, rfl⟩, h⟩
def Gl (X : Cx) (x : Str) : Prop := X.env.kindOf x = some .globalImplicit
theorem ld_glob {E : Value -> Shared -> Prop} {pins : List (Addr × Obj)} {s : Shared} {σ : St} {H : Hp} {x : Str} {u : Value} {pos : Pos} {Q : Value -> Shared -> Prop} (I : Inv X pins σ H s) (hg : Gl X x) (hm : X.mg x = some u) (h : Q u s)
    (hd : (x == ("__debug__" : Str)) = false := by decide) : wpAny (model X.prog X.w) X.A (eval (.Name x pos) X.env) Q E s :=
  Calls.Name_function_global I.ok.kind hg (Calls.loadGlobal_global (by rw [I.ok.glob]; exact I.mod.glob.keeps I.bk) hm h) hd
theorem ld_blt {E : Value -> Shared -> Prop} {pins : List (Addr × Obj)} {s : Shared} {σ : St} {H : Hp} {x : Str} {u : Value} {pos : Pos} {Q : Value -> Shared -> Prop} (I : Inv X pins σ H s) (hg : Gl X x) (hm : X.mg x = none) (hv : bootBuiltins x = some u) (h : Q u s)
    (hn : x ≠ "__name__" := by decide) (hd : (x == ("__debug__" : Str)) = false := by decide) : wpAny (model X.prog X.w) X.A (eval (.Name x pos) X.env) Q E s := by
  obtain ⟨mb, h1, h2⟩ := I.mod.blt
  exact Calls.Name_function_global I.ok.kind hg (Calls.loadGlobal_builtin (by rw [I.ok.glob]; exact I.mod.glob.keeps I.bk) hm (by rw [I.ok.blt]; exact h1.keeps I.bk) ((h2 x hn).trans hv) h) hd
variable {a b : Expr} {ta tb : TE} {pos : Pos}
def PC (X : Cx) (op : CmpOp) (a b : Expr) (t : TE) : Prop :=
  ∀ (pins : List (Addr × Obj)) (s : Shared) (σ : St) (H : Hp) (Q : VK), Inv X pins σ H s -> t σ H Q ->
    wpAny (model X.prog X.w) X.A (eval a X.env) (fun v s₁ => wpAny (model X.prog X.w) X.A (eval b X.env) (fun u s₂ => wpAny (model X.prog X.w) X.A (compareOp op v u) (EP X pins σ Q) X.xe s₂) X.xe s₁) X.xe s
theorem nobehind (b : Expr) {op : CmpOp} (h : op ≠ .In) (h2 : op ≠ .NotIn) : behindInMarks op b = false := by
  have e1 : (op == CmpOp.In) = false := by cases op <;> first | rfl | exact absurd rfl h
  have e2 : (op == CmpOp.NotIn) = false := by cases op <;> first | rfl | exact absurd rfl h2
  cases b <;> simp [behindInMarks, e1, e2]
def tB (t : TE) : TT := fun σ H Q => t σ H fun x H1 => ∃ c, x = .bl c /\ Q c H1
theorem pt_cmp {op : CmpOp} {t : TE} (h : PC X op a b t) (h1 : behindInMarks op b = false := by first | exact nobehind _ (by decide) (by decide) | rfl) : PT X (.Compare a [op] [b] pos) (tB t) := by
  intro pins s σ H Q I hw
  refine wpAny_isTrue_Compare1 (thn (h pins s σ H _ I hw) fun v s1 h1 => thn h1 fun u s2 h2 => thn h2 fun c s3 ⟨x, H1, I1, r1, q1⟩ => ?_) h1
  obtain ⟨d, rfl, q⟩ := q1
  cases r1
  exact wpAny_truthy_bool ⟨H1, I1, q⟩
theorem pt_val {e : Expr} {t : TE} (h : PE X e t) (he : ∀ whole, isTrue e X.env whole = (do let v <- whole; standAt e.pos; holding [v] (truthy v)) := by intro _; rfl) : PT X e (tB t) := by
  intro pins s σ H Q I hw
  refine isTrue_plain (thn (h pins s σ H _ I hw) fun v s1 ⟨x, H1, I1, r1, q1⟩ => ?_) (he _)
  obtain ⟨d, rfl, q⟩ := q1
  cases r1
  exact wpAny_truthy_bool ⟨H1, I1, q⟩
variable {tA tB' : TT} {rest : List Expr}
def tAnd (t u : TT) : TT := fun σ H Q => t σ H fun c H1 => if c = true then u σ H1 Q else Q false H1
def tOr (t u : TT) : TT := fun σ H Q => t σ H fun c H1 => if c = true then Q true H1 else u σ H1 Q
def tNot (t : TT) : TT := fun σ H Q => t σ H fun c H1 => Q (!c) H1
theorem pw_and1 (ha : PT X a tA) : PW X (.BoolOp .And [a] pos) tA := by
  intro wh pins s σ H Q I h
  refine isTrue_and (thn (ha pins s σ H Q I h) fun c s1 e => ?_)
  cases c with
  | true => exact isTrue_and_nil e
  | false => exact e
theorem pw_or1 (ha : PT X a tA) : PW X (.BoolOp .Or [a] pos) tA := by
  intro wh pins s σ H Q I h
  refine isTrue_or (thn (ha pins s σ H Q I h) fun c s1 e => ?_)
  cases c with
  | false => exact isTrue_or_nil e
  | true => exact e
theorem pw_and (ha : PT X a tA) (hb : PW X (.BoolOp .And (b :: rest) pos) tB') : PW X (.BoolOp .And (a :: b :: rest) pos) (tAnd tA tB') := by
  intro wh pins s σ H Q I h
  refine isTrue_and (thn (ha pins s σ H _ I h) fun c s1 ⟨H1, I1, q1⟩ => ?_)
  cases c with
  | true => exact hb wh pins s1 σ H1 Q I1 q1
  | false => exact ⟨H1, I1, q1⟩
theorem pw_or (ha : PT X a tA) (hb : PW X (.BoolOp .Or (b :: rest) pos) tB') : PW X (.BoolOp .Or (a :: b :: rest) pos) (tOr tA tB') := by
  intro wh pins s σ H Q I h
  refine isTrue_or (thn (ha pins s σ H _ I h) fun c s1 ⟨H1, I1, q1⟩ => ?_)
  cases c with
  | true => exact ⟨H1, I1, q1⟩
  | false => exact hb wh pins s1 σ H1 Q I1 q1
theorem pt_not (ha : PT X a tA) : PT X (.UnaryOp .Not a pos) (tNot tA) := by
  intro pins s σ H Q I h
  exact isTrue_not (ha pins s σ H (fun c H1 => Q (!c) H1) I h)
def tAndV (ta tb : TE) : TE := fun σ H Q => ta σ H fun x H1 => ∃ c, x = .bl c /\ if c = true then tb σ H1 Q else Q (.bl false) H1
theorem pe_one {op} {t : TE} (h : PE X a t) : PE X (.BoolOp op [a] pos) t := fun pins s σ H Q I hw => BoolOp_one (h pins s σ H Q I hw)
theorem pe_and (ha : PE X a ta) (hb : PE X (.BoolOp .And (b :: rest) pos) tb) : PE X (.BoolOp .And (a :: b :: rest) pos) (tAndV ta tb) := by
  intro pins s σ H Q I h
  refine BoolOp_and (thn (ha pins s σ H _ I h) fun v s1 ⟨x, H1, I1, r1, q1⟩ => ?_)
  obtain ⟨c, rfl, q1⟩ := q1
  cases r1
  refine wpAny_truthy_bool ?_
  cases c with
  | true => exact hb pins s1 σ H1 Q I1 q1
  | false => exact ⟨.bl false, H1, I1, rfl, q1⟩
def tIf (t : TT) (ta tb : TE) : TE := fun σ H Q => t σ H fun c H1 => if c = true then ta σ H1 Q else tb σ H1 Q
theorem pe_ifExp {c : Expr} (hc : PT X c tA) (ha : PE X a ta) (hb : PE X b tb) : PE X (.IfExp c a b pos) (tIf tA ta tb) := by
  intro pins s σ H Q I h
  refine wpAny_IfExp (thn (hc pins s σ H _ I h) fun d s1 ⟨H1, I1, q1⟩ => ?_)
  cases d with
  | true => exact ha pins s1 σ H1 Q I1 q1
  | false => exact hb pins s1 σ H1 Q I1 q1
end
end L2
namespace L2
open PySem PySem.Spec PyProof.Rows
def SqL (K : PySem.W.Frag) (H : Hp) (a : Addr) (xs : List V) : Prop :=
  Rd H a (.lst xs) \/
    ∃ (o : Obj) (its : Array Value) (n : Nat), K.lookup a = some o /\ o.cls = .type "list" /\ o.dict = none /\ o.data = .seq its n /\ its.size <= sizeLine /\ Vals xs its.toList
def SqT (K : PySem.W.Frag) (H : Hp) (a : Addr) (xs : List V) : Prop :=
  Rd H a (.tup xs) \/
    ∃ (o : Obj) (its : Array Value) (n : Nat), K.lookup a = some o /\ o.cls = .type "tuple" /\ o.data = .seq its n /\ its.size <= sizeLine /\ Vals xs its.toList
def absV : Value -> Option V
  | .none => some .non
  | .bool b => some (.bl b)
  | .int i _ => some (.int i)
  | .str x _ => some (.str x)
  | .bytes b _ => some (.byt b)
  | .float b _ => some (.flt b)
  | .ref a => some (.ref a)
  | .type n => some (.ty n)
  | _ => none
theorem RelV.abs {x : V} {u : Value} (r : RelV x u) : absV u = some x := by
  cases x with
  | non => cases r; rfl
  | bl _ => cases r; rfl
  | int _ => obtain ⟨t, rfl⟩ := r; rfl
  | str _ => obtain ⟨t, rfl⟩ := r; rfl
  | byt _ => obtain ⟨t, rfl⟩ := r; rfl
  | flt _ => obtain ⟨t, rfl⟩ := r; rfl
  | ref _ => cases r; rfl
  | ty _ => cases r; rfl
theorem RelV.inj {x y : V} {u : Value} (r : RelV x u) (q : RelV y u) : x = y := Option.some.inj (r.abs.symm.trans q.abs)
theorem Vals.inj : ∀ {xs ys : List V} {us : List Value}, Vals xs us -> Vals ys us -> xs = ys
  | _, _, _, .nil, .nil => rfl
  | _, _, _, .cons r t, .cons r' t' => by rw [r.inj r', Vals.inj t t']
section
variable {X : Cx} {pins : List (Addr × Obj)} {σ : St} {H : Hp} {s : Shared} {a : Addr} {xs ys : List V}
theorem SqL.of {K : PySem.W.Frag} (h : H a = some (.lst xs)) : SqL K H a xs := .inl (.inl h)
theorem SqT.of {K : PySem.W.Frag} (h : H a = some (.tup xs)) : SqT K H a xs := .inl (.inl h)
theorem Inv.list (I : Inv X pins σ H s) (h : SqL X.K H a xs) : ∃ its : List Value, Vals xs its /\ PlainL s.heap a its.toArray /\ xs.length <= sizeLine := by
  rcases h with h | ⟨o, its, n, hk, hc, hd, hs, hz, r⟩
  · obtain ⟨z, its, n, r, e⟩ := h.ok I.hok
    exact ⟨its, r, ⟨_, n, e, rfl, rfl, rfl⟩, z⟩
  · refine ⟨its.toList, r, ⟨o, n, I.kIn a o hk, hc, hd, by simpa using hs⟩, ?_⟩
    have e := r.length
    simp only [Array.length_toList] at e
    omega
theorem Inv.tuple (I : Inv X pins σ H s) (h : SqT X.K H a xs) : ∃ its : List Value, Vals xs its /\ IsTup s.heap a its.toArray /\ xs.length <= sizeLine := by
  rcases h with h | ⟨o, its, n, hk, hc, hs, hz, r⟩
  · obtain ⟨z, its, r, p⟩ := h.ok I.hok
    exact ⟨its, r, p, z⟩
  · refine ⟨its.toList, r, ⟨o, I.kIn a o hk, hc, n, by simpa using hs⟩, ?_⟩
    have e := r.length
    simp only [Array.length_toList] at e
    omega
theorem Inv.list_inj (I : Inv X pins σ H s) (h : SqL X.K H a xs) (h' : SqL X.K H a ys) : xs = ys := by
  obtain ⟨its, r, ⟨o, n, e, _, _, d⟩, _⟩ := I.list h
  obtain ⟨its', r', ⟨o', n', e', _, _, d'⟩, _⟩ := I.list h'
  rw [e] at e'; cases e'
  rw [d] at d'
  injection d' with d1 _
  have : its = its' := by simpa using congrArg Array.toList d1
  subst this
  exact r.inj r'
theorem Inv.tuple_inj (I : Inv X pins σ H s) (h : SqT X.K H a xs) (h' : SqT X.K H a ys) : xs = ys := by
  obtain ⟨its, r, ⟨o, e, _, n, d⟩, _⟩ := I.tuple h
  obtain ⟨its', r', ⟨o', e', _, n', d'⟩, _⟩ := I.tuple h'
  rw [e] at e'; cases e'
  rw [d] at d'
  injection d' with d1 _
  have : its = its' := by simpa using congrArg Array.toList d1
  subst this
  exact r.inj r'
end
abbrev Cx.wish (X : Cx) (E : Value -> Shared -> Prop) : Cx := { X with xe := E }
abbrev Cx.nox (X : Cx) : Cx := X.wish fun _ _ => False
theorem Cx.Ok.wish {X : Cx} (ok : X.Ok) (E : Value -> Shared -> Prop) : (X.wish E).Ok :=
  ⟨ok.mod, ok.kind, ok.glob, ok.blt, ok.above, ok.inj, ok.has, ok.cab, ok.hd, ok.frames, ok.stk, ok.exf, ok.bs, ok.bsz, ok.noex, ok.exfs, ok.funs, ok.frf⟩
theorem Cx.Ok.unwish {X : Cx} {E : Value -> Shared -> Prop} (ok : (X.wish E).Ok) : X.Ok :=
  ⟨ok.mod, ok.kind, ok.glob, ok.blt, ok.above, ok.inj, ok.has, ok.cab, ok.hd, ok.frames, ok.stk, ok.exf, ok.bs, ok.bsz, ok.noex, ok.exfs, ok.funs, ok.frf⟩
section
variable {X : Cx} {pins : List (Addr × Obj)} {σ : St} {H : Hp} {s : Shared} {E : Value -> Shared -> Prop}
theorem Inv.wish (I : Inv X pins σ H s) (E : Value -> Shared -> Prop) : Inv (X.wish E) pins σ H s := ⟨I.ok.wish E, I.os, I.bare, I.base, I.loc, I.cell, I.free, I.freeC, I.pin, I.hok, I.len⟩
theorem Inv.unwish (I : Inv (X.wish E) pins σ H s) : Inv X pins σ H s := ⟨I.ok.unwish, I.os, I.bare, I.base, I.loc, I.cell, I.free, I.freeC, I.pin, I.hok, I.len⟩
theorem SP.unwish {D : Ends} {f : Flow} {s' : Shared} (h : SP (X.wish E) pins D f s') : SP X pins D f s' := by
  cases f with
  | next => obtain ⟨σ', H', I, q⟩ := h; exact ⟨σ', H', I.unwish, q⟩
  | brk => obtain ⟨σ', H', I, q⟩ := h; exact ⟨σ', H', I.unwish, q⟩
  | cont => obtain ⟨σ', H', I, q⟩ := h; exact ⟨σ', H', I.unwish, q⟩
  | ret u => obtain ⟨v, σ', H', I, r, q⟩ := h; exact ⟨v, σ', H', I.unwish, r, q⟩
theorem PE.nox {e : Expr} {t : TE} (h : PE X.nox e t) : PE X e t := fun pins s σ H Q I hw =>
  wpAny_mono (h pins s σ H Q (I.wish _) hw) (fun _ _ ⟨v, H', I', r, q⟩ => ⟨v, H', I'.unwish, r, q⟩) fun _ _ z => False.elim z
theorem PT.nox {e : Expr} {t : TT} (h : PT X.nox e t) : PT X e t := fun pins s σ H Q I hw =>
  wpAny_mono (h pins s σ H Q (I.wish _) hw) (fun _ _ ⟨H', I', q⟩ => ⟨H', I'.unwish, q⟩) fun _ _ z => False.elim z
theorem PSs.nox {st : List Stmt} {t : TS} (h : PSs X.nox st t) : PSs X st t := fun pins s σ H D I hw =>
  wpAny_mono (h pins s σ H D (I.wish _) hw) (fun _ _ q => q.unwish) fun _ _ z => False.elim z
end
section
variable {X : Cx} {st : Stmt} {rest : List Stmt} {t u : TS} {e : Expr} {te : TE} {pos : Pos}
def tNext : TS := fun D σ H => D.nx σ H
def tSeq (t u : TS) : TS := fun D σ H => t { D with nx := u D } σ H
theorem pss_nil : PSs X [] tNext := fun _ _ σ H _ I h => wpAny_execs_nil ⟨σ, H, I, h⟩
theorem pss_cons (h1 : PS X st t) (h2 : PSs X rest u) : PSs X (st :: rest) (tSeq t u) := by
  intro pins s σ H D I h
  refine wpAny_execs_cons (thn (h1 pins s σ H { D with nx := u D } I h) fun f s1 q => ?_)
  cases f with
  | next =>
    obtain ⟨σ', H', I', q⟩ := q
    exact h2 pins s1 σ' H' D I' q
  | ret v => exact q
  | brk => exact q
  | cont => exact q
theorem pss_one (h1 : PS X st t) : PSs X [st] t := by
  intro pins s σ H D I h
  refine wpAny_execs_cons (thn (h1 pins s σ H D I h) fun f s1 q => ?_)
  cases f with
  | next => exact wpAny_execs_nil q
  | ret v => exact q
  | brk => exact q
  | cont => exact q
theorem Inv.quiet {pins : List (Addr × Obj)} {σ : St} {H : Hp} {s : Shared} (I : Inv X pins σ H s) : interactive X.env = false := by simp [interactive, I.ok.kind]
def tDrop (te : TE) : TS := fun D σ H => te σ H fun _ H1 => D.nx σ H1
theorem ps_expr (he : PE X e te) (hs : swapsWith e none pos.line X.env = pure false := by rfl) : PS X (.Expr e pos) (tDrop te) := by
  intro pins s σ H D I h
  exact wpAny_Expr_any (thn (he pins s σ H _ I h) fun v s1 ⟨x, H1, I1, r1, q1⟩ => ⟨σ, H1, I1, q1⟩) I.quiet hs
def tRet (te : TE) : TS := fun D σ H => te σ H D.rt
theorem ps_ret (he : PE X e te) : PS X (.Return (some e) pos) (tRet te) := by
  intro pins s σ H D I h
  exact wpAny_Return_some (thn (he pins s σ H _ I h) fun v s1 ⟨x, H1, I1, r1, q1⟩ => ⟨x, σ, H1, I1, r1, q1⟩)
def tIfS (c : TT) (t u : TS) : TS := fun D σ H => c σ H fun b H1 => if b = true then t D σ H1 else u D σ H1
theorem ps_if {c : Expr} {a b : List Stmt} {tc : TT} (hc : PT X c tc) (ha : PSs X a t) (hb : PSs X b u) : PS X (.If c a b pos) (tIfS tc t u) := by
  intro pins s σ H D I h
  refine wpAny_If (thn (hc pins s σ H _ I h) fun d s1 ⟨H1, I1, q1⟩ => ?_)
  cases d with
  | true => exact ha pins s1 σ H1 D I1 q1
  | false => exact hb pins s1 σ H1 D I1 q1
end
abbrev TG := V -> St -> Hp -> (St -> Hp -> Prop) -> Prop
abbrev TGs := List V -> St -> Hp -> (St -> Hp -> Prop) -> Prop
def PG (X : Cx) (target : Expr) (t : TG) : Prop :=
  ∀ (pins : List (Addr × Obj)) (s : Shared) (σ : St) (H : Hp) (v : V) (u : Value) (Q : St -> Hp -> Prop), Inv X pins σ H s -> RelV v u -> t v σ H Q ->
    wpAny (model X.prog X.w) X.A (assign target X.env u) (fun _ s' => ∃ σ' H', Inv X pins σ' H' s' /\ Q σ' H') X.xe s
def PGs (X : Cx) (ts : List Expr) (t : TGs) : Prop :=
  ∀ (pins : List (Addr × Obj)) (s : Shared) (σ : St) (H : Hp) (vs : List V) (us : List Value) (Q : St -> Hp -> Prop), Inv X pins σ H s -> Vals vs us -> t vs σ H Q ->
    wpAny (model X.prog X.w) X.A (assignInOrder ((assignEach ts X.env).map (·.2)) us) (fun _ s' => ∃ σ' H', Inv X pins σ' H' s' /\ Q σ' H') X.xe s
abbrev TSet := V -> V -> V -> Hp -> (Hp -> Prop) -> Prop
def PSet (X : Cx) (t : TSet) : Prop :=
  ∀ (pins : List (Addr × Obj)) (s : Shared) (σ : St) (H : Hp) (o i v : V) (ov iv u : Value) (Q : Hp -> Prop), Inv X pins σ H s -> RelV o ov -> RelV i iv -> RelV v u -> t o i v H Q ->
    wpAny (model X.prog X.w) X.A (setItem ov iv u) (fun _ s' => ∃ H', Inv X pins σ H' s' /\ Q H') X.xe s
section
variable {X : Cx} {pos : Pos}
def gName (i : Nat) : TG := fun v σ H Q => Q (σ.set i (some v)) H
theorem pg_name {i : Nat} {x : Str} (hN : X.N.Nodup) (hi : X.N[i]? = some x) (hx : Loc X.env.scope x) (hf : X.fn x = true \/ X.env.scope.names.lookup x = some .local := by first | exact .inl rfl | exact .inr rfl | assumption) : PG X (.Name x pos) (gName i) := by
  intro pins s σ H v u Q I r h
  exact wpAny_assign_Name (store_ok I hN hi hx r (fun s' I' => ⟨_, H, I', h⟩) hf)
def gNil : TGs := fun vs σ H Q => vs = [] /\ Q σ H
def gCons (t : TG) (u : TGs) : TGs := fun vs σ H Q => ∃ v r, vs = v :: r /\ t v σ H fun σ' H' => u r σ' H' Q
theorem pgs_nil : PGs X [] gNil := by
  intro pins s σ H vs us Q I r h
  obtain ⟨e, h⟩ := h
  subst e
  cases r
  exact assignInOrder_nil ⟨σ, H, I, h⟩
theorem pgs_cons {e : Expr} {es : List Expr} {t : TG} {u : TGs} (h1 : PG X e t) (h2 : PGs X es u)
    (hs : (assignEach (e :: es) X.env).map (·.2) = assign e X.env :: (assignEach es X.env).map (·.2) := by rfl) : PGs X (e :: es) (gCons t u) := by
  intro pins s σ H vs us Q I r h
  obtain ⟨v, vr, e1, h⟩ := h
  subst e1
  cases r with
  | cons r rr =>
    rw [hs]
    refine assignInOrder_cons (thn (h1 pins s σ H _ _ _ I r h) fun _ s1 ⟨σ1, H1, I1, q1⟩ => ?_)
    exact h2 pins s1 σ1 H1 _ _ Q I1 rr q1
def gTup (K : PySem.W.Frag) (n : Nat) (t : TGs) : TG := fun v σ H Q => ∃ a xs, v = .ref a /\ SqT K H a xs /\ xs.length = n /\ t xs σ H Q
theorem pg_tup {es : List Expr} {k : Nat} {t : TGs} {n : Nat} (hc : X.calm = true) (h : PGs X es t)
    (hn : (assignEach es X.env).length = n := by rfl) (hst : (assignEach es X.env).findIdx? (·.1) = none := by rfl) : PG X (.Tuple es k pos) (gTup X.K n t) := by
  intro pins s σ H v u Q I r hw
  obtain ⟨a, xs, e1, hq, hl, hw⟩ := hw
  subst e1
  cases r
  obtain ⟨its, rv, ht, hz⟩ := I.tuple hq
  refine assign_Tuple_tuple (I.ok.hd hc) ht (by simp [hn, <- hl, rv.length]) hst fun h' hx => ?_
  have I1 : Inv X pins σ H { s with heap := h' } := I.kept (t' := s.toks) fun b o e => hx b o (Nat.ne_of_lt (Heap.lt_size e)) e
  exact h pins _ σ H xs _ Q I1 (by simpa using rv) hw
def gSub (to ti : TE) (t : TSet) : TG := fun v σ H Q => to σ H fun o H1 => ti σ H1 fun i H2 => t o i v H2 fun H3 => Q σ H3
theorem pg_sub {o i : Expr} {to ti : TE} {t : TSet} (ho : PE X o to) (hi : PE X i ti) (hs : PSet X t)
    (ha : ∀ v, assign (.Subscript o i pos) X.env v = (do
      let ov <- holding [v] (eval o X.env)
      let iv <- holding [v, ov] (eval i X.env)
      standAt pos
      holding [v, ov, iv] (setItem ov iv v)
      release [v, ov, iv] []) := by intro _; rfl) : PG X (.Subscript o i pos) (gSub to ti t) := by
  intro pins s σ H v u Q I r h
  rw [ha]
  refine wpAny_bind (wpAny_holding (thn (ho pins s σ H _ I h) fun ov s1 ⟨x, H1, I1, r1, q1⟩ => ?_))
  refine wpAny_bind (wpAny_holding (thn (hi pins s1 σ H1 _ I1 q1) fun iv s2 ⟨y, H2, I2, r2, q2⟩ => ?_))
  refine wpAny_bind (wpAny_standAt (wpAny_bind (wpAny_holding (thn (hs pins s2 σ H2 x y v ov iv u _ I2 r1 r2 r q2) fun _ s3 ⟨H3, I3, q3⟩ => ?_))))
  exact wpAny_release ⟨σ, H3, I3, q3⟩
def tAsg (te : TE) (g : TG) : TS := fun D σ H => te σ H fun x H1 => g x σ H1 D.nx
theorem ps_asg {tg e : Expr} {te : TE} {g : TG} (he : PE X e te) (hg : PG X tg g) (hs : swapsWithSole [tg] e pos.line X.env = pure false := by rfl) (hw : swappedStores [tg] e X.env = pure none := by rfl)
    (h1 : (assignEach [tg] X.env).map (·.2) = [assign tg X.env] := by rfl) : PS X (.Assign [tg] e pos) (tAsg te g) := by
  intro pins s σ H D I h
  refine wpAny_Assign_stores (thn (he pins s σ H _ I h) fun v s1 ⟨x, H1, I1, r1, q1⟩ => ?_) hs hw
  rw [h1]
  exact thn (hg pins s1 σ H1 x v _ I1 r1 q1) fun _ s2 q => q
theorem ps_set {i : Nat} {x : Str} {e : Expr} {te : TE} {pos' : Pos} (hN : X.N.Nodup) (hi : X.N[i]? = some x) (hx : Loc X.env.scope x) (he : PE X e te) (hs : swapsWith e (some (.Name x pos')) pos.line X.env = pure false := by rfl) (hf : X.fn x = true \/ X.env.scope.names.lookup x = some .local := by first | exact .inl rfl | exact .inr rfl | assumption) :
    PS X (.Assign [.Name x pos'] e pos) (tAsg te (gName i)) := by
  intro pins s σ H D I h
  refine wpAny_Assign_Name (thn (he pins s σ H _ I h) fun v s1 ⟨y, H1, I1, r1, q1⟩ => ?_) hs
  exact store_ok I1 hN hi hx r1 (fun s2 I2 => ⟨_, H1, I2, q1⟩) hf
end
section
variable {X : Cx} {pos : Pos}
def tWhile (c : TT) (tb : TS) : TS := fun D σ H => ∃ W : Nat -> St -> Hp -> Prop, (∃ m, W m σ H) /\ ∀ m σ H, W m σ H ->
  c σ H fun b H1 => if b = true then ∃ N : St -> Hp -> Prop, (∀ σ' H', N σ' H' -> ∃ m', m' < m /\ W m' σ' H') /\ tb { D with nx := N, ct := N, bk := D.nx } σ H1 else D.nx σ H1
theorem ps_while {c : Expr} {body : List Stmt} {tc : TT} {tb : TS} (hp : PassesOwn (model X.prog X.w) X.A X.env X.xe) (hc : PT X c tc) (hb : PSs X body tb) : PS X (.While c body [] pos) (tWhile tc tb) := by
  intro pins s σ H D I h
  obtain ⟨W, ⟨m0, w0⟩, turn⟩ := h
  refine wpAny_While (codeAny_whileLoop (fun n s' => ∃ σ' H', Inv X pins σ' H' s' /\ W n σ' H') ?_ m0 ⟨σ, H, I, w0⟩)
  rintro n s1 ⟨σ1, H1, I1, w1⟩
  refine wpAny_passesOwn hp (thn (hc pins s1 σ1 H1 _ I1 (turn n σ1 H1 w1)) fun b s2 ⟨H2, I2, q2⟩ => ?_)
  cases b with
  | true =>
    obtain ⟨N, hN, q2⟩ := q2
    rw [if_pos rfl]
    refine wpAny_passesOwn hp (thn (hb pins s2 σ1 H2 _ I2 q2) fun f s3 q3 => ?_)
    cases f with
    | next =>
      obtain ⟨σ3, H3, I3, n3⟩ := q3
      obtain ⟨m', hm, w3⟩ := hN σ3 H3 n3
      exact ⟨m', hm, σ3, H3, I3, w3⟩
    | cont =>
      obtain ⟨σ3, H3, I3, n3⟩ := q3
      obtain ⟨m', hm, w3⟩ := hN σ3 H3 n3
      exact ⟨m', hm, σ3, H3, I3, w3⟩
    | brk => exact q3
    | ret v => exact q3
  | false =>
    rw [if_neg Bool.false_ne_true]
    exact wpAny_execs_nil ⟨σ1, H2, I2, q2⟩
end
structure It where
  go : Nat -> Hp -> Prop
  yld : Nat -> Hp -> V -> Hp -> Prop
  stop : Nat -> Hp -> Prop
def FpOk (X : Cx) (pins : List (Addr × Obj)) (H : Hp) (b : Addr) : Prop :=
  H b = none /\ b ≠ X.env.locals /\ b ∉ X.fs /\ (b ∈ X.ex \/ X.s₀.heap.objs.size <= b) /\ (∀ x c, X.env.cells.lookup x = some c -> c ≠ b) /\ ∀ p ∈ X.pn ++ pins, p.1 ≠ b
theorem Inv.fpOk {X : Cx} {pins : List (Addr × Obj)} {σ : St} {H H' : Hp} {s : Shared} {b : Addr} (I : Inv X pins σ H s) (hb : s.heap.objs.size <= b) (hn : H' b = none) : FpOk X pins H' b := by
  refine ⟨hn, Nat.ne_of_gt (Nat.lt_of_lt_of_le I.lt hb), I.nofs hb, .inr (Nat.le_trans I.sz hb), fun x c e z => ?_, fun p hp z => ?_⟩
  · obtain ⟨v, q⟩ := I.cell x c e
    exact absurd (Nat.lt_of_lt_of_le q.lt (by rw [z]; exact hb)) (Nat.lt_irrefl _)
  · exact absurd (Nat.lt_of_lt_of_le (Heap.lt_size (I.pin p hp).1) (by rw [z]; exact hb)) (Nat.lt_irrefl _)
structure Turn (P : Program) (w : World) (K : PySem.W.Frag) (tg : Expr) (J : It) (fp : List Addr) (it : Addr) (tn : Nat -> Heap -> Prop) : Prop where
  mem : it ∈ fp
  obj : ∀ i h, tn i h -> ∀ b ∈ fp, ∃ o, h.get? b = some o /\ ∀ v, o.data ≠ .cell v
  keep : ∀ i h h', tn i h -> (∀ b ∈ fp, ∀ o, h.get? b = some o -> h'.get? b = some o) -> tn i h'
  item : ∀ (X : Cx), X.prog = P -> X.w = w -> X.K = K -> X.calm = true -> ∀ (i : Nat) (pins : List (Addr × Obj)) (s : Shared) (σ : St) (H : Hp) (E : Value -> Shared -> Prop), Inv X pins σ H s -> (∀ b ∈ fp, FpOk X pins H b) -> tn i s.heap -> J.go i H ->
    wpAny (model P w) X.A (pyNext (.ref it)) (fun r s1 => ∃ u, r = some u /\
      wpAny (model P w) X.A (letOwnedTupleGo tg (.ref it) u) (fun _ s2 => ∃ x H', Inv X pins σ H' s2 /\ RelV x u /\ J.yld i H x H' /\ tn (i + 1) s2.heap /\ ∀ b ∈ fp, H' b = none) E s1) E s
  done : ∀ (X : Cx), X.prog = P -> X.w = w -> X.K = K -> X.calm = true -> ∀ (i : Nat) (pins : List (Addr × Obj)) (s : Shared) (σ : St) (H : Hp) (E : Value -> Shared -> Prop), Inv X pins σ H s -> (∀ b ∈ fp, FpOk X pins H b) -> tn i s.heap -> J.stop i H ->
    wpAny (model P w) X.A (pyNext (.ref it)) (fun r s1 => r = none /\ Inv X pins σ H s1) E s
  self : ∀ (A : Around) (i : Nat) (s : Shared) (Q : Value -> Shared -> Prop) (E : Value -> Shared -> Prop), tn i s.heap -> Q (.ref it) s -> wpAny (model P w) A (pyIter (.ref it)) Q E s
abbrev TI := St -> Hp -> (It -> Hp -> Prop) -> Prop
def PIE (X : Cx) (pins : List (Addr × Obj)) (σ : St) (tg : Expr) (R : It -> Hp -> Prop) (itv : Value) (s2 : Shared) : Prop :=
  ∃ (it : Addr) (fp : List Addr) (tn : Nat -> Heap -> Prop) (J : It) (H' : Hp), itv = .ref it /\ Inv X pins σ H' s2 /\ Turn X.prog X.w X.K tg J fp it tn /\ tn 0 s2.heap /\ (∀ b ∈ fp, FpOk X pins H' b) /\ R J H'
def PI (X : Cx) (tg iter : Expr) (wi : TI) : Prop :=
  ∀ (pins : List (Addr × Obj)) (s : Shared) (σ : St) (H : Hp) (R : It -> Hp -> Prop), Inv X pins σ H s -> wi σ H R ->
    wpAny (model X.prog X.w) X.A (eval iter X.env) (fun v s1 => wpAny (model X.prog X.w) X.A (pyIter v) (PIE X pins σ tg R) X.xe s1) X.xe s
theorem go_of {M : Model} {A : Around} {E : Value -> Shared -> Prop} {s : Shared} {tg : Expr} {it : Addr} {u : Value} {o : Obj} {n : String} {vs : Array Value} {Q : Unit -> Shared -> Prop} (ho : s.heap.get? it = some o) (hc : o.cls = .type n) (hd : o.data = .fields vs)
    (hn : ["enumerate", "zip", "dict_itemiterator", "dict_reverseitemiterator", "odict_iterator", "itertools.zip_longest", "itertools.pairwise"].contains n = false) (hQ : Q () s) : wpAny M A (letOwnedTupleGo tg (.ref it) u) Q E s := by
  unfold letOwnedTupleGo
  cases tg <;> first
    | exact wpAny_pure hQ
    | (cases u <;> first
        | exact wpAny_pure hQ
        | (refine wpAny_bind (wpAny_load ho ?_)
           rw [hc, hd]
           show wpAny M A (if (["enumerate", "zip", "dict_itemiterator", "dict_reverseitemiterator", "odict_iterator", "itertools.zip_longest", "itertools.pairwise"].contains n && vs[0]? == some (rawInt _)) = true then _ else _) Q E s
           rw [if_neg (by intro h; rw [hn, Bool.false_and] at h; cases h)]
           exact wpAny_pure hQ))
def Itl (K : PySem.W.Frag) (a : Addr) : It :=
  ⟨fun i H => ∃ xs x, SqL K H a xs /\ xs[i]? = some x, fun i H x H' => H' = H /\ ∀ xs, SqL K H a xs -> xs[i]? = some x, fun i H => ∃ xs, SqL K H a xs /\ xs.length <= i⟩
def Itt (K : PySem.W.Frag) (a : Addr) : It :=
  ⟨fun i H => ∃ xs x, SqT K H a xs /\ xs[i]? = some x, fun i H x H' => H' = H /\ ∀ xs, SqT K H a xs -> xs[i]? = some x, fun i H => ∃ xs, SqT K H a xs /\ xs.length <= i⟩
def Itr (lo : Int) (n : Nat) : It := ⟨fun i _ => i < n, fun i H x H' => H' = H /\ x = .int (lo + i), fun i _ => n <= i⟩
theorem turn_list {P : Program} {w : World} {K : PySem.W.Frag} {tg : Expr} (a it : Addr) : Turn P w K tg (Itl K a) [it] it (fun i h => h.IsListIter it a i) where
  mem := by simp
  obj := fun i h st b hb => by
    have e : b = it := by simpa using hb
    subst e
    obtain ⟨o, e, c, d⟩ := st
    exact ⟨o, e, fun v z => by rw [d] at z; cases z⟩
  keep := fun i h h' st k => st.at fun o e => k it (by simp) o e
  item := by
    intro X hP hw hK hc i pins s σ H E I hf st hg
    subst hP hw hK
    obtain ⟨xs, x, hq, hx⟩ := hg
    obtain ⟨its, rv, p, hz⟩ := I.list hq
    obtain ⟨u, hu, ru⟩ := rv.get hx
    obtain ⟨f0, f1, f2, f3, f4, f5⟩ := hf it (by simp)
    refine wpAny_pyNext_list_item st p.isList (x := u) (by simpa using hu) fun h' st' sb => ?_
    have I1 : Inv X pins σ H { s with heap := h' } := I.turned (t' := s.toks) (fun b o hb e => (sb.2 b hb).trans e) f0 f1 f3 f4 f5
    obtain ⟨o, e, c, d⟩ := id st'
    exact ⟨u, rfl, go_of (s := { s with heap := h' }) e c d (by decide) ⟨x, H, I1, ru, ⟨rfl, fun ys hy => by rw [I.list_inj hy hq]; exact hx⟩, st', fun b hb => (hf b hb).1⟩⟩
  done := by
    intro X hP hw hK hc i pins s σ H E I hf st hg
    subst hP hw hK
    obtain ⟨xs, hq, hx⟩ := hg
    obtain ⟨its, rv, p, hz⟩ := I.list hq
    obtain ⟨f0, f1, f2, f3, f4, f5⟩ := hf it (by simp)
    have hl := rv.length
    exact wpAny_pyNext_list_end (I.ok.hd hc) st p.isList (by simp; omega) fun h' eb => ⟨rfl, I.turned (t' := s.toks) (fun b o hb e => eb b o hb e) f0 f1 f3 f4 f5⟩
  self := fun _ _ _ _ _ st h => wpAny_pyIter_listiter st h
theorem turn_tuple {P : Program} {w : World} {K : PySem.W.Frag} {tg : Expr} (a it : Addr) : Turn P w K tg (Itt K a) [it] it (fun i h => h.IsTupleIter it a i) where
  mem := by simp
  obj := fun i h st b hb => by
    have e : b = it := by simpa using hb
    subst e
    obtain ⟨o, e, c, d⟩ := st
    exact ⟨o, e, fun v z => by rw [d] at z; cases z⟩
  keep := fun i h h' st k => st.at fun o e => k it (by simp) o e
  item := by
    intro X hP hw hK hc i pins s σ H E I hf st hg
    subst hP hw hK
    obtain ⟨xs, x, hq, hx⟩ := hg
    obtain ⟨its, rv, p, hz⟩ := I.tuple hq
    obtain ⟨u, hu, ru⟩ := rv.get hx
    obtain ⟨f0, f1, f2, f3, f4, f5⟩ := hf it (by simp)
    refine wpAny_pyNext_tuple_item st (show s.heap.IsTuple a its.toArray from p) (x := u) (by simpa using hu) fun h' st' sb => ?_
    have I1 : Inv X pins σ H { s with heap := h' } := I.turned (t' := s.toks) (fun b o hb e => (sb.2 b hb).trans e) f0 f1 f3 f4 f5
    obtain ⟨o, e, c, d⟩ := id st'
    exact ⟨u, rfl, go_of (s := { s with heap := h' }) e c d (by decide) ⟨x, H, I1, ru, ⟨rfl, fun ys hy => by rw [I.tuple_inj hy hq]; exact hx⟩, st', fun b hb => (hf b hb).1⟩⟩
  done := by
    intro X hP hw hK hc i pins s σ H E I hf st hg
    subst hP hw hK
    obtain ⟨xs, hq, hx⟩ := hg
    obtain ⟨its, rv, p, hz⟩ := I.tuple hq
    obtain ⟨f0, f1, f2, f3, f4, f5⟩ := hf it (by simp)
    have hl := rv.length
    exact wpAny_pyNext_tuple_end (I.ok.hd hc) st (show s.heap.IsTuple a its.toArray from p) (by simp; omega) fun h' eb => ⟨rfl, I.turned (t' := s.toks) (fun b o hb e => eb b o hb e) f0 f1 f3 f4 f5⟩
  self := fun _ _ _ _ _ st h => wpAny_pyIter_tupleiter st h
theorem turn_range {P : Program} {w : World} {K : PySem.W.Frag} {tg : Expr} (it : Addr) (lo : Int) (n : Nat) : Turn P w K tg (Itr lo n) [it] it (fun i h => IsRangeIter h it (lo + (i : Nat) * 1) ((n : Int) - (i : Nat)) 1) where
  mem := by simp
  obj := fun i h st b hb => by
    have e : b = it := by simpa using hb
    subst e
    exact ⟨_, st, fun v z => by
      have z' : Data.fields _ = Data.cell v := z
      cases z'⟩
  keep := fun i h h' st k => k it (by simp) _ st
  item := by
    intro X hP hw hK hc i pins s σ H E I hf st hg
    subst hP hw hK
    obtain ⟨f0, f1, f2, f3, f4, f5⟩ := hf it (by simp)
    have W := Walks.range (prog := X.prog) (w := X.w) (I.ok.hd hc) it lo 1 n
    refine W.item i s _ _ hg st fun v h' tk hv st' kk => ?_
    obtain ⟨t, rfl⟩ := hv
    have I1 : Inv X pins σ H { s with heap := h', toks := tk } := I.turned (fun b o hb e => kk b o (by simpa using hb) e) f0 f1 f3 f4 f5
    refine ⟨_, rfl, go_of (s := { s with heap := h', toks := tk }) (n := "range_iterator") st' rfl rfl (by decide) ⟨.int (lo + i), H, I1, ⟨t, ?_⟩, ⟨rfl, rfl⟩, st', fun b hb => (hf b hb).1⟩⟩
    rw [Int.mul_one]
  done := by
    intro X hP hw hK hc i pins s σ H E I hf st hg
    subst hP hw hK
    obtain ⟨f0, f1, f2, f3, f4, f5⟩ := hf it (by simp)
    exact wpAny_pyNext_range_end (I.ok.hd hc) st (by have : n <= i := hg; omega) fun h' eb => ⟨rfl, I.turned (t' := s.toks) (fun b o hb e => eb b o hb e) f0 f1 f3 f4 f5⟩
  self := fun _ _ _ _ _ st h => wpAny_pyIter_rangeiter st h
end L2
namespace L2
open PySem PySem.Spec PyProof.Rows
section
variable {X : Cx} {tg : Expr}
def iList (K : PySem.W.Frag) (tl : TE) : TI := fun σ H R => tl σ H fun x H1 => ∃ a, x = .ref a /\ (∃ xs, SqL K H1 a xs) /\ R (Itl K a) H1
def iTup (K : PySem.W.Frag) (tl : TE) : TI := fun σ H R => tl σ H fun x H1 => ∃ a, x = .ref a /\ (∃ xs, SqT K H1 a xs) /\ R (Itt K a) H1
theorem pi_list {l : Expr} {tl : TE} (hl : PE X l tl) : PI X tg l (iList X.K tl) := by
  intro pins s σ H R I h
  refine thn (hl pins s σ H _ I h) fun v s1 ⟨x, H1, I1, r1, q1⟩ => ?_
  obtain ⟨a, e, ⟨xs, hq⟩, q⟩ := q1
  subst e
  cases r1
  obtain ⟨its, rv, p, hz⟩ := I1.list hq
  refine wpAny_pyIter_list p.isList ?_
  refine ⟨s1.heap.objs.size, [s1.heap.objs.size], _, _, H1, rfl, I1.kept (t' := s1.toks) fun b o e => Heap.get?_push_of_some _ e, turn_list a _, ⟨_, Heap.get?_push_size _ rfl, rfl, rfl⟩, fun b hb => ?_, q⟩
  have e : b = s1.heap.objs.size := by simpa using hb
  subst e
  exact I1.fpOk (Nat.le_refl _) (I1.hok.fresh (Nat.le_refl _))
theorem pi_tup {l : Expr} {tl : TE} (hl : PE X l tl) : PI X tg l (iTup X.K tl) := by
  intro pins s σ H R I h
  refine thn (hl pins s σ H _ I h) fun v s1 ⟨x, H1, I1, r1, q1⟩ => ?_
  obtain ⟨a, e, ⟨xs, hq⟩, q⟩ := q1
  subst e
  cases r1
  obtain ⟨its, rv, p, hz⟩ := I1.tuple hq
  refine wpAny_pyIter_tuple (show s1.heap.IsTuple a its.toArray from p) ?_
  refine ⟨s1.heap.objs.size, [s1.heap.objs.size], _, _, H1, rfl, I1.kept (t' := s1.toks) fun b o e => Heap.get?_push_of_some _ e, turn_tuple a _, ⟨_, Heap.get?_push_size _ rfl, rfl, rfl⟩, fun b hb => ?_, q⟩
  have e : b = s1.heap.objs.size := by simpa using hb
  subst e
  exact I1.fpOk (Nat.le_refl _) (I1.hok.fresh (Nat.le_refl _))
theorem range_it {pins : List (Addr × Obj)} {σ : St} {H : Hp} {s : Shared} {R : It -> Hp -> Prop} {E : Value -> Shared -> Prop} {lo hi : Int} {t u v : Tok} {tk : Nat} (I : Inv X pins σ H s) (h1 : -(2 ^ 62) <= lo) (h2 : lo < 2 ^ 62) (h3 : -(2 ^ 62) <= hi) (h4 : hi < 2 ^ 62)
    (q : R (Itr lo (hi - lo).toNat) H) : wpAny (model X.prog X.w) X.A (pyIter (.ref s.heap.objs.size)) (PIE X pins σ tg R) E { s with heap := s.heap.push { cls := .type "range", data := .fields #[.int lo t, .int hi u, .int 1 v] }, toks := tk } := by
  refine wpAny_pyIter_range (IsRange.new ..) (small_one h1 h2 h3 h4) ?_
  have I1 : Inv X pins σ H { s with heap := s.heap.push { cls := .type "range", data := .fields #[.int lo t, .int hi u, .int 1 v] }, toks := tk } := I.kept fun b o e => Heap.get?_push_of_some _ e
  refine ⟨(s.heap.push { cls := .type "range", data := .fields #[.int lo t, .int hi u, .int 1 v] }).objs.size, [(s.heap.push { cls := .type "range", data := .fields #[.int lo t, .int hi u, .int 1 v] }).objs.size], _, _, H, rfl,
    I1.kept (t' := tk) fun b o e => Heap.get?_push_of_some _ e, turn_range _ lo (hi - lo).toNat, ?_, fun b hb => ?_, q⟩
  · have e1 : lo + ((0 : Nat) : Int) * 1 = lo := by simp
    have e2 : (((hi - lo).toNat : Nat) : Int) - ((0 : Nat) : Int) = Builtin.Range.rangeSize lo hi 1 := by rw [rangeSize_one]; split <;> omega
    show IsRangeIter _ _ (lo + ((0 : Nat) : Int) * 1) ((((hi - lo).toNat : Nat) : Int) - ((0 : Nat) : Int)) 1
    rw [e1, e2]
    exact Heap.get?_push_size _ rfl
  · have e : b = (s.heap.push { cls := .type "range", data := .fields #[.int lo t, .int hi u, .int 1 v] }).objs.size := by simpa using hb
    subst e
    exact I1.fpOk (Nat.le_refl _) (I1.hok.fresh (Nat.le_refl _))
def iRng1 (ta : TA) : TI := fun σ H R => ta σ H fun vs H1 => ∃ j : Int, vs = [.int j] /\ -(2 ^ 62) <= j /\ j < 2 ^ 62 /\ R (Itr 0 j.toNat) H1
theorem pi_range1 {a : Expr} {ta : TA} {p pos : Pos} (hg : Gl X "range") (hm : X.mg "range" = none) (ha : PA X [a] ta) (hs : starEach [a] X.env = [(false, eval a X.env)] := by rfl) : PI X tg (.Call (.Name "range" p) [a] [] pos) (iRng1 ta) := by
  intro pins s σ H R I h
  refine Call_ (ld_blt I hg hm boot_range (PyProof.Rows.callWith_type1 (thn (ha pos pins s σ H _ I h) fun us s1 ⟨vs, H1, I1, r1, q1⟩ => ?_) hs rfl))
  obtain ⟨j, e, q1, q2, q⟩ := q1
  subst e
  cases r1 with
  | cons r rr =>
    cases rr
    obtain ⟨t, rfl⟩ := r
    exact call_range_1 (range_it I1 (by omega) (by omega) q1 q2 (by simpa using q))
def tFor (wi : TI) (g : TG) (tb : TS) : TS := fun D σ H => wi σ H fun J H1 => ∃ W : Nat -> Nat -> St -> Hp -> Prop, (∃ m, W 0 m σ H1) /\ ∀ i m σ H, W i m σ H ->
  (J.stop i H /\ D.nx σ H) \/ (J.go i H /\ ∃ N : St -> Hp -> Prop, (∀ σ' H', N σ' H' -> ∃ m', m' < m /\ W (i + 1) m' σ' H') /\ ∀ x H', J.yld i H x H' -> g x σ H' fun σ2 H2 => tb { D with nx := N, ct := N, bk := D.nx } σ2 H2)
def pinsAt (fp : List Addr) (h : Heap) : List (Addr × Obj) := fp.filterMap fun b => (h.get? b).map fun o => (b, o)
theorem mem_pinsAt {fp : List Addr} {h : Heap} {b : Addr} {o : Obj} (hb : b ∈ fp) (e : h.get? b = some o) : (b, o) ∈ pinsAt fp h := List.mem_filterMap.mpr ⟨b, hb, by rw [e]; rfl⟩
theorem of_pinsAt {fp : List Addr} {h : Heap} {p : Addr × Obj} (hp : p ∈ pinsAt fp h) : p.1 ∈ fp /\ h.get? p.1 = some p.2 := by
  obtain ⟨b, hb, e⟩ := List.mem_filterMap.mp hp
  cases q : h.get? b with
  | none => rw [q] at e; cases e
  | some o =>
    rw [q] at e
    have e' : (b, o) = p := Option.some.inj e
    subst e'
    exact ⟨hb, q⟩
theorem Inv.pinned {pins : List (Addr × Obj)} {σ : St} {H : Hp} {s : Shared} {fp : List Addr} (I : Inv X pins σ H s) (hf : ∀ b ∈ fp, FpOk X pins H b) (ho : ∀ b ∈ fp, ∃ o, s.heap.get? b = some o /\ ∀ v, o.data ≠ .cell v) : Inv X (pins ++ pinsAt fp s.heap) σ H s :=
  I.pins_of fun p hp => (List.mem_append.mp hp).elim (fun z => I.pin p (List.mem_append_right _ z)) fun z => by
    obtain ⟨hb, e⟩ := of_pinsAt z
    obtain ⟨f0, f1, f2, _⟩ := hf p.1 hb
    obtain ⟨o, e', d⟩ := ho p.1 hb
    rw [e] at e'; cases e'
    exact ⟨e, f0, f1, f2, d⟩
theorem Inv.unpinned {pins pl : List (Addr × Obj)} {σ : St} {H : Hp} {s : Shared} (I : Inv X (pins ++ pl) σ H s) : Inv X pins σ H s := I.pins_of fun p hp => I.pin p (List.mem_append_right _ (List.mem_append_left _ hp))
theorem ps_for {iter : Expr} {body : List Stmt} {wi : TI} {g : TG} {tb : TS} {pos : Pos} (hp : PassesOwn (model X.prog X.w) X.A X.env X.xe) (hc : X.calm = true) (hi : PI X tg iter wi) (hg : PG X tg g) (hb : PSs X body tb)
    (hs : ∀ x, foldedSetIterable iter X.env x = pure x := by intro _; rfl) : PS X (.For tg iter body [] pos) (tFor wi g tb) := by
  intro pins s σ H D I h
  refine wpAny_For (thn (hi pins s σ H _ I h) fun v s1 h1 => thn h1 fun itv s2 h2 => ?_) hs
  obtain ⟨it, fp, tn, J, H2, e, I2, T, st2, f2, W, ⟨m0, w0⟩, turn⟩ := h2
  subst e
  -- what stays true of the iterator's objects through the loop
  have stat : ∀ {H' : Hp}, (∀ b ∈ fp, H' b = none) -> ∀ b ∈ fp, FpOk X pins H' b := fun hn b hb => ⟨hn b hb, (f2 b hb).2⟩
  refine codeAny_forLoop_any (fun n s' => ∃ i σ' H', Inv X pins σ' H' s' /\ tn i s'.heap /\ (∀ b ∈ fp, H' b = none) /\ W i n σ' H') ?_ m0 ⟨0, σ, H2, I2, st2, fun b hb => (f2 b hb).1, w0⟩
  rintro n s3 ⟨i, σ3, H3, I3, st3, fr3, w3⟩
  rcases turn i n σ3 H3 w3 with ⟨stop, qn⟩ | ⟨go, N, hN, step⟩
  · refine wpAny_passesOwn hp (thn (T.done X rfl rfl rfl hc i pins s3 σ3 H3 X.xe I3 (stat fr3) st3 stop) fun r s4 ⟨hr, I4⟩ => ?_)
    subst hr
    exact wpAny_execs_nil ⟨σ3, H3, I4, qn⟩
  · refine wpAny_passesOwn hp (thn (T.item X rfl rfl rfl hc i pins s3 σ3 H3 X.xe I3 (stat fr3) st3 go) fun r s4 ⟨u, hr, h4⟩ => ?_)
    subst hr
    refine wpAny_passesOwn hp (thn h4 fun _ s5 ⟨x, H5, I5, r5, y5, st5, fr5⟩ => ?_)
    have I5' := I5.pinned (stat fr5) (T.obj _ _ st5)
    refine wpAny_passesOwn hp (thn (hg _ s5 σ3 H5 x u _ I5' r5 (step x H5 y5)) fun _ s6 ⟨σ6, H6, I6, q6⟩ => ?_)
    refine wpAny_passesOwn hp (thn (hb _ s6 σ6 H6 _ I6 q6) fun f s7 q7 => ?_)
    have again : ∀ {σ7 : St} {H7 : Hp}, Inv X (pins ++ pinsAt fp s5.heap) σ7 H7 s7 -> N σ7 H7 -> ∃ m, m < n /\ ∃ i σ' H', Inv X pins σ' H' s7 /\ tn i s7.heap /\ (∀ b ∈ fp, H' b = none) /\ W i m σ' H' := fun {σ7 H7} I7 n7 => by
      obtain ⟨m', hm, w7⟩ := hN σ7 H7 n7
      refine ⟨m', hm, i + 1, σ7, H7, I7.unpinned, T.keep _ _ _ st5 fun b hb o e => (I7.pin (b, o) (List.mem_append_right _ (List.mem_append_right _ (mem_pinsAt hb e)))).1, fun b hb => ?_, w7⟩
      obtain ⟨o, e, d⟩ := T.obj _ _ st5 b hb
      exact (I7.pin (b, o) (List.mem_append_right _ (List.mem_append_right _ (mem_pinsAt hb e)))).2.1
    cases f with
    | next => obtain ⟨σ7, H7, I7, n7⟩ := q7; exact again I7 n7
    | cont => obtain ⟨σ7, H7, I7, n7⟩ := q7; exact again I7 n7
    | brk => obtain ⟨σ7, H7, I7, q7⟩ := q7; exact ⟨σ7, H7, I7.unpinned, q7⟩
    | ret v => obtain ⟨x7, σ7, H7, I7, r7, q7⟩ := q7; exact ⟨x7, σ7, H7, I7.unpinned, r7, q7⟩
end
theorem for_list {K : PySem.W.Frag} {a : Addr} {xs : List V} {g : TG} {tb : TS} {D : Ends} {σ : St} {H : Hp} (Pv : Nat -> St -> Hp -> Prop) (h0 : Pv 0 σ H) (hl : ∀ i σ H, i <= xs.length -> Pv i σ H -> SqL K H a xs)
    (hs : ∀ i x σ H, xs[i]? = some x -> Pv i σ H -> g x σ H fun σ2 H2 => tb { D with nx := Pv (i + 1), ct := Pv (i + 1), bk := D.nx } σ2 H2) (hd : ∀ σ H, Pv xs.length σ H -> D.nx σ H) :
    ∃ W : Nat -> Nat -> St -> Hp -> Prop, (∃ m, W 0 m σ H) /\ ∀ i m σ H, W i m σ H ->
      ((Itl K a).stop i H /\ D.nx σ H) \/ ((Itl K a).go i H /\ ∃ N : St -> Hp -> Prop, (∀ σ' H', N σ' H' -> ∃ m', m' < m /\ W (i + 1) m' σ' H') /\ ∀ x H', (Itl K a).yld i H x H' -> g x σ H' fun σ2 H2 => tb { D with nx := N, ct := N, bk := D.nx } σ2 H2) := by
  refine ⟨fun i m σ H => m = xs.length - i /\ i <= xs.length /\ Pv i σ H, ⟨xs.length, by simp, Nat.zero_le _, h0⟩, ?_⟩
  rintro i m σ H ⟨rfl, hi, p⟩
  have q := hl i σ H hi p
  by_cases hlt : i < xs.length
  · refine .inr ⟨⟨xs, xs[i], q, by simp [hlt]⟩, Pv (i + 1), fun σ' H' p' => ⟨xs.length - (i + 1), by omega, rfl, hlt, p'⟩, fun x H' y => ?_⟩
    obtain ⟨e, y⟩ := y
    subst e
    exact hs i x σ _ (y xs q) p
  · have e : i = xs.length := by omega
    subst e
    exact .inl ⟨⟨xs, q, Nat.le_refl _⟩, hd σ H p⟩
theorem for_tup {K : PySem.W.Frag} {a : Addr} {xs : List V} {g : TG} {tb : TS} {D : Ends} {σ : St} {H : Hp} (Pv : Nat -> St -> Hp -> Prop) (h0 : Pv 0 σ H) (hl : ∀ i σ H, i <= xs.length -> Pv i σ H -> SqT K H a xs)
    (hs : ∀ i x σ H, xs[i]? = some x -> Pv i σ H -> g x σ H fun σ2 H2 => tb { D with nx := Pv (i + 1), ct := Pv (i + 1), bk := D.nx } σ2 H2) (hd : ∀ σ H, Pv xs.length σ H -> D.nx σ H) :
    ∃ W : Nat -> Nat -> St -> Hp -> Prop, (∃ m, W 0 m σ H) /\ ∀ i m σ H, W i m σ H ->
      ((Itt K a).stop i H /\ D.nx σ H) \/ ((Itt K a).go i H /\ ∃ N : St -> Hp -> Prop, (∀ σ' H', N σ' H' -> ∃ m', m' < m /\ W (i + 1) m' σ' H') /\ ∀ x H', (Itt K a).yld i H x H' -> g x σ H' fun σ2 H2 => tb { D with nx := N, ct := N, bk := D.nx } σ2 H2) := by
  refine ⟨fun i m σ H => m = xs.length - i /\ i <= xs.length /\ Pv i σ H, ⟨xs.length, by simp, Nat.zero_le _, h0⟩, ?_⟩
  rintro i m σ H ⟨rfl, hi, p⟩
  have q := hl i σ H hi p
  by_cases hlt : i < xs.length
  · refine .inr ⟨⟨xs, xs[i], q, by simp [hlt]⟩, Pv (i + 1), fun σ' H' p' => ⟨xs.length - (i + 1), by omega, rfl, hlt, p'⟩, fun x H' y => ?_⟩
    obtain ⟨e, y⟩ := y
    subst e
    exact hs i x σ _ (y xs q) p
  · have e : i = xs.length := by omega
    subst e
    exact .inl ⟨⟨xs, q, Nat.le_refl _⟩, hd σ H p⟩
theorem for_range {lo : Int} {n : Nat} {g : TG} {tb : TS} {D : Ends} {σ : St} {H : Hp} (Pv : Nat -> St -> Hp -> Prop) (h0 : Pv 0 σ H)
    (hs : ∀ i σ H, i < n -> Pv i σ H -> g (.int (lo + i)) σ H fun σ2 H2 => tb { D with nx := Pv (i + 1), ct := Pv (i + 1), bk := D.nx } σ2 H2) (hd : ∀ σ H, Pv n σ H -> D.nx σ H) :
    ∃ W : Nat -> Nat -> St -> Hp -> Prop, (∃ m, W 0 m σ H) /\ ∀ i m σ H, W i m σ H ->
      ((Itr lo n).stop i H /\ D.nx σ H) \/ ((Itr lo n).go i H /\ ∃ N : St -> Hp -> Prop, (∀ σ' H', N σ' H' -> ∃ m', m' < m /\ W (i + 1) m' σ' H') /\ ∀ x H', (Itr lo n).yld i H x H' -> g x σ H' fun σ2 H2 => tb { D with nx := N, ct := N, bk := D.nx } σ2 H2) := by
  refine ⟨fun i m σ H => m = n - i /\ i <= n /\ Pv i σ H, ⟨n, by simp, Nat.zero_le _, h0⟩, ?_⟩
  rintro i m σ H ⟨rfl, hi, p⟩
  by_cases hlt : i < n
  · refine .inr ⟨hlt, Pv (i + 1), fun σ' H' p' => ⟨n - (i + 1), by omega, rfl, hlt, p'⟩, fun x H' y => ?_⟩
    obtain ⟨e, y⟩ := y
    subst e y
    exact hs i σ _ hlt p
  · have e : i = n := by omega
    subst e
    exact .inl ⟨Nat.le_refl _, hd σ H p⟩
end L2
namespace L2
open PySem PySem.Spec PyProof.Rows
abbrev R2 := V -> V -> Hp -> VK -> Prop
def OpR (X : Cx) (f : Value -> Value -> Sem Value) (r : R2) : Prop :=
  ∀ (pins : List (Addr × Obj)) (s : Shared) (σ : St) (H : Hp) (x y : V) (v u : Value) (Q : VK), Inv X pins σ H s -> RelV x v -> RelV y u -> r x y H Q ->
    wpAny (model X.prog X.w) X.A (f v u) (EP X pins σ Q) X.xe s
def CallR (X : Cx) (f : Value) (r : List V -> Hp -> VK -> Prop) : Prop :=
  ∀ (pins : List (Addr × Obj)) (s : Shared) (σ : St) (H : Hp) (xs : List V) (us : List Value) (Q : VK), Inv X pins σ H s -> Vals xs us -> r xs H Q ->
    wpAny (model X.prog X.w) X.A (call f us) (EP X pins σ Q) X.xe s
def tOp (r : R2) (ta tb : TE) : TE := fun σ H Q => ta σ H fun x H1 => tb σ H1 fun y H2 => r x y H2 Q
def rI (C : Int -> Int -> Prop) (g : Int -> Int -> V) : R2 := fun x y H Q => ∃ i j, x = .int i /\ y = .int j /\ C i j /\ Q (g i j) H
def rI0 (g : Int -> Int -> V) : R2 := fun x y H Q => ∃ i j, x = .int i /\ y = .int j /\ Q (g i j) H
section
variable {X : Cx} {a b c : Expr} {ta tb tc : TE} {pos : Pos}
theorem binT (ha : PE X a ta) (hb : PE X b tb) {pins : List (Addr × Obj)} {s : Shared} {σ : St} {H : Hp} {R : V -> V -> Hp -> Prop} (I : Inv X pins σ H s)
    (h : ta σ H fun x H1 => tb σ H1 fun y H2 => R x y H2) {Q : Value -> Shared -> Prop} {f : Value -> Value -> Sem Value}
    (hf : ∀ v u s2 x y H2, Inv X pins σ H2 s2 -> RelV x v -> RelV y u -> R x y H2 -> wpAny (model X.prog X.w) X.A (f v u) Q X.xe s2) :
    wpAny (model X.prog X.w) X.A (eval a X.env) (fun v s₁ => wpAny (model X.prog X.w) X.A (eval b X.env) (fun u s₂ => wpAny (model X.prog X.w) X.A (f v u) Q X.xe s₂) X.xe s₁) X.xe s := by
  refine thn (ha pins s σ H _ I h) fun v s1 ⟨x, H1, I1, r1, q1⟩ => ?_
  refine thn (hb pins s1 σ H1 _ I1 q1) fun u s2 ⟨y, H2, I2, r2, q2⟩ => ?_
  exact hf v u s2 x y H2 I2 r1 r2 q2
theorem pe_op {op : Operator} {r : R2} (ho : OpR X (binaryOp op) r) (ha : PE X a ta) (hb : PE X b tb) : PE X (.BinOp a op b pos) (tOp r ta tb) := by
  intro pins s σ H Q I h
  exact wpAny_BinOp (binT ha hb I h fun v u s2 x y H2 I2 rx ry q => ho pins s2 σ H2 x y v u Q I2 rx ry q)
theorem opI {f : Value -> Value -> Sem Value} {C : Int -> Int -> Prop} {g : Int -> Int -> Int}
    (rule : ∀ (i j : Int) (t u : Tok) (s : Shared) (Q : Value -> Shared -> Prop) (E : Value -> Shared -> Prop), C i j -> Q (.int (g i j) s.toks) { s with toks := s.toks + 1 } -> wpAny (model X.prog X.w) X.A (f (.int i t) (.int j u)) Q E s) :
    OpR X f (rI C fun i j => .int (g i j)) := by
  intro pins s σ H x y v u Q I rx ry h
  obtain ⟨i, j, rfl, rfl, hc, q⟩ := h
  obtain ⟨t, rfl⟩ := rx
  obtain ⟨t', rfl⟩ := ry
  exact rule i j t t' s _ _ hc ⟨.int (g i j), H, I.tok _, ⟨_, rfl⟩, q⟩
theorem opI0 {f : Value -> Value -> Sem Value} {g : Int -> Int -> Int}
    (rule : ∀ (i j : Int) (t u : Tok) (s : Shared) (Q : Value -> Shared -> Prop) (E : Value -> Shared -> Prop), Q (.int (g i j) s.toks) { s with toks := s.toks + 1 } -> wpAny (model X.prog X.w) X.A (f (.int i t) (.int j u)) Q E s) :
    OpR X f (rI0 fun i j => .int (g i j)) := by
  intro pins s σ H x y v u Q I rx ry h
  obtain ⟨i, j, rfl, rfl, q⟩ := h
  obtain ⟨t, rfl⟩ := rx
  obtain ⟨t', rfl⟩ := ry
  exact rule i j t t' s _ _ ⟨.int (g i j), H, I.tok _, ⟨_, rfl⟩, q⟩
theorem opB0 {f : Value -> Value -> Sem Value} {g : Int -> Int -> Bool}
    (rule : ∀ (i j : Int) (t u : Tok) (s : Shared) (Q : Value -> Shared -> Prop) (E : Value -> Shared -> Prop), Q (.bool (g i j)) s -> wpAny (model X.prog X.w) X.A (f (.int i t) (.int j u)) Q E s) :
    OpR X f (rI0 fun i j => .bl (g i j)) := by
  intro pins s σ H x y v u Q I rx ry h
  obtain ⟨i, j, rfl, rfl, q⟩ := h
  obtain ⟨t, rfl⟩ := rx
  obtain ⟨t', rfl⟩ := ry
  exact rule i j t t' s _ _ ⟨.bl (g i j), H, I, rfl, q⟩
def CDiv (i j : Int) : Prop := 0 < j /\ j < 1073741824
def CPow (i j : Int) : Prop := 0 <= j /\ j <= 1000000 /\ i.natAbs < 2 ^ 64
def CMul (i j : Int) : Prop := (-(2 ^ 64) < i /\ i < 2 ^ 64) \/ (-(2 ^ 64) < j /\ j < 2 ^ 64)
theorem CMul.ok {i j : Int} (h : CMul i j) : IntMulOk i j := by
  rcases h with ⟨h1, h2⟩ | ⟨h1, h2⟩
  · exact .of_left (intBits_le_64 h1 h2)
  · exact .of_right (intBits_le_64 h1 h2)
theorem op_add : OpR X (binaryOp .Add) (rI0 fun i j => .int (i + j)) := opI0 fun _ _ _ _ _ _ _ q => add_int q
theorem op_sub : OpR X (binaryOp .Sub) (rI0 fun i j => .int (i - j)) := opI0 fun _ _ _ _ _ _ _ q => sub_int q
theorem op_mul : OpR X (binaryOp .Mult) (rI CMul fun i j => .int (i * j)) := opI fun _ _ _ _ _ _ _ hc q => mul_int q hc.ok
theorem op_fdiv : OpR X (binaryOp .FloorDiv) (rI CDiv fun i j => .int (i / j)) := opI fun i j _ _ _ _ _ hc q => by
  have h1 : (0 : Int) < j := hc.1
  have h2 : j < 1073741824 := hc.2
  exact floordiv_int (by omega) (by rw [Int.fdiv_eq_ediv_of_nonneg i (by omega)]; exact q) (.inl (PyProof.noPylong_small (by omega)))
theorem op_mod : OpR X (binaryOp .Mod) (rI (fun _ j => 0 < j) fun i j => .int (i % j)) := opI fun i j _ _ _ _ _ hc q => by
  have h1 : (0 : Int) < j := hc
  exact mod_int' (by omega) (by rw [Int.fmod_eq_emod_of_nonneg i (by omega)]; exact q)
theorem op_pow : OpR X (binaryOp .Pow) (rI CPow fun i j => .int (i ^ j.toNat)) := opI fun _ _ _ _ _ _ _ hc q => pow_int_small hc.1 hc.2.1 hc.2.2 q
end
def scal : V -> V -> Bool
  | .non, .non => true | .non, .int _ => true | .int _, .non => true | .non, .bl _ => true | .bl _, .non => true | .non, .str _ => true | .str _, .non => true
  | .int _, .int _ => true | .bl _, .bl _ => true | .str _, .str _ => true | .byt _, .byt _ => true
  | .int _, .str _ => true | .str _, .int _ => true | .bl _, .str _ => true | .str _, .bl _ => true
  | _, _ => false
def rEq : R2 := fun x y H Q => scal x y = true /\ Q (.bl (decide (x = y))) H
def rNe : R2 := fun x y H Q => scal x y = true /\ Q (.bl (!decide (x = y))) H
theorem dec_int {i j : Int} : decide (V.int i = V.int j) = (i == j) := by
  rw [Bool.eq_iff_iff]
  simp
theorem dec_bl {i j : Bool} : decide (V.bl i = V.bl j) = (i == j) := by
  rw [Bool.eq_iff_iff]
  simp
theorem dec_str {i j : Str} : decide (V.str i = V.str j) = (i == j) := by
  rw [Bool.eq_iff_iff]
  simp
theorem dec_byt {i j : Array UInt8} : decide (V.byt i = V.byt j) = (i.toList == j.toList) := by
  rw [Bool.eq_iff_iff]
  cases i
  cases j
  simp
section
variable {X : Cx} {a b c : Expr} {ta tb tc : TE} {pos : Pos}
theorem fin_bl {pins : List (Addr × Obj)} {σ : St} {H : Hp} {s : Shared} {Q : VK} {k k' : Bool} (I : Inv X pins σ H s) (q : Q (.bl k) H) (e : k = k') : EP X pins σ Q (.bool k') s := by
  subst e
  exact ⟨.bl k, H, I, rfl, q⟩
theorem op_eq : OpR X (compareOp .Eq) rEq := by
  intro pins s σ H x y v u Q I rx ry h
  obtain ⟨hs, q⟩ := h
  cases x with
  | non =>
    cases rx
    cases y with
    | non => cases ry; exact PySem.EqNone.eq_none_none (fin_bl I q (by simp))
    | bl j => cases ry; exact PySem.EqNone.eq_none_bool (fin_bl I q (by simp))
    | int j => obtain ⟨t', rfl⟩ := ry; exact PySem.EqNone.eq_none_int (fin_bl I q (by simp))
    | str j => obtain ⟨t', rfl⟩ := ry; exact PySem.EqNone.eq_none_str (fin_bl I q (by simp))
    | _ => exact absurd (show false = true from hs) Bool.false_ne_true
  | bl i =>
    cases rx
    cases y with
    | non => cases ry; exact PySem.EqNone.eq_bool_none (fin_bl I q (by simp))
    | bl j => cases ry; exact eq_bool (fin_bl I q dec_bl)
    | str j => obtain ⟨t', rfl⟩ := ry; exact PySem.EqMixed.eq_bool_str (fin_bl I q (by simp))
    | _ => exact absurd (show false = true from hs) Bool.false_ne_true
  | int i =>
    obtain ⟨t, rfl⟩ := rx
    cases y with
    | non => cases ry; exact PySem.EqNone.eq_int_none (fin_bl I q (by simp))
    | int j => obtain ⟨t', rfl⟩ := ry; exact eq_int (fin_bl I q dec_int)
    | str j => obtain ⟨t', rfl⟩ := ry; exact PySem.EqMixed.eq_int_str (fin_bl I q (by simp))
    | _ => exact absurd (show false = true from hs) Bool.false_ne_true
  | str i =>
    obtain ⟨t, rfl⟩ := rx
    cases y with
    | non => cases ry; exact PySem.EqNone.eq_str_none (fin_bl I q (by simp))
    | bl j => cases ry; exact PySem.EqMixed.eq_str_bool (fin_bl I q (by simp))
    | int j => obtain ⟨t', rfl⟩ := ry; exact PySem.EqMixed.eq_str_int (fin_bl I q (by simp))
    | str j => obtain ⟨t', rfl⟩ := ry; exact eq_str (fin_bl I q dec_str)
    | _ => exact absurd (show false = true from hs) Bool.false_ne_true
  | byt i =>
    obtain ⟨t, rfl⟩ := rx
    cases y with
    | byt j => obtain ⟨t', rfl⟩ := ry; exact PySem.W.eq_bytes (fin_bl I q dec_byt)
    | _ => exact absurd (show false = true from hs) Bool.false_ne_true
  | _ => cases y <;> exact absurd (show false = true from hs) Bool.false_ne_true
theorem op_ne : OpR X (compareOp .NotEq) rNe := by
  intro pins s σ H x y v u Q I rx ry h
  obtain ⟨hs, q⟩ := h
  cases x with
  | non =>
    cases rx
    cases y with
    | non => cases ry; exact PySem.EqNone.ne_none_none (fin_bl I q (by simp))
    | bl j => cases ry; exact PySem.EqNone.ne_none_bool (fin_bl I q (by simp))
    | int j => obtain ⟨t', rfl⟩ := ry; exact PySem.EqNone.ne_none_int (fin_bl I q (by simp))
    | str j => obtain ⟨t', rfl⟩ := ry; exact PySem.EqNone.ne_none_str (fin_bl I q (by simp))
    | _ => exact absurd (show false = true from hs) Bool.false_ne_true
  | bl i =>
    cases rx
    cases y with
    | non => cases ry; exact PySem.EqNone.ne_bool_none (fin_bl I q (by simp))
    | bl j => cases ry; exact ne_bool (fin_bl I q (congrArg not dec_bl))
    | str j => obtain ⟨t', rfl⟩ := ry; exact PySem.EqMixed.ne_bool_str (fin_bl I q (by simp))
    | _ => exact absurd (show false = true from hs) Bool.false_ne_true
  | int i =>
    obtain ⟨t, rfl⟩ := rx
    cases y with
    | non => cases ry; exact PySem.EqNone.ne_int_none (fin_bl I q (by simp))
    | int j => obtain ⟨t', rfl⟩ := ry; exact ne_int (fin_bl I q (congrArg not dec_int))
    | str j => obtain ⟨t', rfl⟩ := ry; exact PySem.EqMixed.ne_int_str (fin_bl I q (by simp))
    | _ => exact absurd (show false = true from hs) Bool.false_ne_true
  | str i =>
    obtain ⟨t, rfl⟩ := rx
    cases y with
    | non => cases ry; exact PySem.EqNone.ne_str_none (fin_bl I q (by simp))
    | bl j => cases ry; exact PySem.EqMixed.ne_str_bool (fin_bl I q (by simp))
    | int j => obtain ⟨t', rfl⟩ := ry; exact PySem.EqMixed.ne_str_int (fin_bl I q (by simp))
    | str j => obtain ⟨t', rfl⟩ := ry; exact ne_str (fin_bl I q (congrArg not dec_str))
    | _ => exact absurd (show false = true from hs) Bool.false_ne_true
  | byt i =>
    obtain ⟨t, rfl⟩ := rx
    cases y with
    | byt j => obtain ⟨t', rfl⟩ := ry; exact PySem.W.ne_bytes (fin_bl I q (congrArg not dec_byt))
    | _ => exact absurd (show false = true from hs) Bool.false_ne_true
  | _ => cases y <;> exact absurd (show false = true from hs) Bool.false_ne_true
theorem op_lt : OpR X (compareOp .Lt) (rI0 fun i j => .bl (decide (i < j))) := opB0 fun _ _ _ _ _ _ _ q => lt_int q
theorem op_le : OpR X (compareOp .LtE) (rI0 fun i j => .bl (decide (i <= j))) := opB0 fun _ _ _ _ _ _ _ q => le_int q
theorem op_gt : OpR X (compareOp .Gt) (rI0 fun i j => .bl (decide (j < i))) := opB0 fun _ _ _ _ _ _ _ q => gt_int q
theorem OpR.or {f : Value -> Value -> Sem Value} {r r' : R2} (h : OpR X f r) (h' : OpR X f r') : OpR X f (fun x y H Q => r x y H Q \/ r' x y H Q) := by
  intro pins s σ H x y v u Q I rx ry q
  rcases q with q | q
  · exact h pins s σ H x y v u Q I rx ry q
  · exact h' pins s σ H x y v u Q I rx ry q
theorem nomark (b : Expr) {op : CmpOp} (h : op ≠ .In := by decide) (h2 : op ≠ .NotIn := by decide) : behindInMarks op b = false := by
  have e1 : (op == CmpOp.In) = false := by cases op <;> first | rfl | exact absurd rfl h
  have e2 : (op == CmpOp.NotIn) = false := by cases op <;> first | rfl | exact absurd rfl h2
  cases b <;> simp [behindInMarks, e1, e2]
theorem pe_cmpR {op : CmpOp} {r : R2} (ho : OpR X (compareOp op) r) (ha : PE X a ta) (hb : PE X b tb) (hm : behindInMarks op b = false) : PE X (.Compare a [op] [b] pos) (tOp r ta tb) := by
  intro pins s σ H Q I h
  exact wpAny_Compare1 (binT ha hb I h fun v u s2 x y H2 I2 rx ry q => ho pins s2 σ H2 x y v u Q I2 rx ry q) hm
def tTest (t : TE) : TT := fun σ H Q => t σ H fun x H' => ∃ k, x = .bl k /\ Q k H'
theorem pt_cmpR {op : CmpOp} {r : R2} (ho : OpR X (compareOp op) r) (ha : PE X a ta) (hb : PE X b tb) (hm : behindInMarks op b = false) : PT X (.Compare a [op] [b] pos) (tTest (tOp r ta tb)) := by
  intro pins s σ H Q I h
  refine wpAny_isTrue_Compare1 (thn (ha pins s σ H _ I h) fun v s1 ⟨x, H1, I1, r1, q1⟩ => thn (hb pins s1 σ H1 _ I1 q1) fun u s2 ⟨y, H2, I2, r2, q2⟩ =>
    thn (ho pins s2 σ H2 x y v u _ I2 r1 r2 q2) fun c s3 ⟨z, H3, I3, r3, k, e, q3⟩ => ?_) hm
  subst e
  cases r3
  exact wpAny_truthy_bool ⟨H3, I3, q3⟩
theorem line63 : (sizeLine : Nat) < 2 ^ 63 := by rw [sizeLine_eq]; decide
theorem op_add_str : OpR X (binaryOp .Add) (fun x y H Q => ∃ i j, x = .str i /\ y = .str j /\ i.length + j.length <= sizeLine /\ Q (.str (i ++ j)) H) := by
  intro pins s σ H x y v u Q I rx ry h
  obtain ⟨i, j, rfl, rfl, hz, q⟩ := h
  obtain ⟨t, rfl⟩ := rx
  obtain ⟨t', rfl⟩ := ry
  exact add_str (fun t' tk => ⟨.str (i ++ j), H, I.tok _, ⟨_, rfl⟩, q⟩) hz
theorem vals1 {x : V} {us : List Value} (r : Vals [x] us) : ∃ u, us = [u] /\ RelV x u := by
  cases r with
  | cons r1 r2 => cases r2; exact ⟨_, rfl, r1⟩
theorem vals2 {x y : V} {us : List Value} (r : Vals [x, y] us) : ∃ u w', us = [u, w'] /\ RelV x u /\ RelV y w' := by
  cases r with
  | cons r1 r2 =>
    cases r2 with
    | cons r3 r4 => cases r4; exact ⟨_, _, rfl, r1, r3⟩
theorem call_min2 (hc : X.calm = true) : CallR X (.builtin "min") (fun xs H Q => ∃ i j, xs = [.int i, .int j] /\ Q (.int (if j < i then j else i)) H) := by
  intro pins s σ H xs us Q I r h
  obtain ⟨i, j, rfl, q⟩ := h
  obtain ⟨u, w', rfl, ⟨t, rfl⟩, ⟨t', rfl⟩⟩ := vals2 r
  refine min_two_ints (I.ok.hd hc) fun h' tk k => ⟨_, H, I.kept k, ?_, q⟩
  by_cases hj : j < i
  · rw [if_pos hj, if_pos hj]; exact ⟨_, rfl⟩
  · rw [if_neg hj, if_neg hj]; exact ⟨_, rfl⟩
theorem call_int1 : CallR X (.type "int") (fun xs H Q => (∃ i, xs = [.int i] /\ Q (.int i) H) \/ ∃ k, xs = [.bl k] /\ Q (.int (if k then 1 else 0)) H) := by
  intro pins s σ H xs us Q I r h
  rcases h with ⟨i, rfl, q⟩ | ⟨k, rfl, q⟩
  · obtain ⟨u, rfl, t, rfl⟩ := vals1 r
    exact call_int_int ⟨.int i, H, I, ⟨_, rfl⟩, q⟩
  · obtain ⟨u, rfl, r1⟩ := vals1 r
    cases r1
    exact call_int_bool ⟨.int (if k then 1 else 0), H, I.tok _, ⟨_, rfl⟩, q⟩
end
end L2
namespace L2
open PySem PySem.Spec PyProof.Rows
structure ObjM (h : Heap) (x dx C : Addr) (mA : Str -> Option Value) : Prop where
  obj : h.get? x = some (PySem.W.instObj C dx)
  ns : h.Ns1 dx mA
  ne : dx ≠ x
theorem lookIn_ns {h : Heap} {dx : Addr} {mA : Str -> Option Value} (n : h.Ns1 dx mA) : ∃ od, h.get? dx = some od /\ ∀ name, PySem.W.lookIn name od = some (mA name) := by
  obtain ⟨o, es, ep, ho, hd, hk, _, hm⟩ := n
  refine ⟨o, ho, fun name => ?_⟩
  have e := hm name
  unfold nsFind findBy at e
  rw [<- Array.find?_toList] at e
  unfold PySem.W.lookIn
  rw [hd]
  dsimp only
  split
  · rename_i y q
    rw [q] at e
    exact congrArg some e
  · rename_i q
    rw [q] at e
    have a : es.toList.any (·.refKey) = false := by
      rw [List.any_eq_false]
      intro y hy
      obtain ⟨z, t, hkey⟩ := hk y (Array.mem_toList_iff.mp hy)
      simp [DictEntry.refKey, hkey]
    have a' : ¬ es.toList.any (·.refKey) = true := by rw [a]; exact Bool.false_ne_true
    rw [if_neg a']
    exact congrArg some e
theorem ObjM.look {h : Heap} {x dx C : Addr} {mA : Str -> Option Value} (I : ObjM h x dx C mA) : ∃ od, PySem.W.InstAt h x (PySem.W.instObj C dx) C (some od) /\ ∀ name, PySem.W.lookIn name od = some (mA name) :=
  let ⟨od, ho, hl⟩ := lookIn_ns I.ns
  ⟨od, ⟨I.obj, rfl, rfl, ho⟩, hl⟩
section
variable {prog : Program} {w : World} {A : Around} {E : Value -> Shared -> Prop} {s : Shared} {K : PySem.W.Frag} {x dx C f : Addr} {mA : Str -> Option Value} {name : Str} {v : Value}
theorem get_map {expr : Bool} {Q : Value -> Shared -> Prop} (X : K.In s.heap) (I : ObjM s.heap x dx C mA) (hg : PySem.W.plainGet K C name = true) (hh : PySem.W.hasDictIn K C = true)
    (ha : PySem.W.findIn K (.ref C) name = some none) (hv : mA name = some v) (hv' : PySem.W.handedIn v = true) (h : Q v { s with toks := s.toks + 1 }) :
    wpAny (model prog w) A (getAttr (.ref x) name expr) Q E s := by
  obtain ⟨od, J, hl⟩ := I.look
  exact PySem.W.get_value X J (PySem.W.plainGet_of hg).1 (PySem.W.findObj_own hh ha rfl (by rw [hl, hv])) hv' h
theorem set_map {ns : List Str} {Q : Unit -> Shared -> Prop} (X : K.In s.heap) (I : ObjM s.heap x dx C mA)
    (hs : PySem.W.findIn K (.ref C) "__setattr__" = some (some (.builtin "object.__setattr__"))) (hp : PySem.W.plainOver K C = true) (ht : PySem.W.takerIn K C name = some none) (hh : PySem.W.hasDictIn K C = true)
    (hw : PySem.Within mA ns) (hsz : ns.length <= sizeLine)
    (h : ∀ h', ObjM h' x dx C (fun y => if y = name then some v else mA y) -> Heap.SameBut dx s.heap h' -> Q () { s with heap := h', toks := s.toks + 2 }) :
    wpAny (model prog w) A (setAttr (.ref x) name v) Q E s := by
  obtain ⟨od, J, hl⟩ := I.look
  refine PySem.W.set_plain X J hs (PySem.W.osa_open (s := { s with toks := s.toks + 1 }) (r := none) X J hp ht fun b => ?_)
  obtain ⟨cd, hc, hd'⟩ := PySem.W.any_some hh
  have hx : s.heap.get? x = some ⟨.ref C, some dx, .plain, #[]⟩ := I.obj
  refine wpAny_bind (wpAny_pure (wpAny_bind (wpAny_bind (wpAny_loadPart hx (wpAny_bind (PySem.W.Looks.here (s := { s with toks := s.toks + 1 }) (PySem.W.looks_clsIn X hc) ?_))))))
  rw [hd']
  refine wpAny_pure (a := some dx) (wpAny_bind (wpAny_pure (wpAny_bind ?_)))
  refine wpAny_nsSet1 (s := { s with toks := s.toks + 1 }) I.ns fun h' hn2 hs2 => ?_
  obtain ⟨oD, esD, epD, hoD, hdD, hcD⟩ := hn2.count (PySem.Within.cons name v hw)
  refine wpAny_bind (wpAny_lookBehind hoD (by rw [hdD]; exact pastItsLine_dict (Nat.le_trans hcD (by rw [List.length_cons]; omega))) ?_)
  exact wpAny_pure (h _ ⟨(hs2.2 _ (Ne.symm I.ne)).trans I.obj, hn2, I.ne⟩ hs2)
theorem make_map {R : Result -> Shared -> Prop} {vs : List Value} {kw : List (Str × Value)} (X : K.In s.heap) (hm : PySem.W.makesIn K C = true)
    (hi : PySem.W.findIn K (.ref C) "__init__" = some (some (.ref f))) (hf : PySem.W.typeIn K (.ref f) = some (.type "function"))
    (h : codeAny (model prog w) (A.under (.builtin "type.__call__" ⟨.ref C :: vs, kw⟩)) (.call (.ref f) ⟨.ref (s.heap.objs.size + 1) :: vs, kw⟩) (PySem.W.InitBack (s.heap.objs.size + 1) R)
      { s with heap := (s.heap.push PySem.W.emptyDict).push (PySem.W.instObj C s.heap.objs.size) }) :
    codeAny (model prog w) A (.call (.ref C) ⟨vs, kw⟩) R s := by
  obtain ⟨hh, g, d, t, os⟩ := s
  exact PySem.W.make_core (PySem.W.makes_of X hm) (PySem.W.looks_findIn X hi) (fun self => PySem.W.bind_fn X self hf) (.inl rfl) h
end
def putF (f : Str) (v : V) : List (Str × V) -> List (Str × V)
  | [] => [(f, v)]
  | (g, x) :: r => if g = f then (g, v) :: r else (g, x) :: putF f v r
theorem lookup_putF (f g : Str) (v : V) : ∀ fs : List (Str × V), (putF f v fs).lookup g = if g = f then some v else fs.lookup g
  | [] => by
    show List.lookup g [(f, v)] = _
    by_cases h : g = f
    · have hb : (g == f) = true := beq_iff_eq.mpr h
      simp only [List.lookup, hb, if_pos h]
    · have hb : (g == f) = false := beq_eq_false_iff_ne.mpr h
      simp only [List.lookup, hb, if_neg h]
  | (k, x) :: r => by
    have ih := lookup_putF f g v r
    rw [show putF f v ((k, x) :: r) = (if k = f then (k, v) :: r else (k, x) :: putF f v r) from rfl]
    by_cases hk : k = f
    · rw [if_pos hk]
      by_cases h : g = k
      · have hb : (g == k) = true := beq_iff_eq.mpr h
        simp only [List.lookup, hb, if_pos (h.trans hk)]
      · have hb : (g == k) = false := beq_eq_false_iff_ne.mpr h
        simp only [List.lookup, hb, if_neg (fun e : g = f => h (e.trans hk.symm))]
    · rw [if_neg hk]
      by_cases h : g = k
      · have hb : (g == k) = true := beq_iff_eq.mpr h
        simp only [List.lookup, hb, if_neg (fun e : g = f => hk (h.symm.trans e))]
      · have hb : (g == k) = false := beq_eq_false_iff_ne.mpr h
        simp only [List.lookup, hb]
        exact ih
theorem keys_putF (f : Str) (v : V) : ∀ fs : List (Str × V), f ∈ (putF f v fs).map (·.1) /\ ∀ g, g ∈ fs.map (·.1) -> g ∈ (putF f v fs).map (·.1)
  | [] => ⟨by simp [putF], fun g h => by simp at h⟩
  | (k, x) :: r => by
    obtain ⟨i1, i2⟩ := keys_putF f v r
    rw [show putF f v ((k, x) :: r) = (if k = f then (k, v) :: r else (k, x) :: putF f v r) from rfl]
    by_cases hk : k = f
    · rw [if_pos hk]
      subst hk
      exact ⟨by simp, fun g h => by simpa using h⟩
    · rw [if_neg hk]
      refine ⟨?_, fun g h => ?_⟩
      · rw [List.map_cons]
        exact List.mem_cons_of_mem _ i1
      · rw [List.map_cons] at h ⊢
        rcases List.mem_cons.mp h with e | e
        · exact List.mem_cons.mpr (.inl e)
        · exact List.mem_cons_of_mem _ (i2 g e)
theorem length_putF (f : Str) (v : V) : ∀ fs : List (Str × V), (putF f v fs).length <= fs.length + 1
  | [] => by simp [putF]
  | (k, x) :: r => by
    have ih := length_putF f v r
    rw [show putF f v ((k, x) :: r) = (if k = f then (k, v) :: r else (k, x) :: putF f v r) from rfl]
    by_cases hk : k = f
    · rw [if_pos hk, List.length_cons, List.length_cons]; omega
    · rw [if_neg hk, List.length_cons, List.length_cons]; omega
theorem RelO.some_of {v : V} {o : Option Value} (r : RelO (some v) o) : ∃ u, o = some u /\ RelV v u := by
  cases o with
  | none => exact (show False from r).elim
  | some u => exact ⟨u, rfl, r⟩
theorem handed_of {v : V} {u : Value} (r : RelV v u) : PySem.W.handedIn u = true := by
  cases v with
  | non => cases (show u = Value.none from r); rfl
  | bl b => cases (show u = Value.bool b from r); rfl
  | int i => obtain ⟨t, e⟩ := (show ∃ t, u = Value.int i t from r); cases e; rfl
  | str x => obtain ⟨t, e⟩ := (show ∃ t, u = Value.str x t from r); cases e; rfl
  | byt b => obtain ⟨t, e⟩ := (show ∃ t, u = Value.bytes b t from r); cases e; rfl
  | flt b => obtain ⟨t, e⟩ := (show ∃ t, u = Value.float b t from r); cases e; rfl
  | ref a => cases (show u = Value.ref a from r); rfl
  | ty n => cases (show u = Value.type n from r); rfl
section
variable {P : Program} {w : World} {H H' : Hp} {h h' : Heap} {a C dx : Addr} {fs fs' : List (Str × V)}
theorem ins_get (hok : HOk P w H h) (e : H a = some (.ins C dx fs)) : ∃ mA, ObjM h a dx C mA /\ (∀ f, RelO (fs.lookup f) (mA f)) /\ PySem.Within mA (fs.map (·.1)) /\ fs.length <= 1000 /\ H dx = some (.own a) := by
  obtain ⟨d, z, ne, ob, mA, n, r, q⟩ := (show ObjOk P w H h a (.ins C dx fs) from hok a _ e)
  exact ⟨mA, ⟨ob, n, ne⟩, r, q, z, d⟩
end
structure Cls (K : PySem.W.Frag) (C : Addr) : Prop where
  pg : PySem.W.plainGet K C Str.empty = true
  hd : PySem.W.hasDictIn K C = true
  po : PySem.W.plainOver K C = true
  sa : PySem.W.findIn K (.ref C) "__setattr__" = some (some (.builtin "object.__setattr__"))
theorem Cls.get {K : PySem.W.Frag} {C : Addr} (c : Cls K C) (f : Str) : PySem.W.plainGet K C f = true := c.pg
def NoAttr (K : PySem.W.Frag) (C : Addr) (f : Str) : Prop := PySem.W.findIn K (.ref C) f = some none
theorem NoAttr.taker {K : PySem.W.Frag} {C : Addr} {f : Str} (n : NoAttr K C f) : PySem.W.takerIn K C f = some none := by
  unfold PySem.W.takerIn
  rw [show PySem.W.findIn K (.ref C) f = some none from n]
  rfl
structure Con (K : PySem.W.Frag) (C : Addr) (f : Str) (v : V) (u : Value) : Prop where
  at_ : PySem.W.findIn K (.ref C) f = some (some u)
  rel : RelV v u
  get : PySem.W.specialIn K u "__get__" = some none
  cp : PySem.W.copiedNames.contains f = false
structure Meth (K : PySem.W.Frag) (C : Addr) (m : Str) (f : Addr) : Prop where
  at_ : PySem.W.findIn K (.ref C) m = some (some (.ref f))
  fn : PySem.W.isFn K (.ref f) = true
  kp : PySem.W.keepIn K (.ref f) = true
section
variable {X : Cx} {pins : List (Addr × Obj)} {σ : St} {H : Hp} {s : Shared} {a C dx : Addr} {fs : List (Str × V)} {f : Str} {v : V} {A : Around} {E : Value -> Shared -> Prop}
theorem getattr_ok {b : Bool} {Q : Value -> Shared -> Prop} (I : Inv X pins σ H s) (e : H a = some (.ins C dx fs)) (c : Cls X.K C) (n : NoAttr X.K C f) (l : fs.lookup f = some v)
    (h : ∀ u s', Inv X pins σ H s' -> RelV v u -> Q u s') : wpAny (model X.prog X.w) A (getAttr (.ref a) f b) Q E s := by
  obtain ⟨mA, O, r, _, _, _⟩ := ins_get I.hok e
  obtain ⟨u, hu, ru⟩ := RelO.some_of (v := v) (o := mA f) (by rw [<- l]; exact r f)
  exact get_map I.kIn O (c.get f) c.hd n hu (handed_of ru) (h u _ (I.tok _) ru)
theorem setattr_ok {y : V} {u : Value} {Q : Unit -> Shared -> Prop} (I : Inv X pins σ H s) (e : H a = some (.ins C dx fs)) (c : Cls X.K C) (n : NoAttr X.K C f) (hl : fs.length < 1000) (ry : RelV y u)
    (h : ∀ s', Inv X pins σ (upd H a (.ins C dx (putF f y fs))) s' -> Q () s') : wpAny (model X.prog X.w) A (setAttr (.ref a) f u) Q E s := by
  obtain ⟨mA, O, r, wi, _, ho⟩ := ins_get I.hok e
  have hz : (fs.map (·.1)).length <= sizeLine := by rw [List.length_map, sizeLine_eq]; omega
  refine set_map I.kIn O c.sa c.po n.taker c.hd wi hz fun h' O' sb => h _ ?_
  have hd : ∃ o, h'.get? dx = some o := let ⟨o, _, _, e', _⟩ := O'.ns; ⟨o, e'⟩
  refine I.write (x := a) (e := dx) (by rw [e]; exact True.intro) (.inr ho) (fun b q hb z => (sb.2 b hb).trans z) hd ?_
  refine ⟨by rw [upd_ne O.ne]; exact ho, ?_, O.ne, O'.obj, _, O'.ns, fun g => ?_, fun g hg => ?_⟩
  · have := length_putF f y fs; omega
  · show RelO ((putF f y fs).lookup g) (if g = f then some u else mA g)
    rw [lookup_putF]
    by_cases q : g = f
    · rw [if_pos q, if_pos q]; exact ry
    · rw [if_neg q, if_neg q]; exact r g
  · by_cases q : g = f
    · rw [q]; exact (keys_putF f y fs).1
    · refine (keys_putF f y fs).2 g (wi g fun z => hg ?_)
      show (if g = f then some u else mA g) = none
      rw [if_neg q]; exact z
theorem Inv.made (I : Inv X pins σ H s) : Inv X pins σ (upd (upd H s.heap.objs.size (.own (s.heap.objs.size + 1))) (s.heap.objs.size + 1) (.ins C s.heap.objs.size []))
    { s with heap := (s.heap.push PySem.W.emptyDict).push (PySem.W.instObj C s.heap.objs.size) } := by
  have e1 : (s.heap.push PySem.W.emptyDict).get? s.heap.objs.size = some PySem.W.emptyDict := Heap.get?_push_size s.heap rfl
  have e2 : ((s.heap.push PySem.W.emptyDict).push (PySem.W.instObj C s.heap.objs.size)).get? (s.heap.objs.size + 1) = some (PySem.W.instObj C s.heap.objs.size) := by
    have := Heap.get?_push_size (s.heap.push PySem.W.emptyDict) (o := PySem.W.instObj C s.heap.objs.size) rfl
    rwa [Heap.size_push] at this
  have e3 : (s.heap.push PySem.W.emptyDict).Ns s.heap.objs.size (fun _ => none) := ⟨PySem.W.emptyDict, #[], _, e1, rfl, (fun e he => absurd he (by simp)), fun _ => rfl⟩
  have I1 := I.laid (a := s.heap.objs.size) (o := .own (s.heap.objs.size + 1)) (h' := s.heap.push PySem.W.emptyDict) (t' := s.toks) (fun b u q => Heap.get?_push_of_some _ q) (Nat.le_refl _) ⟨_, e1⟩
  refine I1.laid (a := s.heap.objs.size + 1) (o := .ins C s.heap.objs.size []) (t' := s.toks) (fun b u q => Heap.get?_push_of_some _ q) (Nat.le_of_eq (Heap.size_push _ _)) ?_
  have ne : s.heap.objs.size ≠ s.heap.objs.size + 1 := Nat.ne_of_lt (Nat.lt_succ_self _)
  refine ⟨by rw [upd_ne ne, upd_same], Nat.zero_le _, ne, e2, fun _ => none, (Heap.Ns1.of_empty e3).at fun o q => Heap.get?_push_of_some _ q, fun _ => True.intro, fun y hy => absurd rfl hy⟩
theorem attr_of {prog : Program} {w : World} {env : Env} {e : Expr} {f : Str} {pos : Pos} {s : Shared} {Q : Value -> Shared -> Prop} (hb : attributeBase e f env (eval e env) = eval e env)
    (h : wpAny (model prog w) A (eval e env) (fun o s₁ => wpAny (model prog w) A (getAttr o f true) Q E s₁) E s) : wpAny (model prog w) A (eval (.Attribute e f pos) env) Q E s :=
  Attribute_any_ h (by rw [arm_eval_Attribute, hb])
end
def tFld (K : PySem.W.Frag) (ta : TE) (f : Str) : TE := fun σ H Q => ta σ H fun x H1 => ∃ a C dx fs v, x = .ref a /\ H1 a = some (.ins C dx fs) /\ Cls K C /\ NoAttr K C f /\ fs.lookup f = some v /\ Q v H1
def sFld (K : PySem.W.Frag) (ta tv : TE) (f : Str) : TS := fun D σ H => tv σ H fun y H1 => ta σ H1 fun x H2 => ∃ a C dx fs, x = .ref a /\ H2 a = some (.ins C dx fs) /\ Cls K C /\ NoAttr K C f /\ fs.length < 1000 /\
  D.nx σ (upd H2 a (.ins C dx (putF f y fs)))
section
variable {X : Cx} {o e value : Expr} {f : Str} {pos pos' tpos : Pos} {ta tv : TE}
theorem pe_fld (he : PE X e ta) (hb : attributeBase e f X.env (eval e X.env) = eval e X.env) : PE X (.Attribute e f pos) (tFld X.K ta f) := by
  intro pins s σ H Q I h
  refine attr_of hb (thn (he pins s σ H _ I h) fun u s1 ⟨x, H1, I1, rx, a, C, dx, fs, v, ex, ea, c, n, l, q⟩ => ?_)
  subst ex
  obtain rfl : u = Value.ref a := rx
  exact getattr_ok I1 ea c n l fun u' s2 I2 ru => ⟨v, H1, I2, ru, q⟩
theorem ps_fld (ha : PE X o ta) (hv : PE X value tv) (hs : swapsWith value (some (.Attribute o f pos')) pos.line X.env = pure false) : PS X (.Assign [.Attribute o f pos'] value pos) (sFld X.K ta tv f) := by
  intro pins s σ H D I h
  refine plainObj_wpAny_Assign_Attribute (thn (hv pins s σ H _ I h) fun u s1 ⟨y, H1, I1, ry, q⟩ => thn (ha pins s1 σ H1 _ I1 q) fun ov s2 ⟨x, H2, I2, rx, a, C, dx, fs, ex, ea, c, n, l, q2⟩ => ?_) hs
  subst ex
  obtain rfl : ov = Value.ref a := rx
  exact setattr_ok I2 ea c n l ry fun s3 I3 => ⟨σ, _, I3, q2⟩
end
section
variable {X : Cx} {pins : List (Addr × Obj)} {σ : St} {H : Hp} {s : Shared} {A : Around} {E : Value -> Shared -> Prop} {Q : Value -> Shared -> Prop} {c : Value} {b : Bool}
inductive TyOf (K : PySem.W.Frag) (H : Hp) : V -> Value -> Prop where
  | non : TyOf K H .non (.type "NoneType")
  | bl (x : Bool) : TyOf K H (.bl x) (.type "bool")
  | int (i : Int) : TyOf K H (.int i) (.type "int")
  | str (x : Str) : TyOf K H (.str x) (.type "str")
  | flt (x : UInt64) : TyOf K H (.flt x) (.type "float")
  | lst {a : Addr} {xs : List V} (e : H a = some (.lst xs)) : TyOf K H (.ref a) (.type "list")
  | frz {a : Addr} {o : Obj} {xs : List V} (e : H a = some (.frz o (.lst xs))) : TyOf K H (.ref a) (.type "list")
  | tup {a : Addr} {xs : List V} (e : H a = some (.tup xs)) : TyOf K H (.ref a) (.type "tuple")
  | dK {a : Addr} {kvs : List (Key × V)} (e : H a = some (.dK kvs)) : TyOf K H (.ref a) (.type "dict")
  | dT {a : Addr} {kvs : List (List Key × V)} (e : H a = some (.dT kvs)) : TyOf K H (.ref a) (.type "dict")
  | ins {a C dx : Addr} {fs : List (Str × V)} (e : H a = some (.ins C dx fs)) (cl : Cls K C) (ha : PySem.W.findIn K (.ref C) "__class__" = some (some (.builtin "object.__class__")))
      (hn : PySem.W.specialIn K (.builtin "object.__class__") "__get__" = some (some (.builtin "getset_descriptor.__get__"))) (htk : PySem.W.takesIn K (.builtin "object.__class__") = some true)
      (hm : PySem.W.mroIn K C (.type "object") = some true) : TyOf K H (.ref a) (.ref C)
end
end L2
namespace L2
open PySem PySem.Spec PyProof.Rows
structure Room (k : Nat) (A : Around) : Prop where
  hd : A.handled = none
  dp : A.depth + 3 * k + 5 < recursionLimit
  un : A.units + 16 * k + 200 < cLine
theorem Room.mono {j k : Nat} {A : Around} (r : Room k A) (h : j <= k) : Room j A := ⟨r.hd, by have := r.dp; omega, by have := r.un; omega⟩
theorem Room.deeper {k : Nat} {A : Around} (r : Room (k + 1) A) (env : Env) : Room k (A.deeper env) :=
  ⟨r.hd, by have := r.dp; show A.depth + 1 + 3 * k + 5 < _; omega, by have := r.un; show A.units + 3 + 16 * k + 200 < _; omega⟩
theorem Room.in1 {k : Nat} {A : Around} (r : Room (k + 1) A) : Room k A.in1 :=
  ⟨r.hd, by have := r.dp; show A.depth + 3 * k + 5 < _; omega, by have := r.un; show A.units + 1 + 16 * k + 200 < _; omega⟩
theorem make_depth {A : Around} {C : Addr} {us : List Value} {kw : List (Str × Value)} : (A.under (.builtin "type.__call__" ⟨.ref C :: us, kw⟩)).depth = A.depth + 1 := by
  first | rfl | simp [Around.under, Code.weight, Code.isCreation, Code.isGuard, Code.isCaller, Code.frames, Code.isFrame, guardIds]
theorem make_units {A : Around} {C : Addr} {us : List Value} {kw : List (Str × Value)} : (A.under (.builtin "type.__call__" ⟨.ref C :: us, kw⟩)).units = A.units + 1 := by
  first | rfl | simp [Around.under, Code.cUnits, Code.frames, Code.isFrame]
theorem Room.make {k : Nat} {A : Around} (r : Room (k + 1) A) (C : Addr) (us : List Value) (kw : List (Str × Value)) : Room k (A.under (.builtin "type.__call__" ⟨.ref C :: us, kw⟩)) :=
  ⟨r.hd, by have := r.dp; rw [make_depth]; omega, by have := r.un; rw [make_units]; omega⟩
theorem Room.depth {k : Nat} {A : Around} (r : Room k A) : A.depth < recursionLimit := by have := r.dp; omega
theorem Room.units {k : Nat} {A : Around} (r : Room k A) : A.units + 64 < cLine := by have := r.un; omega
theorem Room.units0 {k : Nat} {A : Around} (r : Room k A) : A.units < cLine := by have := r.un; omega
def tNil : TA := fun _ H Q => Q [] H
def tCons (ta : TE) (tr : TA) : TA := fun σ H Q => ta σ H fun x H1 => tr σ H1 fun xs H2 => Q (x :: xs) H2
section
variable {X : Cx} {e : Expr} {es : List Expr} {te : TE} {t : TA} {pos : Pos}
theorem pa_nil : PA X [] tNil := fun _ _ _ _ H Q I h => Calls.spliced_nil ⟨[], H, I, .nil, h⟩
theorem pa_cons (ha : PE X e te) (hr : PA X es t) (hs : starEach (e :: es) X.env = (false, eval e X.env) :: starEach es X.env := by rfl) : PA X (e :: es) (tCons te t) := by
  intro pos pins s σ H Q I h
  rw [hs]
  show wpAny _ _ (spliced ((false, eval e X.env) :: backTo pos (starEach es X.env))) _ _ s
  refine Calls.spliced_cons (thn (ha pins s σ H _ I h) fun u s1 ⟨x, H1, I1, r1, q1⟩ => ?_)
  exact thn (hr pos pins s1 σ H1 _ I1 q1) fun us s2 ⟨xs, H2, I2, r2, q2⟩ => ⟨x :: xs, H2, I2, .cons r1 r2, q2⟩
def tTup (t : TA) : TE := fun σ H Q => t σ H fun xs H1 => xs.length <= sizeLine /\ ∀ p, H1 p = none -> Q (.ref p) (upd H1 p (.tup xs))
def tLst (t : TA) : TE := fun σ H Q => t σ H fun xs H1 => xs.length <= sizeLine /\ ∀ p, H1 p = none -> Q (.ref p) (upd H1 p (.lst xs))
theorem pe_tup {x1} (h : PA X es t) : PE X (.Tuple es x1 pos) (tTup t) := by
  intro pins s σ H Q I hq
  refine wpAny_Tuple_spliced (thn (h pos pins s σ H _ I hq) fun us s1 ⟨xs, H1, I1, r, z, q⟩ => ⟨by rw [<- r.length]; exact z, ?_⟩)
  have hf : H1 s1.heap.objs.size = none := I1.hok.fresh (Nat.le_refl _)
  refine ⟨.ref s1.heap.objs.size, upd H1 s1.heap.objs.size (.tup xs), I1.laid (t' := s1.toks) (fun b u e => Heap.get?_push_of_some _ e) (Nat.le_refl _) ?_, rfl, q _ hf⟩
  exact ⟨z, us, r, ⟨_, Heap.get?_push_size _ rfl, rfl, _, rfl⟩⟩
theorem pe_lst (h : PA X es t) : PE X (.List es pos) (tLst t) := by
  intro pins s σ H Q I hq
  refine wpAny_List_spliced (thn (h pos pins s σ H _ I hq) fun us s1 ⟨xs, H1, I1, r, z, q⟩ => ⟨by rw [<- r.length]; exact z, ?_⟩)
  have hf : H1 s1.heap.objs.size = none := I1.hok.fresh (Nat.le_refl _)
  refine ⟨.ref s1.heap.objs.size, upd H1 s1.heap.objs.size (.lst xs), I1.laid (t' := s1.toks) (fun b u e => Heap.get?_push_of_some _ e) (Nat.le_refl _) ?_, rfl, q _ hf⟩
  exact ⟨z, us, 0, r, Heap.get?_push_size _ rfl⟩
end
abbrev Sp := List V -> Hp -> VK -> XK -> Prop
abbrev CXT := List Env -> Hp -> Shared -> XK -> Value -> Shared -> Prop
structure Env0 (P : Program) (w : World) (K : PySem.W.Frag) (mg : Str -> Option Value) (base : Heap) (A : Around) (outer : List Env) (s : Shared) (H : Hp) : Prop where
  frames : A.frames = some outer
  mod : Mod K mg base
  bs : ∀ b o, base.get? b = some o -> s.heap.get? b = some o /\ H b = none
  bsz : base.objs.size <= s.heap.objs.size
  funs : s.heap.FunFrames base outer
  frf : ∀ b ∈ frs outer, H b = none
  hok : HOk P w H s.heap
  bare : AllBare s.gens
def CE (outer : List Env) (P : Program) (w : World) (H : Hp) (s : Shared) (Q : VK) (u : Value) (s' : Shared) : Prop :=
  ∃ v H', s'.os = s.os /\ AllBare s'.gens /\ Un (frs outer) [] H H' s.heap s'.heap /\ HOk P w H' s'.heap /\ RelV v u /\ Q v H'
def CR (CX : CXT) (outer : List Env) (P : Program) (w : World) (H : Hp) (s : Shared) (Q : VK) (E : XK) (r : Result) (s' : Shared) : Prop :=
  match r with
  | .ok (.ret u) => CE outer P w H s Q u s'
  | .ok _ => False
  | .error e => CX outer H s E e s'
structure FnOk (P : Program) (w : World) (K : PySem.W.Frag) (mg : Str -> Option Value) (base : Heap) (CX : CXT) (k : Nat) (f : Addr) (fd : FuncData) (ps : List Str) (sp : Sp) : Prop where
  len : ∀ vs H Q E, sp vs H Q E -> vs.length = ps.length
  run : ∀ (A : Around) (outer : List Env) (s : Shared) (H : Hp) (args : Args) (us : List Value) (vs : List V) (Q : VK) (E : XK), Room k A -> Env0 P w K mg base A outer s H -> BindsTo s fd args (ps.zip us) -> Vals vs us -> sp vs H Q E ->
    codeAny (model P w) A (.call (.ref f) args) (CR CX outer P w H s Q E) s
theorem FnOk.mono {P : Program} {w : World} {K : PySem.W.Frag} {mg : Str -> Option Value} {base : Heap} {CX : CXT} {j k : Nat} {f : Addr} {fd : FuncData} {ps : List Str} {sp : Sp} (F : FnOk P w K mg base CX j f fd ps sp) (h : j <= k) :
    FnOk P w K mg base CX k f fd ps sp := ⟨F.len, fun A outer s H args us vs Q E hr => F.run A outer s H args us vs Q E (hr.mono h)⟩
theorem FnOk.imp {P : Program} {w : World} {K : PySem.W.Frag} {mg : Str -> Option Value} {base : Heap} {CX : CXT} {k : Nat} {f : Addr} {fd : FuncData} {ps : List Str} {sp sp' : Sp} (F : FnOk P w K mg base CX k f fd ps sp)
    (h : ∀ vs H Q E, sp' vs H Q E -> sp vs H Q E) : FnOk P w K mg base CX k f fd ps sp' :=
  ⟨fun vs H Q E q => F.len vs H Q E (h _ _ _ _ q), fun A outer s H args us vs Q E hr he hb hv hs => F.run A outer s H args us vs Q E hr he hb hv (h _ _ _ _ hs)⟩
theorem Env0.make {P : Program} {w : World} {K : PySem.W.Frag} {mg : Str -> Option Value} {base : Heap} {A : Around} {outer : List Env} {s : Shared} {H : Hp} (e : Env0 P w K mg base A outer s H) (C : Addr) (us : List Value) (kw : List (Str × Value)) :
    Env0 P w K mg base (A.under (.builtin "type.__call__" ⟨.ref C :: us, kw⟩)) outer s H := ⟨by first | exact e.frames | (simpa [Around.under, Code.envs, Code.isFrame, pushEnvs] using e.frames), e.mod, e.bs, e.bsz, e.funs, e.frf, e.hok, e.bare⟩
theorem Env0.in1 {P : Program} {w : World} {K : PySem.W.Frag} {mg : Str -> Option Value} {base : Heap} {A : Around} {outer : List Env} {s : Shared} {H : Hp} (e : Env0 P w K mg base A outer s H) :
    Env0 P w K mg base A.in1 outer s H := ⟨e.frames, e.mod, e.bs, e.bsz, e.funs, e.frf, e.hok, e.bare⟩
section
variable {X : Cx} {pins : List (Addr × Obj)} {σ : St} {H : Hp} {s s' : Shared}
theorem Inv.env0 (I : Inv X pins σ H s) : Env0 X.prog X.w X.K X.mg X.base X.A X.stack s H :=
  ⟨I.ok.frames, I.ok.mod, I.bs, Nat.le_trans I.ok.bsz I.sz, I.stack, I.stkFree, I.hok, I.bare⟩
theorem Inv.after {Q : VK} {u : Value} (I : Inv X pins σ H s) (h : CE X.stack X.prog X.w H s Q u s') : EP X pins σ Q u s' := by
  obtain ⟨v, H', os, bare, un, hok, r, q⟩ := h
  obtain ⟨hh, g, d, t, os'⟩ := s'
  obtain rfl : os' = s.os := os
  exact ⟨v, H', I.call (h' := hh) (g' := g) (d' := d) (t' := t) (ch := []) un hok bare (fun b z => absurd z (by simp)), r, q⟩
end
def tCall (sp : Sp) (dvs : List V) (E : XK) (t : TA) : TE := fun σ H Q => t σ H fun vs H1 => sp (vs ++ dvs) H1 Q E
def tMake (C : Addr) (sp : Sp) (dvs : List V) (E : XK) (t : TA) : TE := fun σ H Q => t σ H fun vs H1 => ∀ x dx, H1 x = none -> H1 dx = none -> dx ≠ x ->
  sp (.ref x :: (vs ++ dvs)) (upd (upd H1 dx (.own x)) x (.ins C dx [])) (fun v H2 => v = .non /\ Q (.ref x) H2) E
def Binds (K : PySem.W.Frag) (fd : FuncData) (ps : List Str) (ds : List Value) : Prop :=
  ∀ (s : Shared) (us : List Value), K.In s.heap -> (us ++ ds).length = ps.length -> BindsTo s fd ⟨us, []⟩ (ps.zip (us ++ ds))
theorem Binds.all {K : PySem.W.Frag} {fd : FuncData} {ps : List Str} (h : ∀ us : List Value, us.length = ps.length -> bindArgs fd ⟨us, []⟩ = pure (ps.zip us)) : Binds K fd ps [] := fun s us _ hl => by
  rw [List.append_nil] at hl ⊢
  exact .of_eq (h us hl)
def Passes (CX : CXT) (X : Cx) (E : XK) : Prop := ∀ (pins : List (Addr × Obj)) (σ : St) (H : Hp) (s : Shared) (e : Value) (s' : Shared), Inv X pins σ H s -> CX X.stack H s E e s' -> X.xe e s'
section
variable {X : Cx} {CX : CXT} {k : Nat} {f C : Addr} {fd : FuncData} {ps : List Str} {sp : Sp} {dvs : List V} {ds : List Value} {E : XK} {x m : Str} {p pos apos : Pos} {e o : Expr} {es : List Expr} {ta : TE} {t : TA}
theorem run_fn {pins : List (Addr × Obj)} {σ : St} {H : Hp} {s : Shared} {Q : VK} {us : List Value} {vs : List V} (F : FnOk X.prog X.w X.K X.mg X.base CX k f fd ps sp) (hr : Room k X.A) (hb : Binds X.K fd ps ds) (hd : Vals dvs ds) (hx : Passes CX X E)
    (I : Inv X pins σ H s) (r : Vals vs us) (h : sp (vs ++ dvs) H Q E) : wpAny (model X.prog X.w) X.A (call (.ref f) us) (EP X pins σ Q) X.xe s := by
  have r2 : Vals (vs ++ dvs) (us ++ ds) := r.append hd
  have hl : (us ++ ds).length = ps.length := by rw [<- r2.length]; exact F.len _ _ _ _ h
  refine wpAny_call (codeAny_mono (F.run X.A X.stack s H ⟨us, []⟩ (us ++ ds) (vs ++ dvs) Q E hr I.env0 (hb s us I.kIn hl) r2 h) fun r s' hq => ?_)
  cases r with
  | error e => exact hx pins σ H s e s' I hq
  | ok fl =>
    cases fl with
    | ret u => exact I.after hq
    | next => exact False.elim hq
    | brk => exact False.elim hq
    | cont => exact False.elim hq
theorem pe_call (F : FnOk X.prog X.w X.K X.mg X.base CX k f fd ps sp) (hr : Room k X.A) (hg : Gl X x) (hm : X.mg x = some (.ref f)) (hk : PySem.W.keepIn X.K (.ref f) = true) (hb : Binds X.K fd ps ds) (hd : Vals dvs ds) (hx : Passes CX X E)
    (ha : PA X (e :: es) t) (hdb : (x == ("__debug__" : Str)) = false := by decide) (he : starEach (e :: es) X.env = (false, eval e X.env) :: starEach es X.env := by rfl) (hpl : (backTo pos (starEach es X.env)).any (·.1) = false := by rfl) :
    PE X (.Call (.Name x p) (e :: es) [] pos) (tCall sp dvs E t) := by
  intro pins s σ H Q I h
  refine wpAny_Call_Name_kw (ld_glob I hg hm ?_ hdb)
  refine PySem.W.callWith_K (h₀ := X.base) I.ok.mod.kin hk (thn (ha pos pins s σ H _ I h) fun us s1 ⟨vs, H1, I1, r, q⟩ => ⟨I1.kIn, ?_⟩) he hpl
  exact run_fn F hr hb hd hx I1 r q
structure Mk (K : PySem.W.Frag) (C f : Addr) : Prop where
  makes : PySem.W.makesIn K C = true
  init : PySem.W.findIn K (.ref C) "__init__" = some (some (.ref f))
  fn : PySem.W.isFn K (.ref f) = true
  kp : PySem.W.keepIn K (.ref C) = true
theorem run_make {pins : List (Addr × Obj)} {σ : St} {H : Hp} {s : Shared} {Q : VK} {us : List Value} {vs : List V} (M : Mk X.K C f) (F : FnOk X.prog X.w X.K X.mg X.base CX k f fd ps sp) (hr : Room (k + 1) X.A) (hb : Binds X.K fd ps ds) (hd : Vals dvs ds)
    (hx : Passes CX X E) (I : Inv X pins σ H s) (r : Vals vs us)
    (h : ∀ x dx, H x = none -> H dx = none -> dx ≠ x -> sp (.ref x :: (vs ++ dvs)) (upd (upd H dx (.own x)) x (.ins C dx [])) (fun v H2 => v = .non /\ Q (.ref x) H2) E) :
    wpAny (model X.prog X.w) X.A (call (.ref C) us) (EP X pins σ Q) X.xe s := by
  have hq := h (s.heap.objs.size + 1) s.heap.objs.size (I.hok.fresh (Nat.le_succ _)) (I.hok.fresh (Nat.le_refl _)) (Nat.ne_of_lt (Nat.lt_succ_self _))
  have I2 := Inv.made (C := C) I
  have r2 : Vals (V.ref (s.heap.objs.size + 1) :: (vs ++ dvs)) (Value.ref (s.heap.objs.size + 1) :: (us ++ ds)) := .cons rfl (r.append hd)
  have hl : (Value.ref (s.heap.objs.size + 1) :: us ++ ds).length = ps.length := by
    have e := r2.length
    rw [F.len _ _ _ _ hq] at e
    exact e.symm
  refine wpAny_call (make_map (f := f) I.kIn M.makes M.init (beq_iff_eq.mp M.fn) (codeAny_mono (F.run _ X.stack _ _ ⟨Value.ref (s.heap.objs.size + 1) :: us, []⟩ (Value.ref (s.heap.objs.size + 1) :: (us ++ ds)) _ _ E (hr.make C us [])
    (I2.env0.make C us []) (hb _ (Value.ref (s.heap.objs.size + 1) :: us) I2.kIn hl) r2 hq) fun r s' hq' => ?_))
  cases r with
  | error e => exact hx pins σ _ _ e s' I2 hq'
  | ok fl =>
    cases fl with
    | ret u =>
      obtain ⟨v, H', I3, rv, ev, q3⟩ := I2.after hq'
      subst ev
      exact ⟨rv, ⟨V.ref (s.heap.objs.size + 1), H', I3, rfl, q3⟩⟩
    | next => exact False.elim hq'
    | brk => exact False.elim hq'
    | cont => exact False.elim hq'
theorem pe_make (M : Mk X.K C f) (F : FnOk X.prog X.w X.K X.mg X.base CX k f fd ps sp) (hr : Room (k + 1) X.A) (hg : Gl X x) (hm : X.mg x = some (.ref C)) (hb : Binds X.K fd ps ds) (hd : Vals dvs ds) (hx : Passes CX X E)
    (ha : PA X (e :: es) t) (hdb : (x == ("__debug__" : Str)) = false := by decide) (he : starEach (e :: es) X.env = (false, eval e X.env) :: starEach es X.env := by rfl) (hpl : (backTo pos (starEach es X.env)).any (·.1) = false := by rfl) :
    PE X (.Call (.Name x p) (e :: es) [] pos) (tMake C sp dvs E t) := by
  intro pins s σ H Q I h
  refine wpAny_Call_Name_kw (ld_glob I hg hm ?_ hdb)
  refine PySem.W.callWith_K (h₀ := X.base) I.ok.mod.kin M.kp (thn (ha pos pins s σ H _ I h) fun us s1 ⟨vs, H1, I1, r, q⟩ => ⟨I1.kIn, ?_⟩) he hpl
  exact run_make M F hr hb hd hx I1 r q
end
section
variable {X : Cx} {CX : CXT} {k : Nat} {f C : Addr} {fd : FuncData} {ps ks : List Str} {sp : Sp} {E : XK} {x m : Str} {p pos apos kpos : Pos} {e o : Expr} {es : List Expr} {kws : List Keyword} {te ta : TE} {t tk : TA} {nm : Option Str}
structure KBinds (K : PySem.W.Frag) (fd : FuncData) (ps ks : List Str) (g : List Value -> List Value -> List Value) (gV : List V -> List V -> List V) : Prop where
  to : ∀ (s : Shared) (us ws : List Value), K.In s.heap -> (g us ws).length = ps.length -> BindsTo s fd ⟨us, ks.zip ws⟩ (ps.zip (g us ws))
  rel : ∀ {vs : List V} {us : List Value} {zs : List V} {ws : List Value}, Vals vs us -> Vals zs ws -> Vals (gV vs zs) (g us ws)
variable {g : List Value -> List Value -> List Value} {gV : List V -> List V -> List V}
end
structure FnScope (N P : List Str) (sc : Scope) : Prop where
  kind : sc.kind = .function
  co : sc.isCoroutine = false
  gen : sc.isGenerator = false
  nd : N.Nodup
  pre : N.take P.length = P
  par : ∀ x ∈ P, sc.names.lookup x = some .local \/ sc.names.lookup x = some .cell
  nofree : ∀ y ∈ sc.names, y.2 ≠ .free
theorem bindL_out {kindOf : Str -> Option NameKind} {x : Str} : ∀ {binds : List (Str × Value)} {m : Str -> Option Value}, (∀ v, (x, v) ∉ binds) -> bindL kindOf binds m x = m x
  | [], _, _ => rfl
  | (n, v) :: r, m, h => by
    unfold bindL
    rw [bindL_out fun w hw => h w (List.mem_cons_of_mem _ hw)]
    split
    · have : x ≠ n := by rintro rfl; exact h v List.mem_cons_self
      simp [this]
    · rfl
theorem bindC_out {kindOf : Str -> Option NameKind} {x : Str} : ∀ {binds : List (Str × Value)} {m : Str -> Option Value}, (∀ v, (x, v) ∉ binds) -> bindC kindOf binds m x = m x
  | [], _, _ => rfl
  | (n, v) :: r, m, h => by
    unfold bindC
    rw [bindC_out fun w hw => h w (List.mem_cons_of_mem _ hw)]
    split
    · rfl
    · have : x ≠ n := by rintro rfl; exact h v List.mem_cons_self
      simp [this]
theorem bindL_get {kindOf : Str -> Option NameKind} {x : Str} {v : Value} : ∀ {P : List Str} {vs : List Value} {i : Nat} {m : Str -> Option Value}, P.Nodup -> P[i]? = some x -> vs[i]? = some v -> kindOf x = some .local ->
    bindL kindOf (P.zip vs) m x = some v
  | [], _, _, _, _, h, _, _ => by simp at h
  | _ :: _, [], _, _, _, _, h, _ => by simp at h
  | p :: P, w :: vs, 0, m, nd, h1, h2, hk => by
    simp at h1 h2; subst h1; subst h2
    show bindL kindOf ((p, w) :: P.zip vs) m p = _
    unfold bindL
    rw [bindL_out fun v hv => (List.nodup_cons.mp nd).1 (List.of_mem_zip hv).1, if_pos hk]
    simp
  | p :: P, w :: vs, i + 1, m, nd, h1, h2, hk => by
    show bindL kindOf ((p, w) :: P.zip vs) m x = _
    unfold bindL
    exact bindL_get (i := i) (List.nodup_cons.mp nd).2 (by simpa using h1) (by simpa using h2) hk
theorem bindC_get {kindOf : Str -> Option NameKind} {x : Str} {v : Value} : ∀ {P : List Str} {vs : List Value} {i : Nat} {m : Str -> Option Value}, P.Nodup -> P[i]? = some x -> vs[i]? = some v -> kindOf x ≠ some .local ->
    bindC kindOf (P.zip vs) m x = some v
  | [], _, _, _, _, h, _, _ => by simp at h
  | _ :: _, [], _, _, _, _, h, _ => by simp at h
  | p :: P, w :: vs, 0, m, nd, h1, h2, hk => by
    simp at h1 h2; subst h1; subst h2
    show bindC kindOf ((p, w) :: P.zip vs) m p = _
    unfold bindC
    rw [bindC_out fun v hv => (List.nodup_cons.mp nd).1 (List.of_mem_zip hv).1, if_neg hk]
    simp
  | p :: P, w :: vs, i + 1, m, nd, h1, h2, hk => by
    show bindC kindOf ((p, w) :: P.zip vs) m x = _
    unfold bindC
    exact bindC_get (i := i) (List.nodup_cons.mp nd).2 (by simpa using h1) (by simpa using h2) hk
def start (N : List Str) (vs : List V) : St := vs.map some ++ List.replicate (N.length - vs.length) none
def cxOf (CX : CXT) (P : Program) (w : World) (K : PySem.W.Frag) (mg : Str -> Option Value) (base : Heap) (N : List Str) (qual : Str) (scope : Scope) (f : Addr) (cd : Value) (A : Around) (outer : List Env) (s : Shared) (H : Hp) (E : XK) : Cx where
  prog := P
  w := w
  K := K
  mg := mg
  base := base
  A := A.deeper (envOfC qual scope s.heap.objs.size f cd)
  N := N
  s₀ := s
  H₀ := H
  env := envOfC qual scope s.heap.objs.size f cd
  outer := outer
  stack := envOfC qual scope s.heap.objs.size f cd :: outer
  ex := []
  calm := true
  fn := fun _ => true
  pn := []
  xe := fun e s' => wpAny (model P w) (A.deeper (envOfC qual scope s.heap.objs.size f cd)) (leaving (envOfC qual scope s.heap.objs.size f cd) e) (fun _ s'' => CX outer H s E e s'') (fun e' s'' => CX outer H s E e' s'') s'
theorem cell_has {sc : Scope} {n : Nat} {x : Str} (h : sc.names.lookup x = some .cell) : ∃ c, (cellsFrom n sc.names []).lookup x = some c := by
  have q := PySem.W.cellsFrom_some sc.names n [] (.inl h)
  exact Option.isSome_iff_exists.mp q
theorem inv_start {CX : CXT} {P : Program} {w : World} {K : PySem.W.Frag} {mg : Str -> Option Value} {base : Heap} {N ps : List Str} {qual : Str} {scope : Scope} {f : Addr} {cd : Value} {A : Around} {outer : List Env} {s s1 : Shared} {H : Hp} {E : XK} {us : List Value} {vs : List V}
    (S : FnScope N ps scope) (hd : A.handled = none) (e0 : Env0 P w K mg base A outer s H) (hl : vs.length = ps.length) (r : Vals vs us)
    (x : InCallC s s.heap.objs.size (bindL (envOfC qual scope s.heap.objs.size f cd).kindOf (ps.zip us) fun _ => none) (cellsFrom (s.heap.objs.size + 1) scope.names []) (bindC (envOfC qual scope s.heap.objs.size f cd).kindOf (ps.zip us) fun _ => none) s1) :
    Inv (cxOf CX P w K mg base N qual scope f cd A outer s H E) [] (start N vs) H s1 := by
  have hpl : ps.length <= N.length := by have := congrArg List.length S.pre; rw [List.length_take] at this; omega
  obtain ⟨h1, tk, rfl, hk⟩ := x.done
  have noA : ∀ b : Addr, b ∉ (cxOf CX P w K mg base N qual scope f cd A outer s H E).ex := fun b z => absurd (show b ∈ ([] : List Addr) from z) (by simp)
  refine ⟨⟨e0.mod, S.kind, rfl, rfl, Nat.le_refl _, fun y z c h1 h2 => ?_, fun y hy => ?_, fun y c _ h => ?_, fun _ => hd, Around.frames_deeper e0.frames, .inr ⟨rfl, rfl⟩, fun b z => absurd z (noA b), e0.bs, e0.bsz, fun b _ _ => noA b, fun b z => absurd z (noA b), e0.funs, e0.frf⟩,
    rfl, e0.bare, Un.kept hk, ⟨_, x.toInCall.ns, fun i y v h1 h2 h3 => ?_⟩, fun y c h => ⟨_, x.cell y c h⟩, e0.hok.fresh (Nat.le_refl _), fun y c h => ?_, fun p hp => absurd (show p ∈ ([] : List (Addr × Obj)) from hp) (by simp), e0.hok.kept hk, ?_⟩
  · exact name_of_addr x.apart (PySem.mem_of_lookup h1) (PySem.mem_of_lookup h2)
  · have hy : scope.names.lookup y = some .cell \/ scope.names.lookup y = some .free := hy
    rcases hy with hy | hy
    · exact cell_has hy
    · exact absurd rfl (S.nofree _ (PySem.mem_of_lookup hy))
  · exact Nat.le_of_lt (x.above y c (PySem.mem_of_lookup h))
  · have hi : i < vs.length := by
      unfold start at h2
      by_cases hi : i < vs.length
      · exact hi
      · rw [List.getElem?_append_right (by simpa using hi)] at h2
        rw [List.getElem?_replicate] at h2
        split at h2 <;> cases h2
    have ha : vs[i]? = some v := by
      unfold start at h2
      rw [List.getElem?_append_left (by simpa using hi), List.getElem?_map] at h2
      cases e : vs[i]? with
      | none => rw [e] at h2; cases h2
      | some a => rw [e] at h2; cases h2; rfl
    obtain ⟨u, hu, rv⟩ := r.get ha
    have hp : ps[i]? = some y := by
      rw [<- S.pre, List.getElem?_take_of_lt (by omega)]; exact h1
    have ndP : ps.Nodup := by rw [<- S.pre]; exact S.nd.sublist (List.take_sublist _ _)
    refine ⟨u, rv, ?_⟩
    rcases S.par y (List.mem_of_getElem? hp) with k | k
    · exact .inl ⟨k, bindL_get ndP hp hu k⟩
    · obtain ⟨c, e⟩ := cell_has (n := s.heap.objs.size + 1) k
      refine .inr ⟨.inl k, c, e, ?_⟩
      have q := x.cell y c e
      rw [bindC_get ndP hp hu (by show scope.names.lookup y ≠ _; rw [k]; decide)] at q
      exact q
  · exact e0.hok.fresh (Nat.le_of_lt (x.above y c (PySem.mem_of_lookup h)))
  · unfold start
    show _ = N.length
    rw [List.length_append, List.length_map, List.length_replicate]
    omega
theorem fn_of {CX : CXT} {P : Program} {w : World} {K : PySem.W.Frag} {mg : Str -> Option Value} {base : Heap} {k : Nat} {f : Addr} {name qual : Str} {params : Arguments} {body : List Stmt} {scope : Scope} {dV kV doc pm cdv ct oc : Value} {an od : Option Addr}
    {osl : Array (Option Value)} {N ps : List Str} {sp : Sp} (lk : K.lookup f = some ⟨oc, od, .func (PySem.W.fnOf name qual params body scope dV kV doc pm an cdv ct), osl⟩) (hcd : PySem.W.codeIn K cdv qual = true) (S : FnScope N ps scope)
    (len : ∀ vs H Q E, sp vs H Q E -> vs.length = ps.length)
    (hbody : ∀ (A : Around) (outer : List Env) (s : Shared) (H : Hp) (vs : List V) (Q : VK) (E : XK), Room k (A.deeper (envOfC qual scope s.heap.objs.size f cdv)) -> sp vs H Q E ->
      ∃ t, PSs (cxOf CX P w K mg base N qual scope f cdv A outer s H E) body t /\ t { nx := fun _ H' => Q .non H', rt := Q } (start N vs) H) :
    FnOk P w K mg base CX (k + 1) f (PySem.W.fnOf name qual params body scope dV kV doc pm an cdv ct) ps sp := by
  refine ⟨len, fun A outer s H args us vs Q E hr e0 hb r hsp => ?_⟩
  have hl := len _ _ _ _ hsp
  have KX : K.In s.heap := e0.mod.kin.keeps fun b o e => (e0.bs b o e).1
  have lim : s.heap.NoLimit := e0.mod.nolimit.keeps fun b o e => (e0.bs b o e).1
  have hkind : ∀ y ∈ ps.zip us, scope.names.lookup y.1 = some .local \/ (scope.names.lookup y.1 = some .cell /\ ((cellsFrom (s.heap.objs.size + 1) scope.names []).lookup y.1).isSome = true) := fun ⟨n, v⟩ hy => by
    rcases S.par n (List.of_mem_zip hy).1 with q | q
    · exact .inl q
    · exact .inr ⟨q, PySem.W.cellsFrom_some _ _ _ (.inl q)⟩
  refine codeAny_call_function hr.depth (KX _ _ lk) rfl S.co S.gen rfl (PySem.W.codeRec_of KX hcd) (hb _ _ _ _ ?_)
  refine wpAny_newFunctionEnv_cells S.kind hkind fun env he s1 x => ?_
  subst he
  refine ⟨lim.keeps x.toInCall.keep, codeAny_func ?_⟩
  obtain ⟨t, ht, hq⟩ := hbody A outer s H vs Q E (hr.deeper _) hsp
  have I : Inv (cxOf CX P w K mg base N qual scope f cdv A outer s H E) [] (start N vs) H s1 := inv_start S hr.hd e0 hl r x
  refine wpAny_mono (ht [] s1 (start N vs) H _ I hq) (fun fl s' hs => ?_) fun e s' hs => hs
  have fin : ∀ {σ' : St} {H' : Hp} {v : V} {u : Value}, Inv (cxOf CX P w K mg base N qual scope f cdv A outer s H E) [] σ' H' s' -> RelV v u -> Q v H' -> CE outer P w H s Q u s' :=
    fun {σ' H' v u} J rv q => ⟨v, H', J.os, J.bare, J.base, J.hok, rv, q⟩
  cases fl with
  | ret u =>
    obtain ⟨v, σ', H', J, rv, q⟩ := hs
    exact fin J rv q
  | next =>
    obtain ⟨σ', H', J, q⟩ := hs
    exact fin (v := V.non) (u := Value.none) J rfl q
  | brk =>
    obtain ⟨_, _, _, q⟩ := hs
    exact False.elim q
  | cont =>
    obtain ⟨_, _, _, q⟩ := hs
    exact False.elim q
end L2
namespace L2
open PySem PySem.Spec PyProof.Rows
section
variable {X : Cx} {x : Str} {p pos : Pos} {e : Expr} {es : List Expr} {t : TA} {id T : String} {r : List V -> Hp -> VK -> Prop}
def tCB (r : List V -> Hp -> VK -> Prop) (t : TA) : TE := fun σ H Q => t σ H fun vs H1 => r vs H1 Q
theorem pe_callB (hc : CallR X (.builtin id) r) (hg : Gl X x) (hm : X.mg x = none) (hv : bootBuiltins x = some (.builtin id)) (ha : PA X (e :: es) t) (hn : x ≠ "__name__" := by decide) (hdb : (x == ("__debug__" : Str)) = false := by decide)
    (he : starEach (e :: es) X.env = (false, eval e X.env) :: starEach es X.env := by rfl) (hpl : (backTo pos (starEach es X.env)).any (·.1) = false := by rfl) : PE X (.Call (.Name x p) (e :: es) [] pos) (tCB r t) := by
  intro pins s σ H Q I h
  refine wpAny_Call_Name_kw (ld_blt I hg hm hv ?_ hn hdb)
  exact PyProof.Rows.callWith_builtin1 (thn (ha pos pins s σ H _ I h) fun us s1 ⟨vs, H1, I1, r1, q1⟩ => hc pins s1 σ H1 vs us Q I1 r1 q1) he hpl
theorem pe_callTy (hc : CallR X (.type T) r) (hg : Gl X x) (hm : X.mg x = none) (hv : bootBuiltins x = some (.type T)) (ha : PA X (e :: es) t) (hn : x ≠ "__name__" := by decide) (hdb : (x == ("__debug__" : Str)) = false := by decide)
    (he : starEach (e :: es) X.env = (false, eval e X.env) :: starEach es X.env := by rfl) (hpl : (backTo pos (starEach es X.env)).any (·.1) = false := by rfl) : PE X (.Call (.Name x p) (e :: es) [] pos) (tCB r t) := by
  intro pins s σ H Q I h
  refine wpAny_Call_Name_kw (ld_blt I hg hm hv ?_ hn hdb)
  exact PyProof.Rows.callWith_type1 (thn (ha pos pins s σ H _ I h) fun us s1 ⟨vs, H1, I1, r1, q1⟩ => hc pins s1 σ H1 vs us Q I1 r1 q1) he hpl
end
end L2
namespace HT
open PySem PyProof.Rows
section
open PySem.SeqAt
open PySem.AutoSeq1 (wpAny_loadPart')
open PySem.MeetsSeq PySem.MeetsSeq2 PySem.MeetsSeq3
end
section
variable {prog : Program} {w : World} {A : Around} {E : Value -> Shared -> Prop} {s : Shared}
theorem cat_tup {t b : Addr} {vs ws : List Value} {Q : Value -> Shared -> Prop} (ht : IsTup s.heap t vs.toArray) (hb : IsTup s.heap b ws.toArray) (hv : vs ≠ [])
    (h1 : ws = [] -> Q (.ref t) s) (h2 : ws ≠ [] -> Q (.ref s.heap.objs.size) { s with heap := s.heap.push { cls := .type "tuple", data := .seq (vs ++ ws).toArray } })
    (hsz : vs.length + ws.length <= sizeLine) : wpAny (model prog w) A (binaryOp .Add (.ref t) (.ref b)) Q E s := by
  obtain ⟨⟨cls, dd, data, sl⟩, ho, hc, n, hd⟩ := id ht
  obtain ⟨⟨cls2, dd2, data2, sl2⟩, ho2, hc2, n2, hd2⟩ := id hb
  simp only at hc hd hc2 hd2
  subst hc hd hc2 hd2
  have e : vs.toArray ++ ws.toArray = (vs ++ ws).toArray := by simp
  by_cases hw : ws = []
  · exact concat_meets ⟨_, ho, rfl⟩ ⟨_, ho2, rfl⟩ noFill_tuple_add seq_tuple_add PySem.F.slot_tuple_add PySem.F.entry_tuple_add (PySem.F.args_tuple_add_2 _ _)
      (tuple_addW1 t b vs.toArray ws.toArray n n2 dd dd2 sl sl2 (by simpa using hv) (by simp [hw])) ⟨ho, ho2, h1 hw⟩
  · refine concat_meets ⟨_, ho, rfl⟩ ⟨_, ho2, rfl⟩ noFill_tuple_add seq_tuple_add PySem.F.slot_tuple_add PySem.F.entry_tuple_add (PySem.F.args_tuple_add_2 _ _)
      (tuple_addW2 t b vs.toArray ws.toArray n n2 dd dd2 sl sl2 (by simpa using hv) (by simpa using hw) (by rw [List.size_toArray, List.size_toArray]; exact hsz)) ⟨ho, ho2, ?_⟩
    rw [e]
    exact h2 hw
def sIx (n d : Nat) : Option Int -> Nat
  | none => d
  | some v => if v < 0 then (v + (n : Int)).toNat else min v.toNat n
theorem sIx_le (n d : Nat) (hd : d <= n) (o : Option Int) : sIx n d o <= n := by
  cases o with
  | none => exact hd
  | some v =>
    show (if v < 0 then (v + (n : Int)).toNat else min v.toNat n) <= n
    by_cases hv : v < 0
    · rw [if_pos hv]; omega
    · rw [if_neg hv]; exact Nat.min_le_right _ _
theorem clip_eq (v : Int) (n d : Nat) : (if v < 0 then max (v + (n : Int)) 0 else min v (n : Int)) = ((sIx n d (some v) : Nat) : Int) := by
  show (if v < 0 then max (v + (n : Int)) 0 else min v (n : Int)) = (((if v < 0 then (v + (n : Int)).toNat else min v.toNat n) : Nat) : Int)
  by_cases hv : v < 0
  · simp only [if_pos hv]; omega
  · simp only [if_neg hv]; omega
theorem adjust_gen (lo hi : Option Int) (n : Nat) : Builtin.Slice.sliceAdjust lo hi 1 (n : Int) = (((sIx n 0 lo : Nat) : Int), ((sIx n n hi : Nat) : Int)) := by
  have h1 : ¬ ((1 : Int) < 0) := by omega
  unfold Builtin.Slice.sliceAdjust
  simp only [h1, if_false]
  refine Prod.ext ?_ ?_
  · cases lo with
    | none => rfl
    | some v => exact clip_eq v n 0
  · cases hi with
    | none => rfl
    | some v => exact clip_eq v n n
theorem places_gen (i j : Nat) : Builtin.Slice.slicePlaces (i : Int) (j : Int) 1 = j - i := by
  unfold Builtin.Slice.slicePlaces
  have h1 : (1 : Int) > 0 := by omega
  simp only [h1, if_true, Int.ediv_one]
  split <;> omega
theorem slicePart_ {v : Value} {o : Option Int} {Q : Option Int -> Shared -> Prop} (p : IsPart v o) (h : Q o s) : wpAny (model prog w) A (Builtin.Slice.slicePartIndex v) Q E s := by
  cases p with
  | none => exact slicePart_none h
  | int i t => exact slicePart_int h
theorem sliceApplied_gen {sl : Addr} {vl vu : Value} {lo hi : Option Int} {n : Nat} {Q : Int × Int × Nat -> Shared -> Prop} (hs : s.heap.IsSliceOf sl vl vu .none) (pl : IsPart vl lo) (pu : IsPart vu hi)
    (h : Q (((sIx n 0 lo : Nat) : Int), 1, sIx n n hi - sIx n 0 lo) s) : wpAny (model prog w) A (Builtin.Slice.sliceApplied (.ref sl) (pure (n : Int))) Q E s := by
  obtain ⟨os, hos, hcs, hds⟩ := id hs
  unfold Builtin.Slice.sliceApplied Builtin.Slice.sliceFields
  refine wpAny_bind (wpAny_bind (wpAny_field hos hds (x := vl) rfl (wpAny_bind (wpAny_field hos hds (x := vu) rfl (wpAny_bind (wpAny_field hos hds (x := .none) rfl (wpAny_pure ?_)))))))
  refine wpAny_bind (slicePart_none ?_)
  show wpAny _ _ (if ((1 : Int) == 0) = true then _ else _) _ _ s
  rw [if_neg (by decide)]
  refine wpAny_bind (slicePart_ pl (wpAny_bind (slicePart_ pu (wpAny_bind (wpAny_pure ?_)))))
  show wpAny _ _ (match Builtin.Slice.sliceAdjust lo hi 1 (n : Int) with | (lo, hi) => pure (lo, (1 : Int), Builtin.Slice.slicePlaces lo hi 1)) _ _ s
  rw [adjust_gen lo hi n]
  show wpAny _ _ (pure (((sIx n 0 lo : Nat) : Int), (1 : Int), Builtin.Slice.slicePlaces ((sIx n 0 lo : Nat) : Int) ((sIx n n hi : Nat) : Int) 1)) _ _ s
  rw [places_gen]
  exact wpAny_pure h
theorem pick_gen (xs : Array Value) (i k : Nat) : ((List.range k).filterMap fun (m : Nat) => xs[((i : Int) + (m : Int) * 1).toNat]?).toArray = ((xs.toList.drop i).take k).toArray := by
  have e : (fun (m : Nat) => xs[((i : Int) + (m : Int) * 1).toNat]?) = fun m => xs[i + m]? := by
    funext m
    have : ((i : Int) + (m : Int) * 1).toNat = i + m := by omega
    rw [this]
  rw [e]
  have := pick_run xs i k
  rw [List.filterMap_map] at this
  have e2 : ((fun x => xs[x]?) ∘ fun x => i + x) = fun m => xs[i + m]? := rfl
  rw [e2] at this
  rw [this]
theorem getItem_tuple_cut {t sl : Addr} {items : Array Value} {vl vu : Value} {lo hi : Option Int} {Q : Value -> Shared -> Prop} (ht : IsTup s.heap t items) (hs : s.heap.IsSliceOf sl vl vu .none) (pl : IsPart vl lo) (pu : IsPart vu hi)
    (hw : ¬ (sIx items.size 0 lo = 0 /\ sIx items.size items.size hi = items.size))
    (h : Q (.ref s.heap.objs.size) { s with heap := s.heap.push { cls := .type "tuple", data := .seq ((items.toList.drop (sIx items.size 0 lo)).take (sIx items.size items.size hi - sIx items.size 0 lo)).toArray } })
    (hsz : items.size <= sizeLine) : wpAny (model prog w) A (getItem (.ref t) (.ref sl)) Q E s := by
  have htake : sizeOk (.seq ((items.toList.drop (sIx items.size 0 lo)).take (sIx items.size items.size hi - sIx items.size 0 lo)).toArray) := by
    show ((items.toList.drop (sIx items.size 0 lo)).take (sIx items.size items.size hi - sIx items.size 0 lo)).toArray.size <= sizeLine
    rw [List.size_toArray, List.length_take, List.length_drop, Array.length_toList]
    omega
  have hj : sIx items.size items.size hi <= items.size := sIx_le _ _ (Nat.le_refl _) hi
  obtain ⟨os, hos, hcs, hds⟩ := id hs
  have hTs : s.TypeIs (.ref sl) "slice" := ⟨os, hos, hcs⟩
  unfold getItem
  try with_reducible refine wpAny_holding ?_
  first | refine wpAny_bind (wpAny_pure ?_) | skip
  refine wpAny_bind (wpAny_sequenceKey ht.typeIs (by decide) ?_)
  refine wpAny_bind (wpAny_callSpecial?_slot (name := Str.ofString "__getitem__") ht.typeIs PyProof.Rows.slot_tuple_getitem
    (wpAny_call_entry PyProof.Rows.slot_tuple_getitem ht.typeIs entry_tuple_getitem ?_ (args_tuple_getitem _ _)))
  show wpAny _ _ (Builtin.Tuple.tupleItemsOf (.ref t) >>= _) _ _ s
  refine wpAny_bind (tupleItemsOf_ ht ?_)
  refine wpAny_bind (wpAny_typeOf hTs ?_)
  rw [if_pos (by decide)]
  refine wpAny_bind (sliceApplied_gen hs pl pu ?_)
  have hno : ¬ ((((sIx items.size 0 lo : Nat) : Int) == 0 && (1 : Int) == 1 && (sIx items.size items.size hi - sIx items.size 0 lo) == items.size) = true) := by
    intro q
    rw [Bool.and_eq_true, Bool.and_eq_true] at q
    have q1 : ((sIx items.size 0 lo : Nat) : Int) = 0 := eq_of_beq q.1.1
    have q2 : sIx items.size items.size hi - sIx items.size 0 lo = items.size := eq_of_beq q.2
    exact hw ⟨by omega, by omega⟩
  show wpAny _ _ (if (((sIx items.size 0 lo : Nat) : Int) == 0 && (1 : Int) == 1 && (sIx items.size items.size hi - sIx items.size 0 lo) == items.size) = true then _ else _) _ _ s
  rw [if_neg hno, pick_gen]
  first
    | exact wpAny_bind (m := Builtin.Tuple.tupleExact _) (wpAny_newObj_type (wpAny_pure ⟨_, rfl, wpAny_pure h⟩) htake)
    | exact wpAny_bind (m := Builtin.Tuple.tupleExact _) (wpAny_newObj_type (wpAny_bind (wpAny_pure (wpAny_pure ⟨_, rfl, wpAny_pure h⟩))) htake)
    | exact wpAny_bind (wpAny_bind (m := Builtin.Tuple.tupleExact _) (wpAny_newObj_type (wpAny_pure (wpAny_pure ⟨_, rfl, wpAny_pure h⟩)) htake))
    | exact wpAny_bind (wpAny_bind (m := Builtin.Tuple.tupleExact _) (wpAny_newObj_type (wpAny_pure ⟨_, rfl, wpAny_pure h⟩) htake))
end
end HT
namespace L2
open PySem PySem.Spec PyProof.Rows
abbrev TO := St -> Hp -> (Option Int -> Hp -> Prop) -> Prop
def PO (X : Cx) (e : Option Expr) (t : TO) : Prop :=
  ∀ (pins : List (Addr × Obj)) (s : Shared) (σ : St) (H : Hp) (Q : Option Int -> Hp -> Prop), Inv X pins σ H s -> t σ H Q ->
    wpAny (model X.prog X.w) X.A (evalPart e X.env) (fun u s' => ∃ o H', Inv X pins σ H' s' /\ IsPart u o /\ Q o H') X.xe s
def tNoPart : TO := fun _ H Q => Q none H
def tPart (t : TE) : TO := fun σ H Q => t σ H fun x H1 => ∃ i, x = .int i /\ Q (some i) H1
section
variable {X : Cx} {e : Expr} {te : TE} {lo hi : Option Expr} {tl th : TO} {pos p2 : Pos}
theorem po_none : PO X none tNoPart := by
  intro pins s σ H Q I h
  rw [evalPart_none]
  exact wpAny_pure ⟨none, H, I, .none, h⟩
theorem po_some (h : PE X e te) : PO X (some e) (tPart te) := by
  intro pins s σ H Q I hw
  rw [evalPart_some]
  refine thn (h pins s σ H _ I hw) fun u s1 ⟨x, H1, I1, r1, q1⟩ => ?_
  obtain ⟨i, rfl, q⟩ := q1
  obtain ⟨t, rfl⟩ := r1
  exact ⟨some i, H1, I1, .int i t, q⟩
def SlR (X : Cx) (r : V -> Option Int -> Option Int -> Hp -> VK -> Prop) : Prop :=
  ∀ (pins : List (Addr × Obj)) (s : Shared) (σ : St) (H : Hp) (x : V) (v vl vu : Value) (lo hi : Option Int) (sl : Addr) (Q : VK), Inv X pins σ H s -> RelV x v -> s.heap.IsSliceOf sl vl vu .none -> IsPart vl lo -> IsPart vu hi -> r x lo hi H Q ->
    ∃ T id, typeLookup (.type T) "__getitem__" = pure (some (.builtin id)) /\ s.TypeIs v T /\ wpAny (model X.prog X.w) X.A (getItem v (.ref sl)) (EP X pins σ Q) X.xe s
theorem SlR.or {r r' : V -> Option Int -> Option Int -> Hp -> VK -> Prop} (h : SlR X r) (h' : SlR X r') : SlR X (fun x lo hi H Q => r x lo hi H Q \/ r' x lo hi H Q) := by
  intro pins s σ H x v vl vu lo hi sl Q I rx hs pl pu q
  rcases q with q | q
  · exact h pins s σ H x v vl vu lo hi sl Q I rx hs pl pu q
  · exact h' pins s σ H x v vl vu lo hi sl Q I rx hs pl pu q
def tSl (r : V -> Option Int -> Option Int -> Hp -> VK -> Prop) (te : TE) (tl th : TO) : TE := fun σ H Q => te σ H fun x H1 => tl σ H1 fun l H2 => th σ H2 fun u H3 => r x l u H3 Q
theorem pe_slice {r : V -> Option Int -> Option Int -> Hp -> VK -> Prop} (hr : SlR X r) (he : PE X e te) (hl : PO X lo tl) (hu : PO X hi th) : PE X (.Subscript e (.Slice lo hi none p2) pos) (tSl r te tl th) := by
  intro pins s σ H Q I h
  refine Subscript_ (thn (he pins s σ H _ I h) fun v s1 ⟨x, H1, I1, r1, q1⟩ => ?_)
  refine wpAny_Slice (thn (hl pins s1 σ H1 _ I1 q1) fun vl s2 ⟨l, H2, I2, pl, q2⟩ => thn (hu pins s2 σ H2 _ I2 q2) fun vu s3 ⟨u, H3, I3, pu, q3⟩ => ?_)
  rw [evalPart_none]
  refine wpAny_pure ?_
  have I4 : Inv X pins σ H3 { s3 with heap := s3.heap.push { cls := .type "slice", data := .fields #[vl, vu, .none] } } := I3.kept (t' := s3.toks) fun b ob q => Heap.get?_push_of_some _ q
  obtain ⟨T, id, hT, ht, hg⟩ := hr pins { s3 with heap := s3.heap.push { cls := .type "slice", data := .fields #[vl, vu, .none] } } σ H3 x v vl vu l u s3.heap.objs.size Q I4 r1 (Heap.IsSliceOf.new ..) pl pu q3
  show wpAny (model X.prog X.w) X.A (subscriptTail e (.Slice lo hi none p2) v (.ref s3.heap.objs.size)) (EP X pins σ Q) X.xe { s3 with heap := s3.heap.push { cls := .type "slice", data := .fields #[vl, vu, .none] } }
  exact tail_any (ops := [.ref s3.heap.objs.size, v]) ht hT hg (by with_unfolding_all rfl)
def cutV (xs : List V) (lo hi : Option Int) : List V := (xs.drop (HT.sIx xs.length 0 lo)).take (HT.sIx xs.length xs.length hi - HT.sIx xs.length 0 lo)
theorem cutV_length (xs : List V) (lo hi : Option Int) : (cutV xs lo hi).length <= xs.length := by
  unfold cutV
  rw [List.length_take, List.length_drop]
  omega
def rSlT (K : PySem.W.Frag) : V -> Option Int -> Option Int -> Hp -> VK -> Prop := fun x lo hi H Q => ∃ a xs, x = .ref a /\ SqT K H a xs /\
  ¬ (HT.sIx xs.length 0 lo = 0 /\ HT.sIx xs.length xs.length hi = xs.length) /\ ∀ p, H p = none -> Q (.ref p) (upd H p (.tup (cutV xs lo hi)))
theorem sl_tup : SlR X (rSlT X.K) := by
  intro pins s σ H x v vl vu lo hi sl Q I rx hs pl pu h
  obtain ⟨a, xs, rfl, hx, hw, q⟩ := h
  cases rx
  obtain ⟨its, r, ht, hz⟩ := I.tuple hx
  have hlen : its.toArray.size = xs.length := by rw [List.size_toArray]; exact r.length.symm
  refine ⟨"tuple", _, PyProof.Rows.slot_tuple_getitem.lookup, ht.typeIs, ?_⟩
  refine HT.getItem_tuple_cut ht hs pl pu (by rw [hlen]; exact hw) ?_ (by rw [hlen]; exact hz)
  rw [hlen]
  refine ⟨.ref s.heap.objs.size, _, I.laid (t' := s.toks) (o := .tup (cutV xs lo hi)) (fun b ob q => Heap.get?_push_of_some _ q) (Nat.le_refl _) ?_, rfl, q _ (I.hok.fresh (Nat.le_refl _))⟩
  exact ⟨Nat.le_trans (cutV_length xs lo hi) hz, _, (r.drop (HT.sIx xs.length 0 lo)).take (HT.sIx xs.length xs.length hi - HT.sIx xs.length 0 lo), IsTup.new _ _⟩
def rCatT (K : PySem.W.Frag) : R2 := fun x y H Q => ∃ a b xs ys, x = .ref a /\ y = .ref b /\ SqT K H a xs /\ SqT K H b ys /\ xs ≠ [] /\ xs.length + ys.length <= sizeLine /\
  (ys = [] -> Q (.ref a) H) /\ (ys ≠ [] -> ∀ p, H p = none -> Q (.ref p) (upd H p (.tup (xs ++ ys))))
theorem Vals.nil_iff {xs : List V} {us : List Value} (r : Vals xs us) : us = [] ↔ xs = [] := by
  cases r with
  | nil => simp
  | cons _ _ => simp
theorem op_catT : OpR X (binaryOp .Add) (rCatT X.K) := by
  intro pins s σ H x y v u Q I rx ry h
  obtain ⟨a, b, xs, ys, rfl, rfl, ha, hb, hx, hz, q1, q2⟩ := h
  cases rx
  cases ry
  obtain ⟨its, r1, p1, _⟩ := I.tuple ha
  obtain ⟨its2, r2, p2, _⟩ := I.tuple hb
  refine HT.cat_tup p1 p2 (fun z => hx (r1.nil_iff.mp z)) (fun z => ⟨.ref a, H, I, rfl, q1 (r2.nil_iff.mp z)⟩) (fun z => ?_) (by rw [<- r1.length, <- r2.length]; exact hz)
  refine ⟨.ref s.heap.objs.size, _, I.laid (t' := s.toks) (o := .tup (xs ++ ys)) (fun b ob q => Heap.get?_push_of_some _ q) (Nat.le_refl _) ?_, rfl, q2 (fun w => z (r2.nil_iff.mpr w)) _ (I.hok.fresh (Nat.le_refl _))⟩
  exact ⟨by rw [List.length_append]; exact hz, _, r1.append r2, IsTup.new _ _⟩
end
end L2
namespace L2
open PySem PySem.Spec PyProof.Rows
def ixN (n : Nat) (i : Int) : Option Nat := if 0 <= i then (if i < n then some i.toNat else none) else if -(n : Int) <= i then some (i + n).toNat else none
def atI {α : Type} (xs : List α) (i : Int) : Option α := (ixN xs.length i).bind fun j => xs[j]?
theorem ixN_seq {n : Nat} {i : Int} {j : Nat} (h : ixN n i = some j) : seqIndex? i n = some j /\ j < n /\ -(n : Int) <= i /\ i < n := by
  unfold ixN at h
  by_cases h0 : 0 <= i
  · rw [if_pos h0] at h
    by_cases h1 : i < n
    · rw [if_pos h1] at h
      have e : i.toNat = j := Option.some.inj h
      exact ⟨by rw [seqIndex_of h0 h1, e], by omega, by omega, h1⟩
    · rw [if_neg h1] at h; cases h
  · rw [if_neg h0] at h
    by_cases h1 : -(n : Int) <= i
    · rw [if_pos h1] at h
      have e : (i + n).toNat = j := Option.some.inj h
      exact ⟨by rw [seqIndex_neg (by omega) h1, e], by omega, h1, by omega⟩
    · rw [if_neg h1] at h; cases h
theorem atI_get {α : Type} {xs : List α} {i : Int} {v : α} (h : atI xs i = some v) : ∃ j, seqIndex? i xs.length = some j /\ xs[j]? = some v /\ j < xs.length /\ -(xs.length : Int) <= i /\ i < xs.length := by
  unfold atI at h
  cases e : ixN xs.length i with
  | none => rw [e] at h; cases h
  | some j =>
    rw [e] at h
    obtain ⟨h1, h2, h3, h4⟩ := ixN_seq e
    exact ⟨j, h1, h, h2, h3, h4⟩
theorem atI_nat {α : Type} {xs : List α} {j : Nat} {v : α} (h : xs[j]? = some v) : atI xs (j : Int) = some v := by
  have hj : j < xs.length := (List.getElem?_eq_some_iff.mp h).1
  have e : ixN xs.length (j : Int) = some j := by
    unfold ixN
    rw [if_pos (by omega), if_pos (by omega)]; simp
  unfold atI; rw [e]; exact h
def PlainIx (b : Expr) : Prop := ∀ o i, subscripted b false o i = operate [o, i] (getItem o i)
def IxR (X : Cx) (r : R2) : Prop :=
  ∀ (value slice : Expr) (pins : List (Addr × Obj)) (s : Shared) (σ : St) (H : Hp) (x y : V) (v u : Value) (Q : VK), Inv X pins σ H s -> RelV x v -> RelV y u -> r x y H Q ->
    subscripted slice false v u = operate [v, u] (getItem v u) -> wpAny (model X.prog X.w) X.A (subscriptTail value slice v u) (EP X pins σ Q) X.xe s
def MtR (X : Cx) (id : String) (r : V -> List V -> Hp -> VK -> Prop) : Prop :=
  ∀ (pins : List (Addr × Obj)) (s : Shared) (σ : St) (H : Hp) (x : V) (xs : List V) (v : Value) (us : List Value) (Q : VK), Inv X pins σ H s -> RelV x v -> Vals xs us -> r x xs H Q ->
    wpAny (model X.prog X.w) X.A (call (.builtin id) (v :: us)) (EP X pins σ Q) X.xe s
section
variable {X : Cx} {a b : Expr} {ta tb : TE} {pos : Pos}
theorem IxR.or {r r' : R2} (h : IxR X r) (h' : IxR X r') : IxR X (fun x y H Q => r x y H Q \/ r' x y H Q) := by
  intro value slice pins s σ H x y v u Q I rx ry q hs
  rcases q with q | q
  · exact h value slice pins s σ H x y v u Q I rx ry q hs
  · exact h' value slice pins s σ H x y v u Q I rx ry q hs
theorem MtR.or {id : String} {r r' : V -> List V -> Hp -> VK -> Prop} (h : MtR X id r) (h' : MtR X id r') : MtR X id (fun x xs H Q => r x xs H Q \/ r' x xs H Q) := by
  intro pins s σ H x xs v us Q I rx rs q
  rcases q with q | q
  · exact h pins s σ H x xs v us Q I rx rs q
  · exact h' pins s σ H x xs v us Q I rx rs q
theorem pe_ix {r : R2} (hr : IxR X r) (ha : PE X a ta) (hb : PE X b tb) (hs : PlainIx b) : PE X (.Subscript a b pos) (tOp r ta tb) := by
  intro pins s σ H Q I h
  exact Subscript_ (binT ha hb I h fun v u s2 x y H2 I2 rx ry q => hr a b pins s2 σ H2 x y v u Q I2 rx ry q (hs _ _))
def rIxL (K : PySem.W.Frag) : R2 := fun x y H Q => ∃ p xs i v, x = .ref p /\ y = .int i /\ SqL K H p xs /\ atI xs i = some v /\ Q v H
def rIxT (K : PySem.W.Frag) : R2 := fun x y H Q => ∃ p xs i v, x = .ref p /\ y = .int i /\ SqT K H p xs /\ atI xs i = some v /\ Q v H
def rIxS : R2 := fun x y H Q => ∃ z i c, x = .str z /\ y = .int i /\ z.length <= sizeLine /\ atI z.cps.toList i = some c /\ Q (.str ⟨#[c]⟩) H
theorem ix_list : IxR X (rIxL X.K) := by
  intro value slice pins s σ H x y v u Q I rx ry h hs
  obtain ⟨p, xs, i, z, rfl, rfl, hq, he, q⟩ := h
  cases rx
  obtain ⟨t, rfl⟩ := ry
  obtain ⟨its, r, pl, hz⟩ := I.list hq
  obtain ⟨j, h1, h2, h3, h4, h5⟩ := atI_get he
  obtain ⟨w, ew, rw'⟩ := r.get h2
  have hl := r.length
  have hn := line63
  have fin : EP X pins σ Q w s := ⟨z, H, I, rw', q⟩
  by_cases h0 : 0 <= i
  · have hj : i.toNat = j := by
      rw [seqIndex_of h0 h5] at h1
      exact Option.some.inj h1
    exact item_listR pl.isList h0 (by omega) (by rw [hj]; simpa using ew) fin hs
  · have hj : (i + (its.toArray.size : Int)).toNat = j := by
      rw [seqIndex_neg (by omega) h4] at h1
      rw [List.size_toArray, <- hl]
      exact Option.some.inj h1
    exact subscriptTail_builtinR (x := w) pl.isList.typeIs slot_list_getitem.lookup
      (wpAny_getItem_list_neg (Q := fun r s' => r = w /\ EP X pins σ Q r s') pl.isList (by omega) (by rw [List.size_toArray] <;> omega) (by omega) (by rw [hj]; simpa using ew) ⟨rfl, fin⟩) hs
theorem ix_tup : IxR X (rIxT X.K) := by
  intro value slice pins s σ H x y v u Q I rx ry h hs
  obtain ⟨p, xs, i, z, rfl, rfl, hq, he, q⟩ := h
  cases rx
  obtain ⟨t, rfl⟩ := ry
  obtain ⟨its, r, pl, hz⟩ := I.tuple hq
  obtain ⟨j, h1, h2, h3, h4, h5⟩ := atI_get he
  obtain ⟨w, ew, rw'⟩ := r.get h2
  have hl := r.length
  have hn := line63
  have fin : EP X pins σ Q w s := ⟨z, H, I, rw', q⟩
  exact subscriptTail_builtinR (x := w) pl.typeIs slot_tuple_getitem.lookup
    (getItem_tuple (j := j) (Q := fun r s' => r = w /\ EP X pins σ Q r s') pl (by omega) (by omega) (by rw [List.size_toArray, <- hl]; exact h1) (by simpa using ew) ⟨rfl, fin⟩) hs
theorem ix_str : IxR X rIxS := by
  intro value slice pins s σ H x y v u Q I rx ry h hs
  obtain ⟨z, i, c, rfl, rfl, hz, he, q⟩ := h
  obtain ⟨t, rfl⟩ := rx
  obtain ⟨t', rfl⟩ := ry
  obtain ⟨j, h1, h2, h3, h4, h5⟩ := atI_get he
  have hl : z.cps.toList.length = z.length := by simp [Str.length]
  rw [hl] at h1 h4 h5
  have hn := line63
  exact tail_any (typeIs_str s z t) slot_str_getitem.lookup (getItem_str (c := c) (by
    have e1 : decide (i < -(2 ^ 63 : Int)) = false := decide_eq_false (by omega)
    have e2 : decide (i ≥ 2 ^ 63) = false := decide_eq_false (by omega)
    rw [e1, e2, Bool.or_false]) (by rw [h1]; simpa using h2) ⟨.str ⟨#[c]⟩, H, I.tok _, ⟨_, rfl⟩, q⟩) hs
theorem mapSeq_set (its : List Value) (n j : Nat) (u : Value) : Obj.mapSeq (·.setIfInBounds j u) { cls := .type "list", data := .seq its.toArray n } = { cls := .type "list", data := .seq (its.set j u).toArray n } := by
  simp [Obj.mapSeq]
theorem Inv.lst {pins : List (Addr × Obj)} {σ : St} {H : Hp} {s : Shared} {p : Addr} {xs : List V} (I : Inv X pins σ H s) (h : H p = some (.lst xs)) :
    ∃ (its : List Value) (n : Nat), Vals xs its /\ s.heap.get? p = some { cls := .type "list", data := .seq its.toArray n } /\ xs.length <= sizeLine := by
  obtain ⟨z, its, n, r, e⟩ := I.hok p _ h
  exact ⟨its, n, r, e, z⟩
theorem Inv.lstUpd {pins : List (Addr × Obj)} {σ : St} {H : Hp} {s : Shared} {p : Addr} {xs ys : List V} {its its' : List Value} {n n' : Nat} {f : Obj -> Obj} (I : Inv X pins σ H s) (h : H p = some (.lst xs))
    (ho : s.heap.get? p = some { cls := .type "list", data := .seq its.toArray n }) (hf : f { cls := .type "list", data := .seq its.toArray n } = { cls := .type "list", data := .seq its'.toArray n' }) (r : Vals ys its') (hz : ys.length <= sizeLine) (t : Nat) :
    Inv X pins σ (upd H p (.lst ys)) { s with heap := s.heap.update p f, toks := t } := by
  have e : (s.heap.update p f).get? p = some { cls := .type "list", data := .seq its'.toArray n' } := by
    rw [Heap.get?_update_self f ho (by rw [hf] <;> rfl), hf]
  refine I.write (x := p) (e := p) (by rw [h]; trivial) (.inl rfl) (fun b u hb q => (Heap.get?_update_other _ _ (Ne.symm hb)).trans q) ⟨_, e⟩ ?_
  exact ⟨hz, its', n', r, e⟩
def rSetL : V -> V -> V -> Hp -> (Hp -> Prop) -> Prop := fun o i v H Q => ∃ p xs k j, o = .ref p /\ i = .int k /\ H p = some (.lst xs) /\ ixN xs.length k = some j /\ Q (upd H p (.lst (xs.set j v)))
theorem set_list : PSet X rSetL := by
  intro pins s σ H o i v ov iv u Q I ro ri rv h
  obtain ⟨p, xs, k, j, rfl, rfl, hp, hj, q⟩ := h
  cases ro
  obtain ⟨t, rfl⟩ := ri
  obtain ⟨its, n, r, ho, hz⟩ := I.lst hp
  obtain ⟨h1, h2, h3, h4⟩ := ixN_seq hj
  have hl := r.length
  have hn := line63
  have I' : Inv X pins σ (upd H p (.lst (xs.set j v))) { s with heap := s.heap.update p (Obj.mapSeq (·.setIfInBounds j u)) } :=
    I.lstUpd hp ho (mapSeq_set its n j u) (r.set rv j) (by rw [List.length_set]; exact hz) s.toks
  by_cases h0 : 0 <= k
  · have hk : k.toNat = j := by
      rw [seqIndex_of h0 h4] at h1
      exact Option.some.inj h1
    exact PySem.W.ki_setAt ho h0 (by omega) (by rw [List.size_toArray, <- hl]; exact h4) (by rw [hk]; exact ⟨_, I', q⟩)
  · have hk : (k + (its.toArray.size : Int)).toNat = j := by
      rw [seqIndex_neg (by omega) h3] at h1
      rw [List.size_toArray, <- hl]
      exact Option.some.inj h1
    exact PySem.W.ki_setBack ho (by omega) (by rw [List.size_toArray, <- hl]; exact h3) (by omega) (by rw [hk]; exact ⟨_, I', q⟩)
theorem slice_bounds (lo hi : Option Int) (n : Nat) : (sliceBounds lo hi none n).1 = ((HT.sIx n 0 lo : Nat) : Int) /\ (sliceBounds lo hi none n).2.1 = ((HT.sIx n n hi : Nat) : Int) /\ (sliceBounds lo hi none n).2.2 = 1 := by
  refine ⟨?_, ?_, rfl⟩
  · cases lo with
    | none => simp [sliceBounds, HT.sIx]
    | some i =>
      simp only [sliceBounds, HT.sIx, Option.getD_none, show (1 : Int) > 0 by decide, if_true]
      by_cases h : i < 0
      · simp only [h, if_true] <;> omega
      · simp only [h, if_false] <;> omega
  · cases hi with
    | none => simp [sliceBounds, HT.sIx]
    | some i =>
      simp only [sliceBounds, HT.sIx, Option.getD_none, show (1 : Int) > 0 by decide, if_true]
      by_cases h : i < 0
      · simp only [h, if_true] <;> omega
      · simp only [h, if_false] <;> omega
theorem slicePick_cut (its : List Value) (lo hi : Option Int) : slicePick its.toArray lo hi none = ((its.drop (HT.sIx its.length 0 lo)).take (HT.sIx its.length its.length hi - HT.sIx its.length 0 lo)).toArray := by
  obtain ⟨h1, h2, h3⟩ := slice_bounds lo hi its.toArray.size
  unfold slicePick
  rw [h1, h2, h3]
  simp only [sliceRange_one, pick_run, List.size_toArray] <;> rfl
def rSlL (K : PySem.W.Frag) : V -> Option Int -> Option Int -> Hp -> VK -> Prop := fun x lo hi H Q => ∃ a xs, x = .ref a /\ SqL K H a xs /\ ∀ p, H p = none -> Q (.ref p) (upd H p (.lst (cutV xs lo hi)))
theorem sl_list : SlR X (rSlL X.K) := by
  intro pins s σ H x v vl vu lo hi sl Q I rx hs pl pu h
  obtain ⟨a, xs, rfl, hx, q⟩ := h
  cases rx
  obtain ⟨its, r, ht, hz⟩ := I.list hx
  have hlen := r.length
  refine ⟨"list", _, slot_list_getitem.lookup, ht.isList.typeIs, ?_⟩
  refine wpAny_getItem_list_slice ht.isList hs pl pu .none (by simp) ?_ (by rw [List.size_toArray] <;> omega)
  rw [slicePick_cut, <- hlen]
  refine ⟨.ref s.heap.objs.size, _, I.laid (t' := s.toks) (o := .lst (cutV xs lo hi)) (fun b ob q => Heap.get?_push_of_some _ q) (Nat.le_refl _) ?_, rfl, q _ (I.hok.fresh (Nat.le_refl _))⟩
  exact ⟨Nat.le_trans (cutV_length xs lo hi) hz, _, 0, (r.drop (HT.sIx xs.length 0 lo)).take (HT.sIx xs.length xs.length hi - HT.sIx xs.length 0 lo), Heap.get?_push_size _ rfl⟩
def flatV : V -> Bool
  | .non => true
  | .bl _ => true
  | .int _ => true
  | .str _ => true
  | _ => false
def eqV : V -> V -> Bool
  | .non, .non => true
  | .bl a, .bl b => a == b
  | .bl a, .int b => (if a then 1 else 0) == b
  | .int a, .bl b => a == (if b then 1 else 0)
  | .int a, .int b => a == b
  | .str a, .str b => a == b
  | _, _ => false
theorem eqAt_V {A : Around} {s : Shared} {y x : V} {u v : Value} (ry : RelV y u) (rx : RelV x v) (fy : flatV y = true) (fx : flatV x = true) : SeqAt.EqAt A s u v (eqV y x) := by
  cases y with
  | non =>
    cases ry
    cases x with
    | non => cases rx; exact SeqAt.EqAt.same _
    | bl b => cases rx; exact SeqAt.EqAt.none_bool b
    | int b => obtain ⟨t, rfl⟩ := rx; exact SeqAt.EqAt.none_int b t
    | str b => obtain ⟨t, rfl⟩ := rx; exact SeqAt.EqAt.none_str b t
    | _ => exact absurd (show false = true from fx) Bool.false_ne_true
  | bl a =>
    cases ry
    cases x with
    | non => cases rx; exact SeqAt.EqAt.bool_none a
    | bl b => cases rx; exact SeqAt.EqAt.bool_bool a b
    | int b => obtain ⟨t, rfl⟩ := rx; exact SeqAt.EqAt.bool_int a b t
    | str b => obtain ⟨t, rfl⟩ := rx; exact SeqAt.EqAt.bool_str a b t
    | _ => exact absurd (show false = true from fx) Bool.false_ne_true
  | int a =>
    obtain ⟨t', rfl⟩ := ry
    cases x with
    | non => cases rx; exact SeqAt.EqAt.int_none a t'
    | bl b => cases rx; exact SeqAt.EqAt.int_bool a t' b
    | int b => obtain ⟨t, rfl⟩ := rx; exact SeqAt.EqAt.int_int a t' b t
    | str b => obtain ⟨t, rfl⟩ := rx; exact SeqAt.EqAt.int_str a t' b t
    | _ => exact absurd (show false = true from fx) Bool.false_ne_true
  | str a =>
    obtain ⟨t', rfl⟩ := ry
    cases x with
    | non => cases rx; exact SeqAt.EqAt.str_none a t'
    | bl b => cases rx; exact SeqAt.EqAt.str_bool a t' b
    | int b => obtain ⟨t, rfl⟩ := rx; exact SeqAt.EqAt.str_int a t' b t
    | str b => obtain ⟨t, rfl⟩ := rx; exact SeqAt.EqAt.str_str a t' b t
    | _ => exact absurd (show false = true from fx) Bool.false_ne_true
  | _ => exact absurd (show false = true from fy) Bool.false_ne_true
def eqU (x : V) (u : Value) : Bool := match u with
  | .none => eqV .non x
  | .bool b => eqV (.bl b) x
  | .int i _ => eqV (.int i) x
  | .str z _ => eqV (.str z) x
  | _ => false
theorem eqU_of {x y : V} {u : Value} (r : RelV y u) (f : flatV y = true) : eqU x u = eqV y x := by
  cases y with
  | non => cases r; rfl
  | bl b => cases r; rfl
  | int i => obtain ⟨t, rfl⟩ := r; rfl
  | str z => obtain ⟨t, rfl⟩ := r; rfl
  | _ => exact absurd (show false = true from f) Bool.false_ne_true
theorem any_eqU {x : V} : ∀ {xs : List V} {us : List Value}, Vals xs us -> xs.all flatV = true -> us.any (eqU x) = xs.any fun y => eqV y x
  | _, _, .nil, _ => rfl
  | y :: xs, u :: us, .cons r t, f => by
    rw [List.all_cons, Bool.and_eq_true] at f
    rw [List.any_cons, List.any_cons, eqU_of r f.1, any_eqU t f.2]
theorem mem_eqAt {A : Around} {s : Shared} {x : V} {v : Value} (rx : RelV x v) (fx : flatV x = true) : ∀ {xs : List V} {us : List Value}, Vals xs us -> xs.all flatV = true -> ∀ u ∈ us, SeqAt.EqAt A s u v (eqU x u)
  | _, _, .nil, _ => fun u hu => by cases hu
  | y :: xs, u :: us, .cons r t, f => fun u' hu => by
    rw [List.all_cons, Bool.and_eq_true] at f
    rcases List.mem_cons.mp hu with rfl | hu
    · rw [eqU_of r f.1]; exact eqAt_V r rx f.1 fx
    · exact mem_eqAt rx fx t f.2 u' hu
def inV (x : V) (xs : List V) : Bool := xs.any fun y => eqV y x
def rIn (K : PySem.W.Frag) (neg : Bool) : R2 := fun x y H Q => ∃ p xs, y = .ref p /\ (SqL K H p xs \/ SqT K H p xs) /\ flatV x = true /\ xs.all flatV = true /\ Q (.bl (if neg then !inV x xs else inV x xs)) H
theorem op_in_seq : OpR X (compareOp .In) (rIn X.K false) := by
  intro pins s σ H x y v u Q I rx ry h
  obtain ⟨p, xs, rfl, hq, fx, fs, q⟩ := h
  cases ry
  rcases hq with hq | hq
  · obtain ⟨its, r, pl, hz⟩ := I.list hq
    refine SeqAt.in_listAt (eqU x) pl.isList (fun w hw => mem_eqAt rx fx r fs w (by simpa using hw)) ⟨.bl _, H, I, rfl, ?_⟩
    rw [show its.toArray.any (eqU x) = its.any (eqU x) by simp, any_eqU r fs]
    exact q
  · obtain ⟨its, r, pl, hz⟩ := I.tuple hq
    refine SeqAt.in_tupleAt (eqU x) pl (fun w hw => mem_eqAt rx fx r fs w (by simpa using hw)) ⟨.bl _, H, I, rfl, ?_⟩
    rw [show its.toArray.any (eqU x) = its.any (eqU x) by simp, any_eqU r fs]
    exact q
theorem op_notIn_seq : OpR X (compareOp .NotIn) (rIn X.K true) := by
  intro pins s σ H x y v u Q I rx ry h
  obtain ⟨p, xs, rfl, hq, fx, fs, q⟩ := h
  cases ry
  rcases hq with hq | hq
  · obtain ⟨its, r, pl, hz⟩ := I.list hq
    refine SeqAt.notIn_listAt (eqU x) pl.isList (fun w hw => mem_eqAt rx fx r fs w (by simpa using hw)) ⟨.bl _, H, I, rfl, ?_⟩
    rw [show its.toArray.any (eqU x) = its.any (eqU x) by simp, any_eqU r fs]
    exact q
  · obtain ⟨its, r, pl, hz⟩ := I.tuple hq
    refine SeqAt.notIn_tupleAt (eqU x) pl (fun w hw => mem_eqAt rx fx r fs w (by simpa using hw)) ⟨.bl _, H, I, rfl, ?_⟩
    rw [show its.toArray.any (eqU x) = its.any (eqU x) by simp, any_eqU r fs]
    exact q
theorem call_len_seq : CallR X (.builtin "len") (fun xs H Q => ∃ p ys, xs = [.ref p] /\ (SqL X.K H p ys \/ SqT X.K H p ys) /\ Q (.int ys.length) H) := by
  intro pins s σ H xs us Q I r h
  obtain ⟨p, ys, rfl, hq, q⟩ := h
  obtain ⟨u, rfl, rx⟩ := vals1 r
  cases rx
  have hn := line63
  rcases hq with hq | hq
  · obtain ⟨its, r', pl, hz⟩ := I.list hq
    have hlen := r'.length
    exact Calls.call_len_list pl.isList (by simp only [List.size_toArray] <;> omega) ⟨.int ys.length, H, I.tok _, ⟨s.toks + 1, by rw [List.size_toArray, hlen]⟩, q⟩
  · obtain ⟨its, r', pl, hz⟩ := I.tuple hq
    have hlen := r'.length
    exact len_tuple pl (by simp only [List.size_toArray] <;> omega) ⟨.int ys.length, H, I.tok _, ⟨s.toks + 1, by rw [List.size_toArray, hlen]⟩, q⟩
theorem call_len_str : CallR X (.builtin "len") (fun xs H Q => ∃ z, xs = [.str z] /\ z.length <= sizeLine /\ Q (.int z.length) H) := by
  intro pins s σ H xs us Q I r h
  obtain ⟨z, rfl, hz, q⟩ := h
  obtain ⟨u, rfl, t, rfl⟩ := vals1 r
  have hn := line63
  exact len_str (by omega) ⟨.int z.length, H, I.tok _, ⟨_, rfl⟩, q⟩
theorem CallR.or {f : Value} {r r' : List V -> Hp -> VK -> Prop} (h : CallR X f r) (h' : CallR X f r') : CallR X f (fun xs H Q => r xs H Q \/ r' xs H Q) := by
  intro pins s σ H xs us Q I rs q
  rcases q with q | q
  · exact h pins s σ H xs us Q I rs q
  · exact h' pins s σ H xs us Q I rs q
theorem call_list_of : CallR X (.type "list") (fun xs H Q => ∃ p ys, xs = [.ref p] /\ (SqL X.K H p ys \/ SqT X.K H p ys) /\ ∀ l, H l = none -> Q (.ref l) (upd H l (.lst ys))) := by
  intro pins s σ H xs us Q I r h
  obtain ⟨p, ys, rfl, hq, q⟩ := h
  obtain ⟨u, rfl, rx⟩ := vals1 r
  cases rx
  have fin : ∀ (its : List Value), Vals ys its -> ys.length <= sizeLine -> ∀ (h' : Heap) (c' : Nat), (∀ b o', s.heap.get? b = some o' -> h'.get? b = some o') ->
      h'.get? s.heap.objs.size = some { cls := .type "list", dict := none, data := .seq its.toArray c', slots := #[] } -> EP X pins σ Q (.ref s.heap.objs.size) { s with heap := h' } := fun its r' hz h' c' kp e =>
    ⟨.ref s.heap.objs.size, _, I.laid (t' := s.toks) kp (Nat.le_refl _) (show ObjOk X.prog X.w _ h' _ (.lst ys) from ⟨hz, its, c', r', e⟩), rfl, q _ (I.hok.fresh (Nat.le_refl _))⟩
  rcases hq with hq | hq
  · obtain ⟨its, r', pl, hz⟩ := I.list hq
    have hlen := r'.length
    obtain ⟨o, ho, hc, n, hd⟩ := pl.isList
    exact call_list_seq p (.inl rfl) ho hc hd (fun h' c' kp e => fin its r' hz h' c' kp e) (by simp only [List.size_toArray] <;> omega)
  · obtain ⟨its, r', pl, hz⟩ := I.tuple hq
    have hlen := r'.length
    obtain ⟨o, ho, hc, n, hd⟩ := pl
    exact call_list_seq p (.inr rfl) ho hc hd (fun h' c' kp e => fin its r' hz h' c' kp e) (by simp only [List.size_toArray] <;> omega)
theorem call_tuple_of : CallR X (.type "tuple") (fun xs H Q => ∃ p ys, xs = [.ref p] /\ ((SqL X.K H p ys /\ ∀ l, H l = none -> Q (.ref l) (upd H l (.tup ys))) \/ (SqT X.K H p ys /\ Q (.ref p) H))) := by
  intro pins s σ H xs us Q I r h
  obtain ⟨p, ys, rfl, h⟩ := h
  obtain ⟨u, rfl, rx⟩ := vals1 r
  cases rx
  rcases h with ⟨hq, q⟩ | ⟨hq, q⟩
  · obtain ⟨its, r', pl, hz⟩ := I.list hq
    have hlen := r'.length
    refine call_tuple_list pl.isList (fun h' kp => ?_) (by simp only [List.size_toArray] <;> omega)
    have I1 : Inv X pins σ H { s with heap := h' } := I.kept (t' := s.toks) kp
    have I2 : Inv X pins σ (upd H h'.objs.size (.tup ys)) { s with heap := h'.push { cls := .type "tuple", data := .seq its.toArray } } :=
      I1.laid (t' := s.toks) (fun b o e => Heap.get?_push_of_some _ e) (Nat.le_refl _) (show ObjOk X.prog X.w _ _ _ (.tup ys) from ⟨hz, its, r', IsTup.new _ _⟩)
    exact ⟨.ref h'.objs.size, _, I2, rfl, q _ (I1.hok.fresh (Nat.le_refl _))⟩
  · obtain ⟨its, r', pl, hz⟩ := I.tuple hq
    exact call_tuple_same pl ⟨.ref p, H, I, rfl, q⟩
def tyV (K : PySem.W.Frag) (T : String) (x : V) (H : Hp) : Prop := match x with
  | .str _ => T = "str"
  | .int _ => T = "int"
  | .ref p => (T = "list" /\ ∃ xs, SqL K H p xs) \/ (T = "tuple" /\ ∃ o, K.lookup p = some o /\ o.cls = .type "tuple" /\ o.dict = none) \/
      (T = "dict" /\ ((∃ kvs, H p = some (.dK kvs)) \/ ∃ kvs, H p = some (.dT kvs))) \/ (T = "set" /\ ∃ S n, H p = some (.set S n))
  | _ => False
theorem tyV_is {pins : List (Addr × Obj)} {σ : St} {H : Hp} {s : Shared} {T : String} {x : V} {v : Value} (I : Inv X pins σ H s) (r : RelV x v) (ty : tyV X.K T x H) :
    s.TypeIs v T /\ ∀ a, v = .ref a -> ∃ ob, s.heap.get? a = some ob /\ ob.dict = none := by
  cases x with
  | str z =>
    obtain ⟨t, rfl⟩ := r
    cases (show T = "str" from ty)
    exact ⟨typeIs_str s z t, fun _ e => nomatch e⟩
  | int i =>
    obtain ⟨t, rfl⟩ := r
    cases (show T = "int" from ty)
    exact ⟨typeIs_int s i t, fun _ e => nomatch e⟩
  | ref p =>
    cases r
    rcases ty with ⟨rfl, xs, hq⟩ | ⟨rfl, o, hk, hc, hd⟩ | ⟨rfl, hk⟩ | ⟨rfl, S, n, hk⟩
    · obtain ⟨its, _, pl, _⟩ := I.list hq
      refine ⟨pl.isList.typeIs, fun a e => ?_⟩
      cases e
      obtain ⟨o, n, e, c, hd, _⟩ := pl
      exact ⟨o, e, hd⟩
    · refine ⟨⟨o, I.kIn p o hk, hc⟩, fun a e => ?_⟩
      cases e
      exact ⟨o, I.kIn _ o hk, hd⟩
    · have z : ∃ o, s.heap.get? p = some o /\ o.ExactDict := by
        rcases hk with ⟨kvs, hk⟩ | ⟨kvs, hk⟩
        · obtain ⟨_, _, _, _, o, _, _, e, ex, _⟩ := I.hok p _ hk
          exact ⟨o, e, ex⟩
        · obtain ⟨_, _, _, _, o, _, _, e, ex, _⟩ := I.hok p _ hk
          exact ⟨o, e, ex⟩
      obtain ⟨o, e, ex⟩ := z
      refine ⟨⟨o, e, ex.1⟩, fun a e2 => ?_⟩
      cases e2
      exact ⟨o, e, ex.2.1⟩
    · obtain ⟨o, _, _, _, e, ex, _⟩ := I.hok p _ hk
      refine ⟨⟨o, e, ex.1⟩, fun a e2 => ?_⟩
      cases e2
      exact ⟨o, e, ex.2.1⟩
  | _ => exact False.elim ty
def tBM0 (K : PySem.W.Frag) (T : String) (r : V -> List V -> Hp -> VK -> Prop) (to : TE) : TE := fun σ H Q => to σ H fun x H1 => tyV K T x H1 /\ r x [] H1 Q
def tBM (K : PySem.W.Frag) (T : String) (r : V -> List V -> Hp -> VK -> Prop) (to : TE) (t : TA) : TE := fun σ H Q => to σ H fun x H1 => tyV K T x H1 /\ t σ H1 fun xs H2 => r x xs H2 Q
variable {o e : Expr} {es : List Expr} {to : TE} {t : TA} {name : Str} {apos cpos : Pos} {T id : String} {r : V -> List V -> Hp -> VK -> Prop}
theorem pe_bm0 (pa : PlainAttrs T) (slot : Slot T name id) (hty : typeOf (.builtin id) = pure (.type "method_descriptor")) (hm : MtR X id r) (ho : PE X o to)
    (hbase : attributeBase o name X.env (eval o X.env) = eval o X.env := by rfl) (hline : (apos.endLine == cpos.line) = true := by rfl) : PE X (.Call (.Attribute o name apos) [] [] cpos) (tBM0 X.K T r to) := by
  intro pins s σ H Q I h
  refine wpAny_Call_method0_late hbase hline (thn (ho pins s σ H _ I h) fun v s1 ⟨x, H1, I1, r1, ty, q1⟩ => ?_)
  obtain ⟨h1, h2⟩ := tyV_is I1 r1 ty
  exact ⟨T, id, pa, slot, hty, h1, h2, Calls.callWith_builtin rfl (PySem.evalArgs_none (hm pins s1 σ H1 x [] v [] Q I1 r1 .nil q1))⟩
theorem pe_bm (pa : PlainAttrs T) (slot : Slot T name id) (hty : typeOf (.builtin id) = pure (.type "method_descriptor")) (hm : MtR X id r) (ho : PE X o to) (ha : PA X (e :: es) t)
    (hbase : attributeBase o name X.env (eval o X.env) = eval o X.env := by rfl)
    (hfew : ((backTo cpos (starEach (e :: es) X.env)).all (fun x => !x.1) && (backToKw cpos (keywordEach [] X.env)).all (fun x => x.1.isSome)
      && decide ((e :: es).length + ([] : List Keyword).length + (if ([] : List Keyword).isEmpty then 0 else 1) < 30)) = true := by rfl)
    (hline : (apos.endLine == cpos.line) = true := by rfl) (hs : starEach (e :: es) X.env = (false, eval e X.env) :: starEach es X.env := by rfl) (hplain : (backTo cpos (starEach es X.env)).any (·.1) = false := by rfl) :
    PE X (.Call (.Attribute o name apos) (e :: es) [] cpos) (tBM X.K T r to t) := by
  intro pins s σ H Q I h
  refine wpAny_Call_method_late hbase hfew hline rfl (thn (ho pins s σ H _ I h) fun v s1 ⟨x, H1, I1, r1, ty, q1⟩ => ?_)
  obtain ⟨h1, h2⟩ := tyV_is I1 r1 ty
  refine ⟨T, id, pa, slot, hty, h1, h2, ?_⟩
  have hA := ha cpos pins s1 σ H1 _ I1 q1
  rw [hs] at hA ⊢
  refine Calls.callWith_builtin (by show (false || (backTo cpos (starEach es X.env)).any (·.1)) = false; rw [hplain] <;> rfl) (Calls.evalArgs_plain ?_)
  exact thn hA fun us s2 ⟨vs, H2, I2, r2, q2⟩ => hm pins s2 σ H2 x vs v us Q I2 r1 r2 q2
end
end L2
namespace L2
open PySem PySem.Spec PyProof.Rows
def MtM (X : Cx) (id : String) (r : V -> List V -> Hp -> VK -> Prop) : Prop :=
  ∀ (pins : List (Addr × Obj)) (s : Shared) (σ : St) (H : Hp) (x : V) (xs : List V) (v : Value) (us : List Value) (Q : VK), Inv X pins σ H s -> RelV x v -> Vals xs us -> r x xs H Q ->
    wpAny (model X.prog X.w) X.A (call (.builtin id) (v :: us)) (EP X pins σ Q) X.xe s
theorem Vals.one : ∀ {x : V} {us : List Value}, Vals [x] us -> ∃ u, us = [u] /\ RelV x u
  | _, _, .cons r .nil => ⟨_, rfl, r⟩
theorem Vals.two : ∀ {x y : V} {us : List Value}, Vals [x, y] us -> ∃ u v, us = [u, v] /\ RelV x u /\ RelV y v
  | _, _, _, .cons r (.cons q .nil) => ⟨_, _, rfl, r, q⟩
theorem Vals.zero : ∀ {us : List Value}, Vals [] us -> us = []
  | _, .nil => rfl
theorem Vals.dropLast {xs : List V} {us : List Value} (h : Vals xs us) : Vals xs.dropLast us.dropLast := by
  induction h with
  | nil => exact .nil
  | cons r t ih =>
    cases t with
    | nil => exact .nil
    | cons q t' => exact .cons r ih
theorem Vals.eraseIdx : ∀ {xs : List V} {us : List Value} (i : Nat), Vals xs us -> Vals (xs.eraseIdx i) (us.eraseIdx i)
  | _, _, _, .nil => .nil
  | _, _, 0, .cons _ t => t
  | _, _, i + 1, .cons r t => .cons r (Vals.eraseIdx i t)
theorem Vals.reverse {xs : List V} {us : List Value} (h : Vals xs us) : Vals xs.reverse us.reverse := by
  induction h with
  | nil => exact .nil
  | cons r t ih => rw [List.reverse_cons, List.reverse_cons]; exact Vals.append ih (.cons r .nil)
theorem erase_last {α : Type} (l : List α) : l.eraseIdx (l.length - 1) = l.dropLast := by
  induction l with
  | nil => rfl
  | cons a r ih =>
    cases r with
    | nil => rfl
    | cons b r =>
      have e : (a :: b :: r).length - 1 = ((b :: r).length - 1) + 1 := by
        have h1 : (a :: b :: r).length = r.length + 2 := rfl
        have h2 : (b :: r).length = r.length + 1 := rfl
        omega
      rw [e, List.eraseIdx_cons_succ, ih]
      all_goals rfl
theorem len_erase {α : Type} : ∀ (l : List α) (i : Nat), (l.eraseIdx i).length <= l.length
  | [], _ => Nat.le_refl _
  | _ :: _, 0 => Nat.le_succ _
  | _ :: r, i + 1 => Nat.succ_le_succ (len_erase r i)
section
variable {X : Cx} {pins : List (Addr × Obj)} {σ : St} {H : Hp} {s : Shared} {l b : Addr} {xs ys zs : List V}
theorem Inv.lset {its its' : List Value} {n : Nat} {f : Array Value -> Array Value} {t' : Nat} (I : Inv X pins σ H s) (hH : H l = some (.lst xs))
    (e : s.heap.get? l = some { cls := .type "list", data := .seq its.toArray n }) (hf : f its.toArray = its'.toArray) (hv : Vals ys its') (hz : ys.length <= sizeLine) :
    Inv X pins σ (upd H l (.lst ys)) { s with heap := s.heap.update l (Obj.mapSeq f), toks := t' } := by
  have q := PySem.IsL.update e f
  rw [hf] at q
  refine I.write (x := l) (e := l) (by rw [hH]; exact trivial) (.inl rfl) (fun b' u hb hu => (Heap.get?_update_other s.heap (Obj.mapSeq f) (Ne.symm hb)).trans hu) ⟨_, q⟩ ?_
  exact ⟨hz, its', _, hv, q⟩
theorem Inv.lnew {its : List Value} {t' : Nat} (I : Inv X pins σ H s) (hv : Vals ys its) (hz : ys.length <= sizeLine) :
    Inv X pins σ (upd H s.heap.objs.size (.lst ys)) { s with heap := s.heap.push { cls := .type "list", data := .seq its.toArray }, toks := t' } :=
  I.laid (fun _ _ q => Heap.get?_push_of_some _ q) (Nat.le_refl _) ⟨hz, its, 0, hv, Heap.get?_push_size _ rfl⟩
theorem Inv.fresh (I : Inv X pins σ H s) : H s.heap.objs.size = none := I.hok.fresh (Nat.le_refl _)
theorem Inv.lstM (I : Inv X pins σ H s) (hH : H l = some (.lst xs)) : xs.length <= sizeLine /\ ∃ (its : List Value) (n : Nat), Vals xs its /\ xs.length = its.length /\ s.heap.get? l = some { cls := .type "list", data := .seq its.toArray n } := by
  obtain ⟨z, its, n, r, e⟩ := I.hok l _ hH
  exact ⟨z, its, n, r, r.length, e⟩
theorem notLongL {n : Nat} (h : n <= sizeLine) : Builtin.List.listTooLong n = false := by
  unfold Builtin.List.listTooLong
  exact decide_eq_false (by omega)
end
section
variable {X : Cx}
def rAppend : V -> List V -> Hp -> VK -> Prop := fun x vs H Q => ∃ l xs y, x = .ref l /\ vs = [y] /\ H l = some (.lst xs) /\ xs.length < sizeLine /\ Q .non (upd H l (.lst (xs ++ [y])))
theorem mt_append : MtM X "list.append" rAppend := by
  intro pins s σ H x vs v us Q I rx rv h
  obtain ⟨l, xs, y, rfl, rfl, hH, hz, q⟩ := h
  cases rx
  obtain ⟨u, rfl, ru⟩ := rv.one
  obtain ⟨z, its, n, r, hl, e⟩ := I.lstM hH
  refine call_meets F.slot_list_append ⟨_, e, rfl⟩ F.entry_list_append (F.args_list_append_2 _ _) (PySem.list_append l its.toArray n u (by rw [List.size_toArray]; omega)) ⟨e, ?_⟩
  refine ⟨.non, _, I.lset (its' := its ++ [u]) hH e (by simp) (r.append (.cons ru .nil)) ?_, rfl, q⟩
  rw [List.length_append, List.length_singleton]
  omega
def rExtend : V -> List V -> Hp -> VK -> Prop := fun x vs H Q => ∃ l b xs zs, x = .ref l /\ vs = [.ref b] /\ H l = some (.lst xs) /\ H b = some (.lst zs) /\ xs.length + zs.length <= sizeLine /\ Q .non (upd H l (.lst (xs ++ zs)))
theorem mt_extend : MtM X "list.extend" rExtend := by
  intro pins s σ H x vs v us Q I rx rv h
  obtain ⟨l, b, xs, zs, rfl, rfl, hH, hB, hz, q⟩ := h
  cases rx
  obtain ⟨u, rfl, ru⟩ := rv.one
  cases ru
  obtain ⟨z, its, n, r, hl, e⟩ := I.lstM hH
  obtain ⟨z2, its2, n2, r2, hl2, e2⟩ := I.lstM hB
  have hsz : its.toArray.size + its2.toArray.size <= sizeLine := by rw [List.size_toArray, List.size_toArray]; omega
  have hlong : ¬ (!its.toArray.isEmpty && Builtin.List.listTooLong (its.toArray.size + its2.toArray.size)) = true := by
    rw [notLongL hsz, Bool.and_false]
    exact Bool.false_ne_true
  refine call_meets F.slot_list_extend ⟨_, e, rfl⟩ F.entry_list_extend (F.args_list_extend_2 _ _)
    (AutoSeq1.list_extend_list_list_0 l its.toArray n b its2.toArray n2 hlong (by rw [List.size_toArray]; omega) (by omega)) ⟨e, e2, ?_⟩
  refine ⟨.non, _, I.lset (its' := its ++ its2) hH e (by simp) (r.append r2) ?_, rfl, q⟩
  rw [List.length_append]
  omega
def rPop : V -> List V -> Hp -> VK -> Prop := fun x vs H Q => ∃ l xs y, x = .ref l /\ vs = [] /\ H l = some (.lst xs) /\ xs[xs.length - 1]? = some y /\ Q y (upd H l (.lst xs.dropLast))
theorem mt_pop : MtM X "list.pop" rPop := by
  intro pins s σ H x vs v us Q I rx rv h
  obtain ⟨l, xs, y, rfl, rfl, hH, hy, q⟩ := h
  cases rx
  have hus := rv.zero
  subst hus
  obtain ⟨z, its, n, r, hl, e⟩ := I.lstM hH
  obtain ⟨u, hu, ru⟩ := r.get hy
  have hy' : its.toArray[its.toArray.size - 1]? = some u := by
    show its.toArray[its.length - 1]? = some u
    rw [<- Array.getElem?_toList, <- hl]
    exact hu
  refine call_meets F.slot_list_pop ⟨_, e, rfl⟩ F.entry_list_pop (F.args_list_pop_1 _) (MeetsSeq.list_pop_last l its.toArray n u hy' (by rw [List.size_toArray]; omega)) ⟨e, ?_⟩
  refine ⟨y, _, I.lset (its' := its.dropLast) hH e ?_ r.dropLast ?_, ru, q⟩
  · show its.toArray.eraseIdxIfInBounds (its.toArray.size - 1) = its.dropLast.toArray
    rw [List.size_toArray, List.eraseIdxIfInBounds_toArray, erase_last]
  · rw [List.length_dropLast]
    omega
def rPopAt : V -> List V -> Hp -> VK -> Prop := fun x vs H Q => ∃ l xs i k y, x = .ref l /\ vs = [.int i] /\ H l = some (.lst xs) /\ -(2 ^ 63) <= i /\ i < 2 ^ 63 /\ seqIndex? i xs.length = some k /\ xs[k]? = some y /\ Q y (upd H l (.lst (xs.eraseIdx k)))
theorem mt_popAt : MtM X "list.pop" rPopAt := by
  intro pins s σ H x vs v us Q I rx rv h
  obtain ⟨l, xs, i, k, y, rfl, rfl, hH, h1, h2, hk, hy, q⟩ := h
  cases rx
  obtain ⟨u, rfl, ru⟩ := rv.one
  obtain ⟨t, rfl⟩ := ru
  obtain ⟨z, its, n, r, hl, e⟩ := I.lstM hH
  obtain ⟨w, hw, rw'⟩ := r.get hy
  refine call_meets F.slot_list_pop ⟨_, e, rfl⟩ F.entry_list_pop (F.args_list_pop_2 _ _)
    (MeetsSeq.list_pop_at l its.toArray n i t k w (fitsIndex_both h1 h2) (by rw [List.size_toArray, <- hl]; exact hk) (by rw [<- Array.getElem?_toList]; exact hw) (by rw [List.size_toArray]; omega)) ⟨e, ?_⟩
  refine ⟨y, _, I.lset (its' := its.eraseIdx k) hH e ?_ (r.eraseIdx k) ?_, rw', q⟩
  · show its.toArray.eraseIdxIfInBounds k = (its.eraseIdx k).toArray
    rw [List.eraseIdxIfInBounds_toArray]
  · have := len_erase xs k
    omega
def rCat : R2 := fun x y H Q => ∃ l b xs zs, x = .ref l /\ y = .ref b /\ H l = some (.lst xs) /\ H b = some (.lst zs) /\ xs.length + zs.length <= sizeLine /\ ∀ p, H p = none -> Q (.ref p) (upd H p (.lst (xs ++ zs)))
theorem op_cat : OpR X (binaryOp .Add) rCat := by
  intro pins s σ H x y v u Q I rx ry h
  obtain ⟨l, b, xs, zs, rfl, rfl, hH, hB, hz, q⟩ := h
  cases rx
  cases ry
  obtain ⟨z, its, n, r, hl, e⟩ := I.lstM hH
  obtain ⟨z2, its2, n2, r2, hl2, e2⟩ := I.lstM hB
  refine PySem.P.add_list e e2 ?_ (by rw [List.size_toArray, List.size_toArray]; omega)
  have ea : its.toArray ++ its2.toArray = (its ++ its2).toArray := by simp
  rw [ea]
  exact ⟨.ref _, _, I.lnew (t' := s.toks) (r.append r2) (by rw [List.length_append]; omega), rfl, q _ I.fresh⟩
end
section
variable {prog : Program} {w : World} {A : Around} {E : Value -> Shared -> Prop} {s : Shared}
end
section
variable {X : Cx}
end
end L2
namespace Att
open PySem PySem.W PySem.Calls PyProof.Rows
theorem ints_of_wellAll {P : Params} {h : Heap} : ∀ (ns : List Int) (vs : List Value), WellAll P h vs (ns.map WData.int) -> IntsAre vs ns := by
  intro ns
  induction ns with
  | nil =>
    intro vs w
    rw [List.map_nil] at w
    cases w
    exact .nil
  | cons n ns ih =>
    intro vs w
    rw [List.map_cons] at w
    cases w with
    | cons a b =>
      cases a
      exact .cons _ _ (ih _ b)
theorem script_of {l : OpenLaw} {n : Nat} (hn : l.most = some n) {P : Params} {h : Heap} {args : List WData} {vals : List Value}
    (hpre : l.row.toRowW.claim.pre args = true) (hwl : WellAll P h vals args) :
    ∃ a vs ns, vals = [Value.ref a] /\ args = [WData.list (ns.map WData.int)] /\ h.get? a = some { cls := .type "list", data := .seq vs.toArray } /\ IntsAre vs ns /\ ns.length <= n := by
  have hsh : WShape.hasAll [] args [.list .int] = true := (pre_splitW hpre).1
  have hc : l.pre.holds [] { args := args } = true := (pre_splitW hpre).2
  obtain ⟨d, r, rfl, h1, h2⟩ := hasAllW_cons hsh
  obtain rfl := hasAllW_nil h2
  obtain ⟨xs, rfl, h3⟩ := hasW_list h1
  obtain ⟨ns, rfl⟩ := items_int h3
  have hlen : ns.length <= n := by
    unfold OpenLaw.pre at hc
    have h4 : (WTm.not (.lt (.lit (.int (n : Int))) (.len (.arg 0)))).holds [] { args := [.list (ns.map .int)] } = true := by
      have h4 := (holds_andW hc).1
      rw [hn] at h4
      exact h4
    have h5 := condW_of h4 (w_not (w_lt w_lit (w_len_list (w_arg rfl))))
    rw [List.length_map] at h5
    refine Nat.le_of_not_lt fun q => ?_
    have q' : (n : Int) < ((ns.length : Nat) : Int) := by omega
    first
      | (rw [decide_eq_true q'] at h5; exact absurd h5 (by decide))
      | (simp at h5; omega)
  cases hwl with
  | cons w1 w2 =>
    cases w2
    cases w1 with
    | list ho hall => exact ⟨_, _, ns, rfl, rfl, ho, ints_of_wellAll ns _ hall, hlen⟩
theorem post_true (l : OpenLaw) (args : List WData) : l.row.toRowW.claim.post args (.bool true) args = true :=
  postW_of (r := l.row.toRowW) (X := (true == true))
    (show WShape.has [] (.bool true) .bool = true by first | rfl | decide | simp [WShape.has, WShape.arms, WShape.armsAll])
    (show (WTm.eq .res (.lit (.bool true))).value [] { args := args, res := some (.bool true), after := args } = some (.bool (true == true)) from w_eq_bool (w_res rfl) w_lit) rfl
theorem attach_call {l : OpenLaw} {n : Nat} {q : Program} {loose : List Str} {XP : (Str -> Option Value) -> Heap -> Prop} {YP : World -> Heap -> Prop} {d : DefRec}
    (hn : l.most = some n) (hdf : d.params.defaults = [])
    (call : ∀ (w : World) (s₀ s₁ : Shared) (mg mb : Str -> Option Value) (fa : Addr) (o : Obj) (pm cd doc : Value) (a : Addr) (vs : List Value) (ns : List Int),
      Ground q loose [] XP w s₀ mg mb s₁.heap -> YP w s₁.heap ->
      s₁.heap.get? fa = some o -> o.data = .func (docDef d.name d.params d.body d.scope pm cd doc) -> s₁.heap.CodeRec cd d.name -> mg d.name = some (.ref fa) ->
      s₁.heap.get? a = some { cls := .type "list", data := .seq vs.toArray } -> IntsAre vs ns -> ns.length <= n -> s₁.gens = #[] ->
      codeAny (model l.prog w) callerA (.call (.ref fa) ⟨[.ref a], []⟩) (fun r s' => r = .ok (.ret (.bool true)) /\ OldK s₁.heap s'.heap /\ s'.os = s₁.os /\ AllBare s'.gens) s₁) :
    WalkO q loose XP YP l.row.toRowW d [] (fun f vs => PySem.call f vs) := by
  intro w s₀ s₁ mg mb G Y fa o pm cd doc dV kV ho hd hcd hD hmg hg args vals as hpre hlay hrd hwl hlo
  obtain rfl : dV = .none := Dflts.none hD hdf
  obtain rfl : kV = .none := Dflts.noKw hD
  obtain ⟨a, vs, ns, rfl, rfl, hobj, hints, hlen⟩ := script_of hn hpre hwl
  refine enter_call (codeAny_mono (call w s₀ s₁ mg mb fa o pm cd doc a vs ns G Y ho (fd_plain hd) hcd hmg hobj hints hlen hg) fun r s' hq => ?_)
  obtain ⟨rfl, h2, h3, h4⟩ := hq
  exact ⟨.inl ⟨.bool true, .bool true, [], rfl, fun _ => rfl, .bool true, post_true l _, fun _ => ⟨List.Pairwise.nil, fun _ hm => (nomatch hm)⟩⟩, h2, h3, h4⟩
section
variable {prog : Program} {w : World} {A : Around} {E : Value -> Shared -> Prop} {s : Shared} {K : Frag}
def ledger (h : Heap) (L d : Addr) : List (Addr × Obj) := (List.range h.objs.size).filterMap fun a => if a = L \/ a = d then none else (h.get? a).map fun o => (a, o)
end
end Att
namespace L2
open PySem PySem.Spec PyProof.Rows
theorem vals_ints : ∀ {vs : List Value} {ns : List Int}, IntsAre vs ns -> Vals (ns.map V.int) vs
  | _, _, .nil => .nil
  | _, _, .cons n t h => .cons ⟨t, rfl⟩ (vals_ints h)
def Only (H : Hp) : Prop := ∀ b, H b = none \/ ∃ o xs, H b = some (.frz o (.lst xs))
theorem law_call {P : Program} {w : World} {K : PySem.W.Frag} {mg mb : Str -> Option Value} {CX : CXT} {k : Nat} {fa a : Addr} {fd : FuncData} {x : Str} {sp : Sp} {s₁ : Shared} {vs : List Value} {ns : List Int}
    (KX : K.In s₁.heap) (hns : s₁.heap.Ns mainGlobals mg) (hb : s₁.heap.Ns builtinsNs mb) (hbb : ∀ x : Str, x ≠ "__name__" -> mb x = bootBuiltins x) (hlim : s₁.heap.NoLimit) (hg : s₁.gens = #[])
    (ha : s₁.heap.get? a = some { cls := .type "list", data := .seq vs.toArray }) (hi : IntsAre vs ns) (hl : ns.length <= sizeLine) (hr : Room k callerA)
    (F : ∀ base : Heap, K.In base -> base.Ns mainGlobals mg -> FnOk P w K mg base CX k fa fd [x] sp) (hbind : ∀ (s : Shared) (u : Value), BindsTo s fd ⟨[u], []⟩ [(x, u)])
    (hsp : ∀ H : Hp, Only H -> SqL K H a (ns.map V.int) -> sp [.ref a] H (fun v _ => v = .bl true) fun _ _ _ => False)
    (hCX : ∀ H e s', CX [] H s₁ (fun _ _ _ => False) e s' -> False) :
    codeAny (model P w) callerA (.call (.ref fa) ⟨[.ref a], []⟩) (fun r s' => r = .ok (.ret (.bool true)) /\ OldK s₁.heap s'.heap /\ s'.os = s₁.os /\ AllBare s'.gens) s₁ := by
  have rv := vals_ints hi
  have lenV := hi.length
  -- from an abstract heap in which nothing but the script may be tracked
  have core : ∀ H : Hp, Only H -> SqL K H a (ns.map V.int) -> HOk P w H s₁.heap -> (∀ b, H b ≠ none -> b = a) -> (H a ≠ none -> K.lookup a = none) ->
      codeAny (model P w) callerA (.call (.ref fa) ⟨[.ref a], []⟩) (fun r s' => r = .ok (.ret (.bool true)) /\ OldK s₁.heap s'.heap /\ s'.os = s₁.os /\ AllBare s'.gens) s₁ := by
    intro H hO hS hok hA hK
    have base_of : ∀ {b : Addr} {o : Obj}, s₁.heap.get? b = some o -> H b = none -> (hidT s₁.heap H).get? b = some o := fun e n => hidT_get e n
    have noA : ∀ {b : Addr} {o : Obj} {es : Array DictEntry} {ep : Nat}, s₁.heap.get? b = some o -> o.data = .dict es ep -> H b = none := fun {b o es ep} e d => by
      cases q : H b with
      | none => rfl
      | some u =>
        have e' : b = a := hA b (by rw [q]; simp)
        subst e'
        rw [ha] at e; cases e
        have d' : Data.seq vs.toArray _ = Data.dict es ep := d
        cases d'
    have nsK : ∀ {b : Addr} {m : Str -> Option Value}, s₁.heap.Ns b m -> (hidT s₁.heap H).Ns b m := fun {b m} ⟨o, es, ep, e, d, r⟩ => ⟨o, es, ep, base_of e (noA e d), d, r⟩
    have hKb : K.In (hidT s₁.heap H) := fun b o e => base_of (KX b o e) (by
      cases q : H b with
      | none => rfl
      | some u =>
        have e' : b = a := hA b (by rw [q]; simp)
        subst e'
        rw [hK (by rw [q]; simp)] at e; cases e)
    have hM : Mod K mg (hidT s₁.heap H) := ⟨hKb, nsK hns, ⟨mb, nsK hb, hbb⟩, let ⟨mc, h1, h2⟩ := hlim; ⟨mc, nsK h1, h2⟩⟩
    have e0 : Env0 P w K mg (hidT s₁.heap H) callerA [] s₁ H := ⟨rfl, hM, fun b o e => of_hidT e, Nat.le_of_eq (hidT_size _ _), trivial, fun b hb => absurd (show b ∈ ([] : List Addr) from hb) (by simp), hok, .of_eq hg⟩
    refine codeAny_mono ((F _ hKb (nsK hns)).run callerA [] s₁ H ⟨[.ref a], []⟩ [.ref a] [.ref a] _ _ hr e0 (hbind s₁ (.ref a)) (.cons rfl .nil) (hsp H hO hS)) fun r s' h => ?_
    cases r with
    | error e => exact (hCX H e s' h).elim
    | ok fl =>
      cases fl with
      | next => exact False.elim h
      | brk => exact False.elim h
      | cont => exact False.elim h
      | ret u =>
        obtain ⟨v, H', os, bare, un, hok', r', q⟩ := h
        have q' : v = .bl true := q
        subst q'
        obtain rfl : u = Value.bool true := r'
        refine ⟨rfl, OldK.of_keep fun b o e => ?_, os, bare⟩
        cases q : H b with
        | none => exact un.keep b o e q (by intro z; exact absurd (show b ∈ ([] : List Addr) from z) (by simp)) (by simp)
        | some u =>
          rcases hO b with z | ⟨ob, xs, z⟩
          · rw [q] at z; cases z
          · have z2 := un.frzs b ob _ z
            obtain ⟨e1, _⟩ := hok b _ z
            obtain ⟨e2, _⟩ := hok' b _ z2
            rw [e] at e1; cases e1
            exact e2
  cases hk : K.lookup a with
  | some o =>
    -- the script is one of the module's own objects
    have e := KX a o hk
    rw [ha] at e
    cases e
    refine core (fun _ => none) (fun _ => .inl rfl) (.inr ⟨_, vs.toArray, _, hk, rfl, rfl, rfl, by rw [List.size_toArray, lenV]; exact hl, by simpa using rv⟩) (fun b u z => by have z' : (none : Option HO) = some u := z; cases z') (fun b z => absurd rfl z) fun z => absurd rfl z
  | none =>
    refine core (fun b => if b = a then some (.frz { cls := .type "list", data := .seq vs.toArray } (.lst (ns.map V.int))) else none) (fun b => ?_) (.inl (.inr ⟨{ cls := .type "list", data := .seq vs.toArray }, if_pos rfl⟩)) (fun b u z => ?_) (fun b z => ?_) fun _ => hk
    · by_cases hb : b = a
      · exact .inr ⟨_, _, if_pos hb⟩
      · exact .inl (if_neg hb)
    · by_cases hb : b = a
      · have z' := (if_pos hb).symm.trans z
        cases z'
        subst hb
        exact ⟨ha, by rw [List.length_map]; exact hl, vs, _, rv, ha⟩
      · have z' := (if_neg hb).symm.trans z
        cases z'
    · by_cases hb : b = a
      · exact hb
      · exact absurd (if_neg hb) z
end L2
namespace L2
open PySem PySem.Spec PyProof.Rows
theorem walk_of {l : PySem.W.OpenLaw} {n k : Nat} {q : Program} {loose : List Str} {XP : (Str -> Option Value) -> Heap -> Prop} {YP : World -> Heap -> Prop} {d : DefRec} {K : Params -> PySem.W.Frag} {CX : World -> CXT} {sp : World -> Sp} {x : Str}
    (hn : l.most = some n) (hn2 : n <= sizeLine) (hdf : d.params.defaults = []) (hr : Room k callerA)
    (hY : ∀ (w : World) (h : Heap), YP w h -> (K w.params).In h)
    (F : ∀ (w : World) (mg : Str -> Option Value) (fa : Addr) (h : Heap), (K w.params).In h -> h.Ns mainGlobals mg -> mg d.name = some (.ref fa) ->
      ∃ fd : FuncData, (∀ (s : Shared) (u : Value), BindsTo s fd ⟨[u], []⟩ [(x, u)]) /\
        ∀ base : Heap, (K w.params).In base -> base.Ns mainGlobals mg -> FnOk l.prog w (K w.params) mg base (CX w) k fa fd [x] (sp w))
    (hsp : ∀ (w : World) (H : Hp) (a : Addr) (ns : List Int), ns.length <= n -> Only H -> SqL (K w.params) H a (ns.map V.int) -> sp w [.ref a] H (fun v _ => v = .bl true) fun _ _ _ => False)
    (hCX : ∀ (w : World) (H : Hp) (s : Shared) (e : Value) (s' : Shared), CX w [] H s (fun _ _ _ => False) e s' -> False) :
    PySem.W.WalkO q loose XP YP l.row.toRowW d [] (fun f vs => PySem.call f vs) := by
  refine Att.attach_call hn hdf fun w s₀ s₁ mg mb fa o pm cd doc a vs ns G Y ho hd hcd hmg hobj hints hlen hg => ?_
  have KX := hY w _ Y
  obtain ⟨fd, hb, hF⟩ := F w mg fa _ KX G.T.g hmg
  exact law_call KX G.T.g G.T.b G.T.builtins G.T.nolimit hg hobj hints (Nat.le_trans hlen hn2) hr hF hb (fun H hO hS => hsp w H a ns hlen hO hS) fun H e s' => hCX w H s₁ e s'
end L2
/- THE LAST THEOREM (shape; LID, My.* are yours):
   My.Adr: a structure of the addresses that your layer names (classes, functions); My.Txt K t: a structure (Prop) of the equations over K;
   My.txt_mk : {K} {implicit addresses ..} (e1 : nsIn K mainGlobals "law" = some (some (.ref f))) (e2 : K.lookup f = some ⟨oc, od, .func (fnOf "law" "law" params body scope dV kV doc pm an cdv ct), sl⟩) (e3 : codeIn K cdv "law" = true) .. : ∃ t, My.Txt K t
set_option maxRecDepth 100000 in
set_option maxHeartbeats 0 in
theorem PySem.Challenge.cw_LID_holds : PySem.Challenge.rw_LID.Holds := by
  w_on; o_law; k_head; (case hw => w_witness2)
  k_fill
  refine L2.walk_of (l := PySem.Challenge.rw_LID) (n := 63) (k := 40) (x := "script") (CX := fun w => ..) (sp := fun _ => My.sp_law) rfl (by decide) rfl ⟨rfl, by decide, by decide⟩ (fun w h Y => PySem.W.kIn_of Y) ?F ?S ?C
  case F =>
    intro w mg fa h KX G hmg
    have T : ∃ t, My.Txt (L2.KOf KX) t := by
      dsimp only [L2.KOf]                          -- K must stand as «<heap const> w.params» for k_is
      refine' My.txt_mk ?e1 ?e2 ?e3 ..
      (case e1 => PySem.W.k_is)                    -- in the order: a name -> its address -> its object -> its parts
      (case e2 => PySem.W.k_is)
      ..
    obtain ⟨t, T⟩ := T
    have e0 := hmg.symm.trans (PySem.W.mg_of KX G T.law)
    cases e0                                       -- fa is the law's own address
    exact ⟨_, fun s u => .of_eq rfl, fun base kb nb => My.law_fn T kb nb⟩     -- if «.of_eq rfl» comes too early: refine' ⟨_, ?b, fun base kb nb => My.law_fn T kb nb⟩; exact fun s u => .of_eq rfl
  case S => exact fun w H a ns hl hO hS => ..
  case C => exact ..
(the tactic k_is has no namespace: write k_is) -/
namespace L2
open PySem PySem.Spec PyProof.Rows
def inClass (s : Stmt) (j : Nat) : Stmt := match s with
  | .ClassDef _ _ _ body _ _ _ _ _ _ _ => body.getD j (.Pass ⟨0, 0, 0, 0⟩)
  | _ => .Pass ⟨0, 0, 0, 0⟩
def defArgs (s : Stmt) : Arguments := match s with
  | .FunctionDef _ a _ _ _ _ _ _ _ _ => a
  | _ => { posonlyargs := [], args := [], vararg := none, kwonlyargs := [], kw_defaults := [], kwarg := none, defaults := [] }
def defBody (s : Stmt) : List Stmt := match s with
  | .FunctionDef _ _ b _ _ _ _ _ _ _ => b
  | _ => []
def defScope (s : Stmt) : Scope := match s with
  | .FunctionDef _ _ _ _ _ _ sc _ _ _ => sc
  | _ => { kind := .function, names := [], isGenerator := false, isCoroutine := false }
abbrev CX0 : CXT := fun _ _ _ _ _ _ => False
abbrev E0 : XK := fun _ _ _ => False
theorem pass0 {X : Cx} : Passes CX0 X E0 := fun _ _ _ _ _ _ _ h => h.elim
structure Fun (K : PySem.W.Frag) (x qual : Str) (st : Stmt) (f : Addr) (fd : FuncData) : Prop where
  ex : ∃ (oc : Value) (od : Option Addr) (kV doc pm : Value) (an : Option Addr) (cdv ct : Value) (osl : Array (Option Value)),
    fd = PySem.W.fnOf x qual (defArgs st) (defBody st) (defScope st) .none kV doc pm an cdv ct /\ K.lookup f = some ⟨oc, od, .func fd, osl⟩ /\ PySem.W.codeIn K cdv qual = true
  kp : PySem.W.keepIn K (.ref f) = true
section
variable {P : Program} {w : World} {K : PySem.W.Frag} {mg : Str -> Option Value} {base : Heap}
theorem Fun.ok {x qual : Str} {st : Stmt} {f : Addr} {fd : FuncData} {N ps : List Str} {k : Nat} {sp : Sp} (F : Fun K x qual st f fd) (S : FnScope N ps (defScope st)) (len : ∀ vs H Q E, sp vs H Q E -> vs.length = ps.length)
    (hbody : ∀ (cdv : Value) (A : Around) (outer : List Env) (s : Shared) (H : Hp) (vs : List V) (Q : VK) (E : XK), Room k (A.deeper (envOfC qual (defScope st) s.heap.objs.size f cdv)) -> sp vs H Q E ->
      ∃ t, PSs (cxOf CX0 P w K mg base N qual (defScope st) f cdv A outer s H E).nox (defBody st) t /\ t { nx := fun _ H' => Q .non H', rt := Q } (start N vs) H) : FnOk P w K mg base CX0 (k + 1) f fd ps sp := by
  obtain ⟨oc, od, kV, doc, pm, an, cdv, ct, osl, rfl, lk, hcd⟩ := F.ex
  refine fn_of lk hcd S len fun A outer s H vs Q E hr hsp => ?_
  obtain ⟨t, h, q⟩ := hbody cdv A outer s H vs Q E hr hsp
  exact ⟨t, h.nox, q⟩
theorem Fun.binds {x qual : Str} {st : Stmt} {f : Addr} {fd : FuncData} {ps : List Str} (F : Fun K x qual st f fd)
    (h : ∀ (kV doc pm : Value) (an : Option Addr) (cdv ct : Value) (us : List Value), us.length = ps.length -> bindArgs (PySem.W.fnOf x qual (defArgs st) (defBody st) (defScope st) .none kV doc pm an cdv ct) ⟨us, []⟩ = pure (ps.zip us)) : Binds K fd ps [] := by
  obtain ⟨oc, od, kV, doc, pm, an, cdv, ct, osl, rfl, lk, hcd⟩ := F.ex
  exact .all (h kV doc pm an cdv ct)
theorem fun_mk {x qual : Str} {st : Stmt} {f : Addr} {oc : Value} {od an : Option Addr} {osl : Array (Option Value)} {kV doc pm cdv ct : Value} (l : K.lookup f = some ⟨oc, od, .func (PySem.W.fnOf x qual (defArgs st) (defBody st) (defScope st) .none kV doc pm an cdv ct), osl⟩)
    (c : PySem.W.codeIn K cdv qual = true) (k : PySem.W.keepIn K (.ref f) = true) : Fun K x qual st f (PySem.W.fnOf x qual (defArgs st) (defBody st) (defScope st) .none kV doc pm an cdv ct) := ⟨⟨oc, od, kV, doc, pm, an, cdv, ct, osl, rfl, l, c⟩, k⟩
end
theorem hu_of {A : Around} {k : Nat} (hr : Room k A) : A.units + 1 < cLine := Nat.lt_of_le_of_lt (Nat.add_le_add_left (by decide : 1 <= 64) _) hr.units
section
variable {X : Cx}
theorem pv (i : Nat) {x : Str} {pos : Pos} (hN : X.N[i]? = some x := by rfl) (hv : Vis X.env.scope x := by first | exact Or.inl rfl | exact Or.inr (Or.inl rfl) | exact Or.inr (Or.inr rfl)) (hd : (x == ("__debug__" : Str)) = false := by decide)
    (hcd : (x == ("__classdict__" : Str)) = false := by decide) : PE X (.Name x pos) (tVar i) := pe_var hN hv hd hcd
end
theorem iteF {A B : Prop} (h : B) : if false = true then A else B := by
  rw [if_neg Bool.false_ne_true]
  exact h
theorem iteT {A B : Prop} (h : A) : if true = true then A else B := by
  rw [if_pos rfl]
  exact h
theorem ite2 {c A B : Prop} [Decidable c] (h1 : c -> A) (h2 : ¬ c -> B) : if c then A else B := by
  by_cases h : c
  · rw [if_pos h]
    exact h1 h
  · rw [if_neg h]
    exact h2 h
def Same (H H' : Hp) : Prop := ∀ b o, H b = some o -> H' b = some o
theorem Same.refl (H : Hp) : Same H H := fun _ _ h => h
theorem Same.trans {H H1 H2 : Hp} (a : Same H H1) (b : Same H1 H2) : Same H H2 := fun c o h => b c o (a c o h)
theorem Same.free {H H' : Hp} (e : Same H H') {l : Addr} (h : H' l = Option.none) : H l = Option.none := by
  cases q : H l with
  | none => rfl
  | some o =>
    rw [e l o q] at h
    cases h
theorem Same.seq {K : PySem.W.Frag} {H H' : Hp} {a : Addr} {xs : List V} (e : Same H H') (h : SqL K H a xs) : SqL K H' a xs := by
  rcases h with (h | ⟨o, h⟩) | h
  · exact .inl (.inl (e _ _ h))
  · exact .inl (.inr ⟨o, e _ _ h⟩)
  · exact .inr h
end L2
namespace L2
open PySem PySem.Spec PyProof.Rows
def AllIn (env : Env) : List (Str × Addr) -> Prop
  | [] => True
  | p :: r => env.cells.lookup p.1 = some p.2 /\ AllIn env r
theorem AllIn.get {env : Env} : ∀ {cl : List (Str × Addr)} {y : Str} {c : Addr}, AllIn env cl -> cl.lookup y = some c -> env.cells.lookup y = some c
  | [], _, _, _, h => by simp at h
  | (n, a) :: r, y, c, ⟨e, t⟩, h => by
    rw [List.lookup_cons] at h
    by_cases q : y = n
    · subst q
      rw [beq_self_eq_true] at h
      cases h
      exact e
    · have q' : (y == n) = false := beq_eq_false_iff_ne.mpr q
      rw [q'] at h
      exact AllIn.get t h
def blank : List Nat -> St -> St
  | [], σ => σ
  | i :: S, σ => blank S (σ.set i none)
theorem blank_len : ∀ (S : List Nat) (σ : St), (blank S σ).length = σ.length
  | [], _ => rfl
  | i :: S, σ => by rw [blank, blank_len S, List.length_set]
theorem blank_get : ∀ (S : List Nat) (σ : St) {j : Nat} {v : V}, (blank S σ)[j]? = some (some v) -> σ[j]? = some (some v) /\ j ∉ S
  | [], _, _, _, h => ⟨h, by simp⟩
  | i :: S, σ, j, v, h => by
    obtain ⟨h1, h2⟩ := blank_get S (σ.set i none) h
    rw [List.getElem?_set] at h1
    by_cases e : i = j
    · rw [if_pos e] at h1
      split at h1 <;> cases h1
    · rw [if_neg e] at h1
      exact ⟨h1, fun z => (List.mem_cons.mp z).elim (fun z => e z.symm) h2⟩
structure LcOk (X : Cx) (scope : Scope) (cl : List (Str × Addr)) (S : List Nat) : Prop where
  clos : closureFor scope X.env = pure cl
  kind : scope.kind = .function
  noC : scope.names.all (fun y => y.2 != .cell) = true
  loc : scope.names.all (fun y => y.2 != .local || scope.names.lookup y.1 == some .local) = true
  own : X.N.zipIdx.all (fun y => S.contains y.2 || scope.names.lookup y.1 != some .local) = true
  sub : AllIn X.env cl
  has : scope.names.all (fun p => p.2 != .free || ((cl.lookup p.1).isSome && (X.env.kindOf p.1 == some .cell || X.env.kindOf p.1 == some .free))) = true
section
variable {X : Cx} {scope : Scope} {cl : List (Str × Addr)} {S : List Nat}
theorem LcOk.nocell (L : LcOk X scope cl S) : ∀ y ∈ scope.names, y.2 ≠ .cell := fun y hy => by
  have h := List.all_eq_true.mp L.noC y hy
  exact bne_iff_ne.mp h
theorem LcOk.locs (L : LcOk X scope cl S) : ∀ y ∈ scope.names, y.2 = .local -> scope.names.lookup y.1 = some .local := fun y hy e => by
  have h := List.all_eq_true.mp L.loc y hy
  rw [e] at h
  simpa using h
theorem LcOk.apart (L : LcOk X scope cl S) : ∀ (i : Nat) (y : Str), X.N[i]? = some y -> i ∉ S -> scope.names.lookup y ≠ some .local := fun i y hy hi => by
  have h := List.all_eq_true.mp L.own (y, i) (List.mem_zipIdx_iff_getElem?.mpr hy)
  have hc : S.contains i = false := by simpa using hi
  rw [hc, Bool.false_or] at h
  exact bne_iff_ne.mp h
theorem LcOk.free (L : LcOk X scope cl S) {y : Str} (h : scope.names.lookup y = some .free) : (∃ c, cl.lookup y = some c) /\ (X.env.kindOf y = some .cell \/ X.env.kindOf y = some .free) := by
  have h1 := List.all_eq_true.mp L.has _ (PySem.mem_of_lookup h)
  simp only [bne_self_eq_false, Bool.false_or, Bool.and_eq_true, Bool.or_eq_true, beq_iff_eq] at h1
  exact ⟨Option.isSome_iff_exists.mp h1.1, h1.2⟩
theorem lookup_relabel (names : List (Str × NameKind)) (env : Env) (y : Str) :
    (names.map fun (n, k) => if (k == NameKind.free && env.scope.kind == .function && env.kindOf n == some .cell) then (n, NameKind.cell) else (n, k)).lookup y =
      (names.lookup y).map fun k => if (k == NameKind.free && env.scope.kind == .function && env.kindOf y == some .cell) then NameKind.cell else k := by
  induction names with
  | nil => rfl
  | cons p r ih =>
    obtain ⟨n, k⟩ := p
    rw [List.map_cons]
    by_cases q : y = n
    · subst q
      by_cases hc : (k == NameKind.free && env.scope.kind == .function && env.kindOf y == some .cell) = true
      · show List.lookup y ((if (k == NameKind.free && env.scope.kind == .function && env.kindOf y == some .cell) = true then (y, NameKind.cell) else (y, k)) :: _) = _
        rw [if_pos hc, List.lookup_cons, List.lookup_cons, beq_self_eq_true]
        show some NameKind.cell = some (if _ then _ else _)
        rw [if_pos hc]
      · show List.lookup y ((if (k == NameKind.free && env.scope.kind == .function && env.kindOf y == some .cell) = true then (y, NameKind.cell) else (y, k)) :: _) = _
        rw [if_neg hc, List.lookup_cons, List.lookup_cons, beq_self_eq_true]
        show some k = some (if _ then _ else _)
        rw [if_neg hc]
    · have q' : (y == n) = false := beq_eq_false_iff_ne.mpr q
      by_cases hc : (k == NameKind.free && env.scope.kind == .function && env.kindOf n == some .cell) = true
      · show List.lookup y ((if (k == NameKind.free && env.scope.kind == .function && env.kindOf n == some .cell) = true then (n, NameKind.cell) else (n, k)) :: _) = _
        rw [if_pos hc, List.lookup_cons, List.lookup_cons, q']
        exact ih
      · show List.lookup y ((if (k == NameKind.free && env.scope.kind == .function && env.kindOf n == some .cell) = true then (n, NameKind.cell) else (n, k)) :: _) = _
        rw [if_neg hc, List.lookup_cons, List.lookup_cons, q']
        exact ih
theorem LcOk.kinds (L : LcOk X scope cl S) {y : Str} (h : (relabel scope X.env).names.lookup y = some .cell \/ (relabel scope X.env).names.lookup y = some .free) : scope.names.lookup y = some .free := by
  have e : (relabel scope X.env).names.lookup y = (scope.names.lookup y).map fun k => if (k == NameKind.free && X.env.scope.kind == .function && X.env.kindOf y == some .cell) then NameKind.cell else k := lookup_relabel scope.names X.env y
  rw [e] at h
  cases q : scope.names.lookup y with
  | none => rw [q] at h; rcases h with h | h <;> cases h
  | some k =>
    have hk : k ≠ .cell := L.nocell _ (PySem.mem_of_lookup q)
    rw [q] at h
    by_cases hf : k = .free
    · rw [hf]
    · have z : (k == NameKind.free) = false := beq_eq_false_iff_ne.mpr hf
      rw [Option.map_some, z, Bool.false_and, Bool.false_and, if_neg Bool.false_ne_true] at h
      rcases h with h | h
      · exact absurd (Option.some.inj h) hk
      · exact absurd (Option.some.inj h) hf
def cxLC (X : Cx) (scope : Scope) (cl : List (Str × Addr)) (M : List Str) (C : Addr) (s₀ : Shared) (H₀ : Hp) (ex : List Addr) (E : Value -> Shared -> Prop) : Cx where
  prog := X.prog
  w := X.w
  K := X.K
  mg := X.mg
  base := X.base
  A := X.A
  N := X.N ++ M
  s₀ := s₀
  H₀ := H₀
  env := compEnvC scope cl C X.env
  outer := X.stack
  stack := X.stack
  ex := ex
  fn := fun _ => false
  calm := X.calm
  pn := []
  xe := E
variable {pins : List (Addr × Obj)} {σ : St} {H : Hp} {s : Shared} {ex : List Addr} {M : List Str} {C : Addr}
theorem lc_start {E : Value -> Shared -> Prop} {h1 : Heap} {tk : Nat} {m : Str -> Option Value} (I : Inv X pins σ H s) (L : LcOk X scope cl S) (hf : ∀ b ∈ ex, FpOk X pins H b) (hlt : ∀ b ∈ ex, b < s.heap.objs.size)
    (hk : ∀ b o, s.heap.get? b = some o -> h1.get? b = some o) (hC : s.heap.objs.size <= C) (hns : h1.Ns C m) :
    Inv (cxLC X scope cl M C s H ex E) [] (blank S σ ++ List.replicate M.length none) H { s with heap := h1, toks := tk } := by
  refine ⟨⟨I.ok.mod, L.kind, I.ok.glob, I.ok.blt, hC, fun x y c a b => I.ok.inj x y c (L.sub.get a) (L.sub.get b), fun y hy => (L.free (L.kinds hy)).1, (fun x c z => nomatch z), I.ok.hd, I.ok.frames, .inl rfl, fun b hb => ⟨?_, fun x c e => ?_⟩,
      I.bs, Nat.le_trans I.ok.bsz I.sz, fun b o e hb => ?_, fun b hb z => ?_, I.stack, I.stkFree⟩,
    rfl, I.bare, Un.kept hk, ⟨m, hns, fun i y v e1 e2 e3 => ?_⟩, fun y c e => ?_, I.hok.fresh hC, fun y c e => I.freeC y c (L.sub.get e), fun p hp => absurd (show p ∈ ([] : List (Addr × Obj)) from hp) (by simp), I.hok.kept hk, ?_⟩
  · exact Nat.ne_of_lt (Nat.lt_of_lt_of_le (hlt b hb) hC)
  · exact (hf b hb).2.2.2.2.1 x c (L.sub.get e)
  · rcases (hf b hb).2.2.2.1 with z | z
    · exact I.ok.noex b o e z
    · exact absurd (Nat.lt_of_lt_of_le (Heap.lt_size e) (Nat.le_trans I.ok.bsz z)) (Nat.lt_irrefl _)
  · rcases List.mem_cons.mp (I.stkSub b z) with q | q
    · exact (hf b hb).2.1 q
    · exact (hf b hb).2.2.1 q
  · have e1' : (X.N ++ M)[i]? = some y := e1
    by_cases hi : i < σ.length
    · rw [List.getElem?_append_left (by rw [blank_len]; exact hi)] at e2
      obtain ⟨e2, hiS⟩ := blank_get S σ e2
      rw [List.getElem?_append_left (by rw [<- I.len]; exact hi)] at e1'
      obtain ⟨m0, hn0, hl⟩ := I.loc
      have hy : scope.names.lookup y = some .free := by
        rcases e3 with e3 | e3
        · have q := lookup_relabel scope.names X.env y
          have e3' : (relabel scope X.env).names.lookup y = some .local := e3
          cases z : scope.names.lookup y with
          | none =>
            rw [z] at q
            have q' : (relabel scope X.env).names.lookup y = none := q
            rw [e3'] at q'; cases q'
          | some k =>
            have hk1 : k ≠ .local := fun w => L.apart i y e1' hiS (w ▸ z)
            rw [z, Option.map_some] at q
            have q' : some NameKind.local = some (if (k == NameKind.free && X.env.scope.kind == .function && X.env.kindOf y == some .cell) = true then NameKind.cell else k) := e3'.symm.trans q
            have q2 := Option.some.inj q'
            by_cases hc : (k == NameKind.free && X.env.scope.kind == .function && X.env.kindOf y == some .cell) = true
            · rw [if_pos hc] at q2; cases q2
            · rw [if_neg hc] at q2; exact absurd q2.symm hk1
        · exact L.kinds e3
      obtain ⟨⟨c, hc⟩, hk2⟩ := L.free hy
      obtain ⟨u, r, l⟩ := hl i y v e1' e2 (.inr hk2)
      refine ⟨u, r, .inr ⟨?_, c, hc, ?_⟩⟩
      · have q := lookup_relabel scope.names X.env y
        rw [hy, Option.map_some] at q
        have q' : (relabel scope X.env).names.lookup y = some (if (NameKind.free == NameKind.free && X.env.scope.kind == .function && X.env.kindOf y == some .cell) = true then NameKind.cell else NameKind.free) := q
        by_cases hc : (NameKind.free == NameKind.free && X.env.scope.kind == .function && X.env.kindOf y == some .cell) = true
        · rw [if_pos hc] at q'; exact .inl q'
        · rw [if_neg hc] at q'; exact .inr q'
      · rcases l with ⟨l1, _⟩ | ⟨_, c', e', z⟩
        · rcases hk2 with w | w <;> (rw [l1] at w; cases w)
        · have ec : c' = c := by
            have w := L.sub.get hc
            rw [e'] at w
            exact Option.some.inj w
          subst ec
          obtain ⟨o, ho, hd⟩ := z
          exact ⟨o, hk _ _ ho, hd⟩
    · rw [List.getElem?_append_right (by rw [blank_len]; exact Nat.not_lt.mp hi), List.getElem?_replicate] at e2
      split at e2 <;> cases e2
  · obtain ⟨v, o, ho, hd⟩ := I.cell y c (L.sub.get e)
    exact ⟨v, o, hk _ _ ho, hd⟩
  · show (blank S σ ++ List.replicate M.length none).length = (X.N ++ M).length
    rw [List.length_append, List.length_append, List.length_replicate, blank_len, I.len]
def PTs (X : Cx) (ifs : List Expr) (t : TT) : Prop :=
  ∀ (pins : List (Addr × Obj)) (s : Shared) (σ : St) (H : Hp) (Q : Bool -> Hp -> Prop), Inv X pins σ H s -> t σ H Q ->
    wpAny (model X.prog X.w) X.A (forIn ifs true fun c r => if r = true then do let ok <- isTrue c X.env (eval c X.env); pure (ForInStep.yield ok) else pure (ForInStep.yield r)) (TP X pins σ Q) X.xe s
def tYes : TT := fun _ H Q => Q true H
theorem pts_nil {X : Cx} : PTs X [] tYes := fun _ _ _ H _ I h => wpAny_tests_nil ⟨H, I, h⟩
theorem pts_one {X : Cx} {c : Expr} {t : TT} (h : PT X c t) : PTs X [c] t := fun pins s σ H Q I q => wpAny_tests_one (h pins s σ H Q I q)
def lcBy (J : It) (g : TG) (tt : TT) (te : TE) (Q : VK) (W : Nat -> Nat -> St -> List V -> Hp -> Prop) : Prop := ∀ i m τ ys H, W i m τ ys H ->
  (J.stop i H /\ ∀ p, H p = none -> Q (.ref p) (upd H p (.lst ys))) \/
  (J.go i H /\ ∃ N : St -> List V -> Hp -> Prop, (∀ τ' ys' H', N τ' ys' H' -> ∃ m', m' < m /\ W (i + 1) m' τ' ys' H') /\ ∀ x H', J.yld i H x H' -> g x τ H' fun τ2 H2 => tt τ2 H2 fun b H3 =>
    if b = true then te τ2 H3 fun y H4 => ys.length < sizeLine /\ N τ2 (ys ++ [y]) H4 else N τ2 ys H3)
def tLC (wi : TI) (g : TG) (tt : TT) (te : TE) (n : Nat) : TE := fun σ H Q => wi σ H fun J H1 => ∃ W, (∃ m, W 0 m (σ ++ List.replicate n none) [] H1) /\ lcBy J g tt te Q W
def tLCS (S : List Nat) (wi : TI) (g : TG) (tt : TT) (te : TE) (n : Nat) : TE := fun σ H Q => wi σ H fun J H1 => ∃ W, (∃ m, W 0 m (blank S σ ++ List.replicate n none) [] H1) /\ lcBy J g tt te Q W
theorem lc_core {tg elt iter : Expr} {ifs : List Expr} {pos : Pos} {g : TG} {tt : TT} {te : TE} {J : It} {fp : List Addr} {it : Addr} {tn : Nat -> Heap -> Prop} {Q : VK} {E : Value -> Shared -> Prop} {R : Value -> Addr -> Result -> Shared -> Prop}
    {W : Nat -> Nat -> St -> List V -> Hp -> Prop} {m0 : Nat} (L : LcOk X scope cl S) (hc : X.calm = true) (I : Inv X pins σ H s) (T : Turn X.prog X.w X.K tg J fp it tn) (st : tn 0 s.heap) (hf : ∀ b ∈ fp, FpOk X pins H b)
    (hg : ∀ C s H ex E, PG (cxLC X scope cl M C s H ex E) tg g) (ht : ∀ C s H ex E, PTs (cxLC X scope cl M C s H ex E) ifs tt) (he : ∀ C s H ex E, PE (cxLC X scope cl M C s H ex E) elt te)
    (w0 : W 0 m0 (blank S σ ++ List.replicate M.length none) [] H) (turn : lcBy J g tt te Q W)
    (hR : ∀ D C s' H' ys m, Inv X pins σ (upd H' D (.lst ys)) s' -> FpOk X pins (upd H' D (.lst ys)) C -> s'.heap.Ns C m -> Q (.ref D) (upd H' D (.lst ys)) -> R (.ref D) C (.ok .next) s') :
    wpAny (model X.prog X.w) X.A (newList []) (fun acc s₃ => wpAny (model X.prog X.w) X.A (newFunctionEnv scope X.env.globals cl [] X.env.qual none .none (some X.env)) (fun cenv s₄ =>
      codeAny (model X.prog X.w) X.A (.compStart (.ListComp elt [⟨tg, iter, ifs, 0⟩] scope pos) 0 (.ref it) acc { cenv with scope := relabel scope X.env }) (R acc cenv.locals) s₄) E s₃) E s := by
  refine wpAny_newObj_type (wpAny_newFunctionEnv L.nocell (by intro y hy; simp at hy) (fun h₁ hns₁ hsb₁ => ?_) L.kind)
  dsimp only at hns₁ hsb₁ ⊢
  generalize hG : s.heap.push { cls := .type "list", dict := none, data := .seq ([] : List Value).toArray } = G at hns₁ hsb₁ ⊢
  have hC : G.objs.size = s.heap.objs.size + 1 := by rw [<- hG, Heap.size_push]
  have hDC : s.heap.objs.size ≠ G.objs.size := by rw [hC]; exact Nat.ne_of_lt (Nat.lt_succ_self _)
  have hCle : s.heap.objs.size <= G.objs.size := by rw [hC]; exact Nat.le_succ _
  have old : ∀ b o, s.heap.get? b = some o -> h₁.get? b = some o := fun b o e =>
    hsb₁.extBut b o (by rw [hC]; exact Nat.ne_of_lt (Nat.lt_succ_of_lt (Heap.lt_size e))) (Heap.get?_push_of_some _ (hG ▸ Heap.get?_push_of_some _ e))
  have hacc : h₁.get? s.heap.objs.size = some { cls := .type "list", data := .seq ([] : List Value).toArray } := hsb₁.extBut _ _ hDC (Heap.get?_push_of_some _ (hG ▸ Heap.get?_push_size _ rfl))
  have fpo : ∀ b ∈ fp, b < s.heap.objs.size := fun b hb => let ⟨o, e, _⟩ := T.obj 0 _ st b hb; Heap.lt_size e
  have st1 : tn 0 h₁ := T.keep 0 _ _ st fun b _ o e => old b o e
  have nofs : s.heap.objs.size ∉ frs X.stack := fun z => by
    rcases List.mem_cons.mp (I.stkSub _ z) with q | q
    · exact absurd (q ▸ I.lt) (Nat.lt_irrefl _)
    · exact I.nofs (Nat.le_refl _) q
  have nocl : ∀ y c, cl.lookup y = some c -> c ≠ s.heap.objs.size := fun y c e z => by
    obtain ⟨v, o, ho, _⟩ := I.cell y c (L.sub.get e)
    exact absurd (z ▸ Heap.lt_size ho) (Nat.lt_irrefl _)
  have loop : ∀ s₃ : Shared, s₃ = { s with heap := h₁, toks := s.toks + ([] : List (Str × Value)).length } ->
      codeAny (model X.prog X.w) X.A (.compLoop (.ListComp elt [⟨tg, iter, ifs, 0⟩] scope pos) 0 (.ref it) (.ref s.heap.objs.size) (compEnvC scope cl G.objs.size X.env)) (R (.ref s.heap.objs.size) G.objs.size) s₃ := by
    rintro s₃ rfl
    generalize hE : notedBy (model X.prog X.w) X.A (compEnvC scope cl G.objs.size X.env) (fun e s' => R (.ref s.heap.objs.size) G.objs.size (.error e) s') = E'
    have IY : Inv (cxLC X scope cl M G.objs.size s H fp E') [] (blank S σ ++ List.replicate M.length none) H { s with heap := h₁, toks := s.toks + ([] : List (Str × Value)).length } := lc_start I L hf fpo old hCle hns₁
    refine codeAny_loop rfl (fun n s' => ∃ (i : Nat) (τ : St) (H' : Hp) (ys : List V) (its : List Value) (k : Nat), Inv (cxLC X scope cl M G.objs.size s H fp E') [] τ H' s' /\ tn i s'.heap /\ (∀ b ∈ fp, H' b = none) /\
      s'.heap.get? s.heap.objs.size = some { cls := .type "list", data := .seq its.toArray k } /\ H' s.heap.objs.size = none /\ Vals ys its /\ ys.length <= sizeLine /\ W i n τ ys H') (fun n s' hI => ?_) m0
      ⟨0, _, H, [], [], _, IY, st1, fun b hb => (hf b hb).1, hacc, I.hok.fresh (Nat.le_refl _), .nil, Nat.zero_le _, w0⟩
    obtain ⟨i, τ, H1, ys, its, k, I1, st1, fr1, eD, fD, rv, hz, w1⟩ := hI
    show wpAny _ X.A ((compTurn (.ListComp elt [⟨tg, iter, ifs, 0⟩] scope pos) 0 (.ref it) (.ref s.heap.objs.size) (compEnvC scope cl G.objs.size X.env)).onRaise (fun x => do noteFrame x (compEnvC scope cl G.objs.size X.env); theTreesLotGoes x)) _ _ s'
    refine wpAny_noted ?_
    rw [hE, compTurn_list]
    have I1' : Inv (cxLC X scope cl M G.objs.size s H fp E') [(s.heap.objs.size, { cls := .type "list", data := .seq its.toArray k })] τ H1 s' := I1.pins_of fun p hp => by
      have e : p = (s.heap.objs.size, { cls := .type "list", data := .seq its.toArray k }) := by simpa using hp
      subst e
      exact ⟨eD, fD, hDC, nofs, (fun v z => nomatch z)⟩
    have stat : ∀ {H' : Hp}, (∀ b ∈ fp, H' b = none) -> ∀ b ∈ fp, FpOk (cxLC X scope cl M G.objs.size s H fp E') [(s.heap.objs.size, { cls := .type "list", data := .seq its.toArray k })] H' b := fun hn b hb => by
      refine ⟨hn b hb, ?_, ?_, .inl hb, fun x c e => (hf b hb).2.2.2.2.1 x c (L.sub.get e), fun p hp z => ?_⟩
      · exact Nat.ne_of_lt (Nat.lt_of_lt_of_le (fpo b hb) hCle)
      · intro z
        rcases List.mem_cons.mp (I.stkSub b z) with q | q
        · exact (hf b hb).2.1 q
        · exact (hf b hb).2.2.1 q
      · have e : p = (s.heap.objs.size, { cls := .type "list", data := .seq its.toArray k }) := by
          have hp' : p ∈ [(s.heap.objs.size, ({ cls := .type "list", data := .seq its.toArray k } : Obj))] := hp
          simpa using hp'
        subst e
        exact absurd (z ▸ fpo b hb) (Nat.lt_irrefl _)
    refine wpAny_bind (wpAny_standAt (wpAny_bind ?_))
    rcases turn i n τ ys H1 w1 with ⟨stop, q⟩ | ⟨go, N, hN, step⟩
    · refine thn (T.done (cxLC X scope cl M G.objs.size s H fp E') rfl rfl rfl hc i _ s' τ H1 E' I1' (stat fr1) st1 stop) fun r s4 ⟨hr, I4⟩ => ?_
      subst hr
      refine wpAny_pure ?_
      obtain ⟨eD4, _, _⟩ := I4.pin (s.heap.objs.size, { cls := .type "list", data := .seq its.toArray k }) (List.mem_append_right _ List.mem_cons_self)
      have base4 : Un (frs X.stack) fp H H1 s.heap s4.heap := I4.base
      have un : Un (frs X.stack) fp H (upd H1 s.heap.objs.size (.lst ys)) s.heap s4.heap := ⟨base4.keep, base4.slot, fun b o e n hx => by rw [upd_ne (Nat.ne_of_lt (Heap.lt_size e))]; exact base4.free b o e n hx, base4.there,
        fun b xs e => by rw [upd_ne (ne_of_none (base4.tups b xs e) fD)]; exact base4.tups b xs e, fun b o u e => by rw [upd_ne (ne_of_none (base4.frzs b o u e) fD)]; exact base4.frzs b o u e,
        fun b ps e => by
          obtain ⟨more, w⟩ := base4.tbls b ps e
          exact ⟨more, by rw [upd_ne (ne_of_none w fD)]; exact w⟩⟩
      have hok : HOk X.prog X.w (upd H1 s.heap.objs.size (.lst ys)) s4.heap := fun b u e => by
        by_cases hb : b = s.heap.objs.size
        · subst hb
          rw [upd_same] at e
          cases e
          exact ⟨hz, its, k, rv, eD4⟩
        · rw [upd_ne hb] at e
          exact (I4.hok b u e).stay (fun c v _ q => q) (fun c q => by rw [upd_ne (ne_of_none q fD)]; exact q) fun c xs q => by rw [upd_ne (ne_of_none q fD)]; exact q
      have IX : Inv X pins σ (upd H1 s.heap.objs.size (.lst ys)) s4 := I.call' I4.os un hok I4.bare fun b hb => ⟨(hf b hb).2.2.2.1, (hf b hb).2.1, (hf b hb).2.2.2.2.1, (hf b hb).2.2.2.2.2⟩
      have fC : H1 G.objs.size = none := I4.free
      obtain ⟨m4, n4, _⟩ := I4.loc
      exact hR _ _ s4 H1 ys m4 IX (I.fpOk hCle (by rw [upd_ne (Ne.symm hDC)]; exact fC)) n4 (q _ fD)
    · refine thn (T.item (cxLC X scope cl M G.objs.size s H fp E') rfl rfl rfl hc i _ s' τ H1 E' I1' (stat fr1) st1 go) fun r s4 ⟨u, hr, h4⟩ => ?_
      subst hr
      refine wpAny_bind (thn h4 fun _ s5 ⟨x, H5, I5, r5, y5, st5, fr5⟩ => ?_)
      have I5' := I5.pinned (stat fr5) (T.obj _ _ st5)
      -- what holds behind a turn
      have kept : ∀ {τ6 : St} {H6 : Hp} {s6 : Shared}, Inv (cxLC X scope cl M G.objs.size s H fp E') ([(s.heap.objs.size, { cls := .type "list", data := .seq its.toArray k })] ++ pinsAt fp s5.heap) τ6 H6 s6 ->
          Inv (cxLC X scope cl M G.objs.size s H fp E') [] τ6 H6 s6 /\ tn (i + 1) s6.heap /\ (∀ b ∈ fp, H6 b = none) /\ s6.heap.get? s.heap.objs.size = some { cls := .type "list", data := .seq its.toArray k } /\ H6 s.heap.objs.size = none := fun {τ6 H6 s6} I6 => by
        have pin : ∀ b ∈ fp, ∀ o, s5.heap.get? b = some o -> s6.heap.get? b = some o /\ H6 b = none := fun b hb o e =>
          let w := I6.pin (b, o) (List.mem_append_right _ (List.mem_append_right _ (mem_pinsAt hb e)))
          ⟨w.1, w.2.1⟩
        have pD := I6.pin (s.heap.objs.size, { cls := .type "list", data := .seq its.toArray k }) (List.mem_append_right _ (List.mem_append_left _ List.mem_cons_self))
        refine ⟨I6.pins_of (fun p hp => nomatch hp), T.keep _ _ _ st5 fun b hb o e => (pin b hb o e).1, fun b hb => ?_, pD.1, pD.2.1⟩
        obtain ⟨o, e, _⟩ := T.obj _ _ st5 b hb
        exact (pin b hb o e).2
      refine wpAny_bind (thn (hg _ _ _ _ _ _ s5 τ H5 x u _ I5' r5 (step x H5 y5)) fun _ s6 ⟨σ6, H6, I6, q6⟩ => ?_)
      refine wpAny_bind (thn (ht _ _ _ _ _ _ s6 σ6 H6 _ I6 q6) fun ok s7 ⟨H7, I7, q7⟩ => ?_)
      cases ok with
      | false =>
        have q7' : N σ6 ys H7 := by simpa using q7
        obtain ⟨m', hm, w7⟩ := hN _ _ _ q7'
        obtain ⟨K1, K2, K3, K4, K5⟩ := kept I7
        exact wpAny_pure ⟨rfl, m', hm, i + 1, σ6, H7, ys, its, k, K1, K2, K3, K4, K5, rv, hz, w7⟩
      | true =>
        have q7' : te σ6 H7 fun y H4 => ys.length < sizeLine /\ N σ6 (ys ++ [y]) H4 := by simpa using q7
        refine wpAny_bind (wpAny_bind (thn (he _ _ _ _ _ _ s7 σ6 H7 _ I7 q7') fun y s8 ⟨v8, H8, I8, r8, hz8, n8⟩ => ?_))
        obtain ⟨m', hm, w8⟩ := hN _ _ _ n8
        obtain ⟨K1, K2, K3, K4, K5⟩ := kept I8
        have hl := rv.length
        refine wpAny_bind (wpAny_list_append_plain (hsz := by rw [List.size_toArray]; omega) ⟨k, K4⟩ fun h9 hl9 hs9 => wpAny_pure (wpAny_pure ⟨rfl, m', hm, ?_⟩))
        obtain ⟨k9, e9⟩ := hl9
        have I9 : Inv (cxLC X scope cl M G.objs.size s H fp E') [] σ6 H8 { s8 with heap := h9 } := K1.turned (t' := s8.toks) (it := s.heap.objs.size) (fun b o hb e => (hs9.2 b hb).trans e) K5 hDC (.inr (Nat.le_refl _))
          (fun y c e => nocl y c e) fun p hp => nomatch hp
        refine ⟨i + 1, σ6, H8, ys ++ [v8], its ++ [y], k9, I9, T.keep _ _ _ K2 fun b hb o e => (hs9.2 b (Nat.ne_of_lt (fpo b hb))).trans e, K3, ?_, K5, rv.append (.cons r8 .nil), ?_, w8⟩
        · rw [e9]
          simp
        · rw [List.length_append, List.length_singleton]
          omega
  exact codeAny_compStart_list (loop _ rfl) (T.self X.A 0 _ _ _ st1 (loop _ rfl))
variable {tg elt iter : Expr} {ifs : List Expr} {pos : Pos} {wi : TI} {g : TG} {tt : TT} {te : TE}
theorem pe_lc (L : LcOk X scope cl S) (hc : X.calm = true) (hi : PI X tg iter wi) (hg : ∀ C s H ex E, PG (cxLC X scope cl M C s H ex E) tg g) (ht : ∀ C s H ex E, PTs (cxLC X scope cl M C s H ex E) ifs tt) (he : ∀ C s H ex E, PE (cxLC X scope cl M C s H ex E) elt te)
    (hs : ∀ x, foldedSetIterable iter X.env x = pure x := by intro _; rfl) : PE X (.ListComp elt [⟨tg, iter, ifs, 0⟩] scope pos) (tLCS S wi g tt te M.length) := by
  intro pins s σ H Q I h
  rw [eval_ListComp]
  refine wpAny_comprehension_free (use := none) rfl hs L.clos L.kind L.locs (thn (hi pins s σ H _ I h) fun v s1 h1 => thn h1 fun itv s2 h2 => ?_)
  obtain ⟨it, fp, tn, J, H2, rfl, I2, T, st2, f2, W, ⟨m0, w0⟩, turn⟩ := h2
  refine lc_core (R := fun acc C => compPost (model X.prog X.w) X.A X.xe none (EP X pins σ Q) acc C) L hc I2 T st2 f2 hg ht he w0 turn ?_
  intro D C s' H' ys m IX fC ns q
  exact ⟨m, ns, fun h' sb => ⟨.ref D, _, IX.turned (t' := s'.toks) (fun b o hb e => (sb.2 b hb).trans e) fC.1 fC.2.1 fC.2.2.2.1 fC.2.2.2.2.1 fC.2.2.2.2.2, rfl, q⟩⟩
theorem ps_set_lc {i : Nat} {y : Str} {py spos : Pos} (hN : X.N.Nodup) (hi' : X.N[i]? = some y) (hy : Loc X.env.scope y) (L : LcOk X scope cl S) (hc : X.calm = true) (hi : PI X tg iter wi) (hg : ∀ C s H ex E, PG (cxLC X scope cl M C s H ex E) tg g)
    (ht : ∀ C s H ex E, PTs (cxLC X scope cl M C s H ex E) ifs tt) (he : ∀ C s H ex E, PE (cxLC X scope cl M C s H ex E) elt te) (hs : ∀ x, foldedSetIterable iter X.env x = pure x := by intro _; rfl)
    (hsw : swapsWith (.ListComp elt [⟨tg, iter, ifs, 0⟩] scope pos) (some (.Name y py)) spos.line X.env = pure true := by rfl)
    (hf : X.fn y = true \/ X.env.scope.names.lookup y = some .local := by first | exact .inl rfl | exact .inr rfl | assumption) :
    PS X (.Assign [.Name y py] (.ListComp elt [⟨tg, iter, ifs, 0⟩] scope pos) spos) (fun D σ H => tLCS S wi g tt te M.length σ H fun v H1 => D.nx (σ.set i (some v)) H1) := by
  intro pins s σ H D I h
  rw [exec_Assign_Name_used _ _ _ _ hsw]
  refine wpAny_bind (wpAny_standAt (wpAny_bind ?_))
  show wpAny _ X.A (do let _ <- comprehension (.ListComp elt [⟨tg, iter, ifs, 0⟩] scope pos) scope X.env _ (newList []) false (eval iter X.env) (some (assign (.Name y py) X.env))) _ _ s
  refine wpAny_bind (wpAny_mono (wpAny_comprehension_free (use := some (assign (.Name y py) X.env)) (Q := fun _ s' => SP X pins D .next s') rfl hs L.clos L.kind L.locs
    (thn (hi pins s σ H _ I h) fun v s1 h1 => thn h1 fun itv s2 h2 => ?_)) (fun _ s' hq => wpAny_pure (wpAny_pure hq)) fun _ _ e => e)
  obtain ⟨it, fp, tn, J, H2, rfl, I2, T, st2, f2, W, ⟨m0, w0⟩, turn⟩ := h2
  refine lc_core (R := fun acc C => compPost (model X.prog X.w) X.A X.xe (some (assign (.Name y py) X.env)) (fun _ s' => SP X pins D .next s') acc C) L hc I2 T st2 f2 hg ht he w0 turn ?_
  intro D' C s' H' ys m IX fC ns q
  show wpAny _ X.A (assign (.Name y py) X.env (.ref D')) _ _ s'
  refine wpAny_assign_Name (store_ok2 IX hN hi' hy (v := .ref D') rfl (fun s'' I'' ⟨a, sb, ha⟩ => ?_) hf)
  refine ⟨m, ns.sameBut sb ?_, fun h' sb' => ⟨_, _, I''.turned (t' := s''.toks) (fun b o hb e => (sb'.2 b hb).trans e) fC.1 fC.2.1 fC.2.2.2.1 fC.2.2.2.2.1 fC.2.2.2.2.2, q⟩⟩
  rcases ha with ha | ha
  · rw [ha]; exact fC.2.1
  · exact Ne.symm (fC.2.2.2.2.1 y a ha)
end
def clOf (scope : Scope) (env : Env) : List (Str × Addr) := scope.names.foldl (fun cs p => if p.2 == .free then (match env.cells.lookup p.1 with | some a => (p.1, a) :: cs | none => cs) else cs) []
theorem clOf_in (env : Env) : ∀ (names : List (Str × NameKind)) (acc : List (Str × Addr)), AllIn env acc -> AllIn env (names.foldl (fun cs p => if p.2 == .free then (match env.cells.lookup p.1 with | some a => (p.1, a) :: cs | none => cs) else cs) acc)
  | [], _, h => h
  | (n, k) :: r, acc, h => by
    rw [List.foldl_cons]
    refine clOf_in env r _ ?_
    by_cases hk : (k == NameKind.free) = true
    · rw [if_pos hk]
      cases e : env.cells.lookup n with
      | none => exact h
      | some a => exact ⟨e, h⟩
    · rw [if_neg hk]
      exact h
section
variable {X : Cx} {scope : Scope} {M : List Str} {tg elt iter : Expr} {ifs : List Expr} {pos : Pos} {wi : TI} {g : TG} {tt : TT} {te : TE}
theorem lcOkS {S : List Nat} (h1 : closureFor scope X.env = pure (clOf scope X.env)) (h2 : scope.kind = .function) (h3 : scope.names.all (fun y => y.2 != .cell) = true) (h4 : scope.names.all (fun y => y.2 != .local || scope.names.lookup y.1 == some .local) = true)
    (h5 : X.N.zipIdx.all (fun y => S.contains y.2 || scope.names.lookup y.1 != some .local) = true) (h6 : scope.names.all (fun p => p.2 != .free || (((clOf scope X.env).lookup p.1).isSome && (X.env.kindOf p.1 == some .cell || X.env.kindOf p.1 == some .free))) = true) :
    LcOk X scope (clOf scope X.env) S := ⟨h1, h2, h3, h4, h5, clOf_in X.env scope.names [] trivial, h6⟩
theorem lcOk (h1 : closureFor scope X.env = pure (clOf scope X.env)) (h2 : scope.kind = .function) (h3 : scope.names.all (fun y => y.2 != .cell) = true) (h4 : scope.names.all (fun y => y.2 != .local || scope.names.lookup y.1 == some .local) = true)
    (h5 : X.N.all (fun y => scope.names.lookup y != some .local) = true) (h6 : scope.names.all (fun p => p.2 != .free || (((clOf scope X.env).lookup p.1).isSome && (X.env.kindOf p.1 == some .cell || X.env.kindOf p.1 == some .free))) = true) :
    LcOk X scope (clOf scope X.env) [] := lcOkS h1 h2 h3 h4 (List.all_eq_true.mpr fun y hy => by
      have hm : y.1 ∈ X.N := List.mem_of_getElem? (List.mem_zipIdx_iff_getElem?.mp hy)
      rw [List.all_eq_true.mp h5 y.1 hm, Bool.or_true]) h6
theorem pe_comp (M : List Str) (hc : X.calm = true) (hi : PI X tg iter wi) (hg : ∀ C s H ex E, PG (cxLC X scope (clOf scope X.env) M C s H ex E) tg g) (ht : ∀ C s H ex E, PTs (cxLC X scope (clOf scope X.env) M C s H ex E) ifs tt)
    (he : ∀ C s H ex E, PE (cxLC X scope (clOf scope X.env) M C s H ex E) elt te) (hs : ∀ x, foldedSetIterable iter X.env x = pure x := by intro _; rfl)
    (h1 : closureFor scope X.env = pure (clOf scope X.env) := by with_unfolding_all rfl) (h2 : scope.kind = .function := by rfl) (h3 : scope.names.all (fun y => y.2 != .cell) = true := by rfl) (h4 : scope.names.all (fun y => y.2 != .local || scope.names.lookup y.1 == some .local) = true := by rfl)
    (h5 : X.N.all (fun y => scope.names.lookup y != some .local) = true := by rfl) (h6 : scope.names.all (fun p => p.2 != .free || (((clOf scope X.env).lookup p.1).isSome && (X.env.kindOf p.1 == some .cell || X.env.kindOf p.1 == some .free))) = true := by rfl) :
    PE X (.ListComp elt [⟨tg, iter, ifs, 0⟩] scope pos) (tLC wi g tt te M.length) := pe_lc (lcOk h1 h2 h3 h4 h5 h6) hc hi hg ht he hs
theorem ps_comp (M : List Str) {i : Nat} {y : Str} {py spos : Pos} (hN : X.N.Nodup) (hi' : X.N[i]? = some y) (hy : Loc X.env.scope y) (hc : X.calm = true) (hi : PI X tg iter wi) (hg : ∀ C s H ex E, PG (cxLC X scope (clOf scope X.env) M C s H ex E) tg g)
    (ht : ∀ C s H ex E, PTs (cxLC X scope (clOf scope X.env) M C s H ex E) ifs tt) (he : ∀ C s H ex E, PE (cxLC X scope (clOf scope X.env) M C s H ex E) elt te) (hs : ∀ x, foldedSetIterable iter X.env x = pure x := by intro _; rfl)
    (hsw : swapsWith (.ListComp elt [⟨tg, iter, ifs, 0⟩] scope pos) (some (.Name y py)) spos.line X.env = pure true := by rfl)
    (hf : X.fn y = true \/ X.env.scope.names.lookup y = some .local := by first | exact .inl rfl | exact .inr rfl | assumption)
    (h1 : closureFor scope X.env = pure (clOf scope X.env) := by with_unfolding_all rfl) (h2 : scope.kind = .function := by rfl) (h3 : scope.names.all (fun y => y.2 != .cell) = true := by rfl) (h4 : scope.names.all (fun y => y.2 != .local || scope.names.lookup y.1 == some .local) = true := by rfl)
    (h5 : X.N.all (fun y => scope.names.lookup y != some .local) = true := by rfl) (h6 : scope.names.all (fun p => p.2 != .free || (((clOf scope X.env).lookup p.1).isSome && (X.env.kindOf p.1 == some .cell || X.env.kindOf p.1 == some .free))) = true := by rfl) :
    PS X (.Assign [.Name y py] (.ListComp elt [⟨tg, iter, ifs, 0⟩] scope pos) spos) (fun D σ H => tLC wi g tt te M.length σ H fun v H1 => D.nx (σ.set i (some v)) H1) := ps_set_lc hN hi' hy (lcOk h1 h2 h3 h4 h5 h6) hc hi hg ht he hs hsw hf
theorem pe_compS (S : List Nat) (M : List Str) (hc : X.calm = true) (hi : PI X tg iter wi) (hg : ∀ C s H ex E, PG (cxLC X scope (clOf scope X.env) M C s H ex E) tg g) (ht : ∀ C s H ex E, PTs (cxLC X scope (clOf scope X.env) M C s H ex E) ifs tt)
    (he : ∀ C s H ex E, PE (cxLC X scope (clOf scope X.env) M C s H ex E) elt te) (hs : ∀ x, foldedSetIterable iter X.env x = pure x := by intro _; rfl)
    (h1 : closureFor scope X.env = pure (clOf scope X.env) := by with_unfolding_all rfl) (h2 : scope.kind = .function := by rfl) (h3 : scope.names.all (fun y => y.2 != .cell) = true := by rfl) (h4 : scope.names.all (fun y => y.2 != .local || scope.names.lookup y.1 == some .local) = true := by rfl)
    (h5 : X.N.zipIdx.all (fun y => S.contains y.2 || scope.names.lookup y.1 != some .local) = true := by rfl) (h6 : scope.names.all (fun p => p.2 != .free || (((clOf scope X.env).lookup p.1).isSome && (X.env.kindOf p.1 == some .cell || X.env.kindOf p.1 == some .free))) = true := by rfl) :
    PE X (.ListComp elt [⟨tg, iter, ifs, 0⟩] scope pos) (tLCS S wi g tt te M.length) := pe_lc (lcOkS h1 h2 h3 h4 h5 h6) hc hi hg ht he hs
theorem ps_compS (S : List Nat) (M : List Str) {i : Nat} {y : Str} {py spos : Pos} (hN : X.N.Nodup) (hi' : X.N[i]? = some y) (hy : Loc X.env.scope y) (hc : X.calm = true) (hi : PI X tg iter wi) (hg : ∀ C s H ex E, PG (cxLC X scope (clOf scope X.env) M C s H ex E) tg g)
    (ht : ∀ C s H ex E, PTs (cxLC X scope (clOf scope X.env) M C s H ex E) ifs tt) (he : ∀ C s H ex E, PE (cxLC X scope (clOf scope X.env) M C s H ex E) elt te) (hs : ∀ x, foldedSetIterable iter X.env x = pure x := by intro _; rfl)
    (hsw : swapsWith (.ListComp elt [⟨tg, iter, ifs, 0⟩] scope pos) (some (.Name y py)) spos.line X.env = pure true := by rfl)
    (hf : X.fn y = true \/ X.env.scope.names.lookup y = some .local := by first | exact .inl rfl | exact .inr rfl | assumption)
    (h1 : closureFor scope X.env = pure (clOf scope X.env) := by with_unfolding_all rfl) (h2 : scope.kind = .function := by rfl) (h3 : scope.names.all (fun y => y.2 != .cell) = true := by rfl) (h4 : scope.names.all (fun y => y.2 != .local || scope.names.lookup y.1 == some .local) = true := by rfl)
    (h5 : X.N.zipIdx.all (fun y => S.contains y.2 || scope.names.lookup y.1 != some .local) = true := by rfl) (h6 : scope.names.all (fun p => p.2 != .free || (((clOf scope X.env).lookup p.1).isSome && (X.env.kindOf p.1 == some .cell || X.env.kindOf p.1 == some .free))) = true := by rfl) :
    PS X (.Assign [.Name y py] (.ListComp elt [⟨tg, iter, ifs, 0⟩] scope pos) spos) (fun D σ H => tLCS S wi g tt te M.length σ H fun v H1 => D.nx (σ.set i (some v)) H1) := ps_set_lc hN hi' hy (lcOkS h1 h2 h3 h4 h5 h6) hc hi hg ht he hs hsw hf
end
section
variable {g : TG} {tt : TT} {te : TE} {Q : VK} {σ : St} {H : Hp}
theorem lc_list {K : PySem.W.Frag} {a : Addr} {xs : List V} (Pv : Nat -> St -> List V -> Hp -> Prop) (h0 : Pv 0 σ [] H) (hl : ∀ i τ ys H, i <= xs.length -> Pv i τ ys H -> SqL K H a xs)
    (hs : ∀ i x τ ys H, xs[i]? = some x -> Pv i τ ys H -> g x τ H fun τ2 H2 => tt τ2 H2 fun b H3 => if b = true then te τ2 H3 fun y H4 => ys.length < sizeLine /\ Pv (i + 1) τ2 (ys ++ [y]) H4 else Pv (i + 1) τ2 ys H3)
    (hd : ∀ τ ys H, Pv xs.length τ ys H -> ∀ p, H p = none -> Q (.ref p) (upd H p (.lst ys))) : ∃ W, (∃ m, W 0 m σ [] H) /\ lcBy (Itl K a) g tt te Q W := by
  refine ⟨fun i m τ ys H => m = xs.length - i /\ i <= xs.length /\ Pv i τ ys H, ⟨xs.length, by simp, Nat.zero_le _, h0⟩, ?_⟩
  rintro i m τ ys H ⟨rfl, hi, p⟩
  have q := hl i τ ys H hi p
  by_cases hlt : i < xs.length
  · refine .inr ⟨⟨xs, xs[i], q, by simp [hlt]⟩, Pv (i + 1), fun τ' ys' H' p' => ⟨xs.length - (i + 1), by omega, rfl, hlt, p'⟩, fun x H' y => ?_⟩
    obtain ⟨e, y⟩ := y
    subst e
    exact hs i x τ ys _ (y xs q) p
  · have e : i = xs.length := by omega
    subst e
    exact .inl ⟨⟨xs, q, Nat.le_refl _⟩, hd τ ys H p⟩
theorem lc_range {lo : Int} {n : Nat} (Pv : Nat -> St -> List V -> Hp -> Prop) (h0 : Pv 0 σ [] H)
    (hs : ∀ i τ ys H, i < n -> Pv i τ ys H -> g (.int (lo + i)) τ H fun τ2 H2 => tt τ2 H2 fun b H3 => if b = true then te τ2 H3 fun y H4 => ys.length < sizeLine /\ Pv (i + 1) τ2 (ys ++ [y]) H4 else Pv (i + 1) τ2 ys H3)
    (hd : ∀ τ ys H, Pv n τ ys H -> ∀ p, H p = none -> Q (.ref p) (upd H p (.lst ys))) : ∃ W, (∃ m, W 0 m σ [] H) /\ lcBy (Itr lo n) g tt te Q W := by
  refine ⟨fun i m τ ys H => m = n - i /\ i <= n /\ Pv i τ ys H, ⟨n, by simp, Nat.zero_le _, h0⟩, ?_⟩
  rintro i m τ ys H ⟨rfl, hi, p⟩
  by_cases hlt : i < n
  · refine .inr ⟨hlt, Pv (i + 1), fun τ' ys' H' p' => ⟨n - (i + 1), by omega, rfl, hlt, p'⟩, fun x H' y => ?_⟩
    obtain ⟨e, y⟩ := y
    subst e y
    exact hs i τ ys _ hlt p
  · have e : i = n := by omega
    subst e
    exact .inl ⟨Nat.le_refl _, hd τ ys H p⟩
end
end L2
namespace L2
open PySem PySem.Spec PyProof.Rows Builtin Builtin.Str
section
variable {X : Cx} {tg : Expr}
end
end L2
namespace L2
open PySem PySem.Spec PyProof.Rows
def isStar : Expr -> Bool
  | .Starred .. => true
  | _ => false
theorem star_cons {e : Expr} {es : List Expr} {env : Env} (h : isStar e = false) : starEach (e :: es) env = (false, eval e env) :: starEach es env := by
  cases e <;> first
    | rfl
    | exact absurd (show true = false from h) (by decide)
theorem star_any {env : Env} {pos : Pos} : ∀ {es : List Expr}, es.all (fun e => !isStar e) = true -> (backTo pos (starEach es env)).any (·.1) = false
  | [], _ => rfl
  | e :: es, h => by
    rw [List.all_cons, Bool.and_eq_true] at h
    have h1 : isStar e = false := by simpa using h.1
    rw [star_cons h1]
    show (false || (backTo pos (starEach es env)).any (·.1)) = false
    rw [star_any h.2]
    rfl
section
variable {X : Cx} {CX : CXT} {k : Nat} {f C : Addr} {fd : FuncData} {ps : List Str} {sp : Sp} {dvs : List V} {ds : List Value} {E : XK} {x m : Str} {p pos apos : Pos} {e o : Expr} {es : List Expr} {te ta : TE} {t : TA} {id T : String} {r : List V -> Hp -> VK -> Prop}
theorem pa_c (ha : PE X e te) (hr : PA X es t) (h : isStar e = false := by rfl) : PA X (e :: es) (tCons te t) := pa_cons ha hr (star_cons h)
theorem pe_fn (F : FnOk X.prog X.w X.K X.mg X.base CX k f fd ps sp) (hr : Room k X.A) (hg : Gl X x) (hm : X.mg x = some (.ref f)) (hk : PySem.W.keepIn X.K (.ref f) = true) (hb : Binds X.K fd ps ds) (hd : Vals dvs ds) (hx : Passes CX X E)
    (ha : PA X (e :: es) t) (hdb : (x == ("__debug__" : Str)) = false := by decide) (h1 : isStar e = false := by rfl) (h2 : es.all (fun e => !isStar e) = true := by rfl) :
    PE X (.Call (.Name x p) (e :: es) [] pos) (tCall sp dvs E t) := pe_call F hr hg hm hk hb hd hx ha hdb (star_cons h1) (star_any h2)
theorem pe_fnB (hc : CallR X (.builtin id) r) (hg : Gl X x) (hm : X.mg x = none) (hv : bootBuiltins x = some (.builtin id)) (ha : PA X (e :: es) t) (hn : x ≠ "__name__" := by decide) (hdb : (x == ("__debug__" : Str)) = false := by decide)
    (h1 : isStar e = false := by rfl) (h2 : es.all (fun e => !isStar e) = true := by rfl) : PE X (.Call (.Name x p) (e :: es) [] pos) (tCB r t) := pe_callB hc hg hm hv ha hn hdb (star_cons h1) (star_any h2)
theorem pe_fnTy (hc : CallR X (.type T) r) (hg : Gl X x) (hm : X.mg x = none) (hv : bootBuiltins x = some (.type T)) (ha : PA X (e :: es) t) (hn : x ≠ "__name__" := by decide) (hdb : (x == ("__debug__" : Str)) = false := by decide)
    (h1 : isStar e = false := by rfl) (h2 : es.all (fun e => !isStar e) = true := by rfl) : PE X (.Call (.Name x p) (e :: es) [] pos) (tCB r t) := pe_callTy hc hg hm hv ha hn hdb (star_cons h1) (star_any h2)
end
end L2
namespace L2
open PySem PySem.Spec PyProof.Rows
structure jE (X : Cx) (e : Expr) (t : TE) : Prop where
  out : PE X e t
structure jT (X : Cx) (e : Expr) (t : TT) : Prop where
  out : PT X e t
structure jW (X : Cx) (e : Expr) (t : TT) : Prop where
  out : PW X e t
structure jA (X : Cx) (es : List Expr) (t : TA) : Prop where
  out : PA X es t
structure jS (X : Cx) (st : Stmt) (t : TS) : Prop where
  out : PS X st t
structure jSs (X : Cx) (sts : List Stmt) (t : TS) : Prop where
  out : PSs X sts t
structure jG (X : Cx) (tg : Expr) (t : TG) : Prop where
  out : PG X tg t
structure jGs (X : Cx) (tg : List Expr) (t : TGs) : Prop where
  out : PGs X tg t
structure jI (X : Cx) (tg iter : Expr) (t : TI) : Prop where
  out : PI X tg iter t
structure jO (X : Cx) (e : Option Expr) (t : TO) : Prop where
  out : PO X e t
structure jTs (X : Cx) (ifs : List Expr) (t : TT) : Prop where
  out : PTs X ifs t
structure jOp (X : Cx) (f : Value -> Value -> Sem Value) (r : R2) : Prop where
  out : OpR X f r
structure jIx (X : Cx) (r : R2) : Prop where
  out : IxR X r
structure jSl (X : Cx) (r : V -> Option Int -> Option Int -> Hp -> VK -> Prop) : Prop where
  out : SlR X r
structure jMt (X : Cx) (id : String) (r : V -> List V -> Hp -> VK -> Prop) : Prop where
  out : MtR X id r
structure jCa (X : Cx) (f : Value) (r : List V -> Hp -> VK -> Prop) : Prop where
  out : CallR X f r
section
variable {X : Cx} {a b c e o : Expr} {es rest : List Expr} {ta tb tc te to : TE} {t u : TA} {tA tB' : TT} {pos p p2 apos cpos px : Pos} {x y m : Str} {op op' : CmpOp} {bop : Operator} {r r' : R2}
theorem jv (i : Nat) (hN : X.N[i]? = some x := by rfl) (hv : Vis X.env.scope x := by first | exact Or.inl rfl | exact Or.inr (Or.inl rfl) | exact Or.inr (Or.inr rfl)) (hd : (x == ("__debug__" : Str)) = false := by decide)
    (hcd : (x == ("__classdict__" : Str)) = false := by decide) : jE X (.Name x pos) (tVar i) := ⟨pv i hN hv hd hcd⟩
theorem je_int {i j} : jE X (.Constant (.int i) j pos) (tC (.int i)) := ⟨pe_int⟩
theorem je_bl {b j} : jE X (.Constant (.bool b) j pos) (tC (.bl b)) := ⟨pe_bl⟩
theorem je_non {j} : jE X (.Constant .none j pos) (tC .non) := ⟨pe_non⟩
theorem je_str {x j} : jE X (.Constant (.str x) j pos) (tC (.str x)) := ⟨pe_str⟩
theorem je_op (ho : jOp X (binaryOp bop) r) (ha : jE X a ta) (hb : jE X b tb) : jE X (.BinOp a bop b pos) (tOp r ta tb) := ⟨pe_op ho.out ha.out hb.out⟩
theorem je_cmpR (ho : jOp X (compareOp op) r) (ha : jE X a ta) (hb : jE X b tb) (hm : behindInMarks op b = false) : jE X (.Compare a [op] [b] pos) (tOp r ta tb) := ⟨pe_cmpR ho.out ha.out hb.out hm⟩
theorem jt_cmpR (ho : jOp X (compareOp op) r) (ha : jE X a ta) (hb : jE X b tb) (hm : behindInMarks op b = false) : jT X (.Compare a [op] [b] pos) (tTest (tOp r ta tb)) := ⟨pt_cmpR ho.out ha.out hb.out hm⟩
theorem jt_val (h : jE X e te) (he : ∀ whole, isTrue e X.env whole = (do let v <- whole; standAt e.pos; holding [v] (truthy v)) := by intro _; rfl) : jT X e (tB te) := ⟨pt_val h.out he⟩
theorem jw_and1 (ha : jT X a tA) : jW X (.BoolOp .And [a] pos) tA := ⟨pw_and1 ha.out⟩
theorem jw_or1 (ha : jT X a tA) : jW X (.BoolOp .Or [a] pos) tA := ⟨pw_or1 ha.out⟩
theorem jw_and (ha : jT X a tA) (hb : jW X (.BoolOp .And (b :: rest) pos) tB') : jW X (.BoolOp .And (a :: b :: rest) pos) (tAnd tA tB') := ⟨pw_and ha.out hb.out⟩
theorem jw_or (ha : jT X a tA) (hb : jW X (.BoolOp .Or (b :: rest) pos) tB') : jW X (.BoolOp .Or (a :: b :: rest) pos) (tOr tA tB') := ⟨pw_or ha.out hb.out⟩
theorem jW.pt (h : jW X e tA) : jT X e tA := ⟨PW.pt h.out⟩
theorem jt_not (ha : jT X a tA) : jT X (.UnaryOp .Not a pos) (tNot tA) := ⟨pt_not ha.out⟩
theorem je_one {op} (h : jE X a te) : jE X (.BoolOp op [a] pos) te := ⟨pe_one h.out⟩
theorem je_and (ha : jE X a ta) (hb : jE X (.BoolOp .And (b :: rest) pos) tb) : jE X (.BoolOp .And (a :: b :: rest) pos) (tAndV ta tb) := ⟨pe_and ha.out hb.out⟩
theorem je_ifExp (hc : jT X c tA) (ha : jE X a ta) (hb : jE X b tb) : jE X (.IfExp c a b pos) (tIf tA ta tb) := ⟨pe_ifExp hc.out ha.out hb.out⟩
theorem ja_nil : jA X [] tNil := ⟨pa_nil⟩
theorem ja_c (ha : jE X e te) (hr : jA X es t) (h : isStar e = false := by rfl) : jA X (e :: es) (tCons te t) := ⟨pa_c ha.out hr.out h⟩
theorem je_lst (h : jA X es t) : jE X (.List es pos) (tLst t) := ⟨pe_lst h.out⟩
theorem je_tup {x1} (h : jA X es t) : jE X (.Tuple es x1 pos) (tTup t) := ⟨pe_tup h.out⟩
theorem je_ix (hr : jIx X r) (ha : jE X a ta) (hb : jE X b tb) (hs : PlainIx b) : jE X (.Subscript a b pos) (tOp r ta tb) := ⟨pe_ix hr.out ha.out hb.out hs⟩
theorem jo_none : jO X none tNoPart := ⟨po_none⟩
theorem jo_some (h : jE X e te) : jO X (some e) (tPart te) := ⟨po_some h.out⟩
theorem je_slice {r : V -> Option Int -> Option Int -> Hp -> VK -> Prop} {lo hi : Option Expr} {tl th : TO} (hr : jSl X r) (he : jE X e te) (hl : jO X lo tl) (hu : jO X hi th) : jE X (.Subscript e (.Slice lo hi none p2) pos) (tSl r te tl th) := ⟨pe_slice hr.out he.out hl.out hu.out⟩
variable {CX : CXT} {k : Nat} {f C : Addr} {fd : FuncData} {ps : List Str} {sp : Sp} {dvs : List V} {ds : List Value} {E : XK} {id T : String} {rc : List V -> Hp -> VK -> Prop} {rm : V -> List V -> Hp -> VK -> Prop}
theorem je_fn (F : FnOk X.prog X.w X.K X.mg X.base CX k f fd ps sp) (hr : Room k X.A) (hg : Gl X x) (hm : X.mg x = some (.ref f)) (hk : PySem.W.keepIn X.K (.ref f) = true) (hb : Binds X.K fd ps ds) (hd : Vals dvs ds) (hx : Passes CX X E)
    (ha : jA X (e :: es) t) (hdb : (x == ("__debug__" : Str)) = false := by decide) (h1 : isStar e = false := by rfl) (h2 : es.all (fun e => !isStar e) = true := by rfl) :
    jE X (.Call (.Name x p) (e :: es) [] pos) (tCall sp dvs E t) := ⟨pe_fn F hr hg hm hk hb hd hx ha.out hdb h1 h2⟩
theorem je_fnB (hc : jCa X (.builtin id) rc) (hg : Gl X x) (hm : X.mg x = none) (hv : bootBuiltins x = some (.builtin id)) (ha : jA X (e :: es) t) (hn : x ≠ "__name__" := by decide) (hdb : (x == ("__debug__" : Str)) = false := by decide)
    (h1 : isStar e = false := by rfl) (h2 : es.all (fun e => !isStar e) = true := by rfl) : jE X (.Call (.Name x p) (e :: es) [] pos) (tCB rc t) := ⟨pe_fnB hc.out hg hm hv ha.out hn hdb h1 h2⟩
theorem je_fnTy (hc : jCa X (.type T) rc) (hg : Gl X x) (hm : X.mg x = none) (hv : bootBuiltins x = some (.type T)) (ha : jA X (e :: es) t) (hn : x ≠ "__name__" := by decide) (hdb : (x == ("__debug__" : Str)) = false := by decide)
    (h1 : isStar e = false := by rfl) (h2 : es.all (fun e => !isStar e) = true := by rfl) : jE X (.Call (.Name x p) (e :: es) [] pos) (tCB rc t) := ⟨pe_fnTy hc.out hg hm hv ha.out hn hdb h1 h2⟩
theorem je_bm0 {name : Str} (pa : PlainAttrs T) (slot : Slot T name id) (hty : typeOf (.builtin id) = pure (.type "method_descriptor")) (hm : jMt X id rm) (ho : jE X o to)
    (hbase : attributeBase o name X.env (eval o X.env) = eval o X.env := by rfl) (hline : (apos.endLine == cpos.line) = true := by rfl) : jE X (.Call (.Attribute o name apos) [] [] cpos) (tBM0 X.K T rm to) := ⟨pe_bm0 pa slot hty hm.out ho.out hbase hline⟩
theorem je_bm {name : Str} (pa : PlainAttrs T) (slot : Slot T name id) (hty : typeOf (.builtin id) = pure (.type "method_descriptor")) (hm : jMt X id rm) (ho : jE X o to) (ha : jA X (e :: es) t)
    (hbase : attributeBase o name X.env (eval o X.env) = eval o X.env := by rfl)
    (hfew : ((backTo cpos (starEach (e :: es) X.env)).all (fun x => !x.1) && (backToKw cpos (keywordEach [] X.env)).all (fun x => x.1.isSome)
      && decide ((e :: es).length + ([] : List Keyword).length + (if ([] : List Keyword).isEmpty then 0 else 1) < 30)) = true := by rfl)
    (hline : (apos.endLine == cpos.line) = true := by rfl) (h1 : isStar e = false := by rfl) (h2 : es.all (fun e => !isStar e) = true := by rfl) :
    jE X (.Call (.Attribute o name apos) (e :: es) [] cpos) (tBM X.K T rm to t) := ⟨pe_bm pa slot hty hm.out ho.out ha.out hbase hfew hline (star_cons h1) (star_any h2)⟩
variable {st : Stmt} {sts : List Stmt} {s1 s2 : TS} {tg iter elt : Expr} {g : TG} {wi : TI} {tb1 : TS} {ifs : List Expr} {tt : TT}
theorem jss_nil : jSs X [] tNext := ⟨pss_nil⟩
theorem jss_cons (h1 : jS X st s1) (h2 : jSs X sts s2) : jSs X (st :: sts) (tSeq s1 s2) := ⟨pss_cons h1.out h2.out⟩
theorem jss_one (h1 : jS X st s1) : jSs X [st] s1 := ⟨pss_one h1.out⟩
theorem js_expr (he : jE X e te) (hs : swapsWith e none pos.line X.env = pure false := by rfl) : jS X (.Expr e pos) (tDrop te) := ⟨ps_expr he.out hs⟩
theorem js_ret (he : jE X e te) : jS X (.Return (some e) pos) (tRet te) := ⟨ps_ret he.out⟩
theorem js_if {A B : List Stmt} (hc : jT X c tA) (ha : jSs X A s1) (hb : jSs X B s2) : jS X (.If c A B pos) (tIfS tA s1 s2) := ⟨ps_if hc.out ha.out hb.out⟩
theorem js_set {i : Nat} {pos' : Pos} (hN : X.N.Nodup) (hi : X.N[i]? = some x) (hx : Loc X.env.scope x) (he : jE X e te) (hs : swapsWith e (some (.Name x pos')) pos.line X.env = pure false := by rfl)
    (hf : X.fn x = true \/ X.env.scope.names.lookup x = some .local := by first | exact .inl rfl | exact .inr rfl | assumption) : jS X (.Assign [.Name x pos'] e pos) (tAsg te (gName i)) := ⟨ps_set hN hi hx he.out hs hf⟩
theorem js_asg (he : jE X e te) (hg : jG X tg g) (hs : swapsWithSole [tg] e pos.line X.env = pure false := by rfl) (hw : swappedStores [tg] e X.env = pure none := by rfl) (h1 : (assignEach [tg] X.env).map (·.2) = [assign tg X.env] := by rfl) : jS X (.Assign [tg] e pos) (tAsg te g) := ⟨ps_asg he.out hg.out hs hw h1⟩
theorem jg_name {i : Nat} (hN : X.N.Nodup) (hi : X.N[i]? = some x) (hx : Loc X.env.scope x) (hf : X.fn x = true \/ X.env.scope.names.lookup x = some .local := by first | exact .inl rfl | exact .inr rfl | assumption) : jG X (.Name x pos) (gName i) := ⟨pg_name hN hi hx hf⟩
theorem jgs_nil : jGs X [] gNil := ⟨pgs_nil⟩
theorem jgs_cons {g : TG} {gs : TGs} (h1 : jG X e g) (h2 : jGs X es gs) (hs : (assignEach (e :: es) X.env).map (·.2) = assign e X.env :: (assignEach es X.env).map (·.2) := by rfl) : jGs X (e :: es) (gCons g gs) := ⟨pgs_cons h1.out h2.out hs⟩
theorem jg_tup {k : Nat} {gs : TGs} {n : Nat} (hc : X.calm = true) (h : jGs X es gs) (hn : (assignEach es X.env).length = n := by rfl) (hst : (assignEach es X.env).findIdx? (·.1) = none := by rfl) : jG X (.Tuple es k pos) (gTup X.K n gs) := ⟨pg_tup hc h.out hn hst⟩
theorem ji_list {l : Expr} {tl : TE} (hl : jE X l tl) : jI X tg l (iList X.K tl) := ⟨pi_list hl.out⟩
theorem ji_tup {l : Expr} {tl : TE} (hl : jE X l tl) : jI X tg l (iTup X.K tl) := ⟨pi_tup hl.out⟩
theorem ji_range1 (hg : Gl X "range") (hm : X.mg "range" = none) (ha : jA X [a] t) (h : isStar a = false := by rfl) : jI X tg (.Call (.Name "range" p) [a] [] pos) (iRng1 t) := ⟨pi_range1 hg hm ha.out (star_cons h)⟩
theorem js_for (hp : PassesOwn (model X.prog X.w) X.A X.env X.xe) (hc : X.calm = true) (hi : jI X tg iter wi) (hg : jG X tg g) (hb : jSs X sts tb1) (hs : ∀ x, foldedSetIterable iter X.env x = pure x := by intro _; rfl) : jS X (.For tg iter sts [] pos) (tFor wi g tb1) := ⟨ps_for hp hc hi.out hg.out hb.out hs⟩
theorem js_while (hp : PassesOwn (model X.prog X.w) X.A X.env X.xe) (hc : jT X c tA) (hb : jSs X sts tb1) : jS X (.While c sts [] pos) (tWhile tA tb1) := ⟨ps_while hp hc.out hb.out⟩
theorem jts_nil : jTs X [] tYes := ⟨pts_nil⟩
theorem jts_one (h : jT X c tA) : jTs X [c] tA := ⟨pts_one h.out⟩
theorem je_comp {scope : Scope} (M : List Str) (hc : X.calm = true) (hi : jI X tg iter wi) (hg : ∀ C s H ex E, jG (cxLC X scope (clOf scope X.env) M C s H ex E) tg g) (ht : ∀ C s H ex E, jTs (cxLC X scope (clOf scope X.env) M C s H ex E) ifs tt)
    (he : ∀ C s H ex E, jE (cxLC X scope (clOf scope X.env) M C s H ex E) elt te) (hs : ∀ x, foldedSetIterable iter X.env x = pure x := by intro _; rfl)
    (h1 : closureFor scope X.env = pure (clOf scope X.env) := by with_unfolding_all rfl) (h2 : scope.kind = .function := by rfl) (h3 : scope.names.all (fun y => y.2 != .cell) = true := by rfl) (h4 : scope.names.all (fun y => y.2 != .local || scope.names.lookup y.1 == some .local) = true := by rfl)
    (h5 : X.N.all (fun y => scope.names.lookup y != some .local) = true := by rfl) (h6 : scope.names.all (fun p => p.2 != .free || (((clOf scope X.env).lookup p.1).isSome && (X.env.kindOf p.1 == some .cell || X.env.kindOf p.1 == some .free))) = true := by rfl) :
    jE X (.ListComp elt [⟨tg, iter, ifs, 0⟩] scope pos) (tLC wi g tt te M.length) := ⟨pe_comp M hc hi.out (fun C s H ex E => (hg C s H ex E).out) (fun C s H ex E => (ht C s H ex E).out) (fun C s H ex E => (he C s H ex E).out) hs h1 h2 h3 h4 h5 h6⟩
theorem js_comp {scope : Scope} (M : List Str) {i : Nat} {py spos : Pos} (hN : X.N.Nodup) (hi' : X.N[i]? = some y) (hy : Loc X.env.scope y) (hc : X.calm = true) (hi : jI X tg iter wi) (hg : ∀ C s H ex E, jG (cxLC X scope (clOf scope X.env) M C s H ex E) tg g)
    (ht : ∀ C s H ex E, jTs (cxLC X scope (clOf scope X.env) M C s H ex E) ifs tt) (he : ∀ C s H ex E, jE (cxLC X scope (clOf scope X.env) M C s H ex E) elt te) (hs : ∀ x, foldedSetIterable iter X.env x = pure x := by intro _; rfl)
    (hsw : swapsWith (.ListComp elt [⟨tg, iter, ifs, 0⟩] scope pos) (some (.Name y py)) spos.line X.env = pure true := by rfl)
    (hf : X.fn y = true \/ X.env.scope.names.lookup y = some .local := by first | exact .inl rfl | exact .inr rfl | assumption)
    (h1 : closureFor scope X.env = pure (clOf scope X.env) := by with_unfolding_all rfl) (h2 : scope.kind = .function := by rfl) (h3 : scope.names.all (fun y => y.2 != .cell) = true := by rfl) (h4 : scope.names.all (fun y => y.2 != .local || scope.names.lookup y.1 == some .local) = true := by rfl)
    (h5 : X.N.all (fun y => scope.names.lookup y != some .local) = true := by rfl) (h6 : scope.names.all (fun p => p.2 != .free || (((clOf scope X.env).lookup p.1).isSome && (X.env.kindOf p.1 == some .cell || X.env.kindOf p.1 == some .free))) = true := by rfl) :
    jS X (.Assign [.Name y py] (.ListComp elt [⟨tg, iter, ifs, 0⟩] scope pos) spos) (fun D σ H => tLC wi g tt te M.length σ H fun v H1 => D.nx (σ.set i (some v)) H1) :=
  ⟨ps_comp M hN hi' hy hc hi.out (fun C s H ex E => (hg C s H ex E).out) (fun C s H ex E => (ht C s H ex E).out) (fun C s H ex E => (he C s H ex E).out) hs hsw hf h1 h2 h3 h4 h5 h6⟩
theorem je_compS {scope : Scope} (S : List Nat) (M : List Str) (hc : X.calm = true) (hi : jI X tg iter wi) (hg : ∀ C s H ex E, jG (cxLC X scope (clOf scope X.env) M C s H ex E) tg g) (ht : ∀ C s H ex E, jTs (cxLC X scope (clOf scope X.env) M C s H ex E) ifs tt)
    (he : ∀ C s H ex E, jE (cxLC X scope (clOf scope X.env) M C s H ex E) elt te) (hs : ∀ x, foldedSetIterable iter X.env x = pure x := by intro _; rfl)
    (h1 : closureFor scope X.env = pure (clOf scope X.env) := by with_unfolding_all rfl) (h2 : scope.kind = .function := by rfl) (h3 : scope.names.all (fun y => y.2 != .cell) = true := by rfl) (h4 : scope.names.all (fun y => y.2 != .local || scope.names.lookup y.1 == some .local) = true := by rfl)
    (h5 : X.N.zipIdx.all (fun y => S.contains y.2 || scope.names.lookup y.1 != some .local) = true := by rfl) (h6 : scope.names.all (fun p => p.2 != .free || (((clOf scope X.env).lookup p.1).isSome && (X.env.kindOf p.1 == some .cell || X.env.kindOf p.1 == some .free))) = true := by rfl) :
    jE X (.ListComp elt [⟨tg, iter, ifs, 0⟩] scope pos) (tLCS S wi g tt te M.length) := ⟨pe_compS S M hc hi.out (fun C s H ex E => (hg C s H ex E).out) (fun C s H ex E => (ht C s H ex E).out) (fun C s H ex E => (he C s H ex E).out) hs h1 h2 h3 h4 h5 h6⟩
theorem js_compS {scope : Scope} (S : List Nat) (M : List Str) {i : Nat} {py spos : Pos} (hN : X.N.Nodup) (hi' : X.N[i]? = some y) (hy : Loc X.env.scope y) (hc : X.calm = true) (hi : jI X tg iter wi) (hg : ∀ C s H ex E, jG (cxLC X scope (clOf scope X.env) M C s H ex E) tg g)
    (ht : ∀ C s H ex E, jTs (cxLC X scope (clOf scope X.env) M C s H ex E) ifs tt) (he : ∀ C s H ex E, jE (cxLC X scope (clOf scope X.env) M C s H ex E) elt te) (hs : ∀ x, foldedSetIterable iter X.env x = pure x := by intro _; rfl)
    (hsw : swapsWith (.ListComp elt [⟨tg, iter, ifs, 0⟩] scope pos) (some (.Name y py)) spos.line X.env = pure true := by rfl)
    (hf : X.fn y = true \/ X.env.scope.names.lookup y = some .local := by first | exact .inl rfl | exact .inr rfl | assumption)
    (h1 : closureFor scope X.env = pure (clOf scope X.env) := by with_unfolding_all rfl) (h2 : scope.kind = .function := by rfl) (h3 : scope.names.all (fun y => y.2 != .cell) = true := by rfl) (h4 : scope.names.all (fun y => y.2 != .local || scope.names.lookup y.1 == some .local) = true := by rfl)
    (h5 : X.N.zipIdx.all (fun y => S.contains y.2 || scope.names.lookup y.1 != some .local) = true := by rfl) (h6 : scope.names.all (fun p => p.2 != .free || (((clOf scope X.env).lookup p.1).isSome && (X.env.kindOf p.1 == some .cell || X.env.kindOf p.1 == some .free))) = true := by rfl) :
    jS X (.Assign [.Name y py] (.ListComp elt [⟨tg, iter, ifs, 0⟩] scope pos) spos) (fun D σ H => tLCS S wi g tt te M.length σ H fun v H1 => D.nx (σ.set i (some v)) H1) :=
  ⟨ps_compS S M hN hi' hy hc hi.out (fun C s H ex E => (hg C s H ex E).out) (fun C s H ex E => (ht C s H ex E).out) (fun C s H ex E => (he C s H ex E).out) hs hsw hf h1 h2 h3 h4 h5 h6⟩
theorem jo_add : jOp X (binaryOp .Add) (rI0 fun i j => .int (i + j)) := ⟨op_add⟩
theorem jo_sub : jOp X (binaryOp .Sub) (rI0 fun i j => .int (i - j)) := ⟨op_sub⟩
theorem jo_mul : jOp X (binaryOp .Mult) (rI CMul fun i j => .int (i * j)) := ⟨op_mul⟩
theorem jo_fdiv : jOp X (binaryOp .FloorDiv) (rI CDiv fun i j => .int (i / j)) := ⟨op_fdiv⟩
theorem jo_mod : jOp X (binaryOp .Mod) (rI (fun _ j => 0 < j) fun i j => .int (i % j)) := ⟨op_mod⟩
theorem jo_pow : jOp X (binaryOp .Pow) (rI CPow fun i j => .int (i ^ j.toNat)) := ⟨op_pow⟩
theorem jo_eq : jOp X (compareOp .Eq) rEq := ⟨op_eq⟩
theorem jo_ne : jOp X (compareOp .NotEq) rNe := ⟨op_ne⟩
theorem jo_lt : jOp X (compareOp .Lt) (rI0 fun i j => .bl (decide (i < j))) := ⟨op_lt⟩
theorem jo_le : jOp X (compareOp .LtE) (rI0 fun i j => .bl (decide (i <= j))) := ⟨op_le⟩
theorem jo_gt : jOp X (compareOp .Gt) (rI0 fun i j => .bl (decide (j < i))) := ⟨op_gt⟩
theorem jo_in_seq : jOp X (compareOp .In) (rIn X.K false) := ⟨op_in_seq⟩
theorem jo_notIn_seq : jOp X (compareOp .NotIn) (rIn X.K true) := ⟨op_notIn_seq⟩
theorem jo_add_str : jOp X (binaryOp .Add) (fun x y H Q => ∃ i j, x = .str i /\ y = .str j /\ i.length + j.length <= sizeLine /\ Q (.str (i ++ j)) H) := ⟨op_add_str⟩
theorem jo_cat : jOp X (binaryOp .Add) rCat := ⟨op_cat⟩
theorem jo_catT : jOp X (binaryOp .Add) (rCatT X.K) := ⟨op_catT⟩
theorem jx_list : jIx X (rIxL X.K) := ⟨ix_list⟩
theorem jx_tup : jIx X (rIxT X.K) := ⟨ix_tup⟩
theorem jx_str : jIx X rIxS := ⟨ix_str⟩
theorem jl_list : jSl X (rSlL X.K) := ⟨sl_list⟩
theorem jm_append : jMt X "list.append" rAppend := ⟨mt_append⟩
theorem jm_pop : jMt X "list.pop" rPop := ⟨mt_pop⟩
theorem jm_extend : jMt X "list.extend" rExtend := ⟨mt_extend⟩
theorem jc_len_str : jCa X (.builtin "len") (fun xs H Q => ∃ z, xs = [.str z] /\ z.length <= sizeLine /\ Q (.int z.length) H) := ⟨call_len_str⟩
theorem jc_len_seq : jCa X (.builtin "len") (fun xs H Q => ∃ p ys, xs = [.ref p] /\ (SqL X.K H p ys \/ SqT X.K H p ys) /\ Q (.int ys.length) H) := ⟨call_len_seq⟩
theorem jc_tuple_of : jCa X (.type "tuple") (fun xs H Q => ∃ p ys, xs = [.ref p] /\ ((SqL X.K H p ys /\ ∀ l, H l = none -> Q (.ref l) (upd H l (.tup ys))) \/ (SqT X.K H p ys /\ Q (.ref p) H))) := ⟨call_tuple_of⟩
theorem jc_list_of : jCa X (.type "list") (fun xs H Q => ∃ p ys, xs = [.ref p] /\ (SqL X.K H p ys \/ SqT X.K H p ys) /\ ∀ l, H l = none -> Q (.ref l) (upd H l (.lst ys))) := ⟨call_list_of⟩
end
section
variable {P : Program} {w : World} {K : PySem.W.Frag} {mg : Str -> Option Value} {base : Heap}
theorem Fun.by {x qual : Str} {st : Stmt} {f : Addr} {fd : FuncData} {N ps : List Str} {k : Nat} {sp : Sp} (F : Fun K x qual st f fd) (S : FnScope N ps (defScope st)) (len : ∀ vs H Q E, sp vs H Q E -> vs.length = ps.length)
    (hbody : ∀ (cdv : Value) (A : Around) (outer : List Env) (s : Shared) (H : Hp) (vs : List V) (Q : VK) (E : XK), Room k (A.deeper (envOfC qual (defScope st) s.heap.objs.size f cdv)) -> sp vs H Q E ->
      ∃ t, jSs (cxOf CX0 P w K mg base N qual (defScope st) f cdv A outer s H E).nox (defBody st) t /\ t { nx := fun _ H' => Q .non H', rt := Q } (start N vs) H) : FnOk P w K mg base CX0 (k + 1) f fd ps sp :=
  F.ok S len fun cdv A outer s H vs Q E hr h => let ⟨t, b, q⟩ := hbody cdv A outer s H vs Q E hr h; ⟨t, b.out, q⟩
end
end L2
namespace L2
open PySem
structure Mv (fs xs : List Addr) (h h' : Heap) : Prop where
  keep : ∀ b o, h.get? b = some o -> b ∉ fs -> b ∉ xs -> h'.get? b = some o
  slot : ∀ b o, h.get? b = some o -> b ∉ xs -> ∃ sl, h'.get? b = some { o with slots := sl }
  there : ∀ b o, h.get? b = some o -> ∃ o', h'.get? b = some o'
theorem Mv.refl {fs xs : List Addr} {h : Heap} : Mv fs xs h h := ⟨fun _ _ e _ _ => e, fun _ o e _ => ⟨o.slots, e⟩, fun _ o e => ⟨o, e⟩⟩
theorem Mv.trans {fs xs : List Addr} {h h1 h2 : Heap} (a : Mv fs xs h h1) (b : Mv fs xs h1 h2) : Mv fs xs h h2 :=
  ⟨fun c o e f x => b.keep c o (a.keep c o e f x) f x, fun c o e x => let ⟨_, e1⟩ := a.slot c o e x; let ⟨sl, e2⟩ := b.slot c _ e1 x; ⟨sl, e2⟩, fun c o e => let ⟨o1, e1⟩ := a.there c o e; b.there c o1 e1⟩
theorem Mv.mono {fs fs' xs xs' : List Addr} {h h1 : Heap} (a : Mv fs xs h h1) (hf : ∀ b ∈ fs, b ∈ fs') (hx : ∀ b ∈ xs, b ∈ xs') : Mv fs' xs' h h1 :=
  ⟨fun c o e f x => a.keep c o e (fun z => f (hf c z)) fun z => x (hx c z), fun c o e x => a.slot c o e fun z => x (hx c z), a.there⟩
theorem Mv.of_keeps {fs xs : List Addr} {h h' : Heap} (k : ∀ b o, h.get? b = some o -> h'.get? b = some o) : Mv fs xs h h' := ⟨fun b o e _ _ => k b o e, fun b o e _ => ⟨o.slots, k b o e⟩, fun b o e => ⟨o, k b o e⟩⟩
structure Tr (h : Heap) (e : Addr) (C : Value) (dx : Option Addr) (T : Addr) (fl : Value) : Prop where
  ex : ∃ oe vs, h.get? e = some oe /\ oe.cls = C /\ oe.dict = dx /\ oe.data = .fields vs /\ vs[1]? = some (.ref T) /\ vs[2]? = some .none
  tb : ∃ ot ts, h.get? T = some ot /\ ot.data = .fields ts /\ ts[3]? = some fl
  ne : T ≠ e
theorem dict_mapFields (f : Array Value -> Array Value) (o : Obj) : (Obj.mapFields f o).dict = o.dict := by
  unfold Obj.mapFields
  split <;> rfl
theorem frames_mem {h base : Heap} {l : List Env} (hl : h.FunFrames base l) {e : Addr} {oe : Obj} {vs : Array Value} (he : h.get? e = some oe) (hd : oe.data = .fields vs) : e ∉ l.filterMap (·.frame) := fun z => by
  obtain ⟨_, o, ho, nf⟩ := hl.mem z
  rw [he] at ho
  cases ho
  exact nf vs hd
section
variable {M : Model} {A : Around} {E : Value -> Shared -> Prop} {s : Shared} {base : Heap} {env : Env} {outer : List Env} {L e T : Addr} {C : Value} {dx : Option Addr} {Q : Unit -> Shared -> Prop}
theorem fly_entry {oe : Obj} {vs : Array Value} {head : Value} {had : Bool} (hfr : A.frames = some (env :: outer)) (hl : s.heap.FunFrames base (env :: outer)) (hf : env.frame = some L)
    (he : s.heap.get? e = some oe) (hd : oe.data = .fields vs) (hsz : 1 < vs.size) (hz2 : vs[2]? = some .none)
    (hq : ∀ h' T, s.heap.objs.size <= T -> Tr h' e oe.cls oe.dict T (rawInt L) -> Mv ((env :: outer).filterMap (·.frame)) [e] s.heap h' -> Q () { s with heap := h' }) :
    wpAny M A (do let a <- frameOf env; let pl <- entryPlaceOf L had; let b <- EntryCells.newEntry head a .none (rawInt L) .none pl; setField (.ref e) 1 b) Q E s := by
  have nf := frames_mem hl he hd
  refine wpAny_bind (wpAny_frameOf_fun hfr hl hf fun h1 s1 => wpAny_bind (wpAny_entryPlaceOf fun pl hp => ?_))
  unfold EntryCells.newEntry newFields
  refine wpAny_bind (wpAny_newObj_type ?_ (by exact hp.sizeOk5 _ _ _ _ _))
  have e1 : h1.get? e = some oe := (s1.2.1 e nf).trans he
  have ne : h1.objs.size ≠ e := Nat.ne_of_gt (Heap.lt_size e1)
  generalize ho : ({ cls := .type "traceback", dict := none, data := .fields ([head, .ref L, .none, rawInt L, .none] ++ (if pl.isEmpty then List.replicate 6 Value.none else pl)).toArray } : Obj) = ob
  have t3 : ∃ ts, ob.data = .fields ts /\ ts[3]? = some (rawInt L) := by
    subst ho
    refine ⟨_, rfl, ?_⟩
    simp
  have fr : ob.isFreed = false := by
    obtain ⟨ts, q, _⟩ := t3
    exact Obj.isFreed_of_fields q
  have e2 := Heap.get?_push_of_some (h := h1) ob e1
  refine wpAny_setField e2 hd hsz (hq _ h1.objs.size (Nat.le_of_eq s1.1.symm) ⟨?_, ?_, ne⟩ ⟨fun b o q f x => ?_, fun b o q x => ?_, fun b o q => ?_⟩)
  · exact ⟨_, _, Heap.get?_update_self _ e2 (Obj.isFreed_of_fields (Obj.data_mapFields hd _)), Obj.cls_mapFields _ _, dict_mapFields _ _, Obj.data_mapFields hd _, by simp [hsz], by simp [hz2]⟩
  · obtain ⟨ts, q1, q2⟩ := t3
    exact ⟨ob, ts, (Heap.get?_update_other _ _ (Ne.symm ne)).trans (Heap.get?_push_size _ fr), q1, q2⟩
  · rw [Heap.get?_update_other _ _ (fun z => x (by simp [z]))]
    exact Heap.get?_push_of_some _ ((s1.2.1 b f).trans q)
  · obtain ⟨sl, q1⟩ := s1.2.2 b o q
    exact ⟨sl, by rw [Heap.get?_update_other _ _ (fun z => x (by simp [z]))]; exact Heap.get?_push_of_some _ q1⟩
  · obtain ⟨sl, q1⟩ := s1.2.2 b o q
    by_cases z : b = e
    · subst z
      exact ⟨_, Heap.get?_update_self _ e2 (Obj.isFreed_of_fields (Obj.data_mapFields hd _))⟩
    · exact ⟨_, by rw [Heap.get?_update_other _ _ (Ne.symm z)]; exact Heap.get?_push_of_some _ q1⟩
theorem fly_first {oe : Obj} {vs : Array Value} (hfr : A.frames = some (env :: outer)) (hl : s.heap.FunFrames base (env :: outer)) (hf : env.frame = some L)
    (he : s.heap.get? e = some oe) (hd : oe.data = .fields vs) (h1 : vs[1]? = some .none) (hz2 : vs[2]? = some .none)
    (hq : ∀ h' T, s.heap.objs.size <= T -> Tr h' e oe.cls oe.dict T (rawInt L) -> Mv ((env :: outer).filterMap (·.frame)) [e] s.heap h' -> Q () { s with heap := h' }) :
    wpAny M A (noteFrame (.ref e) env) Q E s := by
  unfold noteFrame
  simp only [hf]
  refine wpAny_bind (wpAny_field he hd h1 ?_)
  rw [if_neg (by decide : ¬ ((Value.none != Value.none) = true))]
  exact fly_entry hfr hl hf he hd (Array.getElem?_eq_some_iff.mp h1).1 hz2 hq
theorem fly_set {fl : Value} {v : Option Addr} (t : Tr s.heap e C dx T fl) (hq : ∀ h', Tr h' e C dx T (v.elim .none fun f => rawInt f) -> Mv [] [T] s.heap h' -> Q () { s with heap := h' }) :
    wpAny M A (setFlight (.ref e) v) Q E s := by
  obtain ⟨⟨oe, vs, he, hc, hx, hd, h1, hz2⟩, ⟨ot, ts, ht, hdt, h3⟩, ne⟩ := t
  unfold setFlight
  refine wpAny_bind (wpAny_field he hd h1 ?_)
  rw [if_pos (by simp : (Value.ref T != Value.none) = true)]
  have up := Heap.get?_update_self (Obj.mapFields (·.setIfInBounds 3 (v.elim .none fun f => rawInt f))) ht (Obj.isFreed_of_fields (Obj.data_mapFields hdt _))
  refine wpAny_setField ht hdt (Array.getElem?_eq_some_iff.mp h3).1 (hq _ ⟨⟨oe, vs, (Heap.get?_update_other _ _ ne).trans he, hc, hx, hd, h1, hz2⟩, ⟨_, _, up, Obj.data_mapFields hdt _, ?_⟩, ne⟩ ⟨fun b o q _ x => ?_, fun b o q x => ⟨o.slots, ?_⟩, fun b o q => ?_⟩)
  · simp [(Array.getElem?_eq_some_iff.mp h3).1]
  · exact (Heap.get?_update_other _ _ (fun z => x (by simp [z]))).trans q
  · exact (Heap.get?_update_other _ _ (fun z => x (by simp [z]))).trans q
  · by_cases z : b = T
    · subst z
      exact ⟨_, up⟩
    · exact ⟨o, (Heap.get?_update_other _ _ (Ne.symm z)).trans q⟩
theorem fly_next (hfr : A.frames = some (env :: outer)) (hl : s.heap.FunFrames base (env :: outer)) (hf : env.frame = some L) (t : Tr s.heap e C dx T .none)
    (hq : ∀ h' T', s.heap.objs.size <= T' -> Tr h' e C dx T' (rawInt L) -> Mv ((env :: outer).filterMap (·.frame)) [e, T] s.heap h' -> Q () { s with heap := h' }) :
    wpAny M A (noteFrame (.ref e) env) Q E s := by
  obtain ⟨⟨oe, vs, he, hc, hx, hd, h1, hz2⟩, ⟨ot, ts, ht, hdt, h3⟩, ne⟩ := t
  subst hc
  subst hx
  unfold noteFrame
  simp only [hf]
  refine wpAny_bind (wpAny_field he hd h1 ?_)
  rw [if_pos (by simp : (Value.ref T != Value.none) = true)]
  refine wpAny_bind (wpAny_field ht hdt h3 ?_)
  rw [if_neg (by simp [rawInt] : ¬ ((Value.none == rawInt L) = true))]
  have up := Heap.get?_update_self (Obj.mapFields (·.setIfInBounds 3 .none)) ht (Obj.isFreed_of_fields (Obj.data_mapFields hdt _))
  have k : ∀ b o, b ≠ T -> s.heap.get? b = some o -> (s.heap.update T (Obj.mapFields (·.setIfInBounds 3 .none))).get? b = some o := fun b o z q => (Heap.get?_update_other _ _ (Ne.symm z)).trans q
  refine wpAny_bind (wpAny_setField ht hdt (Array.getElem?_eq_some_iff.mp h3).1 ?_)
  refine fly_entry (base := base) hfr (hl.of_keeps fun b o q nf => ⟨o, k b o (fun z => ?_) q, rfl⟩) hf (k e oe (Ne.symm ne) he) hd (Array.getElem?_eq_some_iff.mp h1).1 hz2 fun h' T' hs t m => hq h' T' ?_ t ⟨fun b o q f x => ?_, fun b o q x => ?_, fun b o q => ?_⟩
  · rw [z, ht] at q
    cases q
    exact nf ts hdt
  · rw [Heap.size_after_update] at hs
    exact hs
  · exact m.keep b o (k b o (fun z => x (by simp [z])) q) f fun z => x (by simp at z; simp [z])
  · exact m.slot b o (k b o (fun z => x (by simp [z])) q) fun z => x (by simp at z; simp [z])
  · by_cases z : b = T
    · subst z
      exact m.there b _ up
    · exact m.there b o (k b o z q)
end
end L2
namespace L2
open PySem PySem.Spec PyProof.Rows
theorem HOk.moved {P : Program} {w : World} {H : Hp} {h h' : Heap} {fs xs : List Addr} (x : HOk P w H h) (m : Mv fs xs h h') (hf : ∀ b ∈ fs, H b = none) (hx : ∀ b ∈ xs, H b = none) : HOk P w H h' := fun a o e =>
  (x a o e).stay (fun b u hb q => m.keep b u q (fun z => by
      have n := hf b z
      rcases hb with r | r
      · rw [r, e] at n
        cases n
      · rw [r] at n
        cases n) fun z => by
      have n := hx b z
      rcases hb with r | r
      · rw [r, e] at n
        cases n
      · rw [r] at n
        cases n) (fun _ q => q) fun _ _ q => q
def CXf (P : Program) (w : World) : CXT := fun outer H s E u s' => ∃ (e T : Addr) (C : Value) (dx : Option Addr) (H' : Hp), u = .ref e /\ s'.os = s.os /\ AllBare s'.gens /\ Un (frs outer) [] H H' s.heap s'.heap /\ HOk P w H' s'.heap /\
  Tr s'.heap e C dx T .none /\ (s.heap.objs.size <= e /\ s.heap.objs.size <= T) /\ (H' e = none /\ H' T = none) /\ E C dx H'
def Fl (h : Heap) (H : Hp) (n : Nat) (e : Addr) (C : Value) (dx : Option Addr) : Prop :=
  (∃ oe vs, h.get? e = some oe /\ oe.cls = C /\ oe.dict = dx /\ oe.data = .fields vs /\ vs[1]? = some .none /\ vs[2]? = some .none) \/ ∃ T, Tr h e C dx T .none /\ H T = none /\ n <= T
def Air (X : Cx) (pins : List (Addr × Obj)) (σ : St) (E : XK) (u : Value) (s' : Shared) : Prop := ∃ (e : Addr) (C : Value) (dx : Option Addr) (H' : Hp) (n : Nat), u = .ref e /\ Inv X pins σ H' s' /\ H' e = none /\ X.s₀.heap.objs.size <= n /\ n <= e /\ (∀ p ∈ X.pn ++ pins, p.1 < n) /\ Fl s'.heap H' n e C dx /\ E C dx H'
section
variable {P : Program} {w : World} {K : PySem.W.Frag} {mg : Str -> Option Value} {base : Heap} {N : List Str} {qual : Str} {scope : Scope} {f : Addr} {cd : Value} {A : Around} {outer : List Env} {s : Shared} {H : Hp} {E : XK}
theorem leave_air {pins : List (Addr × Obj)} {σ : St} {u : Value} {s' : Shared} (h : Air (cxOf (CXf P w) P w K mg base N qual scope f cd A outer s H E) pins σ E u s') : (cxOf (CXf P w) P w K mg base N qual scope f cd A outer s H E).xe u s' := by
  obtain ⟨e, C, dx, H', n, rfl, I, ne, hn, he, hp, st, hE⟩ := h
  have fin : ∀ (h2 : Heap) (T : Addr) (xs : List Addr), Tr h2 e C dx T .none -> Mv (frs (cxOf (CXf P w) P w K mg base N qual scope f cd A outer s H E).stack) xs s'.heap h2 -> (∀ b ∈ xs, H' b = none /\ s.heap.objs.size <= b) -> H' T = none -> s.heap.objs.size <= T ->
      CXf P w outer H s E (.ref e) { s' with heap := h2 } := by
    intro h2 T xs t m hx nT sT
    have nst : ∀ (b : Addr) (o : Obj), s.heap.get? b = some o -> b ∉ frs outer -> b ∉ frs (cxOf (CXf P w) P w K mg base N qual scope f cd A outer s H E).stack := fun b o q nb z => by
      rcases List.mem_cons.mp (I.stkSub b z) with r | r
      · exact absurd (show b = (cxOf (CXf P w) P w K mg base N qual scope f cd A outer s H E).env.locals from r) (Nat.ne_of_lt (Nat.lt_of_lt_of_le (Heap.lt_size q) I.ok.above))
      · exact nb r
    have nx : ∀ (b : Addr) (o : Obj), s.heap.get? b = some o -> b ∉ xs := fun b o q z => absurd (Nat.lt_of_lt_of_le (Heap.lt_size q) (hx b z).2) (Nat.lt_irrefl _)
    have B : Un (frs outer) [] H H' s.heap s'.heap := I.base
    refine ⟨e, T, C, dx, H', rfl, I.os, I.bare, ⟨fun b o q n hb hx => ?_, fun b o q n hb hx => ?_, B.free, fun b o q hx => ?_, B.tups, B.frzs, B.tbls⟩, I.hok.moved m I.stkFree fun b hb => (hx b hb).1, t, ⟨Nat.le_trans hn he, sT⟩, ⟨ne, nT⟩, hE⟩
    · exact m.keep b o (B.keep b o q n hb hx) (nst b o q hb) (nx b o q)
    · obtain ⟨sl, q1⟩ := B.slot b o q n hb hx
      obtain ⟨sl2, q2⟩ := m.slot b _ q1 (nx b o q)
      exact ⟨sl2, q2⟩
    · obtain ⟨o1, q1⟩ := B.there b o q hx
      exact m.there b o1 q1
  show wpAny (model P w) _ (leaving _ (.ref e)) _ _ s'
  unfold leaving
  rcases st with ⟨oe, vs, h1, rfl, rfl, h4, h5, h6⟩ | ⟨T0, t0, n0, s0⟩
  · refine wpAny_bind (fly_first I.ok.frames I.stack rfl h1 h4 h5 h6 fun h' T hs t m => fly_set t fun h2 t2 m2 => ?_)
    refine fin h2 T [e, T] t2 ((m.mono (fun _ z => z) fun b z => ?_).trans (m2.mono (fun b z => nomatch z) fun b z => ?_)) (fun b hb => ?_) (I.hok.fresh hs) (Nat.le_trans I.sz hs)
    · simp at z
      simp [z]
    · simp at z
      simp [z]
    · rcases List.mem_cons.mp hb with r | hb
      · rw [r]
        exact ⟨ne, Nat.le_trans hn he⟩
      · rw [List.mem_singleton.mp hb]
        exact ⟨I.hok.fresh hs, Nat.le_trans I.sz hs⟩
  · refine wpAny_bind (fly_next I.ok.frames I.stack rfl t0 fun h' T hs t m => fly_set t fun h2 t2 m2 => ?_)
    refine fin h2 T [e, T0, T] t2 ((m.mono (fun _ z => z) fun b z => ?_).trans (m2.mono (fun b z => nomatch z) fun b z => ?_)) (fun b hb => ?_) (I.hok.fresh hs) (Nat.le_trans I.sz hs)
    · simp at z
      rcases z with z | z <;> simp [z]
    · simp at z
      simp [z]
    · rcases List.mem_cons.mp hb with r | hb
      · rw [r]
        exact ⟨ne, Nat.le_trans hn he⟩
      · rcases List.mem_cons.mp hb with r | hb
        · rw [r]
          exact ⟨n0, Nat.le_trans hn s0⟩
        · rw [List.mem_singleton.mp hb]
          exact ⟨I.hok.fresh hs, Nat.le_trans I.sz hs⟩
theorem air_of {X : Cx} {pins : List (Addr × Obj)} {σ : St} {H1 : Hp} {s1 s2 : Shared} {u : Value} {E' : XK} (hP : X.prog = P) (hw : X.w = w) (I : Inv X pins σ H1 s1) (h : CXf P w X.stack H1 s1 E' u s2) : Air X pins σ E' u s2 := by
  obtain ⟨e, T, C, dx, H', rfl, os, bare, un, hok, t, ⟨se, sT⟩, ⟨ne, nT⟩, hE⟩ := h
  have I2 : Inv X pins σ H' s2 := I.call' (ch := []) os un (by rw [hP, hw]; exact hok) bare (fun b z => absurd z (by simp))
  exact ⟨e, C, dx, H', s1.heap.objs.size, rfl, I2, ne, I.sz, se, fun p hp => Heap.lt_size (I.pin p hp).1, .inr ⟨T, t, nT, sT⟩, hE⟩
theorem passx : Passes (CXf P w) (cxOf (CXf P w) P w K mg base N qual scope f cd A outer s H E) E := fun pins σ H1 s1 u s2 I h => leave_air (air_of rfl rfl I h)
theorem ownx : PassesOwn (model P w) (cxOf (CXf P w) P w K mg base N qual scope f cd A outer s H E).A (cxOf (CXf P w) P w K mg base N qual scope f cd A outer s H E).env (cxOf (CXf P w) P w K mg base N qual scope f cd A outer s H E).xe := PassesOwn.leaving
theorem Fun.byx {x : Str} {st : Stmt} {fd : FuncData} {ps : List Str} {k : Nat} {sp : Sp} (F : Fun K x qual st f fd) (S : FnScope N ps (defScope st)) (len : ∀ vs H Q E, sp vs H Q E -> vs.length = ps.length)
    (hbody : ∀ (cdv : Value) (A : Around) (outer : List Env) (s : Shared) (H : Hp) (vs : List V) (Q : VK) (E : XK), Room k (A.deeper (envOfC qual (defScope st) s.heap.objs.size f cdv)) -> sp vs H Q E ->
      ∃ t, jSs (cxOf (CXf P w) P w K mg base N qual (defScope st) f cdv A outer s H E) (defBody st) t /\ t { nx := fun _ H' => Q .non H', rt := Q } (start N vs) H) : FnOk P w K mg base (CXf P w) (k + 1) f fd ps sp := by
  obtain ⟨oc, od, kV, doc, pm, an, cdv, ct, osl, rfl, lk, hcd⟩ := F.ex
  refine fn_of lk hcd S len fun A outer s H vs Q E hr hsp => ?_
  obtain ⟨t, h, q⟩ := hbody cdv A outer s H vs Q E hr hsp
  exact ⟨t, h.out, q⟩
end
end L2
namespace L2
open PySem
section
variable {M : Model} {A : Around} {E : Value -> Shared -> Prop} {env : Env} {nm q : Str} {C N : Addr} {bs bm : List Value} {hdct : Bool} {sn : List Str} {sub : List Value} {ab : Bool} {col : Option Bool} {dd : Option Addr} {k0 k1 k2 k3 k5 : Option Value} {newId : String}
theorem rs_stmt {s : Shared} {x : Sem Value} {Q : Flow -> Shared -> Prop} (hb : bm.contains (.type "BaseException") = true) (hh : A.handled = none)
    (h : wpAny M A x (fun v s1 => ∃ e oe vs, v = .ref e /\ s1.heap.get? C = some (excClassObj nm q C N bs bm hdct sn sub ab col dd k0 k1 k2 k3 k5 newId) /\ s1.heap.get? e = some oe /\ oe.cls = .ref C /\ oe.data = .fields vs /\ vs[1]? = some .none /\ E (.ref e) s1) E s) :
    wpAny M A (raiseStmt env (some x) none) Q E s := by
  have cB : (Value.ref C :: bm).contains (.type "BaseException") = true := by rw [List.contains_cons, hb, Bool.or_true]
  unfold raiseStmt
  refine wpAny_bind (wpAny_mono h (fun v s1 h1 => ?_) fun _ _ x => x)
  obtain ⟨e, ⟨c, d0, dt, sl⟩, vs, rfl, hC, he, hc, hd, hv, hE⟩ := h1
  dsimp only at hc hd
  subst hc hd
  obtain ⟨hp, g, d, tk, os⟩ := s1
  repeat (first | (with_reducible refine wpAny_field he rfl hv ?_) | with_reducible refine wpAny_loadPart_at he ?_ | with_reducible refine wpAny_loadPart_at hC ?_ | (with_reducible refine wpAny_isSubtype_exc hC ?_; rw [cB]) | wp_step)
  exact wpAny_raiseNew_none hh hE
end
theorem fn_bind {M : Model} {A : Around} {E : Value -> Shared -> Prop} {s : Shared} {f : Addr} {ob : Obj} {self : Value} {Q : Value × List Value -> Shared -> Prop} (h1 : s.heap.get? f = some ob) (h2 : ob.cls = .type "function") (q : Q (.ref f, [self]) s) : wpAny M A (bindSpecial (.ref f) self) Q E s := by
  unfold bindSpecial
  refine wpAny_bind (wpAny_typeOf (T := "function") ⟨ob, h1, h2⟩ ?_)
  exact wpAny_pure q
abbrev tupOf (rest : List Value) : Obj := { cls := .type "tuple", data := .seq rest.toArray }
abbrev excOf (C t : Addr) : Obj := { cls := .ref C, data := .fields #[.ref t, .none, .none, .none, .bool false, .none] }
section
variable {prog : Program} {w : World} {A : Around} {E : Value -> Shared -> Prop} {h : Heap} {g : Array GenState} {d : Drawn} {t : Nat} {os : OsState}
variable {nm q : Str} {C N f : Addr} {bs bm bmB : List Value} {hdct : Bool} {sn : List Str} {sub : List Value} {ab : Bool} {col : Option Bool} {dd : Option Addr} {k0 k1 k2 k3 k5 : Option Value} {B Bn newId nid initId inN : String} {bmN : List Value}
theorem ex_typeCall (Fn : ExcBaseFacts Bn newId inN bmN) (hBn : bmB.contains (.type Bn) = true) (F : ExcBaseFacts B nid initId bmB) (T : OwnTail h bmB bm) {mN : Str -> Option Value} {rest : List Value} {Q : Fin -> Shared -> Prop} {ob : Obj}
    (hC : h.get? C = some (excClassObj nm q C N bs bm hdct sn sub ab col dd k0 k1 k2 k3 k5 newId)) (hn : h.Ns N mN) (hi : mN "__init__" = some (.ref f)) (hf : h.get? f = some ob) (hfc : ob.cls = .type "function") (hrest : rest.length <= sizeLine)
    (hq : wpAny (model prog w) A (call (.ref f) (.ref (h.objs.size + 1) :: rest)) (fun v s' => v = .none /\ Q (.done (.ret (.ref (h.objs.size + 1)))) s') E ⟨(h.push (tupOf rest)).push (excOf C h.objs.size), g, d, t, os⟩) :
    wpAny (model prog w) A (Builtin.«type.__call__» ⟨.ref C :: rest, []⟩) Q E ⟨h, g, d, t, os⟩ := by
  repeat (first | with_reducible refine wpAny_madeBy_exc hC ?_ | with_reducible refine wpAny_loadPart_at hC ?_ | wp_step)
  refine codeAny_call_builtin_code (Code.quiet_builtin _ Fn.quiet) (wpAny_check_new_subU Fn hBn T hC (codeAny_exc_new_subU Fn hBn F T hC ?_ hrest))
  show wpAny _ _ _ _ _ _
  have k : ∀ b o, h.get? b = some o -> ((h.push (tupOf rest)).push (excOf C h.objs.size)).get? b = some o := fun b o e => Heap.get?_push_of_some _ (Heap.get?_push_of_some _ e)
  have C1 := k _ _ hC
  have e1 : ((h.push (tupOf rest)).push (excOf C h.objs.size)).get? (h.objs.size + 1) = some (excOf C h.objs.size) := Heap.get?_push_at (by simp only [Heap.size_push]) rfl
  have cC : (Value.ref C :: bm).contains (.ref C) = true := by simp
  unfold isInstance
  repeat (first | with_reducible refine wpAny_loadPart_at e1 ?_ | (with_reducible refine wpAny_isSubtype_exc C1 ?_; rw [cC]) | wp_step)
  show wpAny _ _ (typeLookup (.ref C) _) _ _ _
  refine wpAny_typeLookup_tail C1 (hn.keeps k) (T.keeps k) F.mroIs F.init.lookup ?_
  rw [hi]
  refine wpAny_holding (wpAny_bind (fn_bind (k _ _ hf) hfc ?_))
  refine wpAny_bind (wpAny_mono hq (fun v s' hv => ?_) fun _ _ x => x)
  obtain ⟨rfl, hv⟩ := hv
  exact wpAny_pure (wpAny_pure hv)
theorem ex_call (Fn : ExcBaseFacts Bn newId inN bmN) (hBn : bmB.contains (.type Bn) = true) (F : ExcBaseFacts B nid initId bmB) (T : OwnTail h bmB bm) {mN : Str -> Option Value} {rest : List Value} {Q : Value -> Shared -> Prop} {ob : Obj}
    (hC : h.get? C = some (excClassObj nm q C N bs bm hdct sn sub ab col dd k0 k1 k2 k3 k5 newId)) (hn : h.Ns N mN) (hi : mN "__init__" = some (.ref f)) (hf : h.get? f = some ob) (hfc : ob.cls = .type "function") (hrest : rest.length <= sizeLine)
    (hq : wpAny (model prog w) (A.under (.builtin "type.__call__" ⟨.ref C :: rest, []⟩)) (call (.ref f) (.ref (h.objs.size + 1) :: rest)) (fun v s' => v = .none /\ Q (.ref (h.objs.size + 1)) s') E ⟨(h.push (tupOf rest)).push (excOf C h.objs.size), g, d, t, os⟩) :
    wpAny (model prog w) A (call (.ref C) rest) Q E ⟨h, g, d, t, os⟩ := by
  have f1 := tc_lookup
  have f2 := tc_bind (.ref C)
  have hT : (⟨h, g, d, t, os⟩ : Shared).TypeIs (.ref C) "type" := ⟨_, hC, rfl⟩
  refine wpAny_call (codeAny_of_tree ?_)
  show wpAny _ _ (callAny (.ref C) ⟨rest, []⟩) _ _ _
  repeat (any_goals (first | assumption | (with_reducible refine wpAny_loadPart_at hC ?_) | wp_step))
  refine ⟨rfl, codeAny_call_builtin_at (Code.quiet_builtin _ (by decide +kernel)) entry_typeCall (wpAny_check_type_call_sub hC ?_)⟩
  exact ex_typeCall Fn hBn F T hC hn hi hf hfc hrest hq
theorem ex_init (F : ExcBaseFacts B nid initId bmB) (T : OwnTail h bmB bm) {e t0 : Addr} {oe : Obj} {vs : Array Value} {rest : List Value} {Q : Value -> Shared -> Prop}
    (hC : h.get? C = some (excClassObj nm q C N bs bm hdct sn sub ab col dd k0 k1 k2 k3 k5 newId)) (he : h.get? e = some oe) (hc : oe.cls = .ref C) (hd : oe.data = .fields vs) (h0 : vs[0]? = some (.ref t0)) (hrest : rest.length <= sizeLine)
    (hq : Q .none ⟨(h.push (tupOf rest)).update e (Obj.mapFields (·.setIfInBounds 0 (.ref h.objs.size))), g, d, t, os⟩) :
    wpAny (model prog w) A (call (.builtin initId) (.ref e :: rest)) Q E ⟨h, g, d, t, os⟩ := by
  refine wpAny_call (codeAny_call_builtin F.init.plain F.initEntry (wpAny_check_init_subU F T hC he hc ?_))
  unfold Builtin.«BaseException.__init__»
  dsimp only
  rw [if_neg (by simp : ¬ ((!List.isEmpty ([] : List (Str × Value))) = true))]
  unfold newTuple Builtin.BaseException.bexcPut
  have e1 := Heap.get?_push_of_some (h := h) (tupOf rest) he
  refine wpAny_bind (wpAny_newObj_type ?_ (by show rest.toArray.size <= sizeLine; rw [List.size_toArray]; exact hrest))
  refine wpAny_bind (wpAny_bind (wpAny_field e1 hd h0 (wpAny_bind (wpAny_setField e1 hd (Array.getElem?_eq_some_iff.mp h0).1 ?_))))
  exact wpAny_letGo (wpAny_pure hq)
end
end L2
namespace L2
open PySem PySem.W PySem.Calls PyProof.Rows Builtin Builtin.ObjectAttr
def bmV : List Value := [.type "ValueError", .type "Exception", .type "BaseException", .type "object"]
theorem refuse_V (self : Value) : refuseLoop self "__setattr__" bmV = pure () := by kernel_rfl
def overV : List Value -> Bool
  | [] => false
  | v :: r => (v :: r) == bmV || (match v with
    | .ref _ => overV r
    | _ => false)
theorem refuse_over (self : Value) : ∀ {l : List Value}, overV l = true -> refuseLoop self "__setattr__" l = pure ()
  | [], e => by cases e
  | v :: r, e => by
    unfold overV at e
    rcases Bool.or_eq_true_iff.mp e with q | q
    · rw [beq_iff_eq.mp q]
      exact refuse_V self
    · split at q
      · rw [refuseLoop_ref]
        exact refuse_over self q
      · cases q
theorem over_has : ∀ {l : List Value}, overV l = true -> l.contains (.type "object") = true /\ l.isEmpty = false
  | [], e => by cases e
  | v :: r, e => by
    unfold overV at e
    rcases Bool.or_eq_true_iff.mp e with q | q
    · rw [beq_iff_eq.mp q]
      exact ⟨by decide, rfl⟩
    · split at q
      · exact ⟨by rw [List.contains_cons, (over_has q).1, Bool.or_true], rfl⟩
      · cases q
def overIn (K : Frag) (C : Addr) : Bool := (clsIn K C).any fun cd => overV cd.mro
section
variable {prog : Program} {w : World} {A : Around} {E : Value -> Shared -> Prop} {K : Frag} {C e : Addr} {s : Shared} {ox : Obj} {od : Option Obj} {name : Str} {R : Result -> Shared -> Prop}
theorem xa_open {tk : Tok} {v : Value} (X : K.In s.heap) (I : InstAt s.heap e ox C od) (hp : overIn K C = true) (ht : takerIn K C name = some none)
    (h : ∀ b, wpAny (model prog w) A.in1 (storeInOwnDict (.ref e) (.ref C) (.str name tk) name v b) (fun fin s' => match fin with | .done f => R (.ok f) s' | .again c' => c'.quiet = true /\ codeAny (model prog w) A c' R s') (fun u s' => R (.error u) s') s) :
    codeAny (model prog w) A (.call (.builtin "object.__setattr__") ⟨[.ref e, .str name tk, v], []⟩) R s := by
  have SF := PySem.F.store_object
  obtain ⟨cd, hc, ho⟩ := any_some hp
  have hm : Looks (model prog w) s.heap (mroOf (.ref C)) cd.mro := (looks_clsIn X hc).andThen .now
  have sub : Looks (model prog w) s.heap (isInstance (.ref e) (.type "object")) true := I.type.andThen (looks_mroIn X (by unfold mroIn; rw [hc, Option.bind_some, if_neg (by rw [(over_has ho).2]; decide), (over_has ho).1]))
  obtain ⟨attr, ha, hr⟩ := Option.bind_eq_some_iff.mp ht
  have tk3 : Looks (model prog w) s.heap (storeTaker? attr) none := by
    cases attr with
    | none => exact .now
    | some a =>
      obtain ⟨b, hb, hn⟩ := Option.map_eq_some_iff.mp hr
      refine (looks_takesIn X hb).andThen ?_
      cases b
      · exact .now
      · cases hn
  refine codeAny_call_builtin SF.slot.plain SF.entry (@check_slot (model prog w) _ _ s "object.__setattr__" "object" "__setattr__" (.ref e) [.str name tk, v] [] _ SF.kind SF.split sub (SF.args (.ref e) (.str name tk) v) ?_)
  rw [osa_eq, refuse_eq]
  refine wpAny_bind (wpAny_bind (I.type.here (wpAny_bind (hm.here ?_))))
  rw [refuse_over _ ho]
  exact wpAny_pure (wpAny_bind (I.type.here (wpAny_bind ((looks_findIn X ha).here (wpAny_bind (tk3.here (h _)))))))
theorem xs_new {oe : Obj} {vs : Array Value} {v : Value} {Q : Unit -> Shared -> Prop} (X : K.In s.heap) (he : s.heap.get? e = some oe) (hc : oe.cls = .ref C) (hx : oe.dict = none) (hd : oe.data = .fields vs)
    (hs : findIn K (.ref C) "__setattr__" = some (some (.builtin "object.__setattr__"))) (hp : overIn K C = true) (ht : takerIn K C name = some none) (hh : (clsIn K C).any (·.hasDict) = true)
    (h : ∀ h', h'.Ns1 s.heap.objs.size (fun y => if y = name then some v else none) -> h'.get? e = some { oe with dict := some s.heap.objs.size } -> (∀ b o, b ≠ e -> s.heap.get? b = some o -> h'.get? b = some o) -> Q () { s with heap := h', toks := s.toks + 2 }) :
    wpAny (model prog w) A (setAttr (.ref e) name v) Q E s := by
  have J : InstAt s.heap e oe C none := ⟨he, hc, by unfold notCls; rw [hd], by rw [hx]; trivial⟩
  refine set_plain X J hs (xa_open (s := { s with toks := s.toks + 1 }) X J hp ht fun b => ?_)
  obtain ⟨cd, hcd, hdd⟩ := any_some hh
  obtain ⟨oc, odi, oda, osl⟩ := oe
  dsimp only at hc hx hd
  subst hc hx hd
  refine wpAny_bind (wpAny_pure (wpAny_bind (wpAny_bind (wpAny_loadPart he (wpAny_bind (Looks.here (s := { s with toks := s.toks + 1 }) (looks_clsIn X hcd) ?_))))))
  rw [hdd]
  have e1 := Heap.get?_push_of_some (h := s.heap) PySem.W.emptyDict he
  have ne : s.heap.objs.size ≠ e := Nat.ne_of_gt (Heap.lt_size he)
  have d1 : (s.heap.push PySem.W.emptyDict).get? s.heap.objs.size = some PySem.W.emptyDict := Heap.get?_push_size _ rfl
  have d2 : ((s.heap.push PySem.W.emptyDict).update e fun o => { o with dict := some s.heap.objs.size }).get? s.heap.objs.size = some PySem.W.emptyDict := (Heap.get?_update_other _ _ (Ne.symm ne)).trans d1
  have e2 := Heap.get?_update_self (fun o => { o with dict := some s.heap.objs.size }) e1 rfl
  have n2 : ((s.heap.push PySem.W.emptyDict).update e fun o => { o with dict := some s.heap.objs.size }).Ns s.heap.objs.size (fun _ => none) := ⟨PySem.W.emptyDict, #[], _, d2, rfl, (fun z hz => absurd hz (by simp)), fun _ => rfl⟩
  show wpAny _ _ (alloc PySem.W.emptyDict >>= _) _ _ _
  refine wpAny_bind (wpAny_alloc (wpAny_bind (wpAny_update e1 ?_)))
  refine wpAny_pure (a := some s.heap.objs.size) (wpAny_bind (wpAny_pure (wpAny_bind ?_)))
  refine wpAny_nsSet1 (Heap.Ns1.of_empty n2) fun h' hn hsb => ?_
  obtain ⟨oD, esD, epD, hoD, hdD, hcD⟩ := hn.count (PySem.Within.cons name v PySem.Within.nil)
  refine wpAny_bind (wpAny_lookBehind hoD (by rw [hdD]; exact pastItsLine_dict (Nat.le_trans hcD (by show 1 <= sizeLine + 1; omega))) (wpAny_pure ?_))
  refine h h' hn ((hsb.2 _ (Ne.symm ne)).trans e2) fun b o nb q => ?_
  rw [hsb.2 b (Nat.ne_of_lt (Heap.lt_size q)), Heap.get?_update_other _ _ (Ne.symm nb)]
  exact Heap.get?_push_of_some _ q
theorem xs_more {oe : Obj} {vs : Array Value} {v : Value} {dx : Addr} {mA : Str -> Option Value} {ns : List Str} {Q : Unit -> Shared -> Prop} (X : K.In s.heap) (he : s.heap.get? e = some oe) (hc : oe.cls = .ref C) (hx : oe.dict = some dx) (hd : oe.data = .fields vs) (hn : s.heap.Ns1 dx mA) (hw : PySem.Within mA ns) (hz : ns.length <= sizeLine)
    (hs : findIn K (.ref C) "__setattr__" = some (some (.builtin "object.__setattr__"))) (hp : overIn K C = true) (ht : takerIn K C name = some none) (hh : (clsIn K C).any (·.hasDict) = true)
    (h : ∀ h', h'.Ns1 dx (fun y => if y = name then some v else mA y) -> (∀ b, b ≠ dx -> h'.get? b = s.heap.get? b) -> Q () { s with heap := h', toks := s.toks + 2 }) :
    wpAny (model prog w) A (setAttr (.ref e) name v) Q E s := by
  obtain ⟨od, eo, ep, ho, hr⟩ := id hn
  have J : InstAt s.heap e oe C (some od) := ⟨he, hc, by unfold notCls; rw [hd], by rw [hx]; exact ho⟩
  refine set_plain X J hs (xa_open (s := { s with toks := s.toks + 1 }) X J hp ht fun b => ?_)
  obtain ⟨cd, hcd, hdd⟩ := any_some hh
  obtain ⟨oc, odi, oda, osl⟩ := oe
  dsimp only at hc hx hd
  subst hc hx hd
  refine wpAny_bind (wpAny_pure (wpAny_bind (wpAny_bind (wpAny_loadPart he (wpAny_bind (Looks.here (s := { s with toks := s.toks + 1 }) (looks_clsIn X hcd) ?_))))))
  rw [hdd]
  refine wpAny_pure (a := some dx) (wpAny_bind (wpAny_pure (wpAny_bind ?_)))
  refine wpAny_nsSet1 (s := { s with toks := s.toks + 1 }) hn fun h' hn2 hsb => ?_
  obtain ⟨oD, esD, epD, hoD, hdD, hcD⟩ := hn2.count (PySem.Within.cons name v hw)
  refine wpAny_bind (wpAny_lookBehind hoD (by rw [hdD]; exact pastItsLine_dict (Nat.le_trans hcD (by rw [List.length_cons]; omega))) (wpAny_pure ?_))
  exact h h' hn2 fun b nb => hsb.2 b nb
end
end L2
namespace L2
open PySem PySem.Spec PyProof.Rows
def XO (e C : Addr) (dx : Option Addr) : HO := .ext fun h => ∃ oe vs t0, h.get? e = some oe /\ oe.cls = .ref C /\ oe.dict = dx /\ oe.data = .fields vs /\ vs[0]? = some (.ref t0) /\ vs[1]? = some .none /\ vs[2]? = some .none
theorem XO.ok {P : Program} {w : World} {H : Hp} {h : Heap} {e C : Addr} {dx : Option Addr} (p : ∃ oe vs t0, h.get? e = some oe /\ oe.cls = .ref C /\ oe.dict = dx /\ oe.data = .fields vs /\ vs[0]? = some (.ref t0) /\ vs[1]? = some .none /\ vs[2]? = some .none) : ObjOk P w H h e (XO e C dx) :=
  ⟨p, let ⟨oe, _, _, q, _⟩ := p; ⟨oe, q⟩, fun _ _ ⟨oe, vs, t0, a, r⟩ k => ⟨oe, vs, t0, k oe a, r⟩⟩
theorem XO.get {P : Program} {w : World} {H : Hp} {h : Heap} {e C : Addr} {dx : Option Addr} (x : HOk P w H h) (q : H e = some (XO e C dx)) : ∃ oe vs t0, h.get? e = some oe /\ oe.cls = .ref C /\ oe.dict = dx /\ oe.data = .fields vs /\ vs[0]? = some (.ref t0) /\ vs[1]? = some .none /\ vs[2]? = some .none :=
  (show ObjOk P w H h e (.ext _) from x e _ q).1
def XD (d : Addr) (fs : List (Str × V)) : HO := .ext fun h => ∃ mA, h.Ns1 d mA /\ (∀ f, RelO (fs.lookup f) (mA f)) /\ PySem.Within mA (fs.map (·.1)) /\ fs.length <= 1000
theorem XD.ok {P : Program} {w : World} {H : Hp} {h : Heap} {d : Addr} {fs : List (Str × V)} (p : ∃ mA, h.Ns1 d mA /\ (∀ f, RelO (fs.lookup f) (mA f)) /\ PySem.Within mA (fs.map (·.1)) /\ fs.length <= 1000) : ObjOk P w H h d (XD d fs) :=
  ⟨p, let ⟨_, ⟨o, _, _, q, _⟩, _⟩ := p; ⟨o, q⟩, fun _ _ ⟨mA, n, r⟩ k => ⟨mA, n.at k, r⟩⟩
theorem XD.get {P : Program} {w : World} {H : Hp} {h : Heap} {d : Addr} {fs : List (Str × V)} (x : HOk P w H h) (q : H d = some (XD d fs)) : ∃ mA, h.Ns1 d mA /\ (∀ f, RelO (fs.lookup f) (mA f)) /\ PySem.Within mA (fs.map (·.1)) /\ fs.length <= 1000 :=
  (show ObjOk P w H h d (.ext _) from x d _ q).1
def xIn (K : PySem.W.Frag) (C f : Addr) : Bool := match K.lookup C with
  | some ⟨.type "type", _, .cls cd, sl⟩ => (match cd.mro, sl.toList with
    | .ref C' :: bm, [_, _, _, _, some (.builtin n), _] => C' == C && n == "ValueError.__new__" && !cd.hasDel && PySem.W.tailIn K bmV bm && PySem.W.nsOkIn K cd.ns && PySem.W.nsIn K cd.ns "__init__" == some (some (.ref f)) && bm.contains (.type "BaseException")
    | _, _ => false)
  | _ => false
structure XCl (K : PySem.W.Frag) (C f : Addr) : Prop where
  cls : xIn K C f = true
  fn : PySem.W.typeIn K (.ref f) = some (.type "function")
  kp : PySem.W.keepIn K (.ref C) = true
  over : overIn K C = true
  sa : PySem.W.findIn K (.ref C) "__setattr__" = some (some (.builtin "object.__setattr__"))
  hd : (PySem.W.clsIn K C).any (·.hasDict) = true
  ga : PySem.W.findIn K (.ref C) "__getattribute__" = some (some (.builtin "BaseException.__getattribute__"))
  ha : PySem.W.findIn K (.ref C) "__getattr__" = some none
  sb : PySem.W.subIn K (.ref C) (.type "BaseException") = some true
theorem ns_some {K : PySem.W.Frag} {h : Heap} {N : Addr} {mg : Str -> Option Value} {n : Str} {v : Value} (X : K.In h) (G : h.Ns N mg) (e : PySem.W.nsIn K N n = some (some v)) : mg n = some v := by
  obtain ⟨o, es, ep, ho, hd, _, hf⟩ := G
  unfold PySem.W.nsIn at e
  split at e
  · rename_i c d es' n' sl q
    have := X _ _ q
    rw [ho] at this
    cases this
    cases hd
    split at e
    · rename_i en he
      cases e
      rw [<- hf]
      unfold nsFind findBy
      rw [<- Array.find?_toList, he]
      rfl
    · split at e <;> cases e
  · cases e
theorem XCl.at {K : PySem.W.Frag} {C f : Addr} (c : XCl K C f) {h : Heap} (X : K.In h) : ∃ nm q N bs bm hdct sn sub ab col dd k0 k1 k2 k3 k5 mN, h.get? C = some (excClassObj nm q C N bs bm hdct sn sub ab col dd k0 k1 k2 k3 k5 "ValueError.__new__") /\
    OwnTail h bmV bm /\ h.Ns N mN /\ mN "__init__" = some (.ref f) /\ bm.contains (.type "BaseException") = true := by
  have q := c.cls
  unfold xIn at q
  split at q
  · rename_i dd cd sl ho
    split at q
    · rename_i C' bm k0 k1 k2 k3 n k5 hm hs
      simp only [Bool.and_eq_true, beq_iff_eq, Bool.not_eq_true'] at q
      obtain ⟨⟨⟨⟨⟨⟨rfl, rfl⟩, hdel⟩, ht⟩, hok⟩, hi⟩, hb⟩ := q
      obtain ⟨nm, bs, mro, ns, qn, hd, sn, sub, ab, col, del⟩ := cd
      dsimp only at hm hdel hok hi
      subst hm hdel
      have es : sl = #[k0, k1, k2, k3, some (.builtin "ValueError.__new__"), k5] := by
        obtain ⟨l⟩ := sl
        simp only at hs
        rw [hs]
      subst es
      have nN := PySem.Heap.Ns.of_isNs (PySem.W.isNs_of_in X hok)
      exact ⟨nm, qn, ns, bs, bm, hd, sn, sub, ab, col, dd, k0, k1, k2, k3, k5, _, X _ _ ho, PySem.W.tail_of_in X ht, nN, ns_some X nN hi, hb⟩
    · cases q
  · cases q
def drp (H : Hp) (e : Addr) : Hp := fun b => if b = e then none else H b
theorem drp_same {H : Hp} {e : Addr} : drp H e e = none := if_pos rfl
theorem drp_ne {H : Hp} {e b : Addr} (h : b ≠ e) : drp H e b = H b := if_neg h
theorem Inv.drop {X : Cx} {pins : List (Addr × Obj)} {σ : St} {H : Hp} {s : Shared} {e : Addr} {φ : Heap -> Prop} (I : Inv X pins σ H s) (he : H e = some (.ext φ)) : Inv X pins σ (drp H e) s := by
  have no : ∀ b, H b = none -> drp H e b = none := fun b h => by
    by_cases q : b = e
    · rw [q]
      exact drp_same
    · rw [drp_ne q]
      exact h
  have nx : ∀ (b : Addr) (o : HO), H b = some o -> (∀ ψ, o ≠ .ext ψ) -> drp H e b = some o := fun b o h n => by
    have q : b ≠ e := fun z => by
      rw [z, he] at h
      cases h
      exact n _ rfl
    rw [drp_ne q]
    exact h
  refine ⟨I.ok, I.os, I.bare, ⟨I.base.keep, I.base.slot, fun b o q n x => no b (I.base.free b o q n x), I.base.there, fun b xs q => nx _ _ (I.base.tups b xs q) (by intro ψ z; cases z), fun b o u q => nx _ _ (I.base.frzs b o u q) (by intro ψ z; cases z), fun b ps q => ?_⟩, I.loc, I.cell, no _ I.free, fun x c q => no _ (I.freeC x c q), fun p hp => ?_, fun a o q => ?_, I.len⟩
  · obtain ⟨m, r⟩ := I.base.tbls b ps q
    exact ⟨m, nx _ _ r (by intro ψ z; cases z)⟩
  · obtain ⟨a, b, c⟩ := I.pin p hp
    exact ⟨a, no _ b, c⟩
  · have na : a ≠ e := fun z => by
      rw [z, drp_same] at q
      cases q
    rw [drp_ne na] at q
    exact (I.hok a o q).stay (fun _ _ _ z => z) (fun b z => nx b _ z (by intro ψ y; cases y)) fun b xs z => nx b _ z (by intro ψ y; cases y)
def Throws (X : Cx) (E : XK) : Prop := ∀ (pins : List (Addr × Obj)) (σ : St) (u : Value) (s' : Shared), Air X pins σ E u s' -> X.xe u s'
theorem throwx {P : Program} {w : World} {K : PySem.W.Frag} {mg : Str -> Option Value} {base : Heap} {N : List Str} {qual : Str} {scope : Scope} {f : Addr} {cd : Value} {A : Around} {outer : List Env} {s : Shared} {H : Hp} {E : XK} :
    Throws (cxOf (CXf P w) P w K mg base N qual scope f cd A outer s H E) E := fun _ _ _ _ h => leave_air h
def tRaise (C : Addr) (sp : Sp) (E : XK) (t : TA) : TS := fun _ σ H => t σ H fun vs H1 => vs.length <= sizeLine /\ ∀ e, H1 e = none -> sp (.ref e :: vs) (upd H1 e (XO e C none)) (fun v H2 => v = .non /\ ∃ dx, H2 e = some (XO e C dx) /\ E (.ref C) dx (drp H2 e)) E0
section
variable {X : Cx} {k : Nat} {f C : Addr} {fd : FuncData} {ps : List Str} {sp : Sp} {E : XK} {x : Str} {np cpos pos : Pos} {a : Expr} {as : List Expr} {t : TA}
theorem ps_raise (M : XCl X.K C f) (F : FnOk X.prog X.w X.K X.mg X.base CX0 k f fd ps sp) (hr : Room (k + 1) X.A) (hg : Gl X x) (hm : X.mg x = some (.ref C)) (hb : Binds X.K fd ps []) (hx : Throws X E)
    (ha : PA X (a :: as) t) (hdb : (x == ("__debug__" : Str)) = false := by decide) (h1 : isStar a = false := by rfl) (h2 : as.all (fun e => !isStar e) = true := by rfl) :
    PS X (.Raise (some (.Call (.Name x np) (a :: as) [] cpos)) none pos) (tRaise C sp E t) := by
  intro pins s σ H D I h
  obtain ⟨nm, q, N, bs, bm, hdct, sn, sub, ab, col, dd, k0, k1, k2, k3, k5, mN, hC0, T0, n0, i0, hB⟩ := M.at I.mod.kin
  rw [arm_exec_Raise]
  simp only [evalOpt, Option.map]
  refine wpAny_bind (wpAny_standAt (rs_stmt (C := C) (nm := nm) (q := q) (N := N) (bs := bs) (hdct := hdct) (sn := sn) (sub := sub) (ab := ab) (col := col) (dd := dd) (k0 := k0) (k1 := k1) (k2 := k2) (k3 := k3) (k5 := k5) (newId := "ValueError.__new__") hB hr.hd (wpAny_bind ?_)))
  refine wpAny_Call_Name_kw (ld_glob I hg hm ?_ hdb)
  refine PySem.W.callWith_K (h₀ := X.base) I.ok.mod.kin M.kp (thn (ha cpos pins s σ H _ I h) fun us s1 ⟨vs, H1, I1, r, hl, q1⟩ => ⟨I1.kIn, ?_⟩) (star_cons h1) (star_any h2)
  obtain ⟨hh, g, d, tk, os⟩ := s1
  have kb : ∀ b o, X.base.get? b = some o -> hh.get? b = some o := I1.bk
  have e0 : H1 (hh.objs.size + 1) = none := I1.hok.fresh (Nat.le_succ _)
  obtain ⟨of, hof, hofc⟩ := Option.map_eq_some_iff.mp M.fn
  have hof' : hh.get? f = some of := I1.kIn _ _ hof
  refine ex_call PySem.F.excBase_ValueError (by decide +kernel) PySem.F.excBase_ValueError (T0.keeps kb) (kb _ _ hC0) (n0.keeps kb) i0 hof' hofc (show us.length <= sizeLine by rw [<- r.length]; exact hl) ?_
  have ex : ((hh.push (tupOf us)).push (excOf C hh.objs.size)).get? (hh.objs.size + 1) = some (excOf C hh.objs.size) := Heap.get?_push_at (by simp only [Heap.size_push]) rfl
  have I2 : Inv X pins σ (upd H1 (hh.objs.size + 1) (XO (hh.objs.size + 1) C none)) ⟨(hh.push (tupOf us)).push (excOf C hh.objs.size), g, d, tk, os⟩ :=
    I1.laid (a := hh.objs.size + 1) (o := XO (hh.objs.size + 1) C none) (t' := tk) (fun b u q => Heap.get?_push_of_some _ (Heap.get?_push_of_some _ q)) (Nat.le_succ _) (XO.ok ⟨excOf C hh.objs.size, _, hh.objs.size, ex, rfl, rfl, rfl, rfl, rfl, rfl⟩)
  have hq := q1 _ e0
  have r2 : Vals (V.ref (hh.objs.size + 1) :: vs) (Value.ref (hh.objs.size + 1) :: us) := .cons rfl r
  have hlen : (Value.ref (hh.objs.size + 1) :: us).length = ps.length := by rw [<- r2.length]; exact F.len _ _ _ _ hq
  have bd := hb ⟨(hh.push (tupOf us)).push (excOf C hh.objs.size), g, d, tk, os⟩ (Value.ref (hh.objs.size + 1) :: us) I2.kIn (by rw [List.append_nil]; exact hlen)
  rw [List.append_nil] at bd
  refine wpAny_call (codeAny_mono (F.run _ X.stack _ _ ⟨Value.ref (hh.objs.size + 1) :: us, []⟩ (Value.ref (hh.objs.size + 1) :: us) _ _ E0 (hr.make C us []) (I2.env0.make C us []) bd r2 hq) fun r s' hq' => ?_)
  cases r with
  | error u => exact False.elim hq'
  | ok fl =>
    cases fl with
    | ret u =>
      obtain ⟨v, H', I3, rv, ev, dx, hH, hE⟩ := I2.after hq'
      subst ev
      obtain ⟨oe, ws, t0, g1, g2, g3, g4, g5, g6⟩ := XO.get I3.hok hH
      exact ⟨rv, wpAny_bind (wpAny_standAt (wpAny_pure ⟨_, oe, ws, rfl, I3.bk _ _ hC0, g1, g2, g4, g6.1, hx pins σ _ s' ⟨_, .ref C, dx, drp H' (hh.objs.size + 1), hh.objs.size, rfl, I3.drop hH, drp_same, I1.sz, Nat.le_succ _, fun p hp => Heap.lt_size (I1.pin p hp).1, .inl ⟨oe, ws, g1, g2, g3, g4, g6⟩, hE⟩⟩))⟩
    | next => exact False.elim hq'
    | brk => exact False.elim hq'
    | cont => exact False.elim hq'
end
structure XBase (K : PySem.W.Frag) (R : Addr) : Prop where
  sp : PySem.W.specialIn K (.ref R) "__getattribute__" = some (some (.builtin "type.__getattribute__"))
  rd : PySem.W.readsIn K R (.type "type") = true
  fi : PySem.W.findCls K (.ref R) (.type "type") "__init__" = some (.val (.builtin "ValueError.__init__"))
def tXInit (C : Addr) (t : TA) : TE := fun σ H Q => t σ H fun vs H1 => ∃ e rest dx, vs = .ref e :: rest /\ rest.length <= sizeLine /\ H1 e = some (XO e C dx) /\ Q .non H1
theorem upd_id {H : Hp} {e : Addr} {o : HO} (h : H e = some o) : upd H e o = H := by
  funext b
  unfold upd
  split
  · rename_i q
    rw [q, h]
  · rfl
section
variable {X : Cx} {f C R : Addr} {x m : Str} {np apos pos pos' : Pos} {a o e value : Expr} {as : List Expr} {t : TA} {ta tv te : TE}
theorem pe_xinit {pl : Sem Bool} (M : XCl X.K C f) (B : XBase X.K R) (hg : Gl X x) (hm : X.mg x = some (.ref R)) (ha : PA X (a :: as) t) (hdb : (x == ("__debug__" : Str)) = false := by decide) (h1 : isStar a = false := by rfl) (h2 : as.all (fun e => !isStar e) = true := by rfl)
    (ht : eval (.Call (.Attribute (.Name x np) "__init__" apos) (a :: as) [] pos) X.env = (do
      let ov <- eval (.Name x np) X.env
      standAt apos.atName
      let (f, first) <- holding [ov] (getMethod ov "__init__" pl)
      callWith pos f first (backTo pos (starEach (a :: as) X.env)) (backToKw pos (keywordEach [] X.env))) := by rfl) :
    PE X (.Call (.Attribute (.Name x np) "__init__" apos) (a :: as) [] pos) (tXInit C t) := by
  intro pins s σ H Q I h
  refine PySem.W.methodCall_KW (pl := pl) (ld_glob I hg hm ?_ hdb) ht
  refine PySem.W.method_cls I.kIn B.sp (PySem.W.cls_value I.kIn B.rd B.fi (by decide +kernel) ?_)
  have I0 : Inv X pins σ H { s with toks := s.toks + 1 } := I.tok _
  refine PyProof.Rows.callWith_builtin1 (thn (ha pos pins _ σ H _ I0 h) fun us s1 ⟨vs, H1, I1, r, e, rest, dx, ev, hl, hH, q⟩ => ?_) (star_cons h1) (star_any h2)
  subst ev
  obtain ⟨ue, ur, rfl, re, rr⟩ : ∃ ue ur, us = ue :: ur /\ RelV (.ref e) ue /\ Vals rest ur := by
    cases r with
    | cons p q => exact ⟨_, _, rfl, p, q⟩
  obtain rfl : ue = Value.ref e := re
  obtain ⟨oe, ws, t0, g1, g2, g3, g4, g5, g6⟩ := XO.get I1.hok hH
  obtain ⟨nm, q', N, bs, bm, hdct, sn, sub, ab, col, dd, k0, k1, k2, k3, k5, mN, hC, T, _, _, _⟩ := M.at I1.kIn
  obtain ⟨hh, g, d, tk, os⟩ := s1
  refine ex_init PySem.F.excBase_ValueError T hC g1 g2 g4 g5 (by rw [<- rr.length]; exact hl) ?_
  have e1 := Heap.get?_push_of_some (h := hh) (tupOf ur) g1
  have up := Heap.get?_update_self (Obj.mapFields (·.setIfInBounds 0 (.ref hh.objs.size))) e1 (Obj.isFreed_of_fields (Obj.data_mapFields g4 _))
  have sz : 0 < ws.size := (Array.getElem?_eq_some_iff.mp g5).1
  have I2 := I1.write (x := e) (e := e) (o := XO e C dx) (h' := (hh.push (tupOf ur)).update e (Obj.mapFields (·.setIfInBounds 0 (.ref hh.objs.size)))) (t' := tk) (by rw [hH]; exact True.intro) (.inl rfl)
    (fun b u nb q => (Heap.get?_update_other _ _ (Ne.symm nb)).trans (Heap.get?_push_of_some _ q)) ⟨_, up⟩
    (XO.ok ⟨_, _, hh.objs.size, up, (Obj.cls_mapFields _ _).trans g2, (dict_mapFields _ _).trans g3, Obj.data_mapFields g4 _, by simp [sz], by rw [Array.getElem?_setIfInBounds_ne (by decide)]; exact g6.1, by rw [Array.getElem?_setIfInBounds_ne (by decide)]; exact g6.2⟩)
  rw [upd_id hH] at I2
  exact ⟨.non, H1, I2, rfl, q⟩
def sXNew (K : PySem.W.Frag) (C : Addr) (ta tv : TE) (m : Str) : TS := fun D σ H => tv σ H fun y H1 => ta σ H1 fun x H2 => ∃ e, x = .ref e /\ H2 e = some (XO e C none) /\ PySem.W.takerIn K C m = some none /\ ∀ d, H2 d = none -> d ≠ e -> D.nx σ (upd (upd H2 d (XD d [(m, y)])) e (XO e C (some d)))
theorem ps_xnew (M : XCl X.K C f) (ha : PE X o ta) (hv : PE X value tv) (hs : swapsWith value (some (.Attribute o m pos')) pos.line X.env = pure false := by rfl) : PS X (.Assign [.Attribute o m pos'] value pos) (sXNew X.K C ta tv m) := by
  intro pins s σ H D I h
  refine plainObj_wpAny_Assign_Attribute (thn (hv pins s σ H _ I h) fun u s1 ⟨y, H1, I1, ry, q⟩ => thn (ha pins s1 σ H1 _ I1 q) fun ov s2 ⟨x, H2, I2, rx, e, ex, hH, hk, q2⟩ => ?_) hs
  subst ex
  obtain rfl : ov = Value.ref e := rx
  obtain ⟨oe, ws, t0, g1, g2, g3, g4, g5, g6⟩ := XO.get I2.hok hH
  refine xs_new I2.kIn g1 g2 g3 g4 M.sa M.over hk M.hd fun h' hn he kp => ?_
  have nd : s2.heap.objs.size ≠ e := Nat.ne_of_gt (Heap.lt_size g1)
  have fd : H2 s2.heap.objs.size = none := I2.hok.fresh (Nat.le_refl _)
  have ns : ∀ (b : Addr) (u : HO), H2 b = some u -> (∀ ψ, u ≠ .ext ψ) -> upd (upd H2 s2.heap.objs.size (XD s2.heap.objs.size [(m, y)])) e (XO e C (some s2.heap.objs.size)) b = some u := fun b u q nx => by
    have n1 : b ≠ e := fun z => by
      rw [z, hH] at q
      cases q
      exact nx _ rfl
    rw [upd_ne n1, upd_ne (ne_of_none q fd)]
    exact q
  have ne' : ∀ b, H2 b = none -> b ≠ e := fun b q z => by
    rw [z, hH] at q
    cases q
  refine ⟨σ, _, I2.un (H' := upd (upd H2 s2.heap.objs.size (XD s2.heap.objs.size [(m, y)])) e (XO e C (some s2.heap.objs.size))) (h' := h') (t' := s2.toks + 2) ⟨fun b o q n _ _ => kp b o (ne' b n) q, fun b o q n _ _ => ⟨o.slots, kp b o (ne' b n) q⟩, fun b o q n _ => ?_, fun b o q _ => ?_, fun b xs q => ns b _ q (by intro ψ z; cases z), fun b o u q => ns b _ q (by intro ψ z; cases z), fun b ps q => ⟨#[], by rw [ns b _ q (by intro ψ z; cases z)]; simp⟩⟩ fun b u q => ?_, q2 _ fd nd⟩
  · rw [upd_ne (ne' b n), upd_ne (Nat.ne_of_lt (Heap.lt_size q))]
    exact n
  · by_cases z : b = e
    · rw [z]
      exact ⟨_, he⟩
    · exact ⟨o, kp b o z q⟩
  · by_cases z : b = e
    · subst z
      rw [upd_same] at q
      cases q
      exact XO.ok ⟨_, ws, t0, he, g2, rfl, g4, g5, g6⟩
    · rw [upd_ne z] at q
      by_cases z2 : b = s2.heap.objs.size
      · subst z2
        rw [upd_same] at q
        cases q
        refine XD.ok ⟨_, hn, fun f => ?_, fun f hf => ?_, show 1 <= 1000 by decide⟩
        · rw [List.lookup_cons]
          by_cases w : f = m
          · rw [if_pos w, w, beq_self_eq_true]
            exact ry
          · rw [if_neg w, beq_eq_false_iff_ne.mpr w]
            exact True.intro
        · by_cases w : f = m
          · rw [w]
            exact List.mem_cons_self
          · exact absurd (if_neg w) hf
      · rw [upd_ne z2] at q
        refine (I2.hok b u q).stay (fun c v hc r => kp c v (fun w => ?_) r) (fun c r => ns c _ r (by intro ψ z; cases z)) fun c xs r => ns c _ r (by intro ψ z; cases z)
        rcases hc with hc | hc
        · exact z (hc.symm.trans w)
        · rw [w, hH] at hc
          cases hc
end
end L2
namespace L2
open PySem PySem.Spec PyProof.Rows
section
variable {X : Cx} {pins : List (Addr × Obj)} {σ : St} {H : Hp} {s : Shared} {h' : Heap} {xs : List Addr}
theorem Inv.moved (I : Inv X pins σ H s) (m : Mv (frs X.stack) xs s.heap h')
    (hx : ∀ b ∈ xs, H b = none /\ (b ∈ X.ex \/ X.s₀.heap.objs.size <= b) /\ b ≠ X.env.locals /\ (∀ x c, X.env.cells.lookup x = some c -> c ≠ b) /\ ∀ p ∈ X.pn ++ pins, p.1 ≠ b) : Inv X pins σ H { s with heap := h' } :=
  I.call (g' := s.gens) (d' := s.drawn) (t' := s.toks) (ch := xs) ⟨fun b o q _ f x => m.keep b o q f x, fun b o q _ _ x => m.slot b o q x, fun _ _ _ n _ => n, fun b o q _ => m.there b o q, fun _ _ q => q, fun _ _ _ q => q, fun _ ps q => ⟨#[], by rw [q]; simp⟩⟩
    (I.hok.moved m I.stkFree fun b hb => (hx b hb).1) I.bare fun b hb => (hx b hb).2
theorem Inv.apart (I : Inv X pins σ H s) {b : Addr} {o : Obj} {vs : Array Value} (q : s.heap.get? b = some o) (d : o.data = .fields vs) : b ≠ X.env.locals /\ ∀ x c, X.env.cells.lookup x = some c -> c ≠ b := by
  refine ⟨fun z => ?_, fun x c e z => ?_⟩
  · obtain ⟨m, ⟨o', es, ep, ho, hd, _⟩, _⟩ := I.loc
    rw [z, ho] at q
    cases q
    rw [hd] at d
    cases d
  · obtain ⟨v, o', ho, hd⟩ := I.cell x c e
    rw [z, q] at ho
    cases ho
    rw [d] at hd
    cases hd
abbrev Cx.inEx (X : Cx) (u : Value) (p : List (Addr × Obj)) : Cx := { X with A := X.A.mark (some u), calm := false, pn := p ++ X.pn, xe := fun _ _ => False }
theorem Inv.inEx (I : Inv X pins σ H s) (u : Value) {p : List (Addr × Obj)} (hp : ∀ q ∈ p, s.heap.get? q.1 = some q.2 /\ H q.1 = none /\ q.1 ≠ X.env.locals /\ q.1 ∉ X.fs /\ ∀ v, q.2.data ≠ .cell v) : Inv (X.inEx u p) pins σ H s :=
  ⟨⟨I.ok.mod, I.ok.kind, I.ok.glob, I.ok.blt, I.ok.above, I.ok.inj, I.ok.has, I.ok.cab, (fun z => nomatch z), I.ok.frames, I.ok.stk, I.ok.exf, I.ok.bs, I.ok.bsz, I.ok.noex, I.ok.exfs, I.ok.funs, I.ok.frf⟩, I.os, I.bare, I.base, I.loc, I.cell, I.free, I.freeC, fun q hq => by
    have hq' : q ∈ (p ++ X.pn) ++ pins := hq
    rw [List.append_assoc] at hq'
    rcases List.mem_append.mp hq' with z | z
    · exact hp q z
    · exact I.pin q z, I.hok, I.len⟩
theorem Inv.outEx {u : Value} {p : List (Addr × Obj)} (ok : X.Ok) (I : Inv (X.inEx u p) pins σ H s) : Inv X pins σ H s :=
  ⟨ok, I.os, I.bare, I.base, I.loc, I.cell, I.free, I.freeC, fun q hq => I.pin q (by
    show q ∈ (p ++ X.pn) ++ pins
    rw [List.append_assoc]
    exact List.mem_append_right _ hq), I.hok, I.len⟩
end
abbrev Ends.behind (D : Ends) (i : Nat) : Ends := { nx := fun σ H => D.nx (σ.set i none) H, rt := D.rt, bk := fun σ H => D.bk (σ.set i none) H, ct := fun σ H => D.ct (σ.set i none) H }
section
variable {X : Cx} {Ch : Addr} {x n : Str} {i : Nat} {np hpos tpos : Pos} {b0 : Stmt} {suite : List Stmt} {th : Addr -> Obj -> TS}
variable {k : Nat} {f : Addr} {fd : FuncData} {ps : List Str} {sp : Sp} {y : Str} {p cpos epos : Pos} {a : Expr} {as : List Expr} {t : TA}
end
end L2
namespace L2
open PySem PySem.Spec PyProof.Rows
section
variable {X : Cx} {pins : List (Addr × Obj)} {σ : St} {H : Hp} {s : Shared} {h' : Heap}
theorem Inv.turns {t' : Nat} {ch : List Addr} (I : Inv X pins σ H s) (k : ∀ b o, b ∉ ch -> s.heap.get? b = some o -> h'.get? b = some o) (hf : ∀ b ∈ ch, FpOk X pins H b) : Inv X pins σ H { s with heap := h', toks := t' } := by
  have nit : ∀ b u, H b = some u -> b ∉ ch := fun b u e z => by rw [(hf b z).1] at e; cases e
  refine I.call (g' := s.gens) (d' := s.drawn) (t' := t') (ch := ch) ⟨fun b o q _ _ x => k b o x q, fun b o q _ _ x => ⟨o.slots, k b o x q⟩, fun _ _ _ n _ => n, fun b o q x => ⟨o, k b o x q⟩, fun _ _ q => q, fun _ _ _ q => q, fun _ ps q => ⟨#[], by rw [q]; simp⟩⟩
    (fun b u e => (I.hok b u e).stay (fun c v hc q => k c v ?_ q) (fun _ q => q) fun _ _ q => q) I.bare fun b hb => ?_
  · rcases hc with z | z
    · rw [z]; exact nit b u e
    · exact nit c _ z
  · obtain ⟨f0, f1, f2, f3, f4, f5⟩ := hf b hb
    exact ⟨f3, f1, f4, f5⟩
theorem Inv.turnsLaid {t' : Nat} {ch : List Addr} {a : Addr} {o : HO} (I : Inv X pins σ H s) (k : ∀ b o, b ∉ ch -> s.heap.get? b = some o -> h'.get? b = some o) (hf : ∀ b ∈ ch, FpOk X pins H b) (hp : s.heap.objs.size <= a) (new : ObjOk X.prog X.w (upd H a o) h' a o) :
    Inv X pins σ (upd H a o) { s with heap := h', toks := t' } := by
  have hn := I.hok.fresh hp
  have nit : ∀ b u, H b = some u -> b ∉ ch := fun b u e z => by rw [(hf b z).1] at e; cases e
  refine I.call (g' := s.gens) (d' := s.drawn) (t' := t') (ch := ch) ⟨fun b o q _ _ x => k b o x q, fun b o q _ _ x => ⟨o.slots, k b o x q⟩, fun b u q n _ => by rw [upd_ne (Nat.ne_of_lt (Nat.lt_of_lt_of_le (Heap.lt_size q) hp))]; exact n, fun b o q x => ⟨o, k b o x q⟩,
      fun b xs q => by rw [upd_ne (ne_of_none q hn)]; exact q, fun b u xs q => by rw [upd_ne (ne_of_none q hn)]; exact q, fun b ps q => ⟨#[], by rw [upd_ne (ne_of_none q hn), q]; simp⟩⟩
    (fun b u e => ?_) I.bare fun b hb => ?_
  · by_cases hb : b = a
    · subst hb
      rw [upd_same] at e
      cases e
      exact new
    · rw [upd_ne hb] at e
      refine (I.hok b u e).stay (fun c v hc q => k c v ?_ q) (fun c q => by rw [upd_ne (ne_of_none q hn)]; exact q) fun c xs q => by rw [upd_ne (ne_of_none q hn)]; exact q
      rcases hc with z | z
      · rw [z]; exact nit b u e
      · exact nit c _ z
  · obtain ⟨f0, f1, f2, f3, f4, f5⟩ := hf b hb
    exact ⟨f3, f1, f4, f5⟩
end
def Ite (K : PySem.W.Frag) (a : Addr) : It :=
  ⟨fun i H => ∃ xs x, SqL K H a xs /\ xs[i]? = some x, fun i H x H' => ∃ T v, x = .ref T /\ H T = none /\ H' = upd H T (.tup [.int i, v]) /\ ∀ xs, SqL K H a xs -> xs[i]? = some v, fun i H => ∃ xs, SqL K H a xs /\ xs.length <= i⟩
theorem turn_enum {P : Program} {w : World} {K : PySem.W.Frag} {elts : List Expr} {k : Nat} {pos : Pos} {a e it : Addr} (hne : e ≠ it) : Turn P w K (.Tuple elts k pos) (Ite K a) [e, it] e (fun i h => (∃ old, IsEnum h e it (i : Int) old) /\ h.IsListIter it a i) where
  mem := by simp
  obj := fun i h st b hb => by
    obtain ⟨⟨old, he⟩, hit⟩ := st
    have e' : b = e \/ b = it := by simpa using hb
    rcases e' with z | z
    · subst z
      exact ⟨_, he, fun v z => by cases z⟩
    · subst z
      obtain ⟨o, e, c, d⟩ := hit
      exact ⟨o, e, fun v z => by rw [d] at z; cases z⟩
  keep := fun i h h' st k => ⟨st.1.imp fun old he => k e (by simp) _ he, st.2.at fun o x => k it (by simp) o x⟩
  item := by
    intro X hP hw hK hc i pins s σ H E I hf st hg
    subst hP hw hK
    obtain ⟨xs, x, hq, hx⟩ := hg
    obtain ⟨its, rv, p, hz⟩ := I.list hq
    obtain ⟨u, hu, ru⟩ := rv.get hx
    obtain ⟨⟨old, he⟩, hit⟩ := st
    refine wpAny_pyNext_enum_item he hit p.isList (x := u) (by simpa using hu) hne fun h' ho hit' hT hsz hk => ?_
    have new : ObjOk X.prog X.w (upd H s.heap.objs.size (.tup [.int i, x])) h' s.heap.objs.size (.tup [.int i, x]) := ⟨by show 2 <= sizeLine; decide, [.int i s.toks, u], .cons ⟨_, rfl⟩ (.cons ru .nil), ⟨_, hT, rfl, _, rfl⟩⟩
    have I1 : Inv X pins σ (upd H s.heap.objs.size (.tup [.int i, x])) { s with heap := h', toks := s.toks + 1 } := I.turnsLaid (ch := [e, it]) (fun b o hb q => hk b o (fun z => hb (by simp [z])) (fun z => hb (by simp [z])) q) hf (Nat.le_refl _) new
    have hlt : ∀ b ∈ [e, it], b ≠ s.heap.objs.size := fun b hb => by
      have e' : b = e \/ b = it := by simpa using hb
      rcases e' with z | z
      · rw [z]; exact Nat.ne_of_lt (Heap.lt_size he)
      · rw [z]; obtain ⟨o, q, _⟩ := hit; exact Nat.ne_of_lt (Heap.lt_size q)
    have hn : ∀ b ∈ [e, it], upd H s.heap.objs.size (.tup [.int i, x]) b = none := fun b hb => by rw [upd_ne (hlt b hb)]; exact (hf b hb).1
    have hf1 : ∀ b ∈ [e, it], FpOk X pins (upd H s.heap.objs.size (.tup [.int i, x])) b := fun b hb => ⟨hn b hb, (hf b hb).2⟩
    refine ⟨_, rfl, wpAny_letOwnedTupleGo_enum (s := { s with heap := h', toks := s.toks + 1 }) ho fun h'' he' hs' => ?_⟩
    have I2 : Inv X pins σ (upd H s.heap.objs.size (.tup [.int i, x])) { s with heap := h'', toks := s.toks + 1 } := Inv.turns (s := { s with heap := h', toks := s.toks + 1 }) (t' := s.toks + 1) (ch := [e, it]) I1 (fun b o hb q => (hs'.2 b fun z => hb (by simp [z])).trans q) hf1
    refine ⟨.ref s.heap.objs.size, _, I2, rfl, ⟨_, x, rfl, I.fresh, rfl, fun ys hy => by rw [I.list_inj hy hq]; exact hx⟩, ⟨⟨u, ?_⟩, hit'.at fun o q => (hs'.2 it hne.symm).trans q⟩, hn⟩
    have e1 : (((i + 1 : Nat)) : Int) = (i : Int) + 1 := by omega
    rw [e1]
    exact he'
  done := by
    intro X hP hw hK hc i pins s σ H E I hf st hg
    subst hP hw hK
    obtain ⟨xs, hq, hx⟩ := hg
    obtain ⟨its, rv, p, hz⟩ := I.list hq
    have hl := rv.length
    obtain ⟨⟨old, he⟩, hit⟩ := st
    exact wpAny_pyNext_enum_end (I.ok.hd hc) he hit p.isList (by simp; omega) fun h' eb => ⟨rfl, I.turns (t' := s.toks) (ch := [e, it]) (fun b o hb q => eb b o (fun z => hb (by simp [z])) q) hf⟩
  self := fun _ _ _ _ _ st h => by
    obtain ⟨⟨old, he⟩, _⟩ := st
    exact wpAny_pyIter_enum he h
section
variable {X : Cx} {elts : List Expr} {k : Nat} {tpos : Pos}
def iEnum (K : PySem.W.Frag) (ta : TA) : TI := fun σ H R => ta σ H fun vs H1 => ∃ a, vs = [.ref a] /\ (∃ xs, SqL K H1 a xs) /\ R (Ite K a) H1
theorem pi_enum {a : Expr} {ta : TA} {p pos : Pos} (hg : Gl X "enumerate") (hm : X.mg "enumerate" = none) (ha : PA X [a] ta) (hs : starEach [a] X.env = [(false, eval a X.env)] := by rfl) : PI X (.Tuple elts k tpos) (.Call (.Name "enumerate" p) [a] [] pos) (iEnum X.K ta) := by
  intro pins s σ H R I h
  refine Call_ (ld_blt I hg hm boot_enumerate (PyProof.Rows.callWith_type1 (thn (ha pos pins s σ H _ I h) fun us s1 ⟨vs, H1, I1, r1, q1⟩ => ?_) hs rfl))
  obtain ⟨l, e, ⟨xs, hq⟩, q⟩ := q1
  subst e
  obtain ⟨u, rfl, rx⟩ := vals1 r1
  cases rx
  obtain ⟨its, rv, pl, hz⟩ := I1.list hq
  refine call_enumerate_list pl.isList fun h' hE hI hsz hk => ?_
  refine wpAny_pyIter_enum hE ?_
  refine ⟨s1.heap.objs.size + 1, [s1.heap.objs.size + 1, s1.heap.objs.size], _, _, H1, rfl, I1.kept (t' := s1.toks) hk, turn_enum (a := l) (Nat.succ_ne_self _), ⟨⟨_, hE⟩, hI⟩, fun b hb => ?_, q⟩
  have e : b = s1.heap.objs.size + 1 \/ b = s1.heap.objs.size := by simpa using hb
  rcases e with e | e
  · subst e
    exact I1.fpOk (Nat.le_succ _) (I1.hok.fresh (Nat.le_succ _))
  · subst e
    exact I1.fpOk (Nat.le_refl _) (I1.hok.fresh (Nat.le_refl _))
theorem ji_enum {a : Expr} {t : TA} {p pos : Pos} (hg : Gl X "enumerate") (hm : X.mg "enumerate" = none) (ha : jA X [a] t) (h : isStar a = false := by rfl) : jI X (.Tuple elts k tpos) (.Call (.Name "enumerate" p) [a] [] pos) (iEnum X.K t) := ⟨pi_enum hg hm ha.out (star_cons h)⟩
end
end L2
namespace L2
open PySem PySem.Spec PyProof.Rows
def Itv (K : PySem.W.Frag) (a : Addr) (n : Nat) : It :=
  ⟨fun i H => i < n /\ ∃ xs x, SqL K H a xs /\ xs[n - 1 - i]? = some x, fun i H x H' => H' = H /\ ∀ xs, SqL K H a xs -> xs[n - 1 - i]? = some x, fun i _ => n <= i⟩
theorem turn_rev {P : Program} {w : World} {K : PySem.W.Frag} {tg : Expr} (a it : Addr) (n : Nat) : Turn P w K tg (Itv K a n) [it] it (fun i h => i <= n /\ h.IsRevIter it a ((n : Int) - 1 - (i : Nat))) where
  mem := by simp
  obj := fun i h st b hb => by
    have e : b = it := by simpa using hb
    subst e
    obtain ⟨_, o, e, c, d⟩ := st
    exact ⟨o, e, fun v z => by rw [d] at z; cases z⟩
  keep := fun i h h' st k => ⟨st.1, st.2.at fun o e => k it (by simp) o e⟩
  item := by
    intro X hP hw hK hc i pins s σ H E I hf st hg
    subst hP hw hK
    obtain ⟨hi, xs, x, hq, hx⟩ := hg
    obtain ⟨its, rv, p, hz⟩ := I.list hq
    obtain ⟨u, hu, ru⟩ := rv.get hx
    obtain ⟨f0, f1, f2, f3, f4, f5⟩ := hf it (by simp)
    obtain ⟨_, st2⟩ := st
    have e1 : (n : Int) - 1 - (i : Nat) = ((n - 1 - i : Nat) : Int) := by omega
    rw [e1] at st2
    refine wpAny_pyNext_rev_item st2 p.isList (x := u) (by simpa using hu) fun h' st' sb => ?_
    have I1 : Inv X pins σ H { s with heap := h' } := I.turned (t' := s.toks) (fun b o hb e => (sb.2 b hb).trans e) f0 f1 f3 f4 f5
    obtain ⟨o, e, c, d⟩ := id st'
    refine ⟨u, rfl, go_of (s := { s with heap := h' }) e c d (by decide) ⟨x, H, I1, ru, ⟨rfl, fun ys hy => by rw [I.list_inj hy hq]; exact hx⟩, ⟨hi, ?_⟩, fun b hb => (hf b hb).1⟩⟩
    have e2 : (n : Int) - 1 - ((i + 1 : Nat) : Int) = ((n - 1 - i : Nat) : Int) - 1 := by omega
    rw [e2]
    exact st'
  done := by
    intro X hP hw hK hc i pins s σ H E I hf st hg
    subst hP hw hK
    obtain ⟨f0, f1, f2, f3, f4, f5⟩ := hf it (by simp)
    obtain ⟨h1, st2⟩ := st
    have h2 : n <= i := hg
    have e1 : (n : Int) - 1 - (i : Nat) = -1 := by omega
    rw [e1] at st2
    exact wpAny_pyNext_rev_end (I.ok.hd hc) st2 fun h' eb => ⟨rfl, I.turned (t' := s.toks) (fun b o hb e => eb b o hb e) f0 f1 f3 f4 f5⟩
  self := fun _ _ _ _ _ st h => wpAny_pyIter_revIter st.2 h
section
variable {X : Cx} {tg : Expr}
def iRev (K : PySem.W.Frag) (ta : TA) : TI := fun σ H R => ta σ H fun vs H1 => ∃ a xs, vs = [.ref a] /\ SqL K H1 a xs /\ R (Itv K a xs.length) H1
theorem pi_rev {a : Expr} {ta : TA} {p pos : Pos} (hg : Gl X "reversed") (hm : X.mg "reversed" = none) (ha : PA X [a] ta) (hs : starEach [a] X.env = [(false, eval a X.env)] := by rfl) : PI X tg (.Call (.Name "reversed" p) [a] [] pos) (iRev X.K ta) := by
  intro pins s σ H R I h
  refine Call_ (ld_blt I hg hm boot_reversed (PyProof.Rows.callWith_type1 (thn (ha pos pins s σ H _ I h) fun us s1 ⟨vs, H1, I1, r1, q1⟩ => ?_) hs rfl))
  obtain ⟨l, xs, e, hq, q⟩ := q1
  subst e
  obtain ⟨u, rfl, rx⟩ := vals1 r1
  cases rx
  obtain ⟨its, rv, pl, hz⟩ := I1.list hq
  have hl := rv.length
  refine call_reversed_list pl.isList ?_
  have hr : (s1.heap.push (revObj l ((its.toArray.size : Int) - 1))).IsRevIter s1.heap.objs.size l ((its.toArray.size : Int) - 1) := ⟨_, Heap.get?_push_size _ rfl, rfl, rfl⟩
  refine wpAny_pyIter_revIter (s := { s1 with heap := s1.heap.push (revObj l ((its.toArray.size : Int) - 1)) }) hr ?_
  refine ⟨s1.heap.objs.size, [s1.heap.objs.size], _, _, H1, rfl, I1.kept (t' := s1.toks) fun b o e => Heap.get?_push_of_some _ e, turn_rev l _ xs.length, ⟨Nat.zero_le _, ?_⟩, fun b hb => ?_, q⟩
  · have e : (xs.length : Int) - 1 - ((0 : Nat) : Int) = (its.toArray.size : Int) - 1 := by simp [hl]
    rw [e]
    exact hr
  have e : b = s1.heap.objs.size := by simpa using hb
  subst e
  exact I1.fpOk (Nat.le_refl _) (I1.hok.fresh (Nat.le_refl _))
theorem ji_rev {a : Expr} {t : TA} {p pos : Pos} (hg : Gl X "reversed") (hm : X.mg "reversed" = none) (ha : jA X [a] t) (h : isStar a = false := by rfl) : jI X tg (.Call (.Name "reversed" p) [a] [] pos) (iRev X.K t) := ⟨pi_rev hg hm ha.out (star_cons h)⟩
end
theorem for_rev {K : PySem.W.Frag} {a : Addr} {xs : List V} {g : TG} {tb : TS} {D : Ends} {σ : St} {H : Hp} (Pv : Nat -> St -> Hp -> Prop) (h0 : Pv 0 σ H) (hl : ∀ i σ H, i <= xs.length -> Pv i σ H -> SqL K H a xs)
    (hs : ∀ i x σ H, xs.reverse[i]? = some x -> Pv i σ H -> g x σ H fun σ2 H2 => tb { D with nx := Pv (i + 1), ct := Pv (i + 1), bk := D.nx } σ2 H2) (hd : ∀ σ H, Pv xs.length σ H -> D.nx σ H) :
    ∃ W : Nat -> Nat -> St -> Hp -> Prop, (∃ m, W 0 m σ H) /\ ∀ i m σ H, W i m σ H ->
      ((Itv K a xs.length).stop i H /\ D.nx σ H) \/ ((Itv K a xs.length).go i H /\ ∃ N : St -> Hp -> Prop, (∀ σ' H', N σ' H' -> ∃ m', m' < m /\ W (i + 1) m' σ' H') /\ ∀ x H', (Itv K a xs.length).yld i H x H' -> g x σ H' fun σ2 H2 => tb { D with nx := N, ct := N, bk := D.nx } σ2 H2) := by
  refine ⟨fun i m σ H => m = xs.length - i /\ i <= xs.length /\ Pv i σ H, ⟨xs.length, by simp, Nat.zero_le _, h0⟩, ?_⟩
  rintro i m σ H ⟨rfl, hi, p⟩
  have q := hl i σ H hi p
  by_cases hlt : i < xs.length
  · refine .inr ⟨⟨hlt, xs, xs[xs.length - 1 - i], q, by rw [List.getElem?_eq_getElem]⟩, Pv (i + 1), fun σ' H' p' => ⟨xs.length - (i + 1), by omega, rfl, hlt, p'⟩, fun x H' y => ?_⟩
    obtain ⟨e, y⟩ := y
    subst e
    refine hs i x σ _ ?_ p
    rw [List.getElem?_reverse hlt]
    exact y xs q
  · have e : i = xs.length := by omega
    subst e
    exact .inl ⟨Nat.le_refl _, hd σ H p⟩
section
variable {g : TG} {tt : TT} {te : TE} {Q : VK} {σ : St} {H : Hp}
theorem lc_tup {K : PySem.W.Frag} {a : Addr} {xs : List V} (Pv : Nat -> St -> List V -> Hp -> Prop) (h0 : Pv 0 σ [] H) (hl : ∀ i τ ys H, i <= xs.length -> Pv i τ ys H -> SqT K H a xs)
    (hs : ∀ i x τ ys H, xs[i]? = some x -> Pv i τ ys H -> g x τ H fun τ2 H2 => tt τ2 H2 fun b H3 => if b = true then te τ2 H3 fun y H4 => ys.length < sizeLine /\ Pv (i + 1) τ2 (ys ++ [y]) H4 else Pv (i + 1) τ2 ys H3)
    (hd : ∀ τ ys H, Pv xs.length τ ys H -> ∀ p, H p = none -> Q (.ref p) (upd H p (.lst ys))) : ∃ W, (∃ m, W 0 m σ [] H) /\ lcBy (Itt K a) g tt te Q W := by
  refine ⟨fun i m τ ys H => m = xs.length - i /\ i <= xs.length /\ Pv i τ ys H, ⟨xs.length, by simp, Nat.zero_le _, h0⟩, ?_⟩
  rintro i m τ ys H ⟨rfl, hi, p⟩
  have q := hl i τ ys H hi p
  by_cases hlt : i < xs.length
  · refine .inr ⟨⟨xs, xs[i], q, by simp [hlt]⟩, Pv (i + 1), fun τ' ys' H' p' => ⟨xs.length - (i + 1), by omega, rfl, hlt, p'⟩, fun x H' y => ?_⟩
    obtain ⟨e, y⟩ := y
    subst e
    exact hs i x τ ys _ (y xs q) p
  · have e : i = xs.length := by omega
    subst e
    exact .inl ⟨⟨xs, q, Nat.le_refl _⟩, hd τ ys H p⟩
end
theorem old {H : Hp} {p q : Addr} {o u : HO} (hp : H p = none) (h : H q = some u) : upd H p o q = some u := by rw [upd_ne (ne_of_none h hp)]; exact h
theorem Same.new {H H1 : Hp} {p : Addr} {o : HO} (s : Same H H1) (hp : H1 p = none) : Same H (upd H1 p o) := fun b u q => old hp (s b u q)
theorem Same.put {H H1 : Hp} {p : Addr} {o : HO} (s : Same H H1) (hp : H p = none) : Same H (upd H1 p o) := fun b u q => by rw [upd_ne (ne_of_none q hp)]; exact s b u q
end L2
namespace L2
open PySem PySem.Spec PyProof.Rows
theorem eqV_self {x : V} (h : flatV x = true) : eqV x x = true := by
  cases x <;> first
    | rfl
    | (show ((_ : Bool) == _) = true; simp)
    | (show ((_ : Int) == _) = true; simp)
    | (show ((_ : Str) == _) = true; simp)
    | (cases h)
section
variable {X : Cx}
theorem eq_items {A : Around} {s : Shared} {xs : List V} {us us' : List Value} (r : Vals xs us) (r' : Vals xs us') (f : xs.all flatV = true) (j : Nat) (h1 : j < us.toArray.size) (h2 : j < us'.toArray.size) : SeqAt.EqAt A s us.toArray[j] us'.toArray[j] true := by
  have l1 := r.length
  have l2 := r'.length
  simp at h1 h2
  have hx : xs[j]? = some (xs[j]'(by omega)) := List.getElem?_eq_getElem _
  obtain ⟨u, e1, rx⟩ := r.get hx
  obtain ⟨u', e2, rx'⟩ := r'.get hx
  have g1 : us.toArray[j] = u := by
    have := List.getElem?_eq_some_iff.mp e1
    simpa using this.2
  have g2 : us'.toArray[j] = u' := by
    have := List.getElem?_eq_some_iff.mp e2
    simpa using this.2
  rw [g1, g2]
  have fx : flatV (xs[j]'(by omega)) = true := List.all_eq_true.mp f _ (List.getElem_mem _)
  have k := eqAt_V (A := A) (s := s) rx rx' fx fx
  rw [eqV_self fx] at k
  exact k
end
section
variable {X : Cx}
end
end L2
namespace L2
open PySem PySem.Spec PyProof.Rows Builtin Builtin.Str
section
variable {X : Cx}
def rEqE (K : PySem.W.Frag) (neg : Bool) : R2 := fun x y H Q => ∃ p p' xs, x = .ref p /\ y = .ref p' /\ SqL K H p xs /\ SqL K H p' [] /\ Q (.bl (if neg then !xs.isEmpty else xs.isEmpty)) H
theorem op_eqE (hu : X.A.units < cLine) : OpR X (compareOp .Eq) (rEqE X.K false) := by
  intro pins s σ H x y v u Q I rx ry h
  obtain ⟨p, p', xs, rfl, rfl, h1, h2, q⟩ := h
  cases rx
  cases ry
  obtain ⟨its, r, pl, _⟩ := I.list h1
  obtain ⟨its', r', pl', _⟩ := I.list h2
  cases r'
  cases r with
  | nil => exact SeqAt.eq_listAt (e := fun _ => true) pl.isList pl'.isList rfl hu (fun j h => absurd h (Nat.not_lt_zero _)) ⟨.bl true, H, I, rfl, q⟩
  | cons a b => exact SeqAt.eq_list_lengthsAt pl.isList pl'.isList rfl hu ⟨.bl false, H, I, rfl, q⟩
theorem op_neE (hu : X.A.units < cLine) : OpR X (compareOp .NotEq) (rEqE X.K true) := by
  intro pins s σ H x y v u Q I rx ry h
  obtain ⟨p, p', xs, rfl, rfl, h1, h2, q⟩ := h
  cases rx
  cases ry
  obtain ⟨its, r, pl, _⟩ := I.list h1
  obtain ⟨its', r', pl', _⟩ := I.list h2
  cases r'
  cases r with
  | nil => exact SeqAt.RcNeAt.lists (e := fun _ => true) pl.isList pl'.isList rfl hu (fun j h => absurd h (Nat.not_lt_zero _)) _ _ _ _ ⟨.bl false, H, I, rfl, q⟩
  | cons a b => exact SeqAt.RcNeAt.lists_lengths pl.isList pl'.isList rfl hu _ _ _ _ ⟨.bl true, H, I, rfl, q⟩
theorem jo_eqE {k : Nat} (hr : Room k X.A) : jOp X (compareOp .Eq) (rEqE X.K false) := ⟨op_eqE hr.units0⟩
theorem jo_neE {k : Nat} (hr : Room k X.A) : jOp X (compareOp .NotEq) (rEqE X.K true) := ⟨op_neE hr.units0⟩
theorem ints_of_vals : ∀ {ns : List Int} {us : List Value}, Vals (ns.map V.int) us -> ∃ l : List (Int × Tok), us = (intItems l.toArray).toList /\ l.map (·.1) = ns
  | [], _, .nil => ⟨[], by simp [intItems], rfl⟩
  | z :: zs, _, .cons ⟨t, e⟩ r => by
    obtain ⟨l, rfl, h⟩ := ints_of_vals r
    exact ⟨(z, t) :: l, by rw [e]; simp [intItems], by rw [List.map_cons, h]⟩
theorem call_sum_ints (hc : X.calm = true) : CallR X (.builtin "sum") (fun xs H Q => ∃ (p : Addr) (ns : List Int), xs = [.ref p] /\ SqL X.K H p (ns.map V.int) /\ Q (.int ns.sum) H) := by
  intro pins s σ H xs us Q I r h
  obtain ⟨p, ns, rfl, hq, q⟩ := h
  obtain ⟨u, rfl, rx⟩ := vals1 r
  cases rx
  obtain ⟨its, rv, pl, hz⟩ := I.list hq
  obtain ⟨l, rfl, hl⟩ := ints_of_vals rv
  have pl2 : s.heap.IsList p (intItems l.toArray) := by
    have := pl.isList
    simpa using this
  refine sum_intListG (I.ok.hd hc) pl2 fun h' tk t' hk => ⟨.int ns.sum, H, I.kept hk, ⟨t', ?_⟩, q⟩
  rw [preSum_eq, List.take_of_length_le (by simp)]
  simp [hl]
theorem jc_sum (hc : X.calm = true) : jCa X (.builtin "sum") (fun xs H Q => ∃ (p : Addr) (ns : List Int), xs = [.ref p] /\ SqL X.K H p (ns.map V.int) /\ Q (.int ns.sum) H) := ⟨call_sum_ints hc⟩
end
end L2
namespace L2
open PySem PySem.Spec PyProof.Rows
def Sq (k : Bool) (h : Heap) (l : Addr) (xs : Array Value) : Prop := match k with
  | true => h.IsList l xs
  | false => h.IsTuple l xs
def SqI (k : Bool) (h : Heap) (j l : Addr) (n : Nat) : Prop := match k with
  | true => h.IsListIter j l n
  | false => h.IsTupleIter j l n
def SqN (k : Bool) : String := if k then "list_iterator" else "tuple_iterator"
theorem Sq.at {k : Bool} {h h' : Heap} {l : Addr} {xs : Array Value} (x : Sq k h l xs) (e : ∀ o, h.get? l = some o -> h'.get? l = some o) : Sq k h' l xs := by
  cases k <;> obtain ⟨o, ho, r⟩ := x <;> exact ⟨o, e _ ho, r⟩
theorem SqI.at {k : Bool} {h h' : Heap} {j l : Addr} {n : Nat} (x : SqI k h j l n) (e : ∀ o, h.get? j = some o -> h'.get? j = some o) : SqI k h' j l n := by
  cases k <;> obtain ⟨o, ho, r⟩ := x <;> exact ⟨o, e _ ho, r⟩
theorem SqI.ex {k : Bool} {h : Heap} {j l : Addr} {n : Nat} (x : SqI k h j l n) : ∃ o, h.get? j = some o /\ o.cls = .type (SqN k) /\ o.data = .fields #[.ref l, .int n 0] := by
  cases k <;> exact x
theorem SqI.of {k : Bool} {h : Heap} {j l : Addr} {n : Nat} (x : ∃ o, h.get? j = some o /\ o.cls = .type (SqN k) /\ o.data = .fields #[.ref l, .int n 0]) : SqI k h j l n := by
  cases k <;> exact x
section
variable {P : Program} {w : World} {A : Around} {E : Value -> Shared -> Prop} {s : Shared}
end
structure ZS (k m : Bool) (h : Heap) (B l r : Nat) (n : Nat) (f g : Value) : Prop where
  z : h.get? (B + 4) = some { cls := .type "zip", data := .fields #[f, g, .bool false, .ref (B + 2), .ref (B + 3)] }
  ti : IsPair h (B + 2) (.ref B) (.ref (B + 1))
  to : ∃ a b, IsPair h (B + 3) a b
  i : SqI k h B l n
  j : SqI m h (B + 1) r n
theorem ZS.at {k m : Bool} {h h' : Heap} {B l r : Nat} {n : Nat} {f g : Value} (x : ZS k m h B l r n f g) (e : ∀ (b : Nat) o, B <= b -> b <= B + 4 -> h.get? b = some o -> h'.get? b = some o) : ZS k m h' B l r n f g where
  z := e _ _ (by omega) (by omega) x.z
  ti := e _ _ (by omega) (by omega) x.ti
  to := let ⟨a, b, y⟩ := x.to; ⟨a, b, e _ _ (by omega) (by omega) y⟩
  i := x.i.at fun o => e _ o (by omega) (by omega)
  j := x.j.at fun o => e _ o (by omega) (by omega)
def KeptZ (B : Nat) (h h' : Heap) : Prop := ∀ (c : Nat) o, (c < B \/ B + 4 < c) -> h.get? c = some o -> h'.get? c = some o
section
variable {P : Program} {w : World} {A : Around} {E : Value -> Shared -> Prop} {s : Shared} {k m : Bool} {B l r : Nat} {n : Nat} {xs ys : Array Value} {x y f g : Value}
end
end L2
namespace L2
open PySem PySem.Spec PyProof.Rows
def ZF (B : Nat) (h : Heap) (f g : Value) : Prop := f = .none \/ ∃ (T : Nat) (c : Bool) (o : Obj), f = rawInt T /\ g = .bool c /\ h.get? T = some o /\ B + 5 < T
section
variable {P : Program} {w : World} {A : Around} {E : Value -> Shared -> Prop} {s : Shared} {k m : Bool} {B l r : Nat} {n : Nat} {xs ys : Array Value} {x y f g : Value}
end
structure ZL (k m : Bool) (h0 h : Heap) (B l r n : Nat) (xs ys acc : Array Value) (c : Nat) (f g : Value) : Prop where
  zs : ZS k m h B l r n f g
  zf : ZF B h f g
  hl : Sq k h l xs
  hr : Sq m h r ys
  sz : h.objs.size = B + 6 + n
  lst : h.get? (B + 5) = some { cls := .type "list", data := .seq acc c }
  asz : acc.size = n
  par : ∀ i x y, i < n -> xs[i]? = some x -> ys[i]? = some y -> acc[i]? = some (.ref (B + 6 + i)) /\ IsPair h (B + 6 + i) x y
  old : ∀ (b : Nat) o, b < B -> h0.get? b = some o -> h.get? b = some o
section
variable {P : Program} {w : World} {A : Around} {R : Result -> Shared -> Prop} {h0 : Heap} {k m : Bool} {B l r N : Nat} {xs ys : Array Value} {res : Value}
end
end L2
namespace L2
open PySem PySem.Spec PyProof.Rows
section
variable {P : Program} {w : World} {A : Around} {E : Value -> Shared -> Prop} {s : Shared} {k m : Bool} {B l r N : Nat} {xs ys : Array Value}
end
section
variable {X : Cx} {a b : Expr} {ta : TA} {p1 p2 pos1 pos2 : Pos}
end
end L2
namespace L2
open PySem PySem.Spec PyProof.Rows
def SqK (k : Bool) (K : PySem.W.Frag) (H : Hp) (a : Addr) (xs : List V) : Prop := match k with
  | true => SqL K H a xs
  | false => SqT K H a xs
theorem KeptZ.of {B : Nat} {h h' : Heap} (z : KeptZ B h h') : ∀ (b : Nat) o, b ∉ [B, B + 1, B + 2, B + 3, B + 4] -> h.get? b = some o -> h'.get? b = some o := fun b o n e => z b o (by simp only [List.mem_cons, List.not_mem_nil, or_false, not_or] at n; omega) e
section
variable {X : Cx} {elts : List Expr} {n : Nat} {tpos : Pos}
end
end L2
namespace L2
open PySem PySem.Spec PyProof.Rows
structure Ca (P : Program) (w : World) (K : PySem.W.Frag) (mg : Str -> Option Value) (base : Heap) (CX : CXT) (k : Nat) (x : Str) (ps : List Str) (sp : Sp) : Prop where
  ex : ∃ f fd, FnOk P w K mg base CX k f fd ps sp /\ Binds K fd ps [] /\ PySem.W.keepIn K (.ref f) = true /\ mg x = some (.ref f)
structure Me (P : Program) (w : World) (K : PySem.W.Frag) (mg : Str -> Option Value) (base : Heap) (CX : CXT) (k : Nat) (C : Addr) (m : Str) (ps : List Str) (sp : Sp) : Prop where
  ex : ∃ f fd, FnOk P w K mg base CX k f fd ps sp /\ Binds K fd ps [] /\ Meth K C m f
structure Ma (P : Program) (w : World) (K : PySem.W.Frag) (mg : Str -> Option Value) (base : Heap) (CX : CXT) (k : Nat) (x : Str) (C : Addr) (ps : List Str) (sp : Sp) : Prop where
  ex : ∃ f fd, Mk K C f /\ FnOk P w K mg base CX k f fd ps sp /\ Binds K fd ps [] /\ mg x = some (.ref C)
structure Xa (P : Program) (w : World) (K : PySem.W.Frag) (mg : Str -> Option Value) (base : Heap) (k : Nat) (x : Str) (C : Addr) (ps : List Str) (sp : Sp) : Prop where
  ex : ∃ f fd, XCl K C f /\ FnOk P w K mg base CX0 k f fd ps sp /\ Binds K fd ps [] /\ mg x = some (.ref C)
section
variable {P : Program} {w : World} {K : PySem.W.Frag} {mg : Str -> Option Value} {base : Heap} {CX : CXT} {k j : Nat} {x m : Str} {C : Addr} {ps : List Str} {sp sp' : Sp}
theorem Ca.mono (h : Ca P w K mg base CX j x ps sp) (l : j <= k) : Ca P w K mg base CX k x ps sp := let ⟨f, fd, a, r⟩ := h.ex; ⟨f, fd, a.mono l, r⟩
theorem Me.mono (h : Me P w K mg base CX j C m ps sp) (l : j <= k) : Me P w K mg base CX k C m ps sp := let ⟨f, fd, a, r⟩ := h.ex; ⟨f, fd, a.mono l, r⟩
end
section
variable {X : Cx} {CX : CXT} {k i : Nat} {C : Addr} {ps : List Str} {sp : Sp} {E : XK} {x m n f : Str} {p pos apos cpos np pos' epos hpos tpos : Pos} {e o a value : Expr} {es as : List Expr} {ta te tv to t1 t2 : TE} {t : TA}
theorem je_ca (F : Ca X.prog X.w X.K X.mg X.base CX k x ps sp) (hr : Room k X.A) (hg : Gl X x) (hx : Passes CX X E) (ha : jA X (e :: es) t) (hdb : (x == ("__debug__" : Str)) = false := by decide) (h1 : isStar e = false := by rfl) (h2 : es.all (fun e => !isStar e) = true := by rfl) :
    jE X (.Call (.Name x p) (e :: es) [] pos) (tCall sp [] E t) := let ⟨_, _, G, b, kp, mg⟩ := F.ex; je_fn G hr hg mg kp b .nil hx ha hdb h1 h2
theorem je_ma (F : Ma X.prog X.w X.K X.mg X.base CX k x C ps sp) (hr : Room (k + 1) X.A) (hg : Gl X x) (hx : Passes CX X E) (ha : jA X (e :: es) t) (hdb : (x == ("__debug__" : Str)) = false := by decide) (h1 : isStar e = false := by rfl) (h2 : es.all (fun e => !isStar e) = true := by rfl) :
    jE X (.Call (.Name x p) (e :: es) [] pos) (tMake C sp [] E t) := let ⟨_, _, M, G, b, mg⟩ := F.ex; ⟨pe_make M G hr hg mg b .nil hx ha.out hdb (star_cons h1) (star_any h2)⟩
theorem je_fld (he : jE X e ta) (hb : attributeBase e f X.env (eval e X.env) = eval e X.env := by rfl) : jE X (.Attribute e f pos) (tFld X.K ta f) := ⟨pe_fld he.out hb⟩
theorem js_fld (ha : jE X o ta) (hv : jE X value tv) (hs : swapsWith value (some (.Attribute o f pos')) pos.line X.env = pure false := by rfl) : jS X (.Assign [.Attribute o f pos'] value pos) (sFld X.K ta tv f) := ⟨ps_fld ha.out hv.out hs⟩
theorem js_raise (F : Xa X.prog X.w X.K X.mg X.base k x C ps sp) (hr : Room (k + 1) X.A) (hg : Gl X x) (hx : Throws X E) (ha : jA X (a :: as) t) (hdb : (x == ("__debug__" : Str)) = false := by decide) (h1 : isStar a = false := by rfl) (h2 : as.all (fun e => !isStar e) = true := by rfl) :
    jS X (.Raise (some (.Call (.Name x np) (a :: as) [] cpos)) none pos) (tRaise C sp E t) := let ⟨_, _, M, G, b, mg⟩ := F.ex; ⟨ps_raise M G hr hg mg b hx ha.out hdb h1 h2⟩
end
theorem FnOk.no {P : Program} {w : World} {K : PySem.W.Frag} {mg : Str -> Option Value} {base : Heap} {CX : CXT} {k : Nat} {f : Addr} {fd : FuncData} {ps : List Str} : FnOk P w K mg base CX k f fd ps (fun _ _ _ _ => False) :=
  ⟨fun _ _ _ _ h => h.elim, fun _ _ _ _ _ _ _ _ _ _ _ _ _ h => h.elim⟩
end L2
namespace L2
open PySem PySem.Spec PySem.Calls PyProof.Rows
section
variable {P : Program} {w : World} {A : Around} {E : Value -> Shared -> Prop} {s : Shared} {K : PySem.W.Frag}
end
section
variable {X : Cx} {e C : Addr} {oe : Obj} {ex : Expr} {te : TE} {name : Str} {pos : Pos} {f : Addr}
end
section
variable {X : Cx} {Ch : Addr} {x n : Str} {i k : Nat} {np hpos tpos : Pos} {b0 : Stmt} {suite : List Stmt} {th : Addr -> Obj -> TS} {ps : List Str} {sp : Sp} {y : Str} {p cpos epos : Pos} {a : Expr} {as : List Expr} {t : TA}
end
end L2
namespace L2
open PySem PySem.Spec PyProof.Rows
section
variable {P : Program} {w : World} {A : Around} {E : Value -> Shared -> Prop}
end
section
variable {X : Cx} {pos : Pos}
end
end L2
namespace L2
open PySem
theorem line0 : sizeLine = 16777216 := by decide
def FnIn (K : PySem.W.Frag) (x qual : Str) (st : Stmt) (f : Addr) : Prop := ∃ (oc : Value) (od : Option Addr) (kV doc pm : Value) (an : Option Addr) (cdv ct : Value) (osl : Array (Option Value)), K.lookup f = some ⟨oc, od, .func (PySem.W.fnOf x qual (defArgs st) (defBody st) (defScope st) .none kV doc pm an cdv ct), osl⟩ /\ PySem.W.codeIn K cdv qual = true /\ PySem.W.keepIn K (.ref f) = true
theorem FnIn.fn {K : PySem.W.Frag} {x qual : Str} {st : Stmt} {f : Addr} (h : FnIn K x qual st f) : ∃ fd, Fun K x qual st f fd /\ PySem.W.keepIn K (.ref f) = true := by
  obtain ⟨_, _, _, _, _, _, _, _, _, l, c, k⟩ := h
  exact ⟨_, fun_mk l c k, k⟩
def DfIn (K : PySem.W.Frag) (x : Str) (st : Stmt) : Prop := ∃ f, PySem.W.nsIn K mainGlobals x = some (some (.ref f)) /\ FnIn K x x st f
def MeIn (K : PySem.W.Frag) (C : Addr) (x qual : Str) (st : Stmt) : Prop := ∃ f, PySem.W.findIn K (.ref C) x = some (some (.ref f)) /\ PySem.W.isFn K (.ref f) = true /\ FnIn K x qual st f
def TpIn (K : PySem.W.Frag) (x : Str) (l : List Str) : Prop := ∃ (a : Addr) (d : Option Addr) (it : Array Value) (n : Nat) (sl : Array (Option Value)), PySem.W.nsIn K mainGlobals x = some (some (.ref a)) /\ K.lookup a = some ⟨.type "tuple", d, .seq it n, sl⟩ /\ it.toList.map absV = l.map fun x => some (.str x)
theorem MeIn.ma {P : Program} {w : World} {K : PySem.W.Frag} {mg : Str -> Option Value} {base : Heap} {CX : CXT} {k : Nat} {C : Addr} {x qual : Str} {st : Stmt} {ps : List Str} {sp : Sp} (h : MeIn K C "__init__" qual st) (hb : ∀ (kV doc pm : Value) (an : Option Addr) (cdv ct : Value) (us : List Value), us.length = ps.length -> bindArgs (PySem.W.fnOf "__init__" qual (defArgs st) (defBody st) (defScope st) .none kV doc pm an cdv ct) ⟨us, []⟩ = pure (ps.zip us))
    (mk : PySem.W.makesIn K C = true) (kp : PySem.W.keepIn K (.ref C) = true) (hm : mg x = some (.ref C)) (ok : ∀ f fd, Fun K "__init__" qual st f fd -> FnOk P w K mg base CX k f fd ps sp) : Ma P w K mg base CX k x C ps sp := by
  obtain ⟨f, a, n, g⟩ := h
  obtain ⟨fd, F, _⟩ := g.fn
  exact ⟨f, fd, ⟨mk, a, n, kp⟩, ok f fd F, F.binds hb, hm⟩
theorem DfIn.ca {P : Program} {w : World} {K : PySem.W.Frag} {mg : Str -> Option Value} {base h : Heap} {CX : CXT} {k : Nat} {x : Str} {st : Stmt} {ps : List Str} {sp : Sp} (X : K.In h) (G : h.Ns mainGlobals mg) (d : DfIn K x st) (hb : ∀ (kV doc pm : Value) (an : Option Addr) (cdv ct : Value) (us : List Value), us.length = ps.length -> bindArgs (PySem.W.fnOf x x (defArgs st) (defBody st) (defScope st) .none kV doc pm an cdv ct) ⟨us, []⟩ = pure (ps.zip us))
    (ok : ∀ f fd, Fun K x x st f fd -> FnOk P w K mg base CX k f fd ps sp) : Ca P w K mg base CX k x ps sp := by
  obtain ⟨f, a, g⟩ := d
  obtain ⟨fd, F, kp⟩ := g.fn
  exact ⟨f, fd, ok f fd F, F.binds hb, kp, PySem.W.mg_of X G a⟩
theorem DfIn.mk {K : PySem.W.Frag} {x : Str} {st : Stmt} {f : Addr} {oc : Value} {od : Option Addr} {kV doc pm : Value} {an : Option Addr} {cdv ct : Value} {osl : Array (Option Value)} (a : PySem.W.nsIn K mainGlobals x = some (some (.ref f))) (l : K.lookup f = some ⟨oc, od, .func (PySem.W.fnOf x x (defArgs st) (defBody st) (defScope st) .none kV doc pm an cdv ct), osl⟩) (c : PySem.W.codeIn K cdv x = true) (k : PySem.W.keepIn K (.ref f) = true) : DfIn K x st := ⟨f, a, oc, od, kV, doc, pm, an, cdv, ct, osl, l, c, k⟩
theorem MeIn.mk {K : PySem.W.Frag} {C : Addr} {x qual : Str} {st : Stmt} {f : Addr} {oc : Value} {od : Option Addr} {kV doc pm : Value} {an : Option Addr} {cdv ct : Value} {osl : Array (Option Value)} (a : PySem.W.findIn K (.ref C) x = some (some (.ref f))) (l : K.lookup f = some ⟨oc, od, .func (PySem.W.fnOf x qual (defArgs st) (defBody st) (defScope st) .none kV doc pm an cdv ct), osl⟩) (c : PySem.W.codeIn K cdv qual = true) (k : PySem.W.keepIn K (.ref f) = true) (n : PySem.W.isFn K (.ref f) = true) : MeIn K C x qual st := ⟨f, a, n, oc, od, kV, doc, pm, an, cdv, ct, osl, l, c, k⟩
theorem TpIn.mk {K : PySem.W.Frag} {x : Str} {l : List Str} {b : Addr} {d : Option Addr} {it : Array Value} {n : Nat} {sl : Array (Option Value)} (a : PySem.W.nsIn K mainGlobals x = some (some (.ref b))) (k : K.lookup b = some ⟨.type "tuple", d, .seq it n, sl⟩) (v : it.toList.map absV = l.map fun x => some (.str x)) : TpIn K x l := ⟨b, d, it, n, sl, a, k, v⟩
theorem GlIn.mk {K : PySem.W.Frag} {x : Str} {z : Str} {v : Value} {t : Tok} (a : PySem.W.nsIn K mainGlobals x = some (some v)) (e : v = .str z t) : ∃ t, PySem.W.nsIn K mainGlobals x = some (some (.str z t)) := ⟨t, by rw [a, e]⟩
theorem GiIn.mk {K : PySem.W.Frag} {x : Str} {i : Int} {v : Value} {t : Tok} (a : PySem.W.nsIn K mainGlobals x = some (some v)) (e : v = .int i t) : ∃ t, PySem.W.nsIn K mainGlobals x = some (some (.int i t)) := ⟨t, by rw [a, e]⟩
theorem XcIn.mk {K : PySem.W.Frag} {C f : Addr} (a : PySem.W.findIn K (.ref C) "__init__" = some (some (.ref f))) (b : xIn K C f = true) (c : PySem.W.typeIn K (.ref f) = some (.type "function")) : ∃ f, PySem.W.findIn K (.ref C) "__init__" = some (some (.ref f)) /\ xIn K C f = true /\ PySem.W.typeIn K (.ref f) = some (.type "function") := ⟨f, a, b, c⟩
structure OwnIn (K : PySem.W.Frag) (x : Str) (C : Addr) : Prop where
  n : PySem.W.nsIn K mainGlobals x = some (some (.ref C))
  pg : PySem.W.plainGet K C Str.empty = true
  hd : PySem.W.hasDictIn K C = true
  po : PySem.W.plainOver K C = true
  sa : PySem.W.findIn K (.ref C) "__setattr__" = some (some (.builtin "object.__setattr__"))
  mks : PySem.W.makesIn K C = true
  kp : PySem.W.keepIn K (.ref C) = true
theorem OwnIn.cls {K : PySem.W.Frag} {x : Str} {C : Addr} (o : OwnIn K x C) : Cls K C := ⟨o.pg, o.hd, o.po, o.sa⟩
def spTop (K : PySem.W.Frag) : Sp := fun vs H Q _ => ∃ (a : Addr) (ns : List Int), vs = [.ref a] /\ SqL K H a (ns.map V.int) /\ ns.length <= 63 /\ ∀ H', Q (.bl true) H'
theorem law_in {l : PySem.W.OpenLaw} {w : World} {K : PySem.W.Frag} {h : Heap} {mg : Str -> Option Value} {fa : Addr} {st : Stmt} {k : Nat} (d : DfIn K "law" st) (X : K.In h) (G : h.Ns mainGlobals mg) (hfa : mg "law" = some (.ref fa))
    (hb : ∀ (kV doc pm : Value) (an : Option Addr) (cdv ct : Value) (s : Shared) (u : Value), BindsTo s (PySem.W.fnOf "law" "law" (defArgs st) (defBody st) (defScope st) .none kV doc pm an cdv ct) ⟨[u], []⟩ [("_law_script", u)])
    (ok : ∀ (base : Heap) (fd : FuncData), Fun K "law" "law" st fa fd -> FnOk l.prog w K mg base CX0 k fa fd ["_law_script"] (spTop K)) :
    ∃ fd : FuncData, (∀ (s : Shared) (u : Value), BindsTo s fd ⟨[u], []⟩ [("_law_script", u)]) /\ ∀ base : Heap, K.In base -> base.Ns mainGlobals mg -> FnOk l.prog w K mg base CX0 k fa fd ["_law_script"] (spTop K) := by
  obtain ⟨fl, al, oc, od, kV, doc, pm, an, cdv, ct, osl, lk, cc, kk⟩ := d
  have e : fl = fa := by
    have := PySem.W.mg_of X G al
    rw [hfa] at this
    injection this with this
    injection this with this
    exact this.symm
  subst e
  exact ⟨_, fun s v => hb _ _ _ _ _ _ s v, fun base _ _ => ok base _ (fun_mk (st := st) lk cc kk)⟩
theorem walk1 {l : PySem.W.OpenLaw} {q : Program} {loose : List Str} {XP : (Str -> Option Value) -> Heap -> Prop} {YP : World -> Heap -> Prop} {d : DefRec} {K : Params -> PySem.W.Frag} {k : Nat} (hn : l.most = some 63) (hr : Room k callerA) (hdf : d.params.defaults = []) (hnm : d.name = "law")
    (hY : ∀ (w : World) (h : Heap), YP w h -> (K w.params).In h)
    (F : ∀ (w : World) (mg : Str -> Option Value) (fa : Addr) (h : Heap), (K w.params).In h -> h.Ns mainGlobals mg -> mg "law" = some (.ref fa) -> ∃ fd : FuncData, (∀ (s : Shared) (u : Value), BindsTo s fd ⟨[u], []⟩ [("_law_script", u)]) /\ ∀ base : Heap, (K w.params).In base -> base.Ns mainGlobals mg -> FnOk l.prog w (K w.params) mg base CX0 k fa fd ["_law_script"] (spTop (K w.params))) :
    PySem.W.WalkO q loose XP YP l.row.toRowW d [] (fun f vs => PySem.call f vs) :=
  L2.walk_of (n := 63) (k := k) (x := "_law_script") (CX := fun _ => CX0) (sp := fun w => spTop (K w.params)) hn (by decide) hdf hr hY (fun w mg fa h X G hm => F w mg fa h X G (by rw [hnm] at hm; exact hm)) (fun _ _ a ns hl _ hS => ⟨a, ns, rfl, hS, hl, fun _ => rfl⟩) fun _ _ _ _ _ z => z
end L2
namespace L2
open PySem PySem.Spec PyProof.Rows
end L2
namespace L2
open PySem PySem.Spec PyProof.Rows
section
variable (P : Program) (w : World)
end
section
variable {P : Program} {w : World} {H H' : Hp} {h h' : Heap} {a : Addr} {o : HO}
end
section
variable {P : Program} {w : World} {H : Hp} {h h' : Heap} {x e : Addr} {o' : HO}
end
section
variable {fs fs' ex ex' : List Addr} {H H1 H2 : Hp} {h h1 h2 h' : Heap} {a x e : Addr} {o : HO}
end
end L2
namespace L2
open PySem PySem.Spec PyProof.Rows
section
variable {X : Cx} {pins : List (Addr × Obj)} {σ : List (Option V)} {H H' : Hp} {s : Shared} {h' : Heap}
end
end L2
namespace L2
open PySem PySem.Spec PyProof.Rows
section
variable {X : Cx}
variable {a b : Expr} {ta tb : TE} {pos : Pos}
variable {tA tB' : TT} {rest : List Expr}
end
end L2
namespace L2
open PySem PySem.Spec PyProof.Rows
section
variable {X : Cx} {pins : List (Addr × Obj)} {σ : St} {H : Hp} {s : Shared} {a : Addr} {xs ys : List V}
end
section
variable {X : Cx} {pins : List (Addr × Obj)} {σ : St} {H : Hp} {s : Shared} {E : Value -> Shared -> Prop}
end
section
variable {X : Cx} {st : Stmt} {rest : List Stmt} {t u : TS} {e : Expr} {te : TE} {pos : Pos}
end
section
variable {X : Cx} {pos : Pos}
end
section
variable {X : Cx} {pos : Pos}
end
end L2
namespace L2
open PySem PySem.Spec PyProof.Rows
section
variable {X : Cx} {tg : Expr}
end
end L2
namespace L2
open PySem PySem.Spec PyProof.Rows
section
variable {X : Cx} {a b c : Expr} {ta tb tc : TE} {pos : Pos}
end
section
variable {X : Cx} {a b c : Expr} {ta tb tc : TE} {pos : Pos}
end
end L2
namespace L2
open PySem PySem.Spec PyProof.Rows
section
variable {prog : Program} {w : World} {A : Around} {E : Value -> Shared -> Prop} {s : Shared} {K : PySem.W.Frag} {x dx C f : Addr} {mA : Str -> Option Value} {name : Str} {v : Value}
end
section
variable {P : Program} {w : World} {H H' : Hp} {h h' : Heap} {a C dx : Addr} {fs fs' : List (Str × V)}
end
section
variable {X : Cx} {pins : List (Addr × Obj)} {σ : St} {H : Hp} {s : Shared} {a C dx : Addr} {fs : List (Str × V)} {f : Str} {v : V} {A : Around} {E : Value -> Shared -> Prop}
end
section
variable {X : Cx} {o e value : Expr} {f : Str} {pos pos' tpos : Pos} {ta tv : TE}
end
section
variable {X : Cx} {pins : List (Addr × Obj)} {σ : St} {H : Hp} {s : Shared} {A : Around} {E : Value -> Shared -> Prop} {Q : Value -> Shared -> Prop} {c : Value} {b : Bool}
end
end L2
namespace L2
open PySem PySem.Spec PyProof.Rows
section
variable {X : Cx} {e : Expr} {es : List Expr} {te : TE} {t : TA} {pos : Pos}
end
section
variable {X : Cx} {pins : List (Addr × Obj)} {σ : St} {H : Hp} {s s' : Shared}
end
section
variable {X : Cx} {CX : CXT} {k : Nat} {f C : Addr} {fd : FuncData} {ps : List Str} {sp : Sp} {dvs : List V} {ds : List Value} {E : XK} {x m : Str} {p pos apos : Pos} {e o : Expr} {es : List Expr} {ta : TE} {t : TA}
end
section
variable {X : Cx} {CX : CXT} {k : Nat} {f C : Addr} {fd : FuncData} {ps ks : List Str} {sp : Sp} {E : XK} {x m : Str} {p pos apos kpos : Pos} {e o : Expr} {es : List Expr} {kws : List Keyword} {te ta : TE} {t tk : TA} {nm : Option Str}
variable {g : List Value -> List Value -> List Value} {gV : List V -> List V -> List V}
end
end L2
namespace L2
open PySem PySem.Spec PyProof.Rows
section
variable {X : Cx} {x : Str} {p pos : Pos} {e : Expr} {es : List Expr} {t : TA} {id T : String} {r : List V -> Hp -> VK -> Prop}
end
end L2
namespace L2
open PySem PySem.Spec PyProof.Rows
section
variable {κ : Type} [DecidableEq κ]
def valV (kvs : List (κ × V)) (k : κ) : Option V := (kvs.find? fun kv => decide (kv.1 = k)).map (·.2)
def putK (kvs : List (κ × V)) (k : κ) (v : V) : List (κ × V) :=
  if (kvs.any fun kv => decide (kv.1 = k)) = true then kvs.map (fun kv => if kv.1 = k then (kv.1, v) else kv) else kvs ++ [(k, v)]
def dropK (kvs : List (κ × V)) (k : κ) : List (κ × V) := kvs.filter fun kv => decide (kv.1 ≠ k)
theorem valV_pos {p : κ × V} {r : List (κ × V)} {k : κ} (e : p.1 = k) : valV (p :: r) k = some p.2 := by simp [valV, List.find?_cons, e]
theorem valV_neg {p : κ × V} {r : List (κ × V)} {k : κ} (e : ¬ p.1 = k) : valV (p :: r) k = valV r k := by simp [valV, List.find?_cons, e]
theorem valV_any (k : κ) : ∀ kvs : List (κ × V), (kvs.any fun kv => decide (kv.1 = k)) = (valV kvs k).isSome
  | [] => rfl
  | p :: r => by
    rw [List.any_cons]
    by_cases e : p.1 = k
    · simp only [valV_pos e, decide_eq_true e, Bool.true_or, Option.isSome_some]
    · rw [valV_neg e, decide_eq_false e, Bool.false_or]; exact valV_any k r
theorem length_putK (kvs : List (κ × V)) (k : κ) (v : V) : (putK kvs k v).length <= kvs.length + 1 := by
  unfold putK
  split
  · rw [List.length_map]; omega
  · rw [List.length_append, List.length_cons, List.length_nil]; omega
theorem putK_new {kvs : List (κ × V)} {k : κ} (v : V) (h : valV kvs k = none) : putK kvs k v = kvs ++ [(k, v)] := by
  unfold putK
  rw [valV_any, h]
  exact if_neg (by decide)
theorem RelO.isSome_eq {o : Option V} {u : Option Value} (r : RelO o u) : o.isSome = u.isSome := by
  cases o with
  | none => cases u with
    | none => rfl
    | some _ => exact (show False from r).elim
  | some _ => cases u with
    | none => exact (show False from r).elim
    | some _ => rfl
theorem RelO.getD {o : Option V} {u : Option Value} {d : V} {d' : Value} (r : RelO o u) (rd : RelV d d') : RelV (o.getD d) (u.getD d') := by
  cases o with
  | none => cases u with
    | none => exact rd
    | some _ => exact (show False from r).elim
  | some _ => cases u with
    | none => exact (show False from r).elim
    | some _ => exact r
theorem KV.val {kvs : List (κ × V)} {vs : List (κ × Value)} (r : KV kvs vs) (k : κ) : RelO (valV kvs k) (valueAt vs k) := by
  unfold KV at r
  induction r with
  | nil => exact True.intro
  | @cons p q ps qs h t ih =>
    obtain ⟨h1, h2⟩ := h
    by_cases e : p.1 = k
    · have e' : q.1 = k := h1.symm.trans e
      have b : valueAt (q :: qs) k = some q.2 := by simp [valueAt, List.find?_cons, e']
      rw [valV_pos e, b]; exact h2
    · have e' : ¬ q.1 = k := fun z => e (h1.trans z)
      have b : valueAt (q :: qs) k = valueAt qs k := by simp [valueAt, List.find?_cons, e']
      rw [valV_neg e, b]; exact ih
theorem KV.any {kvs : List (κ × V)} {vs : List (κ × Value)} (r : KV kvs vs) (k : κ) : (kvs.any fun kv => decide (kv.1 = k)) = vs.any fun kv => decide (kv.1 = k) := by
  unfold KV at r
  induction r with
  | nil => rfl
  | cons h t ih => rw [List.any_cons, List.any_cons, ih, h.1]
theorem KV.repl {kvs : List (κ × V)} {vs : List (κ × Value)} (r : KV kvs vs) (k : κ) {y : V} {u : Value} (ry : RelV y u) :
    KV (kvs.map fun kv => if kv.1 = k then (kv.1, y) else kv) (vs.map fun kv => if kv.1 = k then (kv.1, u) else kv) := by
  unfold KV at r ⊢
  induction r with
  | nil => exact .nil
  | @cons p q ps qs h t ih =>
    rw [List.map_cons, List.map_cons]
    refine .cons ?_ ih
    obtain ⟨h1, h2⟩ := h
    by_cases e : p.1 = k
    · rw [if_pos e, if_pos (h1.symm.trans e)]; exact ⟨h1, ry⟩
    · rw [if_neg e, if_neg (fun z => e (h1.trans z))]; exact ⟨h1, h2⟩
theorem KV.put {kvs : List (κ × V)} {vs : List (κ × Value)} (r : KV kvs vs) (k : κ) {y : V} {u : Value} (ry : RelV y u) : KV (putK kvs k y) (stored vs k u) := by
  unfold putK stored
  rw [r.any k]
  by_cases e : (vs.any fun kv => decide (kv.1 = k)) = true
  · rw [if_pos e, if_pos e]; exact r.repl k ry
  · rw [if_neg e, if_neg e]; exact Paired.snoc r ⟨rfl, ry⟩
theorem KV.drop {kvs : List (κ × V)} {vs : List (κ × Value)} (r : KV kvs vs) (k : κ) : KV (dropK kvs k) (without vs k) := by
  unfold KV at r ⊢
  unfold dropK without
  induction r with
  | nil => exact .nil
  | @cons p q ps qs h t ih =>
    obtain ⟨h1, h2⟩ := h
    rw [List.filter_cons, List.filter_cons]
    by_cases e : p.1 = k
    · have a : ¬ decide (p.1 ≠ k) = true := by simp [e]
      have b : ¬ decide (q.1 ≠ k) = true := by simp [h1.symm.trans e]
      rw [if_neg a, if_neg b]; exact ih
    · have e' : ¬ q.1 = k := fun z => e (h1.trans z)
      have a : decide (p.1 ≠ k) = true := by simp [e]
      have b : decide (q.1 ≠ k) = true := by simp [e']
      rw [if_pos a, if_pos b]; exact .cons ⟨h1, h2⟩ ih
theorem KV.keys {kvs : List (κ × V)} {vs : List (κ × Value)} (r : KV kvs vs) : kvs.map (·.1) = vs.map (·.1) := by
  unfold KV at r
  induction r with
  | nil => rfl
  | cons h t ih => rw [List.map_cons, List.map_cons, ih, h.1]
theorem KV.length {kvs : List (κ × V)} {vs : List (κ × Value)} (r : KV kvs vs) : kvs.length = vs.length := Paired.length r
end
theorem kV_is {P : Program} {w : World} {k : Key} {u : Value} (r : RelV (kV k) u) : (mixKind P w).is k u = true := by
  cases k with
  | inl i => obtain ⟨t, e⟩ := (show ∃ t, u = Value.int i t from r); subst e; exact mixKind_int P w i t
  | inr x => obtain ⟨t, e⟩ := (show ∃ t, u = Value.str x t from r); subst e; exact mixKind_str P w x t
theorem items_are {P : Program} {w : World} : ∀ {ks : List Key} {us : List Value}, Vals (ks.map kV) us -> ItemsAre (mixKind P w) ks us
  | [], _, r => by rw [List.map_nil] at r; cases r; exact .nil
  | k :: ks, _, r => by
    rw [List.map_cons] at r
    cases r with
    | cons h t => exact .cons (kV_is h) (items_are t)
abbrev KT (H : Hp) : List (List Key × V) -> List (List Key × Addr × Value) -> Prop := Paired fun p q => p.1 = q.1 /\ H q.2.1 = some (.tup (p.1.map kV)) /\ RelV p.2 q.2.2
theorem KT.val {H : Hp} {kvs : List (List Key × V)} {xs : List (List Key × Addr × Value)} (r : KT H kvs xs) (k : List Key) : RelO (valV kvs k) ((atKey xs k).map (·.2)) := by
  induction r with
  | nil => exact True.intro
  | @cons p q ps qs h t ih =>
    obtain ⟨h1, _, h2⟩ := h
    by_cases e : p.1 = k
    · have e' : q.1 = k := h1.symm.trans e
      have b : atKey (q :: qs) k = some q.2 := by simp [atKey, List.find?_cons, e']
      rw [valV_pos e, b]; exact h2
    · have e' : ¬ q.1 = k := fun z => e (h1.trans z)
      have b : atKey (q :: qs) k = atKey qs k := by simp [atKey, List.find?_cons, e']
      rw [valV_neg e, b]; exact ih
theorem KT.repl {H : Hp} {kvs : List (List Key × V)} {xs : List (List Key × Addr × Value)} (r : KT H kvs xs) (k : List Key) {y : V} {u : Value} (ry : RelV y u) :
    KT H (kvs.map fun kv => if kv.1 = k then (kv.1, y) else kv) (xs.map (putAt k u)) := by
  induction r with
  | nil => exact .nil
  | @cons p q ps qs h t ih =>
    rw [List.map_cons, List.map_cons]
    refine .cons ?_ ih
    obtain ⟨h1, h2, h3⟩ := h
    unfold putAt
    by_cases e : p.1 = k
    · rw [if_pos e, if_pos (h1.symm.trans e)]; exact ⟨h1, h2, ry⟩
    · rw [if_neg e, if_neg (fun z => e (h1.trans z))]; exact ⟨h1, h2, h3⟩
theorem KT.put {H : Hp} {kvs : List (List Key × V)} {xs : List (List Key × Addr × Value)} (r : KT H kvs xs) (k : List Key) {b : Addr} {y : V} {u : Value} (hb : H b = some (.tup (k.map kV))) (ry : RelV y u) :
    KT H (putK kvs k y) (storedH xs k b u) := by
  have e : (kvs.any fun kv => decide (kv.1 = k)) = (atKey xs k).isSome := by
    rw [valV_any, (r.val k).isSome_eq, Option.isSome_map]
  unfold putK storedH
  rw [e]
  by_cases q : (atKey xs k).isSome = true
  · rw [if_pos q, if_pos q]; exact r.repl k ry
  · rw [if_neg q, if_neg q]; exact Paired.snoc r ⟨rfl, hb, ry⟩
theorem KT.keeps {H H' : Hp} {kvs : List (List Key × V)} {xs : List (List Key × Addr × Value)} (r : KT H kvs xs) (ht : ∀ b ys, H b = some (.tup ys) -> H' b = some (.tup ys)) : KT H' kvs xs :=
  Paired.mapP r fun _ _ z => ⟨z.1, ht _ _ z.2.1, z.2.2⟩
section
variable {P : Program} {w : World} {H : Hp} {h : Heap} {a : Addr}
theorem rd_of {u : HO} (ok : HOk P w H h) (e : Rd H a u) : ObjOk P w H h a u := e.ok ok
theorem dk_rd {kvs : List (Key × V)} (ok : HOk P w H h) (e : Rd H a (.dK kvs)) : kvs.length <= sizeLine /\ (a == sysModules) = false /\ ∃ vs, KV kvs vs /\ h.DictOf (mixKind P w) a vs :=
  show ObjOk P w H h a (.dK kvs) from rd_of ok e
theorem dk_of {kvs : List (Key × V)} (ok : HOk P w H h) (e : H a = some (.dK kvs)) : kvs.length <= sizeLine /\ (a == sysModules) = false /\ ∃ vs, KV kvs vs /\ h.DictOf (mixKind P w) a vs := dk_rd ok (.inl e)
theorem key_of {ks : List Key} (ok : HOk P w H h) (e : H a = some (.tup (ks.map kV))) : (tupleKind (mixKind P w)).is h ks a := by
  obtain ⟨_, its, r, o, h1, h2, n, h3⟩ := (show ObjOk P w H h a (.tup (ks.map kV)) from ok a _ e)
  exact ⟨o, its.toArray, n, h1, h2, h3, by simpa using items_are r⟩
theorem dt_rd {kvs : List (List Key × V)} (ok : HOk P w H h) (e : Rd H a (.dT kvs)) : kvs.length <= sizeLine /\ (a == sysModules) = false /\
    ∃ xs, KT H kvs xs /\ h.DictOfH (tupleKind (mixKind P w)) a xs := by
  obtain ⟨z, y, xs, r, o, es, ep, h1, h2, h3, h4, h5⟩ := (show ObjOk P w H h a (.dT kvs) from rd_of ok e)
  refine ⟨z, y, xs, r, o, es, ep, h1, h2, h3, h4, fun x hx => ?_, h5⟩
  have all : ∀ {l : List (List Key × V)} {m : List (List Key × Addr × Value)}, KT H l m -> ∀ x ∈ m, (tupleKind (mixKind P w)).is h x.1 x.2.1 := by
    intro l m q
    induction q with
    | nil => intro x hx; exact nomatch hx
    | @cons p q ps qs hq t ih =>
      intro x hx
      rcases List.mem_cons.mp hx with e | hx
      · subst e
        exact key_of ok (by rw [<- hq.1]; exact hq.2.1)
      · exact ih x hx
  exact all r x hx
theorem dt_of {kvs : List (List Key × V)} (ok : HOk P w H h) (e : H a = some (.dT kvs)) : kvs.length <= sizeLine /\ (a == sysModules) = false /\
    ∃ xs, KT H kvs xs /\ h.DictOfH (tupleKind (mixKind P w)) a xs := dt_rd ok (.inl e)
end
def DGet (H : Hp) (a : Addr) (y : V) (r : Option V) : Prop :=
  (∃ kvs k, Rd H a (.dK kvs) /\ y = kV k /\ r = valV kvs k) \/ ∃ kvs k b, Rd H a (.dT kvs) /\ y = .ref b /\ H b = some (.tup (k.map kV)) /\ r = valV kvs k
def DPut (H : Hp) (a : Addr) (y v : V) (H' : Hp) : Prop :=
  (∃ kvs k, H a = some (.dK kvs) /\ y = kV k /\ kvs.length < sizeLine /\ H' = upd H a (.dK (putK kvs k v))) \/
  ∃ kvs k b, H a = some (.dT kvs) /\ y = .ref b /\ H b = some (.tup (k.map kV)) /\ kvs.length < sizeLine /\ H' = upd H a (.dT (putK kvs k v))
theorem DGet.k {H : Hp} {a : Addr} {kvs : List (Key × V)} {k : Key} (e : H a = some (.dK kvs)) : DGet H a (kV k) (valV kvs k) := .inl ⟨kvs, k, .inl e, rfl, rfl⟩
theorem DGet.t {H : Hp} {a b : Addr} {kvs : List (List Key × V)} {k : List Key} (e : H a = some (.dT kvs)) (eb : H b = some (.tup (k.map kV))) : DGet H a (.ref b) (valV kvs k) := .inr ⟨kvs, k, b, .inl e, rfl, eb, rfl⟩
theorem DPut.k {H : Hp} {a : Addr} {kvs : List (Key × V)} {k : Key} {v : V} (e : H a = some (.dK kvs)) (hl : kvs.length < sizeLine) : DPut H a (kV k) v (upd H a (.dK (putK kvs k v))) := .inl ⟨kvs, k, e, rfl, hl, rfl⟩
theorem DPut.t {H : Hp} {a b : Addr} {kvs : List (List Key × V)} {k : List Key} {v : V} (e : H a = some (.dT kvs)) (eb : H b = some (.tup (k.map kV))) (hl : kvs.length < sizeLine) :
    DPut H a (.ref b) v (upd H a (.dT (putK kvs k v))) := .inr ⟨kvs, k, b, e, rfl, eb, hl, rfl⟩
section
variable {X : Cx} {pins : List (Addr × Obj)} {σ : St} {H : Hp} {s : Shared} {a : Addr} {y v : V} {u r : Value} {o : Option V} {A : Around} {E : Value -> Shared -> Prop}
theorem Inv.big (I : Inv X pins σ H s) : sysModules < s.heap.objs.size := by
  have h : mainGlobals < s.heap.objs.size := (I.mod.glob.keeps I.bk).lt
  exact Nat.lt_trans (by decide) h
theorem d_getItem {Q : Value -> Shared -> Prop} (hu : A.units + 1 < cLine) (I : Inv X pins σ H s) (g : DGet H a y (some v)) (ry : RelV y u) (h : ∀ w' s', Inv X pins σ H s' -> RelV v w' -> Q w' s') :
    wpAny (model X.prog X.w) A (getItem (.ref a) u) Q E s := by
  rcases g with ⟨kvs, k, e, ey, l⟩ | ⟨kvs, k, b, e, ey, eb, l⟩
  · subst ey
    obtain ⟨z, hd, vs, rel, dd⟩ := dk_rd I.hok e
    obtain ⟨w', hw, rw'⟩ := RelO.some_of (v := v) (o := valueAt vs k) (by rw [l]; exact rel.val k)
    exact wpAny_getItem_of (kV_is ry) dd.mapOf hw (h w' _ (I.tok _) rw')
  · subst ey
    cases (show u = Value.ref b from ry)
    obtain ⟨z, hd, xs, rel, dd⟩ := dt_rd I.hok e
    obtain ⟨w', hw, rw'⟩ := RelO.some_of (v := v) (o := (atKey xs k).map (·.2)) (by rw [l]; exact rel.val k)
    obtain ⟨p, hp, hp2⟩ := Option.map_eq_some_iff.mp hw
    refine wpAny_getItem_heap (tupleKind_room_in1 hu) (key_of I.hok eb) dd hp ?_
    rw [hp2]
    exact h w' _ (I.tok _) rw'
theorem d_in {Q : Value -> Shared -> Prop} (hu : A.units + 1 < cLine) (I : Inv X pins σ H s) (g : DGet H a y o) (ry : RelV y u) (h : ∀ s', Inv X pins σ H s' -> Q (.bool o.isSome) s') :
    wpAny (model X.prog X.w) A (compareOp .In u (.ref a)) Q E s := by
  rcases g with ⟨kvs, k, e, ey, l⟩ | ⟨kvs, k, b, e, ey, eb, l⟩
  · subst ey
    obtain ⟨z, hd, vs, rel, dd⟩ := dk_rd I.hok e
    refine wpAny_in_of (kV_is ry) hd dd.mapOf ?_
    rw [<- (rel.val k).isSome_eq, <- l]
    exact h _ (I.tok _)
  · subst ey
    cases (show u = Value.ref b from ry)
    obtain ⟨z, hd, xs, rel, dd⟩ := dt_rd I.hok e
    refine wpAny_in_heap (tupleKind_room_in1 hu) (key_of I.hok eb) hd dd ?_
    have q := (rel.val k).isSome_eq
    rw [Option.isSome_map] at q
    rw [<- q, <- l]
    exact h _ (I.tok _)
theorem d_notIn {Q : Value -> Shared -> Prop} (hu : A.units + 1 < cLine) (I : Inv X pins σ H s) (g : DGet H a y o) (ry : RelV y u) (h : ∀ s', Inv X pins σ H s' -> Q (.bool (!o.isSome)) s') :
    wpAny (model X.prog X.w) A (compareOp .NotIn u (.ref a)) Q E s := by
  rcases g with ⟨kvs, k, e, ey, l⟩ | ⟨kvs, k, b, e, ey, eb, l⟩
  · subst ey
    obtain ⟨z, hd, vs, rel, dd⟩ := dk_rd I.hok e
    refine wpAny_notIn_of (kV_is ry) hd dd.mapOf ?_
    rw [<- (rel.val k).isSome_eq, <- l]
    exact h _ (I.tok _)
  · subst ey
    cases (show u = Value.ref b from ry)
    obtain ⟨z, hd, xs, rel, dd⟩ := dt_rd I.hok e
    refine wpAny_notIn_heap (tupleKind_room_in1 hu) (key_of I.hok eb) hd dd ?_
    have q := (rel.val k).isSome_eq
    rw [Option.isSome_map] at q
    rw [<- q, <- l]
    exact h _ (I.tok _)
theorem d_write {h' : Heap} {t' : Nat} {ob : HO} (I : Inv X pins σ H s) (mu : Mut (H a)) (hs : Heap.SameBut a s.heap h') (he : ∃ q, h'.get? a = some q) (new : ObjOk X.prog X.w (upd H a ob) h' a ob) :
    Inv X pins σ (upd H a ob) { s with heap := h', toks := t' } :=
  I.write (x := a) (e := a) mu (.inl rfl) (fun b q hb z => (hs.2 b hb).trans z) he new
theorem dk_new {P : Program} {w : World} {H' : Hp} {h' : Heap} {kvs : List (Key × V)} {vs : List (Key × Value)} (z : kvs.length <= sizeLine) (hd : (a == sysModules) = false) (rel : KV kvs vs) (dd : h'.DictOf (mixKind P w) a vs) :
    ObjOk P w H' h' a (.dK kvs) := ⟨z, hd, vs, rel, dd⟩
theorem d_setItem {H' : Hp} {Q : Unit -> Shared -> Prop} (hu : A.units + 1 < cLine) (I : Inv X pins σ H s) (g : DPut H a y v H') (ry : RelV y u) (rv : RelV v r) (h : ∀ s', Inv X pins σ H' s' -> Q () s') :
    wpAny (model X.prog X.w) A (setItem (.ref a) u r) Q E s := by
  rcases g with ⟨kvs, k, e, ey, l, eH⟩ | ⟨kvs, k, b, e, ey, eb, l, eH⟩
  · subst ey eH
    obtain ⟨z, hd, vs, rel, dd⟩ := dk_of I.hok e
    have hz : vs.length <= sizeLine := by rw [<- rel.length]; exact z
    have hl : (putK kvs k v).length <= sizeLine := by have := length_putK kvs k v; omega
    refine wpAny_setItem_pairs (hsz := hz) (kV_is ry) dd fun h' dd' hs => h _ ?_
    have he : ∃ q, h'.get? a = some q := let ⟨q, _, _, hq, _⟩ := dd'; ⟨q, hq⟩
    exact d_write I (by rw [e]; exact True.intro) hs he (dk_new hl hd (rel.put k rv) dd')
  · subst ey eH
    cases (show u = Value.ref b from ry)
    obtain ⟨z, hd, xs, rel, dd⟩ := dt_of I.hok e
    have hz : xs.length <= sizeLine := by rw [<- Paired.length rel]; exact z
    have hl : (putK kvs k v).length <= sizeLine := by have := length_putK kvs k v; omega
    refine wpAny_setItem_heap (hsz := hz) (tupleKind_room_in1 hu) (key_of I.hok eb) dd fun h' dd' hs => h _ ?_
    obtain ⟨q, es, ep, hq, h2, h3, h4, _, h5⟩ := dd'
    refine d_write I (by rw [e]; exact True.intro) hs ⟨q, hq⟩ ⟨hl, hd, _, (rel.put k eb rv).keeps fun c ys ec => ?_, q, es, ep, hq, h2, h3, h4, h5⟩
    rw [upd_ne (ne_of ec e (fun z => nomatch z))]
    exact ec
end
section
variable {X : Cx} {pins : List (Addr × Obj)} {σ : St} {H : Hp} {s : Shared} {a : Addr} {kvs : List (Key × V)} {k : Key} {u : Value} {A : Around} {E : Value -> Shared -> Prop}
end
def NoSl (i : Expr) : Prop := ∀ ov iv, subscripted i false ov iv = operate [ov, iv] (getItem ov iv)
theorem subD_of {prog : Program} {w : World} {A : Around} {E : Value -> Shared -> Prop} {s : Shared} {env : Env} {value slice : Expr} {pos : Pos} {T id : String} {Q : Value -> Shared -> Prop}
    (hl : typeLookup (.type T) "__getitem__" = pure (some (.builtin id))) (hs : NoSl slice)
    (h : wpAny (model prog w) A (eval value env) (fun o s₁ => wpAny (model prog w) A (eval slice env) (fun i s₂ => s₂.TypeIs o T /\ wpAny (model prog w) A (getItem o i) Q E s₂) E s₁) E s) :
    wpAny (model prog w) A (eval (.Subscript value slice pos) env) Q E s := by
  refine Subscript_ (wpAny_mono h (fun o s₁ h₁ => wpAny_mono h₁ (fun i s₂ h₂ => ?_) fun _ _ x => x) fun _ _ x => x)
  obtain ⟨hT, h₂⟩ := h₂
  unfold subscriptTail
  refine wpAny_bind ?_
  rw [getitemInPython_of_ne hT.not_modules]
  refine wpAny_bind (wpAny_specialOf hT hl ?_)
  have fin : wpAny (model prog w) A (subscripted slice false o i) (fun r s₃ => wpAny (model prog w) A (letTemporaryGo value o r >>= fun _ => pure r) Q E s₃) E s₂ := by
    rw [hs o i]
    exact wpAny_operating (wpAny_mono h₂ (fun r s₃ h₃ => wpAny_bind (wpAny_letTemporaryGo (wpAny_pure h₃))) fun _ _ x => x)
  first
    | exact wpAny_pure (wpAny_bind fin)
    | exact wpAny_bind (wpAny_pure (wpAny_bind fin))
    | exact wpAny_bind fin
theorem dict_typeIs {X : Cx} {pins : List (Addr × Obj)} {σ : St} {H : Hp} {s : Shared} {a : Addr} {y : V} {o : Option V} (I : Inv X pins σ H s) (g : DGet H a y o) : s.TypeIs (.ref a) "dict" := by
  rcases g with ⟨kvs, k, e, _, _⟩ | ⟨kvs, k, b, e, _, _, _⟩
  · obtain ⟨_, _, vs, _, dd⟩ := dk_rd I.hok e
    exact dd.typeIs
  · obtain ⟨_, _, xs, _, dd⟩ := dt_rd I.hok e
    exact dd.typeIs
def tDGet (td ty : TE) : TE := fun σ H Q => td σ H fun x H1 => ty σ H1 fun y H2 => ∃ a v, x = .ref a /\ DGet H2 a y (some v) /\ Q v H2
def tDIn (ty td : TE) : TE := fun σ H Q => ty σ H fun y H1 => td σ H1 fun x H2 => ∃ a o, x = .ref a /\ DGet H2 a y o /\ Q (.bl o.isSome) H2
def tDNotIn (ty td : TE) : TE := fun σ H Q => ty σ H fun y H1 => td σ H1 fun x H2 => ∃ a o, x = .ref a /\ DGet H2 a y o /\ Q (.bl (!o.isSome)) H2
def sDPut (td ty tv : TE) : TS := fun D σ H => tv σ H fun v H1 => td σ H1 fun x H2 => ty σ H2 fun y H3 => ∃ a H4, x = .ref a /\ DPut H3 a y v H4 /\ D.nx σ H4
section
variable {X : Cx} {o i e value : Expr} {pos pos' tpos : Pos} {td ty tv : TE}
theorem pe_dget (hu : X.A.units + 1 < cLine) (ho : PE X o td) (hi : PE X i ty) (hs : NoSl i) : PE X (.Subscript o i pos) (tDGet td ty) := by
  intro pins s σ H Q I h
  refine subD_of PySem.F.slot_dict_getitem.lookup hs (thn (ho pins s σ H _ I h) fun u s1 ⟨x, H1, I1, rx, q1⟩ => thn (hi pins s1 σ H1 _ I1 q1) fun iv s2 ⟨y, H2, I2, ry, a, v, ex, g, q2⟩ => ?_)
  subst ex
  obtain rfl : u = Value.ref a := rx
  exact ⟨dict_typeIs I2 g, d_getItem hu I2 g ry fun w' s3 I3 rw' => ⟨v, H2, I3, rw', q2⟩⟩
theorem pc_din (hu : X.A.units + 1 < cLine) (hi : PE X i ty) (ho : PE X o td) : PC X .In i o (tDIn ty td) := by
  intro pins s σ H Q I h
  refine thn (hi pins s σ H _ I h) fun iv s1 ⟨y, H1, I1, ry, q1⟩ => thn (ho pins s1 σ H1 _ I1 q1) fun u s2 ⟨x, H2, I2, rx, a, ov, ex, g, q2⟩ => ?_
  subst ex
  obtain rfl : u = Value.ref a := rx
  exact d_in hu I2 g ry fun s3 I3 => ⟨.bl ov.isSome, H2, I3, rfl, q2⟩
theorem pc_dnotin (hu : X.A.units + 1 < cLine) (hi : PE X i ty) (ho : PE X o td) : PC X .NotIn i o (tDNotIn ty td) := by
  intro pins s σ H Q I h
  refine thn (hi pins s σ H _ I h) fun iv s1 ⟨y, H1, I1, ry, q1⟩ => thn (ho pins s1 σ H1 _ I1 q1) fun u s2 ⟨x, H2, I2, rx, a, ov, ex, g, q2⟩ => ?_
  subst ex
  obtain rfl : u = Value.ref a := rx
  exact d_notIn hu I2 g ry fun s3 I3 => ⟨.bl (!ov.isSome), H2, I3, rfl, q2⟩
theorem ps_dput (hu : X.A.units + 1 < cLine) (ho : PE X o td) (hi : PE X i ty) (hv : PE X value tv) (hs : swapsWith value (some (.Subscript o i pos')) pos.line X.env = pure false) :
    PS X (.Assign [.Subscript o i pos'] value pos) (sDPut td ty tv) := by
  intro pins s σ H D I h
  refine wpAny_Assign_Subscript (thn (hv pins s σ H _ I h) fun r s1 ⟨v, H1, I1, rv, q1⟩ => thn (ho pins s1 σ H1 _ I1 q1) fun u s2 ⟨x, H2, I2, rx, q2⟩ => thn (hi pins s2 σ H2 _ I2 q2) fun iv s3 ⟨y, H3, I3, ry, a, H4, ex, g, q3⟩ => ?_) hs
  subst ex
  obtain rfl : u = Value.ref a := rx
  exact d_setItem hu I3 g ry rv fun s4 I4 => ⟨σ, H4, I4, q3⟩
end
theorem dk_empty {P : Program} {w : World} {H : Hp} (h : Heap) (hb : sysModules < h.objs.size) : ObjOk P w H (h.push { cls := .type "dict", data := .dict #[] }) h.objs.size (.dK []) :=
  ⟨Nat.zero_le _, beq_eq_false_iff_ne.mpr (Ne.symm (Nat.ne_of_lt hb)), [], .nil, Heap.DictOf.new h⟩
def tDNewK : TE := fun _ H Q => ∀ p, H p = none -> Q (.ref p) (upd H p (.dK []))
section
variable {X : Cx} {pos : Pos}
theorem pe_dnewK : PE X (.Dict [] [] pos) tDNewK := fun pins s σ H Q I h =>
  wpAny_Dict_empty ⟨.ref s.heap.objs.size, _, I.laid (a := s.heap.objs.size) (o := .dK []) (t' := s.toks) (fun _ _ q => Heap.get?_push_of_some _ q) (Nat.le_refl _) (dk_empty s.heap I.big), rfl, h _ (I.hok.fresh (Nat.le_refl _))⟩
end
structure M1 (X : Cx) (o : Expr) (m : Str) (apos : Pos) (e : Expr) (cpos : Pos) : Prop where
  base : attributeBase o m X.env (eval o X.env) = eval o X.env
  few : ((backTo cpos (starEach [e] X.env)).all (fun x => !x.1) && (backToKw cpos (keywordEach [] X.env)).all (fun x => x.1.isSome)
    && decide (([e] : List Expr).length + ([] : List Keyword).length + (if ([] : List Keyword).isEmpty then 0 else 1) < 30)) = true
  line : (apos.endLine == cpos.line) = true
  trees : backTo cpos (starEach [e] X.env) = [(false, eval e X.env)]
structure M2 (X : Cx) (o : Expr) (m : Str) (apos : Pos) (e f : Expr) (cpos : Pos) : Prop where
  base : attributeBase o m X.env (eval o X.env) = eval o X.env
  few : ((backTo cpos (starEach [e, f] X.env)).all (fun x => !x.1) && (backToKw cpos (keywordEach [] X.env)).all (fun x => x.1.isSome)
    && decide (([e, f] : List Expr).length + ([] : List Keyword).length + (if ([] : List Keyword).isEmpty then 0 else 1) < 30)) = true
  line : (apos.endLine == cpos.line) = true
  trees : backTo cpos (starEach [e, f] X.env) = [(false, eval e X.env), (false, eval f X.env)]
section
variable {X : Cx} {pins : List (Addr × Obj)} {σ : St} {H : Hp} {s : Shared} {a : Addr} {y d : V} {u r : Value} {o : Option V} {A : Around} {E : Value -> Shared -> Prop}
end
section
variable {X : Cx} {o e f : Expr} {apos cpos : Pos} {td ty tx : TE}
end
section
variable {X : Cx} {pins : List (Addr × Obj)} {σ : St} {H : Hp} {s : Shared} {a : Addr} {kvs : List (Key × V)} {A : Around} {E : Value -> Shared -> Prop}
end
section
variable {X : Cx} {pins : List (Addr × Obj)} {σ : St} {H : Hp} {s : Shared} {a : Addr} {y : V} {u : Value} {A : Around} {E : Value -> Shared -> Prop}
end
end L2
namespace Att
open PySem PySem.W PySem.Calls PyProof.Rows
section
variable {prog : Program} {w : World} {A : Around} {E : Value -> Shared -> Prop} {s : Shared} {K : Frag}
end
end Att
namespace L2
open PySem PySem.Spec PyProof.Rows
end L2
namespace L2
open PySem PySem.Spec PyProof.Rows
end L2
namespace L2
open PySem PySem.Spec PyProof.Rows
section
variable {P : Program} {w : World} {K : PySem.W.Frag} {mg : Str -> Option Value} {base : Heap}
end
section
variable {X : Cx}
end
section
variable {κ : Type} [DecidableEq κ]
end
end L2
namespace L2
open PySem PySem.Spec PyProof.Rows
section
variable {X : Cx} {pos : Pos}
def rIsB : R2 := fun x y H Q => ∃ b c, x = .bl b /\ y = .bl c /\ Q (.bl (decide (b = c))) H
theorem op_isB : OpR X (compareOp .Is) rIsB := by
  intro pins s σ H x y v u Q I rx ry h
  obtain ⟨b, c, rfl, rfl, q⟩ := h
  cases rx
  cases ry
  refine wpAny_is_plain rfl ⟨.bl (decide (b = c)), H, I, ?_, q⟩
  cases b <;> cases c <;> rfl
theorem jo_isB : jOp X (compareOp .Is) rIsB := ⟨op_isB⟩
theorem je_dnewK : jE X (.Dict [] [] pos) tDNewK := ⟨pe_dnewK⟩
end
theorem SqK.l {K : PySem.W.Frag} {H : Hp} {a : Addr} {xs : List V} (h : H a = some (.lst xs)) : SqK true K H a xs := SqL.of h
theorem SqK.t {K : PySem.W.Frag} {H : Hp} {a : Addr} {xs : List V} (h : H a = some (.tup xs)) : SqK false K H a xs := SqT.of h
end L2
namespace K11
open PySem
def sg (c : Nat) : Str := ⟨#[c]⟩
end K11
namespace K11
open PySem PySem.Spec PyProof.Rows Builtin Builtin.Str
abbrev cl (z : Str) : List Nat := z.cps.toList
theorem cl_len (z : Str) : (cl z).length = z.length := by simp [Str.length]
theorem cl_app (x y : Str) : cl (x ++ y) = cl x ++ cl y := by
  show (x.cps ++ y.cps).toList = _
  simp
end K11
namespace KD
open PySem L2
def top (i : Nat) : Stmt := PySem.Challenge.pw_reusewise_k23_sound_programs.main.body.getD i (.Pass ⟨0, 0, 0, 0⟩)
abbrev iTwice : Stmt := inClass (top 2) 0
abbrev iUnknown : Stmt := inClass (top 3) 0
abbrev iMisfit : Stmt := inClass (top 4) 0
abbrev iLacking : Stmt := inClass (top 5) 0
abbrev sSizes : Stmt := top 7
abbrev sLacking : Stmt := top 8
abbrev sKin : Stmt := top 9
abbrev iKnown : Stmt := inClass (top 11) 0
abbrev sSound : Stmt := top 12
abbrev sThrough : Stmt := top 13
abbrev sBound : Stmt := top 14
abbrev sInsist : Stmt := top 15
abbrev sLooked : Stmt := top 16
abbrev sDeed : Stmt := top 17
abbrev sNumb : Stmt := top 18
abbrev sArms : Stmt := top 19
abbrev sTag : Stmt := top 20
abbrev sCellAt : Stmt := top 22
abbrev sStream : Stmt := top 23
abbrev sStem : Stmt := top 24
abbrev sNm : Stmt := top 25
abbrev sWorld : Stmt := top 26
abbrev sFault : Stmt := top 27
abbrev sUsed : Stmt := top 28
abbrev sBoundL : Stmt := top 29
abbrev sTarget : Stmt := top 30
abbrev sLDeed : Stmt := top 31
abbrev sHeads : Stmt := top 32
abbrev sHeadsDue : Stmt := top 33
abbrev sWords : Stmt := top 34
abbrev sBody : Stmt := top 35
abbrev sProgram : Stmt := top 36
abbrev sLetBy : Stmt := top 37
abbrev sLaw : Stmt := top 38
end KD
namespace KD
open PySem L2 K11
theorem same_new {H : Hp} {p : Addr} (h : H p = none) (o : HO) : Same H (upd H p o) := fun b u q => by rw [upd_ne (ne_of_none q h)]; exact q
def LET : Str := "abcdefghijklmnopqrstuvwxyz"
theorem let_cl : cl LET = (List.range 26).map (97 + ·) := by decide +kernel
def lt (i : Nat) : Str := sg (97 + i)
theorem let_at {i : Nat} (h : i < 26) : atI LET.cps.toList (i : Int) = some (97 + i) := by
  refine atI_nat ?_
  show (cl LET)[i]? = _
  rw [let_cl, List.getElem?_map, List.getElem?_range h]
  rfl
theorem let_atI {m : Int} (h0 : 0 <= m) (h : m < 26) : atI LET.cps.toList m = some (97 + m.toNat) := by
  have e := let_at (i := m.toNat) (by omega)
  rw [Int.toNat_of_nonneg h0] at e
  exact e
theorem let_len : LET.length = 26 := by decide +kernel
def core (k : Nat) : Str := lt (k % 26) ++ ("z" : Str) ++ lt (k / 26 % 26)
def nm (st : Str) (k : Nat) : Str := if st = "" /\ k < 26 then lt k else if st.length % 2 = 0 then core k ++ st else st ++ core k
theorem cl_core (k : Nat) : cl (core k) = [97 + k % 26, 122, 97 + k / 26 % 26] := by
  unfold core
  rw [cl_app, cl_app]
  rfl
theorem nm_inj {st : Str} {j k : Nat} (hj : j < 676) (hk : k < 676) (h : nm st j = nm st k) : j = k := by
  have cinj : cl (core j) = cl (core k) -> j = k := fun e => by
    rw [cl_core, cl_core] at e
    injection e with e1 e2
    injection e2 with _ e3
    injection e3 with e3 _
    omega
  have hl : ∀ i : Nat, (cl (core i)).length = 3 := fun i => by rw [cl_core]; rfl
  unfold nm at h
  by_cases c1 : st = "" /\ j < 26
  · rw [if_pos c1] at h
    by_cases c2 : st = "" /\ k < 26
    · rw [if_pos c2] at h
      have e := congrArg cl h
      have e' : [97 + j] = [97 + k] := e
      injection e' with e' _
      omega
    · rw [if_neg c2] at h
      have e : (cl _).length = (cl _).length := congrArg (fun z => (cl z).length) h
      rw [show (cl (lt j)).length = 1 from rfl] at e
      split at e <;> rw [cl_app, List.length_append, hl] at e <;> omega
  · rw [if_neg c1] at h
    by_cases c2 : st = "" /\ k < 26
    · rw [if_pos c2] at h
      have e : (cl _).length = (cl _).length := congrArg (fun z => (cl z).length) h
      rw [show (cl (lt k)).length = 1 from rfl] at e
      split at e <;> rw [cl_app, List.length_append, hl] at e <;> omega
    · rw [if_neg c2] at h
      have e := congrArg cl h
      split at e
      · rw [cl_app, cl_app] at e
        exact cinj (List.append_inj_left e (by rw [hl, hl]))
      · rw [cl_app, cl_app] at e
        exact cinj (List.append_inj_right e rfl)
def pl (k : Nat) : Nat := 37 * k % 676
def spStem : Sp := fun vs H Q _ => ∃ c : Int, vs = [.int c] /\ ∀ z : Str, z.length <= 9 -> Q (.str z) H
def spNm : Sp := fun vs H Q _ => ∃ (z : Str) (k : Nat), vs = [.str z, .int (k : Nat)] /\ z.length <= 9 /\ k < 676 /\ Q (.str (nm z k)) H
section
variable {P : Program} {w : World} {K : PySem.W.Frag} {mg : Str -> Option Value} {base : Heap} {f : Addr} {fd : FuncData}
theorem scCellAt : FnScope ["_law_script", "_law_k"] ["_law_script", "_law_k"] (defScope sCellAt) := ⟨rfl, rfl, rfl, by decide +kernel, rfl, by decide +kernel, by decide +kernel⟩
theorem scStem : FnScope ["_law_cell", "_law_letters", "_law_word", "_law_number", "_law_k"] ["_law_cell"] (defScope sStem) := ⟨rfl, rfl, rfl, by decide +kernel, rfl, by decide +kernel, by decide +kernel⟩
theorem ok_stem (F : Fun K "_law_stem" "_law_stem" sStem f fd) (m_range : mg "range" = none) : FnOk P w K mg base CX0 1 f fd ["_law_cell"] spStem := by
  refine F.by scStem (fun vs H Q E h => ?_) (fun cdv A outer s H vs Q E hr h => ?_)
  · obtain ⟨c, rfl, _⟩ := h
    rfl
  obtain ⟨c, rfl, q⟩ := h
  refine ⟨_,
    (jss_cons (js_set (i := 1) scStem.nd rfl (Or.inl rfl) je_str)
    (jss_cons (js_set (i := 2) scStem.nd rfl (Or.inl rfl) je_str)
    (jss_cons (js_set (i := 3) scStem.nd rfl (Or.inl rfl) (je_op jo_mod (je_op jo_fdiv (jv 0) je_int) (je_op jo_pow je_int je_int)))
    (jss_cons (js_for PassesOwn.never rfl (ji_range1 rfl m_range (ja_c (je_op jo_mod (jv 0) je_int) ja_nil)) (jg_name (i := 4) scStem.nd rfl (Or.inl rfl))
      (jss_cons (js_set (i := 2) scStem.nd rfl (Or.inl rfl) (je_op jo_add_str (jv 2) (je_ix jx_str (jv 1) (je_op jo_mod (jv 3) je_int) (fun _ _ => rfl))))
      (jss_one (js_set (i := 3) scStem.nd rfl (Or.inl rfl) (je_op jo_fdiv (jv 3) je_int)))))
    (jss_one (js_ret (jv 2))))))), ?_⟩
  have sl := line0
  have b0 := Int.emod_nonneg c (show (10 : Int) ≠ 0 by decide)
  have b1 := Int.emod_lt_of_pos c (show (0 : Int) < 10 by decide)
  refine ⟨_, rfl, _, _, rfl, rfl, ⟨by decide, by decide⟩, _, _, rfl, rfl, ⟨by decide, by decide, by decide⟩, _, _, rfl, rfl, (by show (0 : Int) < _; decide), ?_⟩
  refine ⟨_, rfl, _, _, rfl, rfl, (by show (0 : Int) < _; decide), _, rfl, by omega, by omega, for_range (n := (c % 10).toNat) (fun i σ H' => H' = H /\ ∃ (z : Str) (n : Int) (x : Option V), σ = [some (.int c), some (.str LET), some (.str z), some (.int n), x] /\ z.length = i) ⟨rfl, "", _, none, rfl, rfl⟩ ?_ ?_⟩
  · rintro i σ H1 hi ⟨rfl, z, n, x, rfl, hz⟩
    have c0 := Int.emod_nonneg n (show (26 : Int) ≠ 0 by decide)
    have c1 := Int.emod_lt_of_pos n (show (0 : Int) < 26 by decide)
    refine ⟨_, rfl, _, rfl, _, rfl, _, _, rfl, rfl, (by show (0 : Int) < _; decide), LET, _, _, rfl, rfl, by rw [let_len]; decide, let_atI c0 c1, _, _, rfl, rfl, ?_, ?_⟩
    · show z.length + 1 <= sizeLine
      omega
    refine ⟨_, rfl, _, _, rfl, rfl, ⟨by decide, by decide⟩, rfl, _, _, _, rfl, ?_⟩
    rw [<- cl_len, cl_app, List.length_append, cl_len, hz]
    rfl
  · rintro σ H1 ⟨rfl, z, n, x, rfl, hz⟩
    exact ⟨_, rfl, q z (by omega)⟩
theorem scNm : FnScope ["_law_stem_here", "_law_k", "_law_letters", "_law_core"] ["_law_stem_here", "_law_k"] (defScope sNm) := ⟨rfl, rfl, rfl, by decide +kernel, rfl, by decide +kernel, by decide +kernel⟩
theorem ok_nm (F : Fun K "_law_name" "_law_name" sNm f fd) (m_len : mg "len" = none) : FnOk P w K mg base CX0 1 f fd ["_law_stem_here", "_law_k"] spNm := by
  refine F.by scNm (fun vs H Q E h => ?_) (fun cdv A outer s H vs Q E hr h => ?_)
  · obtain ⟨z, k, rfl, _⟩ := h
    rfl
  obtain ⟨z, k, rfl, hz, hk, q⟩ := h
  refine ⟨_,
    (jss_cons (js_set (i := 2) scNm.nd rfl (Or.inl rfl) je_str)
    (jss_cons (js_set (i := 3) scNm.nd rfl (Or.inl rfl) (je_op jo_add_str (je_op jo_add_str (je_ix jx_str (jv 2) (je_op jo_mod (jv 1) je_int) (fun _ _ => rfl)) je_str) (je_ix jx_str (jv 2) (je_op jo_mod (je_op jo_fdiv (jv 1) je_int) je_int) (fun _ _ => rfl))))
    (jss_cons (js_if (jW.pt (jw_and (jt_cmpR jo_eq (jv 0) je_str (nomark _)) (jw_and1 (jt_cmpR jo_lt (jv 1) je_int (nomark _)))))
      (jss_one (js_ret (je_ix jx_str (jv 2) (jv 1) (fun _ _ => rfl)))) jss_nil)
    (jss_cons (js_if (jt_cmpR jo_eq (je_op jo_mod (je_fnB jc_len_str rfl m_len PySem.boot_len (ja_c (jv 0) ja_nil)) je_int) je_int (nomark _))
      (jss_one (js_ret (je_op jo_add_str (jv 3) (jv 0)))) jss_nil)
    (jss_one (js_ret (je_op jo_add_str (jv 0) (jv 3)))))))), ?_⟩
  have sl := line0
  have e1 : ((k : Nat) : Int) % 26 = ((k % 26 : Nat) : Int) := by omega
  have e2 : ((k : Nat) : Int) / 26 % 26 = ((k / 26 % 26 : Nat) : Int) := by omega
  have cl3 : (core k).length = 3 := by rw [<- cl_len, cl_core]; rfl
  have ec : (⟨#[97 + (((k : Nat) : Int) % 26).toNat]⟩ : Str) ++ ("z" : Str) ++ (⟨#[97 + (((k : Nat) : Int) / 26 % 26).toNat]⟩ : Str) = core k := by
    rw [e1, e2]
    rfl
  suffices rest : ∀ c3 : Str, c3 = core k -> (tSeq _ _ : TS) { nx := fun _ H' => Q .non H', rt := Q } [some (.str z), some (.int (k : Nat)), some (.str LET), some (.str c3)] H by
    exact ⟨_, rfl, _, rfl, _, _, rfl, rfl, (by show (0 : Int) < _; decide), LET, _, _, rfl, rfl, by rw [let_len]; decide, let_atI (by omega) (by omega), _, _, rfl, rfl, by show 1 + 1 <= sizeLine; decide, _, rfl, _, rfl, _, _, rfl, rfl, ⟨by decide, by decide⟩, _, _, rfl, rfl, (by show (0 : Int) < _; decide), LET, _, _, rfl, rfl, by rw [let_len]; decide, let_atI (by omega) (by omega), _, _, rfl, rfl, by show 2 + 1 <= sizeLine; decide, rest _ ec⟩
  rintro _ rfl
  suffices tail : ¬ (z = "" /\ k < 26) -> (tSeq _ _ : TS) { nx := fun _ H' => Q .non H', rt := Q } [some (.str z), some (.int (k : Nat)), some (.str LET), some (.str (core k))] H by
    refine ⟨_, rfl, rfl, _, rfl, ?_⟩
    refine ite2 (fun c => ?_) (fun c => ?_)
    · rw [decide_eq_true_eq] at c
      injection c with c
      refine ⟨_, rfl, _, _, rfl, rfl, _, rfl, ?_⟩
      refine ite2 (fun c2 => ?_) (fun c2 => ?_)
      · rw [decide_eq_true_eq] at c2
        unfold nm at q
        rw [if_pos ⟨c, by omega⟩] at q
        exact ⟨_, rfl, _, rfl, LET, _, _, rfl, rfl, by rw [let_len]; decide, let_at (by omega), q⟩
      · rw [decide_eq_true_eq] at c2
        exact tail (fun e => c2 (by omega))
    · rw [decide_eq_true_eq] at c
      exact iteF (tail (fun e => c (by rw [e.1])))
  intro hn
  unfold nm at q
  rw [if_neg hn] at q
  refine ⟨_, rfl, z, rfl, by omega, _, _, rfl, rfl, (by show (0 : Int) < _; decide), rfl, _, rfl, ?_⟩
  refine ite2 (fun c => ?_) (fun c => ?_)
  · rw [decide_eq_true_eq] at c
    injection c with c
    rw [if_pos (by omega)] at q
    exact ⟨_, rfl, _, rfl, _, _, rfl, rfl, by omega, q⟩
  · rw [decide_eq_true_eq] at c
    have c' : ¬ z.length % 2 = 0 := fun e => c (show V.int (((z.length : Nat) : Int) % 2) = V.int 0 by rw [show ((z.length : Nat) : Int) % 2 = 0 by omega])
    rw [if_neg c'] at q
    exact ⟨_, rfl, _, rfl, _, _, rfl, rfl, by omega, q⟩
end
end KD
namespace L2
open PySem
theorem for_enum {K : PySem.W.Frag} {a : Addr} {xs : List V} {g : TG} {tb : TS} {D : Ends} {σ : St} {H : Hp} (Pv : Nat -> St -> Hp -> Prop) (h0 : Pv 0 σ H) (hl : ∀ i σ H, i <= xs.length -> Pv i σ H -> SqL K H a xs)
    (hs : ∀ i x T σ H, xs[i]? = some x -> H T = none -> Pv i σ H -> g (.ref T) σ (upd H T (.tup [.int (i : Nat), x])) fun σ2 H2 => tb { D with nx := Pv (i + 1), ct := Pv (i + 1), bk := D.nx } σ2 H2) (hd : ∀ σ H, Pv xs.length σ H -> D.nx σ H) :
    ∃ W : Nat -> Nat -> St -> Hp -> Prop, (∃ m, W 0 m σ H) /\ ∀ i m σ H, W i m σ H ->
      ((Ite K a).stop i H /\ D.nx σ H) \/ ((Ite K a).go i H /\ ∃ N : St -> Hp -> Prop, (∀ σ' H', N σ' H' -> ∃ m', m' < m /\ W (i + 1) m' σ' H') /\ ∀ x H', (Ite K a).yld i H x H' -> g x σ H' fun σ2 H2 => tb { D with nx := N, ct := N, bk := D.nx } σ2 H2) := by
  refine ⟨fun i m σ H => m = xs.length - i /\ i <= xs.length /\ Pv i σ H, ⟨xs.length, by simp, Nat.zero_le _, h0⟩, ?_⟩
  rintro i m σ H ⟨rfl, hi, p⟩
  have q := hl i σ H hi p
  by_cases hlt : i < xs.length
  · refine .inr ⟨⟨xs, xs[i], q, by simp [hlt]⟩, Pv (i + 1), fun σ' H' p' => ⟨xs.length - (i + 1), by omega, rfl, hlt, p'⟩, fun x H' y => ?_⟩
    obtain ⟨T, v, rfl, hT, rfl, e⟩ := y
    exact hs i v T σ H (e xs q) hT p
  · have e : i = xs.length := by omega
    subst e
    exact .inl ⟨⟨xs, q, Nat.le_refl _⟩, hd σ H p⟩
end L2
theorem L2.nxt {D : L2.Ends} {σ : L2.St} {H : L2.Hp} (h : D.nx σ H) : L2.tNext D σ H := h
namespace KD
open PySem L2 K11
inductive Tps (H : Hp) : List (Str × Int) -> List Addr -> Prop
  | nil : Tps H [] []
  | cons {a : Str} {s : Int} {t : Addr} {l : List (Str × Int)} {ts : List Addr} : H t = some (.tup [.str a, .int s]) -> Tps H l ts -> Tps H ((a, s) :: l) (t :: ts)
def Row (H : Hp) (l : List (Str × Int)) (q : Addr) : Prop := ∃ ts, H q = some (.lst (ts.map V.ref)) /\ Tps H l ts
inductive Kds (H : Hp) : List (List (Str × Int)) -> List Addr -> Prop
  | nil : Kds H [] []
  | cons {k : List (Str × Int)} {p : Addr} {ks : List (List (Str × Int))} {ps : List Addr} : Row H k p -> Kds H ks ps -> Kds H (k :: ks) (p :: ps)
def Tups (H H' : Hp) : Prop := ∀ p xs, H p = some (.tup xs) -> H' p = some (.tup xs)
theorem Tps.keep {H H' : Hp} (t : Tups H H') {l : List (Str × Int)} {ts : List Addr} (h : Tps H l ts) : Tps H' l ts := by
  induction h with
  | nil => exact .nil
  | cons a _ ih => exact .cons (t _ _ a) ih
theorem Tps.app {H : Hp} {a b : List (Str × Int)} {p q : List Addr} (h : Tps H a p) (g : Tps H b q) : Tps H (a ++ b) (p ++ q) := by
  induction h with
  | nil => exact g
  | cons x _ ih => exact .cons x ih
theorem Tps.len {H : Hp} {l : List (Str × Int)} {ts : List Addr} (h : Tps H l ts) : l.length = ts.length := by
  induction h with
  | nil => rfl
  | cons _ _ ih => rw [List.length_cons, List.length_cons, ih]
theorem Tps.get {H : Hp} : ∀ {l : List (Str × Int)} {ts : List Addr} {i : Nat} {t : Addr}, Tps H l ts -> ts[i]? = some t -> ∃ a s, l[i]? = some (a, s) /\ H t = some (.tup [.str a, .int s])
  | _, _, _, _, .nil, e => by simp at e
  | _, _, 0, _, .cons a _, e => by
    simp at e
    subst e
    exact ⟨_, _, rfl, a⟩
  | _, _, i + 1, _, .cons _ b, e => by
    obtain ⟨a, s, h1, h2⟩ := Tps.get (i := i) b (by simpa using e)
    exact ⟨a, s, by simpa using h1, h2⟩
theorem Row.keep {H H' : Hp} (s : Same H H') {l : List (Str × Int)} {q : Addr} (h : Row H l q) : Row H' l q := by
  obtain ⟨ts, h1, h2⟩ := h
  exact ⟨ts, s _ _ h1, h2.keep fun p xs z => s _ _ z⟩
theorem Kds.keep {H H' : Hp} (s : Same H H') {ks : List (List (Str × Int))} {ps : List Addr} (h : Kds H ks ps) : Kds H' ks ps := by
  induction h with
  | nil => exact .nil
  | cons a _ ih => exact .cons (a.keep s) ih
theorem Kds.app {H : Hp} {a b : List (List (Str × Int))} {p q : List Addr} (h : Kds H a p) (g : Kds H b q) : Kds H (a ++ b) (p ++ q) := by
  induction h with
  | nil => exact g
  | cons x _ ih => exact .cons x ih
theorem Kds.len {H : Hp} {l : List (List (Str × Int))} {ts : List Addr} (h : Kds H l ts) : l.length = ts.length := by
  induction h with
  | nil => rfl
  | cons _ _ ih => rw [List.length_cons, List.length_cons, ih]
theorem Kds.get {H : Hp} : ∀ {l : List (List (Str × Int))} {ts : List Addr} {i : Nat} {t : Addr}, Kds H l ts -> ts[i]? = some t -> ∃ k, l[i]? = some k /\ Row H k t
  | _, _, _, _, .nil, e => by simp at e
  | _, _, 0, _, .cons a _, e => by
    simp at e
    subst e
    exact ⟨_, rfl, a⟩
  | _, _, i + 1, _, .cons _ b, e => by
    obtain ⟨k, h1, h2⟩ := Kds.get (i := i) b (by simpa using e)
    exact ⟨k, by simpa using h1, h2⟩
theorem Kds.off {H : Hp} {z : Addr} {o : HO} (hz : ∃ xs, H z = some (.lst xs)) {ks : List (List (Str × Int))} {ps : List Addr} (h : Kds H ks ps) (hn : z ∉ ps) : Kds (upd H z o) ks ps := by
  obtain ⟨xs, hz⟩ := hz
  have tp : Tups H (upd H z o) := fun p ys hp => by rw [upd_ne (ne_of hp hz (by intro e; cases e))]; exact hp
  induction h with
  | nil => exact .nil
  | @cons k p ks ps a _ ih =>
    obtain ⟨ts, h1, h2⟩ := a
    refine .cons ⟨ts, ?_, h2.keep tp⟩ (ih fun e => hn (List.mem_cons_of_mem _ e))
    rw [upd_ne (fun e => hn (by rw [e]; exact List.mem_cons_self))]
    exact h1
theorem Kds.mem {H : Hp} {ks : List (List (Str × Int))} {ps : List Addr} (h : Kds H ks ps) : ∀ p ∈ ps, ∃ xs, H p = some (.lst xs) := by
  induction h with
  | nil => intro p hp; cases hp
  | cons a _ ih =>
    intro q hq
    rcases List.mem_cons.mp hq with e | hq
    · rw [e]
      obtain ⟨ts, h1, _⟩ := a
      exact ⟨_, h1⟩
    · exact ih q hq
def tagsOf (ks : List (List (Str × Int))) : List Str := ks.flatten.map (·.1)
structure KOk (ns : List Int) (st : Str) (ks : List (List (Str × Int))) : Prop where
  tags : tagsOf ks = (List.range ns.length).map fun j => nm st (pl j)
  ne : ∀ k ∈ ks, k ≠ []
  size : ∀ p ∈ ks.flatten, 0 <= p.2 /\ p.2 <= 9
  few : ks.length <= ns.length
end KD
namespace L2
open PySem PySem.Spec PyProof.Rows
section
variable {X : Cx} {pos : Pos}
theorem jx_tupK (K : PySem.W.Frag) (h : X.K = K := by rfl) : jIx X (rIxT K) := h ▸ jx_tup
theorem jx_listK (K : PySem.W.Frag) (h : X.K = K := by rfl) : jIx X (rIxL K) := h ▸ jx_list
theorem jo_notInK (K : PySem.W.Frag) (h : X.K = K := by rfl) : jOp X (compareOp .NotIn) (rIn K true) := h ▸ jo_notIn_seq
theorem jg_tupK (K : PySem.W.Frag) {es : List Expr} {k : Nat} {gs : TGs} {n : Nat} (hc : X.calm = true) (g : jGs X es gs) (h : X.K = K := by rfl) (hn : (assignEach es X.env).length = n := by rfl) (hst : (assignEach es X.env).findIdx? (·.1) = none := by rfl) : jG X (.Tuple es k pos) (gTup K n gs) := h ▸ jg_tup hc g hn hst
theorem jc_len_seqK (K : PySem.W.Frag) (h : X.K = K := by rfl) : jCa X (.builtin "len") (fun xs H Q => ∃ p ys, xs = [.ref p] /\ (SqL K H p ys \/ SqT K H p ys) /\ Q (.int ys.length) H) := h ▸ jc_len_seq
theorem jc_tuple_ofK (K : PySem.W.Frag) (h : X.K = K := by rfl) : jCa X (.type "tuple") (fun xs H Q => ∃ p ys, xs = [.ref p] /\ ((SqL K H p ys /\ ∀ l, H l = none -> Q (.ref l) (upd H l (.tup ys))) \/ (SqT K H p ys /\ Q (.ref p) H))) := h ▸ jc_tuple_of
theorem jc_list_ofK (K : PySem.W.Frag) (h : X.K = K := by rfl) : jCa X (.type "list") (fun xs H Q => ∃ p ys, xs = [.ref p] /\ (SqL K H p ys \/ SqT K H p ys) /\ ∀ l, H l = none -> Q (.ref l) (upd H l (.lst ys))) := h ▸ jc_list_of
end
end L2
namespace L2
open PySem PySem.Spec PyProof.Rows
section
variable {X : Cx} {pins : List (Addr × Obj)} {σ : St} {H : Hp} {s : Shared} {h' : Heap}
end
section
variable {X : Cx}
abbrev Prs (H : Hp) : List (Key × V) -> List Addr -> Prop := Paired fun kv t => H t = some (.tup [kV kv.1, kv.2])
theorem js_dput {o i value : Expr} {td ty tv : TE} {pos pos' : Pos} {k : Nat} (hr : Room k X.A) (ho : jE X o td) (hi : jE X i ty) (hv : jE X value tv) (hs : swapsWith value (some (.Subscript o i pos')) pos.line X.env = pure false := by rfl) :
    jS X (.Assign [.Subscript o i pos'] value pos) (sDPut td ty tv) := ⟨ps_dput (by have := hr.units; omega) ho.out hi.out hv.out hs⟩
theorem prs_of {P : Program} {w : World} {H' : Hp} : ∀ {kvs : List (Key × V)} {ws : List (Key × Value)} {as : List Addr}, KV kvs ws -> as.length = ws.length -> (∀ (j : Nat) (a : Addr) (kv : Key × V), as[j]? = some a -> kvs[j]? = some kv -> H' a = some (.tup [kV kv.1, kv.2])) -> Prs H' kvs as
  | [], _, as, r, hl, _ => by
    cases r
    cases as with
    | nil => exact .nil
    | cons _ _ => simp at hl
  | kv :: kvs, _, as, r, hl, h => by
    cases r with
    | cons _ t =>
      cases as with
      | nil => simp at hl
      | cons a as => exact .cons (h 0 a kv rfl rfl) (prs_of (P := P) (w := w) t (by simpa using hl) fun j b kv h1 h2 => h (j + 1) b kv (by simpa using h1) (by simpa using h2))
theorem KV.get {kvs : List (Key × V)} {ws : List (Key × Value)} (r : KV kvs ws) {j : Nat} {k : Key} {x : Value} (h : ws[j]? = some (k, x)) : ∃ y, kvs[j]? = some (k, y) /\ RelV y x := by
  unfold KV at r
  induction r generalizing j with
  | nil => simp at h
  | @cons p q ps qs hh t ih =>
    cases j with
    | zero =>
      simp at h
      subst h
      obtain ⟨p1, p2⟩ := p
      have e : p1 = k := hh.1
      subst e
      exact ⟨p2, rfl, hh.2⟩
    | succ j =>
      obtain ⟨y, h1, h2⟩ := ih (j := j) (by simpa using h)
      exact ⟨y, by simpa using h1, h2⟩
def rSameP (K : PySem.W.Frag) (b : Bool) : R2 := fun x y H Q => ∃ (p p' : Addr) (ts ts' : List Addr), x = .ref p /\ y = .ref p' /\ SqL K H p (ts.map V.ref) /\ SqL K H p' (ts'.map V.ref) /\ ts.length = ts'.length /\
  (∀ (j : Nat) (t t' : Addr), ts[j]? = some t -> ts'[j]? = some t' -> ∃ xs : List V, xs.all flatV = true /\ H t = some (.tup xs) /\ H t' = some (.tup xs)) /\ Q (.bl b) H
theorem op_neP (hu : X.A.units + 64 < cLine) : OpR X (compareOp .NotEq) (rSameP X.K false) := by
  intro pins s σ H x y v u Q I rx ry h
  obtain ⟨p, p', ts, ts', rfl, rfl, h1, h2, hl, f, q⟩ := h
  cases rx
  cases ry
  obtain ⟨its, r, pl, _⟩ := I.list h1
  obtain ⟨its', r', pl', _⟩ := I.list h2
  have l1 := r.length
  have l2 := r'.length
  rw [List.length_map] at l1 l2
  refine SeqAt.RcNeAt.lists (e := fun _ => true) pl.isList pl'.isList (by simp; omega) (by omega) (fun j a b => ?_) _ _ _ _ ?_
  · simp at a b
    have g1 : ts[j]? = some (ts[j]'(by omega)) := List.getElem?_eq_getElem _
    have g2 : ts'[j]? = some (ts'[j]'(by omega)) := List.getElem?_eq_getElem _
    obtain ⟨xs, fl, t1, t2⟩ := f j _ _ g1 g2
    obtain ⟨w1, e1, rw1⟩ := r.get (x := .ref (ts[j]'(by omega))) (i := j) (by rw [List.getElem?_map, g1]; rfl)
    obtain ⟨w2, e2, rw2⟩ := r'.get (x := .ref (ts'[j]'(by omega))) (i := j) (by rw [List.getElem?_map, g2]; rfl)
    cases rw1
    cases rw2
    have k1 : its.toArray[j] = Value.ref (ts[j]'(by omega)) := by
      have := List.getElem?_eq_some_iff.mp e1
      simpa using this.2
    have k2 : its'.toArray[j] = Value.ref (ts'[j]'(by omega)) := by
      have := List.getElem?_eq_some_iff.mp e2
      simpa using this.2
    rw [k1, k2]
    by_cases hne : ts[j]'(by omega) = ts'[j]'(by omega)
    · rw [hne]
      exact SeqAt.EqAt.same _
    · obtain ⟨i1, v1, m1, _⟩ := I.tuple (SqT.of (K := X.K) t1)
      obtain ⟨i2, v2, m2, _⟩ := I.tuple (SqT.of (K := X.K) t2)
      have n1 := v1.length
      have n2 := v2.length
      have main := SeqAt.RcAt.tuples (A := X.A.in1) (e := fun _ => true) m1 m2 (by show X.A.units + 1 < cLine; omega) (fun j a b => eq_items v1 v2 fl j a b)
      have eb : ((List.range (min i1.toArray.size i2.toArray.size)).all (fun _ => true) && i1.toArray.size == i2.toArray.size) = true := by
        rw [show (List.range (min i1.toArray.size i2.toArray.size)).all (fun _ => true) = true from List.all_eq_true.mpr fun _ _ => rfl]
        simp
        omega
      rw [eb] at main
      exact SeqAt.EqAt.of_refs hne main
  · rw [show ((List.range its.toArray.size).all fun _ => true) = true from List.all_eq_true.mpr fun _ _ => rfl]
    exact ⟨.bl false, H, I, rfl, q⟩
theorem jo_neP {k : Nat} (hr : Room k X.A) : jOp X (compareOp .NotEq) (rSameP X.K false) := ⟨op_neP hr.units⟩
end
end L2
namespace KD
open PySem L2 K11
theorem Tups.of {H H' : Hp} (s : Same H H') : Tups H H' := fun p xs h => s p _ h
def RowT (H : Hp) (l : List (Str × Int)) (q : Addr) : Prop := ∃ ts, H q = some (.tup (ts.map V.ref)) /\ Tps H l ts
inductive KdsT (H : Hp) : List (List (Str × Int)) -> List Addr -> Prop
  | nil : KdsT H [] []
  | cons {k : List (Str × Int)} {p : Addr} {ks : List (List (Str × Int))} {ps : List Addr} : RowT H k p -> KdsT H ks ps -> KdsT H (k :: ks) (p :: ps)
theorem KdsT.keep {H H' : Hp} (t : Tups H H') {ks : List (List (Str × Int))} {ps : List Addr} (h : KdsT H ks ps) : KdsT H' ks ps := by
  induction h with
  | nil => exact .nil
  | cons a _ ih =>
    obtain ⟨ts, h1, h2⟩ := a
    exact .cons ⟨ts, t _ _ h1, h2.keep t⟩ ih
theorem KdsT.app {H : Hp} {a b : List (List (Str × Int))} {p q : List Addr} (h : KdsT H a p) (g : KdsT H b q) : KdsT H (a ++ b) (p ++ q) := by
  induction h with
  | nil => exact g
  | cons x _ ih => exact .cons x ih
theorem KdsT.len {H : Hp} {l : List (List (Str × Int))} {ts : List Addr} (h : KdsT H l ts) : l.length = ts.length := by
  induction h with
  | nil => rfl
  | cons _ _ ih => rw [List.length_cons, List.length_cons, ih]
theorem KdsT.get {H : Hp} : ∀ {l : List (List (Str × Int))} {ts : List Addr} {i : Nat} {t : Addr}, KdsT H l ts -> ts[i]? = some t -> ∃ k, l[i]? = some k /\ RowT H k t
  | _, _, _, _, .nil, e => by simp at e
  | _, _, 0, _, .cons a _, e => by
    simp at e
    subst e
    exact ⟨_, rfl, a⟩
  | _, _, i + 1, _, .cons _ b, e => by
    obtain ⟨k, h1, h2⟩ := KdsT.get (i := i) b (by simpa using e)
    exact ⟨k, by simpa using h1, h2⟩
structure Few (ks : List (List (Str × Int))) : Prop where
  n : ks.length <= 1000
  k : ks.flatten.length <= 1000
  nd : (tagsOf ks).Nodup
def ents (l : List (Str × Int)) : List (Key × V) := l.map fun a => (.inr a.1, .int a.2)
theorem ents_app (a b : List (Str × Int)) : ents (a ++ b) = ents a ++ ents b := List.map_append
theorem ents_none : ∀ {l : List (Str × Int)} {t : Str}, t ∉ l.map (·.1) -> valV (ents l) (.inr t) = none
  | [], _, _ => rfl
  | a :: l, t, h => by
    rw [List.map_cons, List.mem_cons, not_or] at h
    show valV ((Sum.inr a.1, V.int a.2) :: ents l) (.inr t) = none
    rw [valV_neg (fun e => h.1 (Sum.inr.inj e).symm)]
    exact ents_none h.2
theorem take_snoc {α : Type} {l : List α} {i : Nat} {x : α} (h : l[i]? = some x) : l.take i ++ [x] = l.take (i + 1) := by
  rw [List.take_add_one, h]
  rfl
theorem fl_take {ks : List (List (Str × Int))} {i : Nat} {k : List (Str × Int)} (h : ks[i]? = some k) : (ks.take (i + 1)).flatten = (ks.take i).flatten ++ k := by
  rw [<- take_snoc h, List.flatten_append]
  simp
theorem fl_len {ks : List (List (Str × Int))} {i : Nat} {k : List (Str × Int)} (h : ks[i]? = some k) : (ks.take i).flatten.length + k.length <= ks.flatten.length := by
  have e : ks.flatten = (ks.take (i + 1)).flatten ++ (ks.drop (i + 1)).flatten := by rw [<- List.flatten_append, List.take_append_drop]
  rw [e, List.length_append, fl_take h, List.length_append]
  omega
theorem tag_new {ks : List (List (Str × Int))} {i j : Nat} {k : List (Str × Int)} {a : Str × Int} (hn : (tagsOf ks).Nodup) (h : ks[i]? = some k) (g : k[j]? = some a) : a.1 ∉ ((ks.take i).flatten ++ k.take j).map (·.1) := by
  have e : ks.flatten = ((ks.take i).flatten ++ k.take j ++ [a]) ++ (k.drop (j + 1) ++ (ks.drop (i + 1)).flatten) := by
    have e1 : ks.flatten = (ks.take (i + 1)).flatten ++ (ks.drop (i + 1)).flatten := by rw [<- List.flatten_append, List.take_append_drop]
    have ek : k = k.take j ++ [a] ++ k.drop (j + 1) := by rw [take_snoc g, List.take_append_drop]
    rw [e1, fl_take h]
    conv => lhs; rw [ek]
    simp only [List.append_assoc]
  unfold tagsOf at hn
  rw [e, List.map_append, List.map_append, List.append_assoc] at hn
  rw [List.nodup_append] at hn
  exact fun z => hn.2.2 a.1 z a.1 (by simp) rfl
def spSizes : Sp := fun vs H Q _ => ∃ (p : Addr) (qs : List Addr) (ks : List (List (Str × Int))), vs = [.ref p] /\ H p = some (.tup (qs.map V.ref)) /\ KdsT H ks qs /\ Few ks /\ ∀ (H' : Hp) (d : Addr), Same H H' -> H d = none -> H' d = some (.dK (ents ks.flatten)) -> Q (.ref d) H'
section
variable {P : Program} {w : World} {K : PySem.W.Frag} {mg : Str -> Option Value} {base : Heap} {f : Addr} {fd : FuncData}
theorem scSizes : FnScope ["kinds", "found", "kind", "tag", "size"] ["kinds"] (defScope sSizes) := ⟨rfl, rfl, rfl, by decide +kernel, rfl, by decide +kernel, by decide +kernel⟩
theorem ok_sizes (F : Fun K "sizes" "sizes" sSizes f fd) : FnOk P w K mg base CX0 1 f fd ["kinds"] spSizes := by
  refine F.by scSizes (fun vs H Q E h => ?_) (fun cdv A outer s H vs Q E hr h => ?_)
  · obtain ⟨p, qs, ks, rfl, _⟩ := h
    rfl
  obtain ⟨p, qs, ks, rfl, hp, hK, hF, q⟩ := h
  refine ⟨_,
    (jss_cons (js_set (i := 1) scSizes.nd rfl (Or.inl rfl) je_dnewK)
    (jss_cons (js_for PassesOwn.never rfl (ji_tup (jv 0)) (jg_name (i := 2) scSizes.nd rfl (Or.inl rfl))
      (jss_one (js_for PassesOwn.never rfl (ji_tup (jv 2)) (jg_tup rfl (jgs_cons (jg_name (i := 3) scSizes.nd rfl (Or.inl rfl)) (jgs_cons (jg_name (i := 4) scSizes.nd rfl (Or.inl rfl)) jgs_nil)))
        (jss_one (js_dput hr (jv 1) (jv 3) (jv 4))))))
    (jss_one (js_ret (jv 1))))), ?_⟩
  have sl := line0
  have hlen := hK.len
  intro d hd
  have s1 := same_new (o := .dK []) hd
  refine ⟨_, rfl, _, rfl, ⟨_, SqT.of (s1 _ _ hp)⟩, for_tup (xs := qs.map V.ref) (fun i σ H' => Same H H' /\ H' d = some (.dK (ents (ks.take i).flatten)) /\ ∃ x y z, σ = [some (.ref p), some (.ref d), x, y, z]) ⟨s1, upd_same, none, none, none, rfl⟩ (fun i σ H' _ h => SqT.of (h.1 _ _ hp)) ?_ ?_⟩
  · rintro i v σ H1 hv ⟨s1, hd1, x, y, z, rfl⟩
    rw [List.getElem?_map] at hv
    obtain ⟨qq, hq, rfl⟩ := Option.map_eq_some_iff.mp hv
    obtain ⟨k, hk, ts, hts, hT⟩ := hK.get hq
    have hl := fl_len hk
    have hkl := hF.k
    have htl := hT.len
    refine ⟨_, rfl, _, rfl, ⟨_, SqT.of (s1 _ _ hts)⟩, for_tup (xs := ts.map V.ref) (fun j σ H' => Same H H' /\ H' d = some (.dK (ents ((ks.take i).flatten ++ k.take j))) /\ ∃ y z, σ = [some (.ref p), some (.ref d), some (.ref qq), y, z]) ⟨s1, by rw [List.take_zero, List.append_nil]; exact hd1, _, _, rfl⟩ (fun i σ H' _ h => SqT.of (h.1 _ _ hts)) ?_ ?_⟩
    · rintro j v σ H2 hv ⟨s2, hd2, y, z, rfl⟩
      rw [List.getElem?_map] at hv
      obtain ⟨tt, ht, rfl⟩ := Option.map_eq_some_iff.mp hv
      obtain ⟨a, n, e1, e2⟩ := hT.get ht
      have hj : j < k.length := (List.getElem?_eq_some_iff.mp e1).1
      refine ⟨_, _, rfl, SqT.of (s2 _ _ e2), rfl, _, _, rfl, _, _, rfl, rfl, _, rfl, _, rfl, _, rfl, d, _, rfl, DPut.k (k := .inr a) hd2 ?_, s2.put hd, ?_, _, _, rfl⟩
      · unfold ents
        rw [List.length_map, List.length_append, List.length_take]
        omega
      · rw [upd_same, putK_new _ (ents_none (tag_new hF.nd hk e1)), <- take_snoc e1, <- List.append_assoc, ents_app (_ ++ _) [(a, n)]]
        rfl
    · rintro σ H2 ⟨s2, hd2, y, z, rfl⟩
      rw [List.length_map, <- htl, List.take_of_length_le (Nat.le_refl _), <- fl_take hk] at hd2
      exact ⟨s2, hd2, _, _, _, rfl⟩
  · rintro σ H1 ⟨s1, hd1, x, y, z, rfl⟩
    rw [List.length_map, <- hlen, List.take_of_length_le (Nat.le_refl _)] at hd1
    exact ⟨_, rfl, q _ d s1 hd hd1⟩
end
end KD
namespace L2
open PySem PySem.Spec PyProof.Rows
theorem vals_all : ∀ {xs : List V} {us : List Value}, xs.length = us.length -> (∀ (j : Nat) x u, xs[j]? = some x -> us[j]? = some u -> RelV x u) -> Vals xs us
  | [], [], _, _ => .nil
  | [], _ :: _, h, _ => by simp at h
  | _ :: _, [], h, _ => by simp at h
  | x :: xs, u :: us, h, g => .cons (g 0 x u rfl rfl) (vals_all (by simpa using h) fun j a b h1 h2 => g (j + 1) a b (by simpa using h1) (by simpa using h2))
section
variable {X : Cx}
end
end L2
namespace L2
open PySem PySem.Spec PyProof.Rows
def BMn (mg : Str -> Option Value) (h : Heap) : Prop := ∃ bm ob, mg "__builtins__" = some (.ref bm) /\ bm ≠ builtinsNs /\ h.get? bm = some ob /\ ob.cls = .type "module" /\ ob.dict = some builtinsNs /\ ob.data = .plain
theorem BMn.at {mg : Str -> Option Value} {h : Heap} {P : Addr} {ps : Array Value} (B : BMn mg h) (g : h.Ns mainGlobals mg) (hP : h.get? P = some { cls := .none, data := .fields ps }) : h.BuiltinsAt mg P /\ mainGlobals ≠ P := by
  obtain ⟨bm, ob, b1, b2, b3, b4, b5, b6⟩ := B
  refine ⟨⟨bm, ob, b1, b2, fun q => ?_, fun q => ?_, b3, b4, b5, b6⟩, fun q => ?_⟩
  · obtain ⟨o, es, ep, e, hd, _⟩ := g
    rw [q, e] at b3; cases b3; rw [hd] at b6; cases b6
  · rw [q, hP] at b3; cases b3; cases b4
  · obtain ⟨o, es, ep, e, hd, _⟩ := g
    rw [q, hP] at e; cases e; cases hd
theorem BMn.keeps {mg : Str -> Option Value} {h h' : Heap} (B : BMn mg h) (k : ∀ b o, h.get? b = some o -> h'.get? b = some o) : BMn mg h' :=
  let ⟨bm, ob, b1, b2, b3, r⟩ := B; ⟨bm, ob, b1, b2, k _ _ b3, r⟩
end L2
namespace L2
open PySem PySem.Spec PyProof.Rows
structure CaD (P : Program) (w : World) (K : PySem.W.Frag) (mg : Str -> Option Value) (base : Heap) (CX : CXT) (k : Nat) (x : Str) (ps : List Str) (dvs : List V) (sp : Sp) : Prop where
  ex : ∃ f fd, FnOk P w K mg base CX k f fd ps sp /\ Binds K fd ps [] /\ (∃ ds, Binds K fd ps ds /\ Vals dvs ds) /\ PySem.W.keepIn K (.ref f) = true /\ mg x = some (.ref f)
section
variable {X : Cx} {CX : CXT} {k : Nat} {x : Str} {ps : List Str} {sp : Sp} {dvs : List V} {E : XK} {p pos : Pos} {e : Expr} {es : List Expr} {t : TA}
end
def DdIn (K : PySem.W.Frag) (x : Str) (st : Stmt) (c D : Addr) : Prop := ∃ f, PySem.W.nsIn K mainGlobals x = some (some (.ref f)) /\ ∃ (oc : Value) (od : Option Addr) (kV doc pm : Value) (an : Option Addr) (ct : Value) (osl : Array (Option Value)), K.lookup f = some ⟨oc, od, .func (PySem.W.fnOf x x (defArgs st) (defBody st) (defScope st) (.ref D) kV doc pm an (.ref c) ct), osl⟩ /\ PySem.W.codeIn K (.ref c) x = true /\ PySem.W.keepIn K (.ref f) = true
theorem DdIn.mk {K : PySem.W.Frag} {x : Str} {st : Stmt} {f c D : Addr} {oc : Value} {od : Option Addr} {kV doc pm : Value} {an : Option Addr} {ct : Value} {osl : Array (Option Value)} (a : PySem.W.nsIn K mainGlobals x = some (some (.ref f))) (l : K.lookup f = some ⟨oc, od, .func (PySem.W.fnOf x x (defArgs st) (defBody st) (defScope st) (.ref D) kV doc pm an (.ref c) ct), osl⟩) (cc : PySem.W.codeIn K (.ref c) x = true) (k : PySem.W.keepIn K (.ref f) = true) : DdIn K x st c D := ⟨f, a, oc, od, kV, doc, pm, an, ct, osl, l, cc, k⟩
structure FunD (K : PySem.W.Frag) (x : Str) (st : Stmt) (c D f : Addr) (fd : FuncData) : Prop where
  ex : ∃ (oc : Value) (od : Option Addr) (kV doc pm : Value) (an : Option Addr) (ct : Value) (osl : Array (Option Value)), fd = PySem.W.fnOf x x (defArgs st) (defBody st) (defScope st) (.ref D) kV doc pm an (.ref c) ct /\ K.lookup f = some ⟨oc, od, .func fd, osl⟩ /\ PySem.W.codeIn K (.ref c) x = true
theorem FunD.by {P : Program} {w : World} {K : PySem.W.Frag} {mg : Str -> Option Value} {base : Heap} {x : Str} {st : Stmt} {f c D : Addr} {fd : FuncData} {N ps : List Str} {k : Nat} {sp : Sp} (F : FunD K x st c D f fd) (S : FnScope N ps (defScope st)) (len : ∀ vs H Q E, sp vs H Q E -> vs.length = ps.length)
    (hbody : ∀ (A : Around) (outer : List Env) (s : Shared) (H : Hp) (vs : List V) (Q : VK) (E : XK), Room k (A.deeper (envOfC x (defScope st) s.heap.objs.size f (.ref c))) -> sp vs H Q E ->
      ∃ t, jSs (cxOf CX0 P w K mg base N x (defScope st) f (.ref c) A outer s H E).nox (defBody st) t /\ t { nx := fun _ H' => Q .non H', rt := Q } (start N vs) H) : FnOk P w K mg base CX0 (k + 1) f fd ps sp := by
  obtain ⟨oc, od, kV, doc, pm, an, ct, osl, rfl, lk, hcd⟩ := F.ex
  refine fn_of lk hcd S len fun A outer s H vs Q E hr hsp => ?_
  obtain ⟨t, h, q⟩ := hbody A outer s H vs Q E hr hsp
  exact ⟨t, h.out.nox, q⟩
def DtIn (K : PySem.W.Frag) (D : Addr) (i : Int) : Prop := ∃ (d : Option Addr) (t : Tok) (n : Nat) (sl : Array (Option Value)), K.lookup D = some ⟨.type "tuple", d, .seq #[.int i t] n, sl⟩
theorem DtIn.mk {K : PySem.W.Frag} {D : Addr} {i : Int} {d : Option Addr} {t : Tok} {n : Nat} {sl : Array (Option Value)} (a : K.lookup D = some ⟨.type "tuple", d, .seq #[.int i t] n, sl⟩) : DtIn K D i := ⟨d, t, n, sl, a⟩
theorem DdIn.ca {P : Program} {w : World} {K : PySem.W.Frag} {mg : Str -> Option Value} {base h : Heap} {k : Nat} {x : Str} {st : Stmt} {c D : Addr} {ps : List Str} {dvs : List V} {sp : Sp} (X : K.In h) (G : h.Ns mainGlobals mg) (d : DdIn K x st c D)
    (hb : ∀ (kV doc pm : Value) (an : Option Addr) (ct : Value), Binds K (PySem.W.fnOf x x (defArgs st) (defBody st) (defScope st) (.ref D) kV doc pm an (.ref c) ct) ps [])
    (hd : ∀ (kV doc pm : Value) (an : Option Addr) (ct : Value), ∃ ds, Binds K (PySem.W.fnOf x x (defArgs st) (defBody st) (defScope st) (.ref D) kV doc pm an (.ref c) ct) ps ds /\ Vals dvs ds)
    (ok : ∀ f fd, FunD K x st c D f fd -> FnOk P w K mg base CX0 k f fd ps sp) : CaD P w K mg base CX0 k x ps dvs sp := by
  obtain ⟨f, a, oc, od, kV, doc, pm, an, ct, osl, l, cc, kp⟩ := d
  exact ⟨f, _, ok f _ ⟨oc, od, kV, doc, pm, an, ct, osl, rfl, l, cc⟩, hb kV doc pm an ct, hd kV doc pm an ct, kp, PySem.W.mg_of X G a⟩
end L2
namespace L2
open PySem PySem.Spec PyProof.Rows
section
variable {prog : Program} {w : World} {A : Around} {E : Value -> Shared -> Prop}
end
inductive TyN (H : Hp) : V -> Bool -> Prop where
  | int (i : Int) : TyN H (.int i) false
  | str (z : Str) : TyN H (.str z) false
  | bl (b : Bool) : TyN H (.bl b) false
  | non : TyN H .non false
  | lst {a : Addr} {xs : List V} (e : H a = some (.lst xs)) : TyN H (.ref a) true
  | tup {a : Addr} {xs : List V} (e : H a = some (.tup xs)) : TyN H (.ref a) true
section
variable {X : Cx}
variable {CX : CXT} {k : Nat} {C : Addr} {ps : List Str} {sp : Sp} {E : XK} {x m : Str} {p pos apos : Pos} {e o : Expr} {es : List Expr} {ta : TE} {t : TA}
structure MeD (P : Program) (w : World) (K : PySem.W.Frag) (mg : Str -> Option Value) (base : Heap) (CX : CXT) (k : Nat) (C : Addr) (m : Str) (ps : List Str) (dvs : List V) (sp : Sp) : Prop where
  ex : ∃ f fd, FnOk P w K mg base CX k f fd ps sp /\ Binds K fd ps [] /\ (∃ ds, Binds K fd ps ds /\ Vals dvs ds) /\ Meth K C m f
theorem je_dget {o i : Expr} {td ty : TE} {pos : Pos} (hr : Room k X.A) (ho : jE X o td) (hi : jE X i ty) (hs : NoSl i := by intro _ _; rfl) : jE X (.Subscript o i pos) (tDGet td ty) := ⟨pe_dget (hu_of hr) ho.out hi.out hs⟩
end
section
variable {g : TG} {tt : TT} {te : TE} {Q : VK} {σ : St} {H : Hp}
end
structure FunM (K : PySem.W.Frag) (x qual : Str) (st : Stmt) (D f : Addr) (fd : FuncData) : Prop where
  ex : ∃ (oc : Value) (od : Option Addr) (kV doc pm : Value) (an : Option Addr) (cdv ct : Value) (osl : Array (Option Value)), fd = PySem.W.fnOf x qual (defArgs st) (defBody st) (defScope st) (.ref D) kV doc pm an cdv ct /\ K.lookup f = some ⟨oc, od, .func fd, osl⟩ /\ PySem.W.codeIn K cdv qual = true
theorem FunM.by {P : Program} {w : World} {K : PySem.W.Frag} {mg : Str -> Option Value} {base : Heap} {x qual : Str} {st : Stmt} {f D : Addr} {fd : FuncData} {N ps : List Str} {k : Nat} {sp : Sp} (F : FunM K x qual st D f fd) (S : FnScope N ps (defScope st)) (len : ∀ vs H Q E, sp vs H Q E -> vs.length = ps.length)
    (hbody : ∀ (cdv : Value) (A : Around) (outer : List Env) (s : Shared) (H : Hp) (vs : List V) (Q : VK) (E : XK), Room k (A.deeper (envOfC qual (defScope st) s.heap.objs.size f cdv)) -> sp vs H Q E ->
      ∃ t, jSs (cxOf CX0 P w K mg base N qual (defScope st) f cdv A outer s H E).nox (defBody st) t /\ t { nx := fun _ H' => Q .non H', rt := Q } (start N vs) H) : FnOk P w K mg base CX0 (k + 1) f fd ps sp := by
  obtain ⟨oc, od, kV, doc, pm, an, cdv, ct, osl, rfl, lk, hcd⟩ := F.ex
  refine fn_of lk hcd S len fun A outer s H vs Q E hr hsp => ?_
  obtain ⟨t, h, q⟩ := hbody cdv A outer s H vs Q E hr hsp
  exact ⟨t, h.out.nox, q⟩
def MdIn (K : PySem.W.Frag) (C : Addr) (x qual : Str) (st : Stmt) (D : Addr) : Prop := ∃ f, PySem.W.findIn K (.ref C) x = some (some (.ref f)) /\ PySem.W.isFn K (.ref f) = true /\ ∃ (oc : Value) (od : Option Addr) (kV doc pm : Value) (an : Option Addr) (cdv ct : Value) (osl : Array (Option Value)), K.lookup f = some ⟨oc, od, .func (PySem.W.fnOf x qual (defArgs st) (defBody st) (defScope st) (.ref D) kV doc pm an cdv ct), osl⟩ /\ PySem.W.codeIn K cdv qual = true /\ PySem.W.keepIn K (.ref f) = true
theorem MdIn.mk {K : PySem.W.Frag} {C : Addr} {x qual : Str} {st : Stmt} {f D : Addr} {oc : Value} {od : Option Addr} {kV doc pm : Value} {an : Option Addr} {cdv ct : Value} {osl : Array (Option Value)} (a : PySem.W.findIn K (.ref C) x = some (some (.ref f))) (l : K.lookup f = some ⟨oc, od, .func (PySem.W.fnOf x qual (defArgs st) (defBody st) (defScope st) (.ref D) kV doc pm an cdv ct), osl⟩) (c : PySem.W.codeIn K cdv qual = true) (k : PySem.W.keepIn K (.ref f) = true) (n : PySem.W.isFn K (.ref f) = true) : MdIn K C x qual st D := ⟨f, a, n, oc, od, kV, doc, pm, an, cdv, ct, osl, l, c, k⟩
def DnIn (K : PySem.W.Frag) (D : Addr) : Prop := ∃ (d : Option Addr) (n : Nat) (sl : Array (Option Value)), K.lookup D = some ⟨.type "tuple", d, .seq #[.none] n, sl⟩
theorem DnIn.mk {K : PySem.W.Frag} {D : Addr} {d : Option Addr} {n : Nat} {sl : Array (Option Value)} (a : K.lookup D = some ⟨.type "tuple", d, .seq #[.none] n, sl⟩) : DnIn K D := ⟨d, n, sl, a⟩
end L2
namespace L2
open PySem PySem.Spec PyProof.Rows
section
variable {X : Cx} {k : Nat} {o e f i : Expr} {td ty tx : TE} {apos cpos pos : Pos}
theorem jt_din (hr : Room k X.A) (hi : jE X i ty) (ho : jE X o td) (h1 : behindInMarks .In o = false := by rfl) : jT X (.Compare i [.In] [o] pos) (tB (tDIn ty td)) := ⟨pt_cmp (pc_din (hu_of hr) hi.out ho.out) (h1 := h1)⟩
theorem jt_dnotin (hr : Room k X.A) (hi : jE X i ty) (ho : jE X o td) (h1 : behindInMarks .NotIn o = false := by rfl) : jT X (.Compare i [.NotIn] [o] pos) (tB (tDNotIn ty td)) := ⟨pt_cmp (pc_dnotin (hu_of hr) hi.out ho.out) (h1 := h1)⟩
theorem jc_min2 (hc : X.calm = true) : jCa X (.builtin "min") (fun xs H Q => ∃ i j, xs = [.int i, .int j] /\ Q (.int (if j < i then j else i)) H) := ⟨call_min2 hc⟩
end
end L2
namespace L2
open PySem PySem.Spec PyProof.Rows
section
variable {X : Cx}
def rDictD : List V -> Hp -> VK -> Prop := fun xs H Q => ∃ d kvs, xs = [.ref d] /\ H d = some (.dK kvs) /\ ∀ l, H l = none -> Q (.ref l) (upd H l (.dK kvs))
theorem call_dict_dict : CallR X (.type "dict") rDictD := by
  intro pins s σ H xs us Q I r h
  obtain ⟨d, kvs, rfl, hd, q⟩ := h
  obtain ⟨u, rfl, rx⟩ := vals1 r
  cases rx
  obtain ⟨z, hs, ws, rel, dd⟩ := dk_of I.hok hd
  refine kt_call_dict (knd := mixKind X.prog X.w) hs dd (by rw [<- rel.length]; exact z) fun h' dn sb => ?_
  have hk : ∀ b o, s.heap.get? b = some o -> h'.get? b = some o := fun b o e => (sb.2 b (Nat.ne_of_lt (Heap.lt_size e))).trans (Heap.get?_push_of_some _ e)
  refine ⟨.ref s.heap.objs.size, _, I.laid (t' := s.toks) hk (Nat.le_refl _) (show ObjOk X.prog X.w _ h' _ (.dK kvs) from ⟨z, ?_, ws, rel, dn⟩), rfl, q _ (I.hok.fresh (Nat.le_refl _))⟩
  have := I.big
  exact beq_eq_false_iff_ne.mpr (fun e => by rw [e] at this; exact Nat.lt_irrefl _ this)
theorem jc_dict_dict : jCa X (.type "dict") rDictD := ⟨call_dict_dict⟩
end
end L2
namespace L2
open PySem PySem.Spec PyProof.Rows
def xTakeG (K : PySem.W.Frag) (Ch : Addr) (th : Addr -> Obj -> TS) (D : Ends) (n : Nat) : XK := fun C dx H => PySem.W.exmOne K C (.ref Ch) = some true /\ ∀ (e : Addr) (oe : Obj) (vs : Array Value) (σ : St), σ.length = n -> oe.cls = C -> oe.dict = dx -> oe.data = .fields vs -> vs[2]? = some .none -> H e = none -> th e oe D σ H
abbrev Cx.plusP (X : Cx) (pins : List (Addr × Obj)) : Cx := { X with pn := X.pn ++ pins }
abbrev Cx.inTry (X : Cx) (pins : List (Addr × Obj)) (E : XK) : Cx := { X with pn := X.pn ++ pins, xe := fun u s' => ∃ pins' σ', Air (X.plusP pins) pins' σ' E u s' }
section
variable {X : Cx} {Ch : Addr} {x : Str} {np hpos tpos : Pos} {b0 : Stmt} {suite body : List Stmt} {th : Addr -> Obj -> TS} {tb : XK -> TS}
theorem catch_okN {pins : List (Addr × Obj)} {σ : St} {D : Ends} {u : Value} {s' : Shared} (hst : X.stack = X.env :: X.outer) (hf : X.env.frame = some X.env.locals) (hg : Gl X x) (hm : X.mg x = some (.ref Ch))
    (hS : ∀ e oe, PSs (X.inEx (.ref e) [(e, oe)]) (b0 :: suite) (th e oe)) (hdb : (x == ("__debug__" : Str)) = false)
    (h : Air X pins σ (xTakeG X.K Ch th D X.N.length) u s') :
    wpAny (model X.prog X.w) X.A (noteFrame u X.env) (fun _ s2 => wpAny (model X.prog X.w) X.A (setFlight u none) (fun _ s3 => wpAny (model X.prog X.w) X.A (handleBy u X.env [.ExceptHandler (some (.Name x np)) none (b0 :: suite) hpos]) (SP X pins D) X.xe s3) X.xe s2) X.xe s' := by
  obtain ⟨e, C, dx, H', k, rfl, I, ne, hk, he, hp, st, hex, hth⟩ := h
  have fr : X.A.frames = some (X.env :: X.outer) := hst ▸ I.ok.frames
  have fs : s'.heap.FunFrames X.base (X.env :: X.outer) := hst ▸ I.stack
  have pk : ∀ b, k <= b -> ∀ p ∈ X.pn ++ pins, p.1 ≠ b := fun b hb p q z => absurd (Nat.lt_of_lt_of_le (hp p q) hb) (by rw [z]; exact Nat.lt_irrefl _)
  -- from the landed state on
  have fin : ∀ (h2 : Heap) (T : Addr), Tr h2 e C dx T .none -> Inv X pins σ H' { s' with heap := h2 } -> H' T = none -> X.s₀.heap.objs.size <= T -> (∀ p ∈ X.pn ++ pins, p.1 ≠ T) ->
      wpAny (model X.prog X.w) X.A (handleBy (.ref e) X.env [.ExceptHandler (some (.Name x np)) none (b0 :: suite) hpos]) (SP X pins D) X.xe { s' with heap := h2 } := by
    intro h2 T t J nT sT pT
    obtain ⟨oe, vs, g1, g2, g3, g4, g5⟩ := t.ex
    have Jm : Inv (X.inEx (.ref e) []) pins σ H' { s' with heap := h2 } := J.inEx (.ref e) fun q hq => nomatch hq
    have LT : PySem.W.Looks (model X.prog X.w) h2 (typeOf (.ref e)) C := g2 ▸ (PySem.W.Looks.ld g1).andThen .now
    refine wpAny_handleBy_cons (codeAny_handlers_test (ld_glob Jm hg hm ?_ hdb)) (by intro q; cases q)
    refine PySem.W.Looks.here (s := { s' with heap := h2 }) (PySem.W.exm_one (K := X.K) J.kIn LT hex) ?_
    refine codeAny_handlers_suite (fly_set (v := none) t fun h3 t3 m3 => ?_)
    have J3 : Inv X pins σ H' { s' with heap := h3 } := Inv.moved (s := { s' with heap := h2 }) J (m3.mono (fun b z => nomatch z) fun _ z => z) fun b hb => by
      rw [List.mem_singleton.mp hb]
      obtain ⟨ot, ts, q1, q2, _⟩ := t.tb
      exact ⟨nT, .inr sT, (J.apart q1 q2).1, (J.apart q1 q2).2, pT⟩
    obtain ⟨oe3, vs3, a1, a2, a3, a4, a5⟩ := t3.ex
    have ap := Inv.apart (s := { s' with heap := h3 }) J3 a1 a4
    have J4 : Inv (X.inEx (.ref e) [(e, oe3)]) pins σ H' { s' with heap := h3 } := J3.inEx (.ref e) fun q hq => by
      rw [List.mem_singleton.mp hq]
      exact ⟨a1, ne, ap.1, fun z => by
        obtain ⟨_, o, ho, nf⟩ := J3.funs.mem z
        have ho' : h3.get? e = some o := ho
        rw [a1] at ho'
        cases ho'
        exact nf vs3 a4, fun v z => by rw [a4] at z; cases z⟩
    refine wpAny_mono (hS e oe3 pins _ _ H' D J4 (hth e oe3 vs3 _ J3.len a2 a3 a4 a5.2 ne)) (fun f s5 q => ?_) fun _ _ z => False.elim z
    cases f with
    | next =>
      obtain ⟨σ', H5, I5, q⟩ := q
      exact ⟨_, _, I5.outEx I.ok, q⟩
    | brk =>
      obtain ⟨σ', H5, I5, q⟩ := q
      exact ⟨_, _, I5.outEx I.ok, q⟩
    | cont =>
      obtain ⟨σ', H5, I5, q⟩ := q
      exact ⟨_, _, I5.outEx I.ok, q⟩
    | ret w =>
      obtain ⟨v, σ', H5, I5, r, q⟩ := q
      exact ⟨v, _, _, I5.outEx I.ok, r, q⟩
  have two : ∀ (h1 : Heap) (T : Addr) (xs : List Addr), Tr h1 e C dx T (rawInt X.env.locals) -> Mv ((X.env :: X.outer).filterMap (·.frame)) xs s'.heap h1 -> (∀ b ∈ xs, H' b = none /\ X.s₀.heap.objs.size <= b /\ (∀ p ∈ X.pn ++ pins, p.1 ≠ b) /\ ∃ o vs, s'.heap.get? b = some o /\ o.data = .fields vs) -> s'.heap.objs.size <= T ->
      wpAny (model X.prog X.w) X.A (setFlight (.ref e) none) (fun _ s3 => wpAny (model X.prog X.w) X.A (handleBy (.ref e) X.env [.ExceptHandler (some (.Name x np)) none (b0 :: suite) hpos]) (SP X pins D) X.xe s3) X.xe { s' with heap := h1 } := by
    intro h1 T xs t m hxs hT
    have J1 : Inv X pins σ H' { s' with heap := h1 } := I.moved (hst ▸ m) fun b hb => by
      obtain ⟨r1, r2, r3, o, vs, r4, r5⟩ := hxs b hb
      exact ⟨r1, .inr r2, (I.apart r4 r5).1, (I.apart r4 r5).2, r3⟩
    have nT : H' T = none := I.hok.fresh hT
    have sT : X.s₀.heap.objs.size <= T := Nat.le_trans I.sz hT
    have pT : ∀ p ∈ X.pn ++ pins, p.1 ≠ T := fun p q z => absurd (Nat.lt_of_lt_of_le (Heap.lt_size (I.pin p q).1) hT) (by rw [z]; exact Nat.lt_irrefl _)
    refine fly_set (s := { s' with heap := h1 }) (v := none) t fun h2 t2 m2 => fin h2 T t2 (Inv.moved (s := { s' with heap := h1 }) J1 (m2.mono (fun b z => nomatch z) fun _ z => z) fun b hb => ?_) nT sT pT
    rw [List.mem_singleton.mp hb]
    obtain ⟨ot, ts, q1, q2, _⟩ := t.tb
    exact ⟨nT, .inr sT, (J1.apart q1 q2).1, (J1.apart q1 q2).2, pT⟩
  rcases st with ⟨oe, vs, h1, rfl, rfl, h4, h5, h6⟩ | ⟨T0, t0, n0, s0⟩
  · refine fly_first fr fs hf h1 h4 h5 h6 fun h' T hs t m => two h' T [e] t m (fun b hb => ?_) hs
    rw [List.mem_singleton.mp hb]
    exact ⟨ne, Nat.le_trans hk he, pk e he, oe, vs, h1, h4⟩
  · refine fly_next fr fs hf t0 fun h' T hs t m => two h' T [e, T0] t m (fun b hb => ?_) hs
    rcases List.mem_cons.mp hb with r | hb
    · rw [r]
      obtain ⟨oe, vs, q1, _, _, q4, _⟩ := t0.ex
      exact ⟨ne, Nat.le_trans hk he, pk e he, oe, vs, q1, q4⟩
    · rw [List.mem_singleton.mp hb]
      obtain ⟨ot, ts, q1, q2, _⟩ := t0.tb
      exact ⟨n0, Nat.le_trans hk s0, pk T0 s0, ot, ts, q1, q2⟩
theorem Inv.toTry {pins : List (Addr × Obj)} {σ : St} {H : Hp} {s : Shared} {E : XK} (I : Inv X pins σ H s) : Inv (X.inTry pins E) [] σ H s :=
  ⟨⟨I.ok.mod, I.ok.kind, I.ok.glob, I.ok.blt, I.ok.above, I.ok.inj, I.ok.has, I.ok.cab, I.ok.hd, I.ok.frames, I.ok.stk, I.ok.exf, I.ok.bs, I.ok.bsz, I.ok.noex, I.ok.exfs, I.ok.funs, I.ok.frf⟩, I.os, I.bare, I.base, I.loc, I.cell, I.free, I.freeC, fun q hq => I.pin q (by simpa using hq), I.hok, I.len⟩
theorem Inv.ofTry {pins : List (Addr × Obj)} {σ : St} {H : Hp} {s : Shared} {E : XK} (ok : X.Ok) (I : Inv (X.inTry pins E) [] σ H s) : Inv X pins σ H s :=
  ⟨ok, I.os, I.bare, I.base, I.loc, I.cell, I.free, I.freeC, fun q hq => I.pin q (by simpa using hq), I.hok, I.len⟩
theorem Inv.ofPlus {pins pins' : List (Addr × Obj)} {σ : St} {H : Hp} {s : Shared} (ok : X.Ok) (I : Inv (X.plusP pins) pins' σ H s) : Inv X (pins ++ pins') σ H s :=
  ⟨ok, I.os, I.bare, I.base, I.loc, I.cell, I.free, I.freeC, fun q hq => I.pin q (by simpa using hq), I.hok, I.len⟩
theorem Inv.few {pins pins' : List (Addr × Obj)} {σ : St} {H : Hp} {s : Shared} (I : Inv X (pins ++ pins') σ H s) : Inv X pins σ H s :=
  ⟨I.ok, I.os, I.bare, I.base, I.loc, I.cell, I.free, I.freeC, fun q hq => I.pin q (by rw [<- List.append_assoc]; exact List.mem_append_left _ hq), I.hok, I.len⟩
def tTryG (K : PySem.W.Frag) (Ch : Addr) (n : Nat) (th : Addr -> Obj -> TS) (tb : XK -> TS) : TS := fun D σ H => tb (xTakeG K Ch th D n) D σ H
theorem ps_tryG (hb : ∀ pins E, PSs (X.inTry pins E) body (tb E)) (hst : X.stack = X.env :: X.outer) (hf : X.env.frame = some X.env.locals) (hg : Gl X x) (hm : X.mg x = some (.ref Ch))
    (hS : ∀ e oe, PSs (X.inEx (.ref e) [(e, oe)]) (b0 :: suite) (th e oe)) (hdb : (x == ("__debug__" : Str)) = false := by decide) :
    PS X (.Try body [.ExceptHandler (some (.Name x np)) none (b0 :: suite) hpos] [] [] tpos) (tTryG X.K Ch X.N.length th tb) := by
  intro pins s σ H D I h
  refine wpAny_Try_except (wpAny_mono (hb pins _ [] s σ H D I.toTry h) (fun f s1 q => ?_) (fun u s1 q => ?_))
  · cases f with
    | next =>
      obtain ⟨σ', H5, I5, q⟩ := q
      exact wpAny_execs_nil ⟨_, _, I5.ofTry I.ok, q⟩
    | brk =>
      obtain ⟨σ', H5, I5, q⟩ := q
      exact ⟨_, _, I5.ofTry I.ok, q⟩
    | cont =>
      obtain ⟨σ', H5, I5, q⟩ := q
      exact ⟨_, _, I5.ofTry I.ok, q⟩
    | ret w =>
      obtain ⟨v, σ', H5, I5, r, q⟩ := q
      exact ⟨v, _, _, I5.ofTry I.ok, r, q⟩
  · obtain ⟨pins', σ', e, C, dx, H', k, rfl, I5, ne, hk, he, hp, st, hE⟩ := q
    have a : Air X (pins ++ pins') σ' (xTakeG X.K Ch th D X.N.length) (.ref e) s1 := ⟨e, C, dx, H', k, rfl, I5.ofPlus I.ok, ne, hk, he, fun p q => hp p (by simpa using q), st, hE⟩
    have g := catch_okN (np := np) (hpos := hpos) hst hf hg hm hS hdb a
    have sp : ∀ f s3, SP X (pins ++ pins') D f s3 -> SP X pins D f s3 := fun f s3 q => by
      cases f with
      | next => obtain ⟨σ', H5, I5, q⟩ := q; exact ⟨_, _, I5.few, q⟩
      | brk => obtain ⟨σ', H5, I5, q⟩ := q; exact ⟨_, _, I5.few, q⟩
      | cont => obtain ⟨σ', H5, I5, q⟩ := q; exact ⟨_, _, I5.few, q⟩
      | ret w => obtain ⟨v, σ', H5, I5, r, q⟩ := q; exact ⟨v, _, _, I5.few, r, q⟩
    exact wpAny_mono g (fun _ s2 q => wpAny_mono q (fun _ s3 q => wpAny_mono q sp fun _ _ z => z) fun _ _ z => z) fun _ _ z => z
theorem pass_try {pins : List (Addr × Obj)} {E : XK} : Passes (CXf X.prog X.w) (X.inTry pins E) E := fun pins' σ H1 s1 u s2 I h =>
  ⟨pins', σ, air_of (X := X.plusP pins) rfl rfl ⟨⟨I.ok.mod, I.ok.kind, I.ok.glob, I.ok.blt, I.ok.above, I.ok.inj, I.ok.has, I.ok.cab, I.ok.hd, I.ok.frames, I.ok.stk, I.ok.exf, I.ok.bs, I.ok.bsz, I.ok.noex, I.ok.exfs, I.ok.funs, I.ok.frf⟩, I.os, I.bare, I.base, I.loc, I.cell, I.free, I.freeC, I.pin, I.hok, I.len⟩ h⟩
theorem js_tryG (hb : ∀ pins E, jSs (X.inTry pins E) body (tb E)) (hg : Gl X x) (hm : X.mg x = some (.ref Ch)) (hS : ∀ e oe, jSs (X.inEx (.ref e) [(e, oe)]) (b0 :: suite) (th e oe)) (hst : X.stack = X.env :: X.outer := by rfl) (hf : X.env.frame = some X.env.locals := by rfl) (hdb : (x == ("__debug__" : Str)) = false := by decide) :
    jS X (.Try body [.ExceptHandler (some (.Name x np)) none (b0 :: suite) hpos] [] [] tpos) (tTryG X.K Ch X.N.length th tb) := ⟨ps_tryG (fun p E => (hb p E).out) hst hf hg hm (fun e oe => (hS e oe).out) hdb⟩
end
end L2
namespace L2
open PySem PySem.Spec PyProof.Rows
section
variable {X : Cx} {Ch : Addr} {x n : Str} {i : Nat} {np hpos tpos : Pos} {b0 : Stmt} {suite body : List Stmt} {th : Addr -> Obj -> TS} {tb : XK -> TS} {h0 : ExceptHandler} {hs : List ExceptHandler} {Tk : Ends -> XK}
end
end L2
namespace L2
open PySem PySem.Spec PyProof.Rows
section
variable {prog : Program} {w : World} {A : Around} {s : Shared} {E : Value -> Shared -> Prop}
end
def HandP (X : Cx) : Prop := ∃ (eh : Addr) (oe : Obj) (ve : Array Value), X.A.handled = some (.ref eh) /\ X.s₀.heap.get? eh = some oe /\ X.H₀ eh = none /\ eh ∉ X.fs /\ eh ∉ X.ex /\ oe.data = .fields ve /\ ve[2]? = some .none
theorem HandP.now {X : Cx} {pins : List (Addr × Obj)} {σ : St} {H : Hp} {s : Shared} (h : HandP X) (I : Inv X pins σ H s) : ∃ (eh : Addr) (oe : Obj) (ve : Array Value), X.A.handled = some (.ref eh) /\ s.heap.get? eh = some oe /\ H eh = none /\ eh ∉ X.fs /\ eh < X.s₀.heap.objs.size /\ eh ∉ X.ex /\ oe.data = .fields ve /\ ve[2]? = some .none := by
  obtain ⟨eh, oe, ve, a1, a2, a3, a4, a5, a6, a7⟩ := h
  exact ⟨eh, oe, ve, a1, I.base.keep eh oe a2 a3 a4 a5, I.base.free eh oe a2 a3 a5, a4, Heap.lt_size a2, a5, a6, a7⟩
structure TurnC (Cn : Cx -> Prop) (P : Program) (w : World) (K : PySem.W.Frag) (tg : Expr) (J : It) (fp : List Addr) (it : Addr) (tn : Nat -> Heap -> Prop) : Prop where
  mem : it ∈ fp
  obj : ∀ i h, tn i h -> ∀ b ∈ fp, ∃ o, h.get? b = some o /\ ∀ v, o.data ≠ .cell v
  keep : ∀ i h h', tn i h -> (∀ b ∈ fp, ∀ o, h.get? b = some o -> h'.get? b = some o) -> tn i h'
  item : ∀ (X : Cx), X.prog = P -> X.w = w -> X.K = K -> Cn X -> ∀ (i : Nat) (pins : List (Addr × Obj)) (s : Shared) (σ : St) (H : Hp) (E : Value -> Shared -> Prop), Inv X pins σ H s -> (∀ b ∈ fp, FpOk X pins H b) -> tn i s.heap -> J.go i H ->
    wpAny (model P w) X.A (pyNext (.ref it)) (fun r s1 => ∃ u, r = some u /\
      wpAny (model P w) X.A (letOwnedTupleGo tg (.ref it) u) (fun _ s2 => ∃ x H', Inv X pins σ H' s2 /\ RelV x u /\ J.yld i H x H' /\ tn (i + 1) s2.heap /\ ∀ b ∈ fp, H' b = none) E s1) E s
  done : ∀ (X : Cx), X.prog = P -> X.w = w -> X.K = K -> Cn X -> ∀ (i : Nat) (pins : List (Addr × Obj)) (s : Shared) (σ : St) (H : Hp) (E : Value -> Shared -> Prop), Inv X pins σ H s -> (∀ b ∈ fp, FpOk X pins H b) -> tn i s.heap -> J.stop i H ->
    wpAny (model P w) X.A (pyNext (.ref it)) (fun r s1 => r = none /\ Inv X pins σ H s1) E s
  self : ∀ (A : Around) (i : Nat) (s : Shared) (Q : Value -> Shared -> Prop) (E : Value -> Shared -> Prop), tn i s.heap -> Q (.ref it) s -> wpAny (model P w) A (pyIter (.ref it)) Q E s
end L2
namespace L2
open PySem PySem.Spec PyProof.Rows
section
variable {X : Cx} {scope : Scope} {cl : List (Str × Addr)} {S : List Nat} {pins : List (Addr × Obj)} {σ : St} {H : Hp} {s : Shared} {ex : List Addr} {M : List Str} {C : Addr}
variable {tg elt iter : Expr} {ifs : List Expr} {pos : Pos} {wi : TI} {g : TG} {tt : TT} {te : TE}
end
section
variable {X : Cx} {scope : Scope} {M : List Str} {tg elt l : Expr} {ifs : List Expr} {pos : Pos} {tl : TE} {g : TG} {tt : TT} {te : TE}
end
structure RoomH (k : Nat) (A : Around) : Prop where
  dp : A.depth + 3 * k + 5 < recursionLimit
  un : A.units + 16 * k + 200 < cLine
theorem RoomH.deeper {k : Nat} {A : Around} (r : RoomH (k + 1) A) (env : Env) : RoomH k (A.deeper env) :=
  ⟨by have := r.dp; show A.depth + 1 + 3 * k + 5 < _; omega, by have := r.un; show A.units + 3 + 16 * k + 200 < _; omega⟩
theorem Room.h {k : Nat} {A : Around} (r : Room k A) (u : Option Value) : RoomH k (A.mark u) := ⟨r.dp, r.un⟩
structure Hnd (A : Around) (outer : List Env) (s : Shared) (H : Hp) (e : Addr) (oe : Obj) : Prop where
  h : A.handled = some (.ref e)
  g : s.heap.get? e = some oe
  n : H e = none
  f : e ∉ frs outer
  d : ∃ ve : Array Value, oe.data = .fields ve /\ ve[2]? = some .none
structure FnOkH (P : Program) (w : World) (K : PySem.W.Frag) (mg : Str -> Option Value) (base : Heap) (k : Nat) (f : Addr) (fd : FuncData) (ps : List Str) (sp : Addr -> Obj -> Sp) : Prop where
  len : ∀ e oe vs H Q E, sp e oe vs H Q E -> vs.length = ps.length
  run : ∀ (A : Around) (outer : List Env) (s : Shared) (H : Hp) (args : Args) (us : List Value) (vs : List V) (Q : VK) (e : Addr) (oe : Obj), RoomH k A -> Env0 P w K mg base A outer s H -> Hnd A outer s H e oe -> BindsTo s fd args (ps.zip us) -> Vals vs us -> sp e oe vs H Q E0 ->
    codeAny (model P w) A (.call (.ref f) args) (CR CX0 outer P w H s Q E0) s
abbrev cxOfH (P : Program) (w : World) (K : PySem.W.Frag) (mg : Str -> Option Value) (base : Heap) (N : List Str) (qual : Str) (scope : Scope) (f : Addr) (cd : Value) (A : Around) (outer : List Env) (s : Shared) (H : Hp) : Cx :=
  { cxOf CX0 P w K mg base N qual scope f cd A outer s H E0 with calm := false, xe := fun _ _ => False }
theorem Hnd.p {P : Program} {w : World} {K : PySem.W.Frag} {mg : Str -> Option Value} {base : Heap} {N : List Str} {qual : Str} {scope : Scope} {f : Addr} {cd : Value} {A : Around} {outer : List Env} {s : Shared} {H : Hp} {e : Addr} {oe : Obj} (h : Hnd A outer s H e oe) : HandP (cxOfH P w K mg base N qual scope f cd A outer s H) :=
  let ⟨ve, d1, d2⟩ := h.d; ⟨e, oe, ve, h.h, h.g, h.n, h.f, (fun z => absurd (show e ∈ ([] : List Addr) from z) (by simp)), d1, d2⟩
structure CaH (P : Program) (w : World) (K : PySem.W.Frag) (mg : Str -> Option Value) (base : Heap) (k : Nat) (x : Str) (ps : List Str) (sp : Addr -> Obj -> Sp) : Prop where
  ex : ∃ f fd, FnOkH P w K mg base k f fd ps sp /\ Binds K fd ps [] /\ PySem.W.keepIn K (.ref f) = true /\ mg x = some (.ref f)
end L2
namespace PySem.W
open PySem PySem.Spec PySem.Calls PyProof.Rows
section
variable {prog : Program} {w : World} {A : Around} {E : Value -> Shared -> Prop} {s : Shared} {K : Frag} {e C : Addr} {ox od : Obj}
end
structure XIs (K : Frag) (C : Addr) : Prop where
  ga : findIn K (.ref C) "__getattribute__" = some (some (.builtin "BaseException.__getattribute__"))
  ha : findIn K (.ref C) "__getattr__" = some none
  sb : subIn K (.ref C) (.type "BaseException") = some true
  hd : hasDictIn K C = true
  cl : findIn K (.ref C) "__class__" = some (some (.builtin "object.__class__"))
  gs : specialIn K (.builtin "object.__class__") "__get__" = some (some (.builtin "getset_descriptor.__get__"))
  tk : takesIn K (.builtin "object.__class__") = some true
  mo : mroIn K C (.type "object") = some true
end PySem.W
namespace L2
open PySem PySem.Spec PyProof.Rows
end L2
namespace L2
open PySem PySem.Spec PyProof.Rows
section
variable {prog : Program} {w : World} {A : Around} {E : Value -> Shared -> Prop} {h : Heap} {g : Array GenState} {d : Drawn} {t : Nat} {os : OsState}
variable {nm q : Str} {C N : Addr} {bs bm bmB : List Value} {hdct : Bool} {sn : List Str} {sub : List Value} {ab : Bool} {col : Option Bool} {dd : Option Addr} {k0 k1 k2 k3 k5 : Option Value} {B Bn newId nid initId inN : String} {bmN : List Value}
end
theorem ns_none {K : PySem.W.Frag} {h : Heap} {N : Addr} {mg : Str -> Option Value} {n : Str} (X : K.In h) (G : h.Ns N mg) (e : PySem.W.nsIn K N n = some none) : mg n = none := by
  obtain ⟨o, es, ep, ho, hd, _, hf⟩ := G
  unfold PySem.W.nsIn at e
  split at e
  · rename_i c d es' n' sl q
    have := X _ _ q
    rw [ho] at this
    cases this
    cases hd
    split at e
    · cases e
    · rename_i he
      rw [<- hf]
      unfold nsFind findBy
      rw [<- Array.find?_toList, he]
      rfl
  · cases e
def xIn0 (K : PySem.W.Frag) (C : Addr) : Bool := match K.lookup C with
  | some ⟨.type "type", _, .cls cd, sl⟩ => (match cd.mro, sl.toList with
    | .ref C' :: bm, [_, _, _, _, some (.builtin n), _] => C' == C && n == "ValueError.__new__" && !cd.hasDel && PySem.W.tailIn K bmV bm && PySem.W.nsOkIn K cd.ns && PySem.W.nsIn K cd.ns "__init__" == some none && bm.contains (.type "BaseException")
    | _, _ => false)
  | _ => false
structure XCl0 (K : PySem.W.Frag) (C : Addr) : Prop where
  cls : xIn0 K C = true
  kp : PySem.W.keepIn K (.ref C) = true
theorem XCl0.at {K : PySem.W.Frag} {C : Addr} (c : XCl0 K C) {h : Heap} (X : K.In h) : ∃ nm q N bs bm hdct sn sub ab col dd k0 k1 k2 k3 k5 mN, h.get? C = some (excClassObj nm q C N bs bm hdct sn sub ab col dd k0 k1 k2 k3 k5 "ValueError.__new__") /\
    OwnTail h bmV bm /\ h.Ns N mN /\ mN "__init__" = none /\ bm.contains (.type "BaseException") = true := by
  have q := c.cls
  unfold xIn0 at q
  split at q
  · rename_i dd cd sl ho
    split at q
    · rename_i C' bm k0 k1 k2 k3 n k5 hm hs
      simp only [Bool.and_eq_true, beq_iff_eq, Bool.not_eq_true'] at q
      obtain ⟨⟨⟨⟨⟨⟨rfl, rfl⟩, hdel⟩, ht⟩, hok⟩, hi⟩, hb⟩ := q
      obtain ⟨nm, bs, mro, ns, qn, hd, sn, sub, ab, col, del⟩ := cd
      dsimp only at hm hdel hok hi
      subst hm hdel
      have es : sl = #[k0, k1, k2, k3, some (.builtin "ValueError.__new__"), k5] := by
        obtain ⟨l⟩ := sl
        simp only at hs
        rw [hs]
      subst es
      have nN := PySem.Heap.Ns.of_isNs (PySem.W.isNs_of_in X hok)
      exact ⟨nm, qn, ns, bs, bm, hd, sn, sub, ab, col, dd, k0, k1, k2, k3, k5, _, X _ _ ho, PySem.W.tail_of_in X ht, nN, ns_none X nN hi, hb⟩
    · cases q
  · cases q
section
variable {X : Cx} {k : Nat} {C : Addr} {E : XK} {x : Str} {np cpos pos : Pos}
end
end L2
namespace PySem.W
open PySem PySem.Spec PySem.Calls PyProof.Rows
section
variable {prog : Program} {w : World} {A : Around} {E : Value -> Shared -> Prop} {s : Shared} {K : Frag} {e C : Addr} {ox : Obj} {od : Option Obj}
end
end PySem.W
namespace L2
open PySem PySem.Spec PyProof.Rows
inductive ClsV : V -> Value -> Prop where
  | ref (C : Addr) : ClsV (.ref C) (.ref C)
  | ty (T : String) : ClsV (.ty T) (.type T)
theorem ClsV.un {D : V} {c c' : Value} (h : ClsV D c) (r : RelV D c') : c' = c := by
  cases h with
  | ref C => cases r; rfl
  | ty T => cases r; rfl
inductive ClsVs : List V -> List Value -> Prop where
  | nil : ClsVs [] []
  | cons {D : V} {c : Value} {Ds : List V} {cs : List Value} (h : ClsV D c) (t : ClsVs Ds cs) : ClsVs (D :: Ds) (c :: cs)
theorem ClsVs.un {Ds : List V} {cs : List Value} (h : ClsVs Ds cs) : ∀ {us : List Value}, Vals Ds us -> us = cs := by
  induction h with
  | nil => intro us r; cases r; rfl
  | cons a _ ih => intro us r; cases r with
    | cons p q => rw [a.un p, ih q]
inductive Asked (K : PySem.W.Frag) (t : Value) (H : Hp) : V -> Bool -> Prop where
  | one {D : V} {c : Value} {b : Bool} (h : ClsV D c) (e : PySem.W.kitOne K t c = some b) : Asked K t H D b
  | tup {tp : Addr} {Ds : List V} {cs : List Value} {b : Bool} (ht : H tp = some (.tup Ds)) (h : ClsVs Ds cs) (e : PySem.W.kitAny K t cs = some b) : Asked K t H (.ref tp) b
section
variable {X : Cx} {e C d : Addr} {oe : Obj} {pins : List (Addr × Obj)} {s : Shared} {σ : St} {H : Hp} {od : Option Obj} {D : V} {b : Bool} {u : Value} {Q : VK}
end
section
variable {X : Cx} {k : Nat} {C f : Addr} {ps : List Str} {sp : Sp} {x name : Str} {np cpos pos : Pos} {a ex : Expr} {as : List Expr} {t : TA} {te : TE}
def sXMore (K : PySem.W.Frag) (C : Addr) (ta tv : TE) (m : Str) : TS := fun D σ H => tv σ H fun y H1 => ta σ H1 fun x H2 => ∃ e d fs, x = .ref e /\ H2 e = some (XO e C (some d)) /\ H2 d = some (XD d fs) /\ fs.length < 900 /\ PySem.W.takerIn K C m = some none /\ D.nx σ (upd H2 d (XD d ((m, y) :: fs)))
theorem js_xmore {o value : Expr} {ta tv : TE} {m : Str} {pos' : Pos} (M : XCl X.K C f) (ha : jE X o ta) (hv : jE X value tv) (hs : swapsWith value (some (.Attribute o m pos')) pos.line X.env = pure false := by rfl) : jS X (.Assign [.Attribute o m pos'] value pos) (sXMore X.K C ta tv m) := by
  constructor
  intro pins s σ H D I h
  refine plainObj_wpAny_Assign_Attribute (thn (hv.out pins s σ H _ I h) fun u s1 ⟨y, H1, I1, ry, q⟩ => thn (ha.out pins s1 σ H1 _ I1 q) fun ov s2 ⟨x, H2, I2, rx, e, d, fs, ex, hH, hD, hl, hk, q2⟩ => ?_) hs
  subst ex
  obtain rfl : ov = Value.ref e := rx
  obtain ⟨oe, ws, t0, g1, g2, g3, g4, g5, g6⟩ := XO.get I2.hok hH
  obtain ⟨mA, ns, r, hw, hz⟩ := XD.get I2.hok hD
  refine xs_more (ns := fs.map (·.1)) I2.kIn g1 g2 g3 g4 ns hw (by rw [List.length_map]; have := line0; omega) M.sa M.over hk M.hd fun h' hn kp => ?_
  obtain ⟨od, es, ep, ho, _⟩ := id hn
  refine ⟨σ, _, I2.write (x := d) (e := d) (o := XD d ((m, y) :: fs)) (h' := h') (t' := s2.toks + 2) (by rw [hD]; exact True.intro) (.inl rfl) (fun b u nb q => (kp b nb).trans q) ⟨_, ho⟩ (XD.ok ⟨_, hn, fun g => ?_, fun g hg => ?_, by simp; omega⟩), q2⟩
  · rw [List.lookup_cons]
    by_cases z : g = m
    · rw [if_pos z, z, beq_self_eq_true]
      exact ry
    · rw [if_neg z, beq_eq_false_iff_ne.mpr z]
      exact r g
  · by_cases z : g = m
    · rw [z]
      exact List.mem_cons_self
    · dsimp only at hg
      rw [if_neg z] at hg
      exact List.mem_cons_of_mem _ (hw g hg)
end
end L2
namespace KD
open PySem L2 K11
theorem iteT' {b : Bool} {A B : Prop} (e : b = true) (h : A) : if b = true then A else B := by rw [if_pos e]; exact h
theorem iteF' {b : Bool} {A B : Prop} (e : b = false) (h : B) : if b = true then A else B := by rw [if_neg (by rw [e]; decide)]; exact h
def Err (C : Addr) (E : XK) (H : Hp) (n : Str) : Prop := ∀ d H', Same H H' -> H' d = some (XD d [("name", .str n)]) -> E (.ref C) (some d) H'
theorem Err.at {C : Addr} {E : XK} {H H' : Hp} {n : Str} (h : Err C E H n) (s : Same H H') : Err C E H' n := fun d H2 s2 q => h d H2 (s.trans s2) q
def spX (C : Addr) (f : Str) : Sp := fun vs H Q _ => ∃ e v, vs = [.ref e, v] /\ H e = some (XO e C none) /\ ∀ d, H d = none -> d ≠ e -> Q .non (upd (upd H d (XD d [(f, v)])) e (XO e C (some d)))
theorem raised {C : Addr} {H : Hp} {E : XK} {n : Str} (hE : Err C E H n) (e : Addr) (he : H e = none) :
    spX C "name" [.ref e, .str n] (upd H e (XO e C none)) (fun u H2 => u = .non /\ ∃ dx, H2 e = some (XO e C dx) /\ E (.ref C) dx (drp H2 e)) E0 := by
  refine ⟨e, _, rfl, upd_same, fun d hd hne => ⟨rfl, some d, upd_same, ?_⟩⟩
  have hd' : H d = none := by rw [upd_ne hne] at hd; exact hd
  refine hE d _ (fun b u hb => ?_) ?_
  · rw [drp_ne (ne_of_none hb he), upd_ne (ne_of_none hb he), upd_ne (ne_of_none hb hd'), upd_ne (ne_of_none hb he)]
    exact hb
  · rw [drp_ne hne, upd_ne hne]
    exact upd_same
def dup : List Str -> List Str -> Option Str
  | _, [] => none
  | seen, n :: r => if n ∈ seen then some n else dup (seen ++ [n]) r
def marks (ns : List Str) : List (Key × V) := ns.map fun n => (.inr n, .bl true)
theorem marks_in {ns : List Str} {n : Str} : (valV (marks ns) (.inr n)).isSome = decide (n ∈ ns) := by
  induction ns with
  | nil => rfl
  | cons a l ih =>
    by_cases h : a = n
    · subst h
      show (valV ((Sum.inr a, V.bl true) :: marks l) (.inr a)).isSome = _
      simp [valV]
    · show (valV ((Sum.inr a, V.bl true) :: marks l) (.inr n)).isSome = _
      rw [valV_neg (fun e => h (Sum.inr.inj e)), ih]
      have h' : ¬ n = a := fun e => h e.symm
      simp [h']
theorem marks_none {ns : List Str} {n : Str} (h : n ∉ ns) : valV (marks ns) (.inr n) = none := by
  have := marks_in (ns := ns) (n := n)
  rw [decide_eq_false h] at this
  exact Option.isSome_eq_false_iff.mp this |> Option.isNone_iff_eq_none.mp
theorem dup_take {seen ns : List Str} {i : Nat} {n : Str} (h : ns[i]? = some n) (hd : ∀ m, dup seen (ns.take i) ≠ some m) : dup seen ns = if n ∈ seen ++ ns.take i then some n else dup (seen ++ ns.take (i + 1)) (ns.drop (i + 1)) := by
  induction ns generalizing seen i with
  | nil => simp at h
  | cons a l ih =>
    cases i with
    | zero =>
      simp at h
      subst h
      simp [dup]
    | succ i =>
      have ha : a ∉ seen := fun z => hd a (by rw [List.take_succ_cons]; unfold dup; rw [if_pos z])
      have h' : l[i]? = some n := by simpa using h
      have hd' : ∀ m, dup (seen ++ [a]) (l.take i) ≠ some m := fun m z => hd m (by rw [List.take_succ_cons]; unfold dup; rw [if_neg ha]; exact z)
      have := ih (seen := seen ++ [a]) h' hd'
      show (if a ∈ seen then some a else dup (seen ++ [a]) l) = _
      rw [if_neg ha, this, List.take_succ_cons, List.take_succ_cons, List.drop_succ_cons, List.append_assoc, List.append_assoc]
      rfl
theorem dup_more {seen ns : List Str} {i : Nat} {n : Str} (h : ns[i]? = some n) (hd : dup seen (ns.take i) = none) (hn : n ∉ seen ++ ns.take i) : dup seen (ns.take (i + 1)) = none := by
  have h1 : (ns.take (i + 1))[i]? = some n := by rw [List.getElem?_take]; simp [h]
  have h2 : (ns.take (i + 1)).take i = ns.take i := by rw [List.take_take]; congr 1; omega
  rw [dup_take h1 (by rw [h2, hd]; intro m z; cases z), h2, if_neg hn]
  have : (ns.take (i + 1)).drop (i + 1) = [] := by rw [List.drop_eq_nil_iff, List.length_take]; omega
  rw [this]
  rfl
def Sq (K : PySem.W.Frag) (H : Hp) (p : Addr) (ns : List Str) : Prop := SqL K H p (ns.map V.str) \/ H p = some (.tup (ns.map V.str))
theorem Sq.same {K : PySem.W.Frag} {H H' : Hp} {p : Addr} {ns : List Str} (h : Sq K H p ns) (s : Same H H') : Sq K H' p ns := h.imp (fun h => s.seq h) (fun h => s _ _ h)
def spBound (K : PySem.W.Frag) (Tw : Addr) : Sp := fun vs H Q E => ∃ (p a : Addr) (ns seen : List Str), vs = [.ref p, .ref a] /\ Sq K H p ns /\ H a = some (.dK (marks seen)) /\ ns.length <= 1000 /\ seen.length <= 1000 /\
  (dup seen ns = none -> ∀ (H' : Hp) (d : Addr), Same H H' -> H d = none -> H' d = some (.dK (marks (seen ++ ns))) -> Q (.ref d) H') /\ ∀ n, dup seen ns = some n -> Err Tw E H n
section
variable {P : Program} {w : World} {K : PySem.W.Frag} {mg : Str -> Option Value} {base : Heap} {f R C Tw Un : Addr} {fd : FuncData}
theorem scTwice : FnScope ["self", "name"] ["self", "name"] (defScope iTwice) := ⟨rfl, rfl, rfl, by decide +kernel, rfl, by decide +kernel, by decide +kernel⟩
theorem scUnknown : FnScope ["self", "name"] ["self", "name"] (defScope iUnknown) := ⟨rfl, rfl, rfl, by decide +kernel, rfl, by decide +kernel, by decide +kernel⟩
theorem scBound : FnScope ["names", "above", "names_bound", "name"] ["names", "above"] (defScope sBound) := ⟨rfl, rfl, rfl, by decide +kernel, rfl, by decide +kernel, by decide +kernel⟩
theorem scKnow : FnScope ["names", "known_ones", "name"] ["names", "known_ones"] (defScope sInsist) := ⟨rfl, rfl, rfl, by decide +kernel, rfl, by decide +kernel, by decide +kernel⟩
theorem ok_twice {fi : Addr} (F : Fun K "__init__" "Twice.__init__" iTwice f fd) (xw : PySem.W.takerIn K C "name" = some none) (M : XCl K C fi) (B : XBase K R) (mR : mg "ReuseError" = some (.ref R)) : FnOk P w K mg base CX0 1 f fd ["self", "name"] (spX C "name") := by
  refine F.by scTwice (fun vs H Q E h => ?_) (fun cdv A' outer s H vs Q E hr h => ?_)
  · obtain ⟨e, v, rfl, _⟩ := h
    rfl
  obtain ⟨e, v, rfl, hX, q⟩ := h
  refine ⟨_, jss_cons (js_expr ⟨pe_xinit M B rfl mR (ja_c (jv 0) (ja_c (jv 1) ja_nil)).out⟩) (jss_one ⟨ps_xnew M (jv 0).out (jv 1).out⟩), ?_⟩
  refine ⟨_, rfl, _, rfl, e, [v], none, rfl, by show 1 <= sizeLine; decide, hX, ?_⟩
  exact ⟨_, rfl, _, rfl, e, rfl, hX, xw, fun d hd ne => q d hd ne⟩
theorem ok_unknown {fi : Addr} (F : Fun K "__init__" "Unknown.__init__" iUnknown f fd) (xw : PySem.W.takerIn K C "name" = some none) (M : XCl K C fi) (B : XBase K R) (mR : mg "ReuseError" = some (.ref R)) : FnOk P w K mg base CX0 1 f fd ["self", "name"] (spX C "name") := by
  refine F.by scUnknown (fun vs H Q E h => ?_) (fun cdv A' outer s H vs Q E hr h => ?_)
  · obtain ⟨e, v, rfl, _⟩ := h
    rfl
  obtain ⟨e, v, rfl, hX, q⟩ := h
  refine ⟨_, jss_cons (js_expr ⟨pe_xinit M B rfl mR (ja_c (jv 0) (ja_c (jv 1) ja_nil)).out⟩) (jss_one ⟨ps_xnew M (jv 0).out (jv 1).out⟩), ?_⟩
  refine ⟨_, rfl, _, rfl, e, [v], none, rfl, by show 1 <= sizeLine; decide, hX, ?_⟩
  exact ⟨_, rfl, _, rfl, e, rfl, hX, xw, fun d hd ne => q d hd ne⟩
theorem ok_bound (F : Fun K "with_bound" "with_bound" sBound f fd) (GX : Xa P w K mg base 1 "Twice" Tw ["self", "name"] (spX Tw "name")) (m_dict : mg "dict" = none) : FnOk P w K mg base (CXf P w) 3 f fd ["names", "above"] (spBound K Tw) := by
  refine F.byx scBound (fun vs H Q E h => ?_) (fun cdv A outer s H vs Q E hr h => ?_)
  · obtain ⟨p, a, ns, seen, rfl, _⟩ := h
    rfl
  obtain ⟨p, a, ns, seen, rfl, hS, hA, hn, hs, q1, q2⟩ := h
  have sl := line0
  have body : ∀ (D : Ends) (d : Addr), H d = none -> ∀ i v σ H', (ns.map V.str)[i]? = some v -> (Same H H' /\ H' d = some (.dK (marks (seen ++ ns.take i))) /\ dup seen (ns.take i) = none /\ ∃ x, σ = [some (.ref p), some (.ref a), some (.ref d), x]) ->
      (gName 3) v σ H' fun σ2 H2 => (tSeq (tIfS (tB (tDIn (tVar 3) (tVar 2))) (tRaise Tw (spX Tw "name") E (tCons (tVar 3) tNil)) tNext) (sDPut (tVar 2) (tVar 3) (tC (.bl true)))) { D with nx := fun σ H' => Same H H' /\ H' d = some (.dK (marks (seen ++ ns.take (i + 1)))) /\ dup seen (ns.take (i + 1)) = none /\ ∃ x, σ = [some (.ref p), some (.ref a), some (.ref d), x], ct := fun σ H' => Same H H' /\ H' d = some (.dK (marks (seen ++ ns.take (i + 1)))) /\ dup seen (ns.take (i + 1)) = none /\ ∃ x, σ = [some (.ref p), some (.ref a), some (.ref d), x], bk := D.nx } σ2 H2 := by
    rintro D d hd i v σ H1 hv ⟨s1, h1, hdup, x, rfl⟩
    rw [List.getElem?_map] at hv
    obtain ⟨n, hn1, rfl⟩ := Option.map_eq_some_iff.mp hv
    have hi : i < ns.length := (List.getElem?_eq_some_iff.mp hn1).1
    refine ⟨_, rfl, _, rfl, d, _, rfl, DGet.k (k := .inr n) h1, _, rfl, ?_⟩
    have dt := dup_take hn1 (by rw [hdup]; intro m z; cases z)
    rw [marks_in]
    by_cases c : n ∈ seen ++ ns.take i
    · rw [if_pos c] at dt
      refine iteT' (decide_eq_true c) ⟨_, rfl, by show 1 <= sizeLine; decide, fun e he => raised ((q2 n dt).at s1) e he⟩
    · refine iteF' (decide_eq_false c) ⟨_, rfl, _, rfl, d, _, rfl, DPut.k (k := .inr n) h1 ?_, s1.put hd, ?_, dup_more hn1 hdup c, _, rfl⟩
      · unfold marks
        rw [List.length_map, List.length_append, List.length_take]
        omega
      · rw [upd_same, putK_new _ (marks_none c), <- take_snoc hn1, <- List.append_assoc]
        show some (HO.dK (marks (seen ++ ns.take i) ++ marks [n])) = _
        unfold marks
        rw [<- List.map_append]
  have fin : ∀ (d : Addr) σ H', H d = none -> (Same H H' /\ H' d = some (.dK (marks (seen ++ ns.take (ns.map V.str).length))) /\ dup seen (ns.take (ns.map V.str).length) = none /\ ∃ x, σ = [some (.ref p), some (.ref a), some (.ref d), x]) -> (tRet (tVar 2) : TS) { nx := fun _ H' => Q .non H', rt := Q } σ H' := by
    rintro d σ H1 hd ⟨s1, h1, hdup, x, rfl⟩
    rw [List.length_map, List.take_of_length_le (Nat.le_refl _)] at h1 hdup
    exact ⟨_, rfl, q1 hdup _ d s1 hd h1⟩
  have beg : ∀ (d : Addr), H d = none -> (Same H (upd H d (.dK (marks seen))) /\ upd H d (.dK (marks seen)) d = some (.dK (marks (seen ++ ns.take 0))) /\ dup seen (ns.take 0) = none /\ ∃ x, [some (.ref p), some (.ref a), some (.ref d), none] = [some (V.ref p), some (.ref a), some (.ref d), x]) := fun d hd =>
    ⟨same_new hd _, by rw [upd_same, List.take_zero, List.append_nil], rfl, none, rfl⟩
  rcases hS with hS | hS
  · refine ⟨_,
    (jss_cons (js_set (i := 2) scBound.nd rfl (Or.inl rfl) (je_fnTy jc_dict_dict rfl m_dict PyProof.Rows.boot_dict (ja_c (jv 1) ja_nil)))
    (jss_cons (js_for ownx rfl (ji_list (jv 0)) (jg_name (i := 3) scBound.nd rfl (Or.inl rfl))
      (jss_cons (js_if (jt_din hr (jv 3) (jv 2))
        (jss_one (js_raise GX hr rfl throwx (ja_c (jv 3) ja_nil))) jss_nil)
      (jss_one (js_dput hr (jv 2) (jv 3) je_bl))))
    (jss_one (js_ret (jv 2))))), ?_⟩
    refine ⟨_, rfl, a, _, rfl, hA, fun d hd => ?_⟩
    refine ⟨_, rfl, _, rfl, ⟨_, (same_new hd _).seq hS⟩, for_list (xs := ns.map V.str) (fun i σ H' => Same H H' /\ H' d = some (.dK (marks (seen ++ ns.take i))) /\ dup seen (ns.take i) = none /\ ∃ x, σ = [some (.ref p), some (.ref a), some (.ref d), x]) (beg d hd) (fun i σ H' _ h => h.1.seq hS) (body _ d hd) (fun σ H' h => fin d σ H' hd h)⟩
  · refine ⟨_,
    (jss_cons (js_set (i := 2) scBound.nd rfl (Or.inl rfl) (je_fnTy jc_dict_dict rfl m_dict PyProof.Rows.boot_dict (ja_c (jv 1) ja_nil)))
    (jss_cons (js_for ownx rfl (ji_tup (jv 0)) (jg_name (i := 3) scBound.nd rfl (Or.inl rfl))
      (jss_cons (js_if (jt_din hr (jv 3) (jv 2))
        (jss_one (js_raise GX hr rfl throwx (ja_c (jv 3) ja_nil))) jss_nil)
      (jss_one (js_dput hr (jv 2) (jv 3) je_bl))))
    (jss_one (js_ret (jv 2))))), ?_⟩
    refine ⟨_, rfl, a, _, rfl, hA, fun d hd => ?_⟩
    refine ⟨_, rfl, _, rfl, ⟨_, SqT.of (same_new hd _ _ _ hS)⟩, for_tup (xs := ns.map V.str) (fun i σ H' => Same H H' /\ H' d = some (.dK (marks (seen ++ ns.take i))) /\ dup seen (ns.take i) = none /\ ∃ x, σ = [some (.ref p), some (.ref a), some (.ref d), x]) (beg d hd) (fun i σ H' _ h => SqT.of (h.1 _ _ hS)) (body _ d hd) (fun σ H' h => fin d σ H' hd h)⟩
end
end KD
namespace L2
open PySem PySem.Spec PyProof.Rows
section
variable {X : Cx}
end
end L2
namespace L2
open PySem PySem.Spec PyProof.Rows
section
variable {X : Cx}
theorem jc_int1 : jCa X (.type "int") (fun xs H Q => (∃ i, xs = [.int i] /\ Q (.int i) H) \/ ∃ k, xs = [.bl k] /\ Q (.int (if k then 1 else 0)) H) := ⟨call_int1⟩
end
section
variable {X : Cx} {Ch : Addr} {x n z : Str} {i j k : Nat} {np hpos tpos pz spos : Pos} {b0 : Stmt} {suite : List Stmt} {th : Addr -> Obj -> TS} {ps : List Str} {sp : Sp} {y : Str} {p cpos : Pos} {a : Expr} {as : List Expr} {t : TA}
end
end L2
namespace HT
open PySem PySem.Spec PyProof.Rows
section
variable {prog : Program} {w : World} {A : Around} {s : Shared} {E : Value -> Shared -> Prop}
theorem getItem_tuple_whole {t sl : Addr} {items : Array Value} {vl vu : Value} {lo hi : Option Int} {Q : Value -> Shared -> Prop} (ht : IsTup s.heap t items) (hs : s.heap.IsSliceOf sl vl vu .none) (pl : IsPart vl lo) (pu : IsPart vu hi)
    (hw : sIx items.size 0 lo = 0 /\ sIx items.size items.size hi = items.size) (h : Q (.ref t) s) : wpAny (model prog w) A (getItem (.ref t) (.ref sl)) Q E s := by
  obtain ⟨os, hos, hcs, hds⟩ := id hs
  have hTs : s.TypeIs (.ref sl) "slice" := ⟨os, hos, hcs⟩
  unfold getItem
  try with_reducible refine wpAny_holding ?_
  first | refine wpAny_bind (wpAny_pure ?_) | skip
  refine wpAny_bind (wpAny_sequenceKey ht.typeIs (by decide) ?_)
  refine wpAny_bind (wpAny_callSpecial?_slot (name := Str.ofString "__getitem__") ht.typeIs PyProof.Rows.slot_tuple_getitem
    (wpAny_call_entry PyProof.Rows.slot_tuple_getitem ht.typeIs entry_tuple_getitem ?_ (args_tuple_getitem _ _)))
  show wpAny _ _ (Builtin.Tuple.tupleItemsOf (.ref t) >>= _) _ _ s
  refine wpAny_bind (tupleItemsOf_ ht ?_)
  refine wpAny_bind (wpAny_typeOf hTs ?_)
  rw [if_pos (by decide)]
  refine wpAny_bind (sliceApplied_gen hs pl pu ?_)
  have hyes : (((sIx items.size 0 lo : Nat) : Int) == 0 && (1 : Int) == 1 && (sIx items.size items.size hi - sIx items.size 0 lo) == items.size) = true := by
    rw [hw.1, hw.2]
    simp
  show wpAny _ _ (if (((sIx items.size 0 lo : Nat) : Int) == 0 && (1 : Int) == 1 && (sIx items.size items.size hi - sIx items.size 0 lo) == items.size) = true then _ else _) _ _ s
  rw [if_pos hyes]
  have hx : wpAny (model prog w) A.in1 (Builtin.Tuple.tupleIsExact (.ref t)) (fun b s' => b = true /\ s' = s) (fun _ _ => False) s := by
    unfold Builtin.Tuple.tupleIsExact
    exact wpAny_bind (wpAny_typeOf ht.typeIs (wpAny_pure ⟨by decide, rfl⟩))
  refine wpAny_bind (wpAny_mono hx (fun b s' q => ?_) fun _ _ z => z.elim)
  obtain ⟨rfl, rfl⟩ := q
  rw [if_pos rfl]
  exact wpAny_bind (wpAny_rule (wpAny_pure ⟨_, rfl, wpAny_pure h⟩))
end
end HT
namespace L2
open PySem PySem.Spec PyProof.Rows
def rSlW (K : PySem.W.Frag) : V -> Option Int -> Option Int -> Hp -> VK -> Prop := fun x lo hi H Q => ∃ a xs, x = .ref a /\ SqT K H a xs /\
  (cutV xs lo hi = xs -> Q (.ref a) H) /\ ∀ p, H p = none -> Q (.ref p) (upd H p (.tup (cutV xs lo hi)))
section
variable {X : Cx}
theorem sl_tupW : SlR X (rSlW X.K) := by
  intro pins s σ H x v vl vu lo hi sl Q I rx hs pl pu h
  obtain ⟨a, xs, rfl, hx, q1, q⟩ := h
  by_cases hw : HT.sIx xs.length 0 lo = 0 /\ HT.sIx xs.length xs.length hi = xs.length
  · cases rx
    obtain ⟨its, r, ht, hz⟩ := I.tuple hx
    have hlen : its.toArray.size = xs.length := by rw [List.size_toArray]; exact r.length.symm
    refine ⟨"tuple", _, PyProof.Rows.slot_tuple_getitem.lookup, ht.typeIs, ?_⟩
    refine HT.getItem_tuple_whole ht hs pl pu (by rw [hlen]; exact hw) ⟨.ref a, H, I, rfl, q1 ?_⟩
    unfold cutV
    rw [hw.1, hw.2]
    simp
  · exact sl_tup pins s σ H (.ref a) v vl vu lo hi sl Q I rx hs pl pu ⟨a, xs, rfl, hx, hw, q⟩
def rSlO : V -> Option Int -> Option Int -> Hp -> VK -> Prop := fun x lo hi H Q => ∃ a xs, x = .ref a /\ H a = some (.tup xs) /\ ∀ p H', (∀ b o, H b = some o -> H' b = some o) -> H' p = some (.tup (cutV xs lo hi)) -> Q (.ref p) H'
theorem sl_tupO : SlR X rSlO := by
  intro pins s σ H x v vl vu lo hi sl Q I rx hs pl pu h
  obtain ⟨a, xs, rfl, hx, q⟩ := h
  refine sl_tupW pins s σ H (.ref a) v vl vu lo hi sl Q I rx hs pl pu ⟨a, xs, rfl, SqT.of hx, fun e => q a H (fun _ _ z => z) (by rw [e]; exact hx), fun p hp => q p _ (fun b o z => ?_) upd_same⟩
  rw [upd_ne (ne_of_none z hp)]
  exact z
theorem jl_tupO : jSl X rSlO := ⟨sl_tupO⟩
end
end L2
namespace KD
open PySem L2 K11
inductive De where
  | num (i : Int)
  | op (w a b : Str)
  | ask (g : Str) (ns : List Str)
  | app (w : Str) (t : Str) (ns : List Str)
inductive IsDe (H : Hp) : De -> Addr -> Prop
  | num {i : Int} {p : Addr} : H p = some (.tup [.str "num", .int i]) -> IsDe H (.num i) p
  | op {w a b : Str} {p : Addr} : H p = some (.tup [.str "op", .str w, .str a, .str b]) -> IsDe H (.op w a b) p
  | ask {g : Str} {ns : List Str} {p q : Addr} : H p = some (.tup [.str "ask", .str g, .ref q]) -> H q = some (.tup (ns.map V.str)) -> IsDe H (.ask g ns) p
  | app {w t : Str} {ns : List Str} {p q : Addr} : (w = "make" \/ w = "call" \/ w = "func") -> H p = some (.tup [.str w, .str t, .ref q]) -> H q = some (.tup (ns.map V.str)) -> IsDe H (.app w t ns) p
theorem IsDe.keep {H H' : Hp} (t : Tups H H') {d : De} {p : Addr} (h : IsDe H d p) : IsDe H' d p := by
  cases h with
  | num a => exact .num (t _ _ a)
  | op a => exact .op (t _ _ a)
  | ask a b => exact .ask (t _ _ a) (t _ _ b)
  | app e a b => exact .app e (t _ _ a) (t _ _ b)
def IsKn (cK : Addr) (H : Hp) (k : Addr) (kt kp : List (Str × Int)) : Prop := ∃ dx pk d1 d2, H k = some (.ins cK dx [("kinds", .ref pk), ("tag_sizes", .ref d1), ("param_counts", .ref d2)]) /\ H d1 = some (.dK (ents kt)) /\ H d2 = some (.dK (ents kp))
theorem IsKn.same {cK : Addr} {H H' : Hp} {k : Addr} {kt kp : List (Str × Int)} (h : IsKn cK H k kt kp) (s : Same H H') : IsKn cK H' k kt kp := let ⟨dx, pk, d1, d2, a, b, c⟩ := h; ⟨dx, pk, d1, d2, s _ _ a, s _ _ b, s _ _ c⟩
theorem ents_at {l : List (Str × Int)} {t : Str} : valV (ents l) (.inr t) = (l.lookup t).map V.int := by
  induction l with
  | nil => rfl
  | cons a l ih =>
    show valV ((Sum.inr a.1, V.int a.2) :: ents l) (.inr t) = _
    by_cases h : t = a.1
    · rw [h, valV_pos rfl, List.lookup_cons, beq_self_eq_true]
      rfl
    · rw [valV_neg (fun e => h (Sum.inr.inj e).symm), ih, List.lookup_cons, beq_eq_false_iff_ne.mpr h]
abbrev Flt := Nat × Str
def hasK (kvs : List (Key × V)) (n : Str) : Bool := (valV kvs (.inr n)).isSome
def numF (kt kp : List (Str × Int)) (w t : Str) (m : Nat) : Option Flt := match (if w = "make" then kt else kp).lookup t with
  | none => some (2, t)
  | some k => if (if w = "func" then (m : Int) <= k else (m : Int) = k) then none else some (3, t)
def unkF (seen ns : List Str) : Option Flt := (ns.find? fun n => decide (n ∉ seen)).map fun n => (2, n)
def deF (kt kp : List (Str × Int)) (seen : List Str) : De -> Option Flt
  | .num _ => none
  | .op _ a b => unkF seen [a, b]
  | .ask g ns => unkF seen (g :: ns)
  | .app w t ns => match unkF seen ns with
    | some f => some f
    | none => numF kt kp w t ns.length
def spKnowG (K : PySem.W.Frag) (Un : Addr) : Sp := fun vs H Q E => ∃ (p a : Addr) (ns : List Str) (kvs : List (Key × V)), vs = [.ref p, .ref a] /\ Sq K H p ns /\ H a = some (.dK kvs) /\
  ((∀ n ∈ ns, hasK kvs n = true) -> Q .non H) /\ ∀ n, ns.find? (fun n => !hasK kvs n) = some n -> Err Un E H n
def clsF (Tw Un Mi : Addr) (k : Nat) : Addr := if k = 1 then Tw else if k = 2 then Un else Mi
def spNumb (cK Un Mi : Addr) : Sp := fun vs H Q E => ∃ (k p : Addr) (kt kp : List (Str × Int)) (w t : Str) (q : Addr) (ns : List Str), vs = [.ref k, .ref p] /\ IsKn cK H k kt kp /\ H p = some (.tup [.str w, .str t, .ref q]) /\ H q = some (.tup (ns.map V.str)) /\
  (numF kt kp w t ns.length = none -> ∀ H', Same H H' -> Q .non H') /\ ∀ f, numF kt kp w t ns.length = some f -> Err (clsF Un Un Mi f.1) E H f.2
def spDeed (cK Un Mi : Addr) : Sp := fun vs H Q E => ∃ (k p a : Addr) (kt kp : List (Str × Int)) (seen : List Str) (d : De), vs = [.ref k, .ref p, .ref a] /\ IsKn cK H k kt kp /\ IsDe H d p /\ H a = some (.dK (marks seen)) /\ (∀ g ns, d = .ask g ns -> ns.length <= 1000) /\
  (deF kt kp seen d = none -> ∀ H', Same H H' -> Q .non H') /\ ∀ f, deF kt kp seen d = some f -> Err (clsF Un Un Mi f.1) E H f.2
section
variable {P : Program} {w : World} {K : PySem.W.Frag} {mg : Str -> Option Value} {base : Heap} {f R C Tw Un Mi cK : Addr} {fd : FuncData}
theorem ok_knowG (F : Fun K "insist_known" "insist_known" sInsist f fd) (GX : Xa P w K mg base 1 "Unknown" Un ["self", "name"] (spX Un "name")) : FnOk P w K mg base (CXf P w) 3 f fd ["names", "known_ones"] (spKnowG K Un) := by
  refine F.byx scKnow (fun vs H Q E h => ?_) (fun cdv A outer s H vs Q E hr h => ?_)
  · obtain ⟨p, a, ns, kvs, rfl, _⟩ := h
    rfl
  obtain ⟨p, a, ns, kvs, rfl, hS, hA, q1, q2⟩ := h
  have sl := line0
  have body : ∀ (D : Ends), ∀ i v σ H', (ns.map V.str)[i]? = some v -> (H' = H /\ (∀ n ∈ ns.take i, hasK kvs n = true) /\ ∃ x, σ = [some (.ref p), some (.ref a), x]) ->
      (gName 2) v σ H' fun σ2 H2 => (tIfS (tB (tDNotIn (tVar 2) (tVar 1))) (tRaise Un (spX Un "name") E (tCons (tVar 2) tNil)) tNext) { D with nx := fun σ H' => H' = H /\ (∀ n ∈ ns.take (i + 1), hasK kvs n = true) /\ ∃ x, σ = [some (.ref p), some (.ref a), x], ct := fun σ H' => H' = H /\ (∀ n ∈ ns.take (i + 1), hasK kvs n = true) /\ ∃ x, σ = [some (.ref p), some (.ref a), x], bk := D.nx } σ2 H2 := by
    rintro D i v σ H1 hv ⟨rfl, hall, x, rfl⟩
    rw [List.getElem?_map] at hv
    obtain ⟨n, hn1, rfl⟩ := Option.map_eq_some_iff.mp hv
    refine ⟨_, rfl, _, rfl, a, _, rfl, DGet.k (k := .inr n) hA, _, rfl, ?_⟩
    by_cases c : hasK kvs n = true
    · refine iteF' (by unfold hasK at c; rw [c]; rfl) ⟨rfl, fun m hm => ?_, _, rfl⟩
      rw [<- take_snoc hn1] at hm
      rcases List.mem_append.mp hm with h | h
      · exact hall m h
      · rw [List.mem_singleton.mp h]
        exact c
    · have c' : hasK kvs n = false := by simpa using c
      refine iteT' (by unfold hasK at c'; rw [c']; rfl) ⟨_, rfl, by show 1 <= sizeLine; decide, fun e he => raised (q2 n ?_) e he⟩
      have e1 : ns = ns.take i ++ n :: ns.drop (i + 1) := by
        conv => lhs; rw [<- List.take_append_drop (i + 1) ns, <- take_snoc hn1, List.append_assoc]
        rfl
      rw [e1, List.find?_append, List.find?_eq_none.mpr (fun m hm => by simp [hall m hm]), Option.none_or, List.find?_cons_of_pos (by simp [c'])]
  have fin : ∀ σ H', (H' = H /\ (∀ n ∈ ns.take (ns.map V.str).length, hasK kvs n = true) /\ ∃ x, σ = [some (V.ref p), some (V.ref a), x]) -> Q .non H' := by
    rintro σ H1 ⟨rfl, hall, x, rfl⟩
    rw [List.length_map, List.take_of_length_le (Nat.le_refl _)] at hall
    exact q1 hall
  rcases hS with hS | hS
  · refine ⟨_,
    (jss_one (js_for ownx rfl (ji_list (jv 0)) (jg_name (i := 2) scKnow.nd rfl (Or.inl rfl))
      (jss_one (js_if (jt_dnotin hr (jv 2) (jv 1))
        (jss_one (js_raise GX hr rfl throwx (ja_c (jv 2) ja_nil))) jss_nil)))), ?_⟩
    refine ⟨_, rfl, _, rfl, ⟨_, hS⟩, for_list (xs := ns.map V.str) (fun i σ H' => H' = H /\ (∀ n ∈ ns.take i, hasK kvs n = true) /\ ∃ x, σ = [some (.ref p), some (.ref a), x]) ⟨rfl, (fun n hn => by simp at hn), none, rfl⟩ (fun i σ H' _ h => by rw [h.1]; exact hS) (body _) (fun σ H' h => fin σ H' h)⟩
  · refine ⟨_,
    (jss_one (js_for ownx rfl (ji_tup (jv 0)) (jg_name (i := 2) scKnow.nd rfl (Or.inl rfl))
      (jss_one (js_if (jt_dnotin hr (jv 2) (jv 1))
        (jss_one (js_raise GX hr rfl throwx (ja_c (jv 2) ja_nil))) jss_nil)))), ?_⟩
    refine ⟨_, rfl, _, rfl, ⟨_, SqT.of hS⟩, for_tup (xs := ns.map V.str) (fun i σ H' => H' = H /\ (∀ n ∈ ns.take i, hasK kvs n = true) /\ ∃ x, σ = [some (.ref p), some (.ref a), x]) ⟨rfl, (fun n hn => by simp at hn), none, rfl⟩ (fun i σ H' _ h => by rw [h.1]; exact SqT.of hS) (body _) (fun σ H' h => fin σ H' h)⟩
end
end KD
namespace KD
open PySem L2 K11
structure Kn (K : PySem.W.Frag) (cK : Addr) : Prop where
  cl : Cls K cK
  a1 : NoAttr K cK "kinds"
  a2 : NoAttr K cK "tag_sizes"
  a3 : NoAttr K cK "param_counts"
section
variable {P : Program} {w : World} {K : PySem.W.Frag} {mg : Str -> Option Value} {base : Heap} {f R C Tw Un Mi cK : Addr} {fd : FuncData}
theorem scNumb : FnScope ["known", "deed", "counts", "wanted", "fits"] ["known", "deed"] (defScope sNumb) := ⟨rfl, rfl, rfl, by decide +kernel, rfl, by decide +kernel, by decide +kernel⟩
theorem ok_numb (F : Fun K "look_at_number" "look_at_number" sNumb f fd) (T : Kn K cK) (GI : Ca P w K mg base (CXf P w) 3 "insist_known" ["names", "known_ones"] (spKnowG K Un)) (GX : Xa P w K mg base 1 "Misfit" Mi ["self", "name"] (spX Mi "name")) (m_len : mg "len" = none) : FnOk P w K mg base (CXf P w) 4 f fd ["known", "deed"] (spNumb cK Un Mi) := by
  refine F.byx scNumb (fun vs H Q E h => ?_) (fun cdv A outer s H vs Q E hr h => ?_)
  · obtain ⟨k, p, kt, kp, w, t, q, ns, rfl, _⟩ := h
    rfl
  obtain ⟨k, p, kt, kp, w, t, q, ns, rfl, ⟨dx, pk, d1, d2, hk, h1, h2⟩, hp, hq, q1, q2⟩ := h
  have r2 : Room 2 _ := hr.mono (by decide)
  refine ⟨_,
    (jss_cons (js_set (i := 2) scNumb.nd rfl (Or.inl rfl) (je_ifExp (jt_cmpR jo_eq (je_ix jx_tup (jv 1) je_int (fun _ _ => rfl)) je_str (nomark _)) (je_fld (jv 0)) (je_fld (jv 0))))
    (jss_cons (js_expr (je_ca GI hr rfl passx (ja_c (je_lst (ja_c (je_ix jx_tup (jv 1) je_int (fun _ _ => rfl)) ja_nil)) (ja_c (jv 2) ja_nil))))
    (jss_cons (js_set (i := 3) scNumb.nd rfl (Or.inl rfl) (je_dget hr (jv 2) (je_ix jx_tup (jv 1) je_int (fun _ _ => rfl))))
    (jss_cons (js_set (i := 4) scNumb.nd rfl (Or.inl rfl) (je_ifExp (jt_cmpR jo_eq (je_ix jx_tup (jv 1) je_int (fun _ _ => rfl)) je_str (nomark _)) (je_cmpR jo_le (je_fnB jc_len_seq rfl m_len PySem.boot_len (ja_c (je_ix jx_tup (jv 1) je_int (fun _ _ => rfl)) ja_nil)) (jv 3) (nomark _)) (je_cmpR jo_eq (je_fnB jc_len_seq rfl m_len PySem.boot_len (ja_c (je_ix jx_tup (jv 1) je_int (fun _ _ => rfl)) ja_nil)) (jv 3) (nomark _))))
    (jss_one (js_if (jt_not (jt_val (jv 4)))
      (jss_one (js_raise GX r2 rfl throwx (ja_c (je_ix jx_tup (jv 1) je_int (fun _ _ => rfl)) ja_nil))) jss_nil)))))), ?_⟩
  have sl := line0
  suffices rest : ∀ (dc : Addr) (kc : List (Str × Int)), H dc = some (.dK (ents kc)) -> kc = (if w = "make" then kt else kp) -> (tSeq _ _ : TS) _ [some (.ref k), some (.ref p), some (.ref dc), none, none] H by
    refine ⟨_, rfl, p, _, _, _, rfl, rfl, SqT.of hp, rfl, rfl, _, rfl, ?_⟩
    by_cases c : w = "make"
    · refine iteT' (decide_eq_true (congrArg V.str c)) ⟨_, rfl, k, cK, dx, _, _, rfl, hk, T.cl, T.a2, rfl, rest d1 kt h1 (by rw [if_pos c])⟩
    · refine iteF' (decide_eq_false fun e => c (V.str.inj e)) ⟨_, rfl, k, cK, dx, _, _, rfl, hk, T.cl, T.a3, rfl, rest d2 kp h2 (by rw [if_neg c])⟩
  intro dc kc hdc ekc
  refine ⟨_, rfl, p, _, _, _, rfl, rfl, SqT.of hp, atI_nat (j := 1) rfl, by show 1 <= sizeLine; decide, fun l hl => ?_⟩
  have s1 := same_new hl (.lst [.str t])
  have nf : numF kt kp w t ns.length = match kc.lookup t with
    | none => some (2, t)
    | some k => if (if w = "func" then ((ns.length : Nat) : Int) <= k else ((ns.length : Nat) : Int) = k) then none else some (3, t) := by
    unfold numF
    rw [<- ekc]
    try (cases kc.lookup t <;> rfl)
  have hk' : hasK (ents kc) t = (kc.lookup t).isSome := by unfold hasK; rw [ents_at, Option.isSome_map]
  refine ⟨_, rfl, l, dc, [t], ents kc, rfl, .inl (SqL.of upd_same), s1 _ _ hdc, fun hall => ?_, fun n hn => ?_⟩
  · have ht := hall t (by simp)
    rw [hk'] at ht
    obtain ⟨m, hm⟩ := Option.isSome_iff_exists.mp ht
    rw [hm] at nf
    have hp1 := s1 _ _ hp
    have hq1 := s1 _ _ hq
    have dg : DGet (upd H l (.lst [.str t])) dc (.str t) (some (.int m)) := by
      have := DGet.k (k := .inr t) (s1 _ _ hdc)
      rw [ents_at, hm] at this
      exact this
    refine ⟨_, rfl, _, rfl, p, _, _, _, rfl, rfl, SqT.of hp1, atI_nat (j := 1) rfl, dc, _, rfl, dg, ?_⟩
    suffices fit : ∀ b : Bool, (b = true ↔ numF kt kp w t ns.length = none) -> (tIfS (tNot (tB (tVar 4))) (tRaise Mi (spX Mi "name") E (tCons (tOp (rIxT K) (tVar 1) (tC (.int 1))) tNil)) tNext : TS) { nx := fun _ H' => Q .non H', rt := Q } [some (.ref k), some (.ref p), some (.ref dc), some (.int m), some (.bl b)] (upd H l (.lst [.str t])) by
      refine ⟨_, rfl, p, _, _, _, rfl, rfl, SqT.of hp1, rfl, rfl, _, rfl, ?_⟩
      by_cases c : w = "func"
      · refine iteT' (decide_eq_true (congrArg V.str c)) ⟨_, rfl, p, _, _, _, rfl, rfl, SqT.of hp1, atI_nat (j := 2) rfl, q, _, rfl, .inr (SqT.of hq1), _, rfl, _, _, rfl, rfl, fit (decide ((((ns.map V.str).length : Nat) : Int) <= m)) ?_⟩
        rw [nf]
        simp [c]
      · refine iteF' (decide_eq_false fun e => c (V.str.inj e)) ⟨_, rfl, p, _, _, _, rfl, rfl, SqT.of hp1, atI_nat (j := 2) rfl, q, _, rfl, .inr (SqT.of hq1), _, rfl, rfl, fit (decide (V.int (((ns.map V.str).length : Nat) : Int) = V.int m)) ?_⟩
        rw [nf]
        simp [c]
    intro b hb
    refine ⟨_, rfl, b, rfl, ?_⟩
    cases b with
    | true => exact iteF (q1 (hb.mp rfl) _ s1)
    | false =>
      have e3 : numF kt kp w t ns.length = some (3, t) := by
        have nf' : numF kt kp w t ns.length = if (if w = "func" then ((ns.length : Nat) : Int) <= m else ((ns.length : Nat) : Int) = m) then none else some (3, t) := nf
        by_cases h : (if w = "func" then ((ns.length : Nat) : Int) <= m else ((ns.length : Nat) : Int) = m)
        · exact absurd (hb.mpr (by rw [nf', if_pos h])) (by decide)
        · rw [nf', if_neg h]
      refine iteT ⟨_, rfl, p, _, _, _, rfl, rfl, SqT.of hp1, atI_nat (j := 1) rfl, by show 1 <= sizeLine; decide, fun e he => raised (Err.at (q2 (3, t) e3) s1) e he⟩
  · have hn' : n = t /\ hasK (ents kc) t = false := by
      by_cases c : hasK (ents kc) t = true
      · simp [c] at hn
      · simp [c] at hn
        exact ⟨hn.symm, by simpa using c⟩
    rw [hk'] at hn'
    obtain ⟨rfl, hn2⟩ := hn'
    have e0 : kc.lookup n = none := by simpa using hn2
    rw [e0] at nf
    exact Err.at (q2 (2, n) nf) s1
theorem scDeed : FnScope ["known", "deed", "above"] ["known", "deed", "above"] (defScope sDeed) := ⟨rfl, rfl, rfl, by decide +kernel, rfl, by decide +kernel, by decide +kernel⟩
theorem hasK_marks {seen : List Str} {n : Str} : hasK (marks seen) n = decide (n ∈ seen) := marks_in
theorem know_unk {seen ns : List Str} {H : Hp} {E : XK} {C : Prop} (ok : unkF seen ns = none -> C) (bad : ∀ n, unkF seen ns = some (2, n) -> Err Un E H n) :
    ((∀ n ∈ ns, hasK (marks seen) n = true) -> C) /\ ∀ n, ns.find? (fun n => !hasK (marks seen) n) = some n -> Err Un E H n := by
  have e : (fun n => !hasK (marks seen) n) = fun n => decide (n ∉ seen) := by
    funext n
    rw [hasK_marks]
    by_cases h : n ∈ seen <;> simp [h]
  refine ⟨fun h => ok ?_, fun n hn => bad n ?_⟩
  · unfold unkF
    rw [List.find?_eq_none.mpr (fun n hn => by have := h n hn; rw [hasK_marks] at this; simpa using this)]
    rfl
  · rw [e] at hn
    unfold unkF
    rw [hn]
    rfl
theorem ok_deed (F : Fun K "look_at_deed" "look_at_deed" sDeed f fd) (GI : Ca P w K mg base (CXf P w) 3 "insist_known" ["names", "known_ones"] (spKnowG K Un)) (GN : Ca P w K mg base (CXf P w) 4 "look_at_number" ["known", "deed"] (spNumb cK Un Mi)) : FnOk P w K mg base (CXf P w) 5 f fd ["known", "deed", "above"] (spDeed cK Un Mi) := by
  refine F.byx scDeed (fun vs H Q E h => ?_) (fun cdv A outer s H vs Q E hr h => ?_)
  · obtain ⟨k, p, a, kt, kp, seen, d, rfl, _⟩ := h
    rfl
  obtain ⟨k, p, a, kt, kp, seen, d, rfl, hk, hd, ha, hlen, q1, q2⟩ := h
  have r3 : Room 3 _ := hr.mono (by decide)
  refine ⟨_,
    (jss_one (js_if (jt_cmpR jo_eq (je_ix jx_tup (jv 1) je_int (fun _ _ => rfl)) je_str (nomark _))
      (jss_one (js_expr (je_ca GI r3 rfl passx (ja_c (je_slice jl_tupO (jv 1) (jo_some je_int) jo_none) (ja_c (jv 2) ja_nil)))))
      (jss_one (js_if (jt_cmpR jo_eq (je_ix jx_tup (jv 1) je_int (fun _ _ => rfl)) je_str (nomark _))
        (jss_one (js_expr (je_ca GI r3 rfl passx (ja_c (je_op jo_catT (je_tup (ja_c (je_ix jx_tup (jv 1) je_int (fun _ _ => rfl)) ja_nil)) (je_ix jx_tup (jv 1) je_int (fun _ _ => rfl))) (ja_c (jv 2) ja_nil)))))
        (jss_one (js_if (jt_cmpR jo_ne (je_ix jx_tup (jv 1) je_int (fun _ _ => rfl)) je_str (nomark _))
          (jss_cons (js_expr (je_ca GI r3 rfl passx (ja_c (je_ix jx_tup (jv 1) je_int (fun _ _ => rfl)) (ja_c (jv 2) ja_nil))))
          (jss_one (js_expr (je_ca GN hr rfl passx (ja_c (jv 0) (ja_c (jv 1) ja_nil)))))) jss_nil)))))), ?_⟩
  have sl := line0
  cases hd with
  | num h =>
    refine ⟨_, rfl, p, _, _, _, rfl, rfl, SqT.of h, rfl, rfl, _, rfl, iteF' (by decide +kernel) ?_⟩
    refine ⟨_, rfl, p, _, _, _, rfl, rfl, SqT.of h, rfl, rfl, _, rfl, iteF' (by decide +kernel) ?_⟩
    exact ⟨_, rfl, p, _, _, _, rfl, rfl, SqT.of h, rfl, rfl, _, rfl, iteF' (by decide +kernel) (q1 rfl _ (Same.refl _))⟩
  | @op w' x y p h =>
    refine ⟨_, rfl, p, _, _, _, rfl, rfl, SqT.of h, rfl, rfl, _, rfl, iteT' (by decide +kernel) ?_⟩
    refine ⟨_, rfl, _, rfl, p, _, rfl, h, fun tp H1 s1 e1 => ?_⟩
    have S1 : Same H H1 := s1
    exact ⟨_, rfl, tp, a, [x, y], marks seen, rfl, .inr e1, S1 _ _ ha, know_unk (fun hu => q1 hu _ S1) (fun n hu => Err.at (q2 (2, n) hu) S1)⟩
  | @ask g ns p q h hq =>
    have hl := hlen g ns rfl
    refine ⟨_, rfl, p, _, _, _, rfl, rfl, SqT.of h, rfl, rfl, _, rfl, iteF' (by decide +kernel) ?_⟩
    refine ⟨_, rfl, p, _, _, _, rfl, rfl, SqT.of h, rfl, rfl, _, rfl, iteT' (by decide +kernel) ?_⟩
    refine ⟨_, rfl, p, _, _, _, rfl, rfl, SqT.of h, atI_nat (j := 1) rfl, by show 1 <= sizeLine; decide, fun t1 ht1 => ?_⟩
    have s1 := same_new ht1 (.tup [.str g])
    refine ⟨_, rfl, p, _, _, _, rfl, rfl, SqT.of (s1 _ _ h), atI_nat (j := 2) rfl, t1, q, _, _, rfl, rfl, SqT.of upd_same, SqT.of (s1 _ _ hq), by simp, by rw [List.length_map]; show 1 + ns.length <= sizeLine; omega, fun e => ?_, fun e t2 ht2 => ?_⟩
    · have e0 : ns = [] := by simpa using e
      subst e0
      exact ⟨_, rfl, t1, a, [g], marks seen, rfl, .inr upd_same, s1 _ _ ha, know_unk (fun hu => q1 hu _ s1) (fun n hu => Err.at (q2 (2, n) hu) s1)⟩
    · have s2 := s1.new (o := .tup ([.str g] ++ ns.map V.str)) ht2
      exact ⟨_, rfl, t2, a, g :: ns, marks seen, rfl, .inr upd_same, s2 _ _ ha, know_unk (fun hu => q1 hu _ s2) (fun n hu => Err.at (q2 (2, n) hu) s2)⟩
  | @app w' t ns p q hw h hq =>
    have n1 : w' ≠ "op" /\ w' ≠ "ask" /\ w' ≠ "num" := by rcases hw with rfl | rfl | rfl <;> decide +kernel
    refine ⟨_, rfl, p, _, _, _, rfl, rfl, SqT.of h, rfl, rfl, _, rfl, iteF' (decide_eq_false fun e => n1.1 (V.str.inj e)) ?_⟩
    refine ⟨_, rfl, p, _, _, _, rfl, rfl, SqT.of h, rfl, rfl, _, rfl, iteF' (decide_eq_false fun e => n1.2.1 (V.str.inj e)) ?_⟩
    refine ⟨_, rfl, p, _, _, _, rfl, rfl, SqT.of h, rfl, rfl, _, rfl, iteT' (by rw [decide_eq_false fun e => n1.2.2 (V.str.inj e)]; rfl) ?_⟩
    refine ⟨_, rfl, p, _, _, _, rfl, rfl, SqT.of h, atI_nat (j := 2) rfl, _, rfl, q, a, ns, marks seen, rfl, .inr hq, ha, know_unk (fun hu => ?_) (fun n hu => q2 (2, n) (by show (match unkF seen ns with | some f => some f | none => numF kt kp w' t ns.length) = _; rw [hu]))⟩
    have de : deF kt kp seen (.app w' t ns) = numF kt kp w' t ns.length := by
      show (match unkF seen ns with | some f => some f | none => numF kt kp w' t ns.length) = _
      rw [hu]
    exact ⟨_, rfl, _, rfl, k, p, kt, kp, w', t, q, ns, rfl, hk, h, hq, fun hn H' s' => q1 (by rw [de]; exact hn) _ s', fun f hf => q2 f (by rw [de]; exact hf)⟩
end
end KD
namespace KD
open PySem L2 K11
theorem in_strs {x : Str} : ∀ {l : List Str}, inV (.str x) (l.map V.str) = decide (x ∈ l)
  | [] => rfl
  | y :: l => by
    have ih := in_strs (x := x) (l := l)
    unfold inV at ih ⊢
    rw [List.map_cons, List.any_cons, ih]
    show ((y == x) || decide (x ∈ l)) = _
    by_cases e : y = x
    · subst e; simp
    · have e' : (y == x) = false := beq_eq_false_iff_ne.mpr e
      have e2 : ¬ x = y := fun z => e z.symm
      simp [e', e2]
theorem flat_strs (l : List Str) : (l.map V.str).all flatV = true := by
  rw [List.all_map]
  exact List.all_eq_true.mpr fun _ _ => rfl
def kinF (t : Str) : List (List (Str × Int)) -> List Str
  | [] => []
  | k :: r => if t ∈ k.map (·.1) then k.map (·.1) else kinF t r
theorem kinF_drop {t : Str} {ks : List (List (Str × Int))} {i : Nat} {k : List (Str × Int)} (h : ks[i]? = some k) : kinF t (ks.drop i) = if t ∈ k.map (·.1) then k.map (·.1) else kinF t (ks.drop (i + 1)) := by
  obtain ⟨hi, e⟩ := List.getElem?_eq_some_iff.mp h
  rw [List.drop_eq_getElem_cons hi, e]
  rfl
structure FewK (ks : List (List (Str × Int))) : Prop where
  n : ks.length <= 1000
  k : ∀ r ∈ ks, r.length <= 1000
def spKin : Sp := fun vs H Q _ => ∃ (p : Addr) (t : Str) (qs : List Addr) (ks : List (List (Str × Int))), vs = [.ref p, .str t] /\ H p = some (.tup (qs.map V.ref)) /\ KdsT H ks qs /\ FewK ks /\ ∀ (H' : Hp) (r : Addr), Same H H' -> H r = none -> H' r = some (.lst ((kinF t ks).map V.str)) -> Q (.ref r) H'
def lackF (tags : List Str) (ks : List (List (Str × Int))) (t : Str) : List Str := (kinF t ks).filter fun x => !decide (x ∈ tags)
def spLacking : Sp := fun vs H Q _ => ∃ (p pt : Addr) (t : Str) (ts : List Str) (qs : List Addr) (ks : List (List (Str × Int))), vs = [.ref p, .ref pt] /\ H p = some (.tup (qs.map V.ref)) /\ KdsT H ks qs /\ FewK ks /\ H pt = some (.lst ((t :: ts).map V.str)) /\ ∀ (H' : Hp) (r : Addr), Same H H' -> H r = none -> H' r = some (.lst ((lackF (t :: ts) ks t).map V.str)) -> Q (.ref r) H'
theorem kinF_few {t : Str} : ∀ {ks : List (List (Str × Int))}, (∀ r ∈ ks, r.length <= 1000) -> (kinF t ks).length <= 1000
  | [], _ => Nat.zero_le _
  | k :: r, h => by
    unfold kinF
    split
    · rw [List.length_map]; exact h k List.mem_cons_self
    · exact kinF_few fun x hx => h x (List.mem_cons_of_mem _ hx)
theorem take_map {α β : Type} {l : List α} {i : Nat} {x : α} (f : α -> β) (h : l[i]? = some x) : (l.take i).map f ++ [f x] = (l.take (i + 1)).map f := by
  rw [List.take_add_one, h, List.map_append]
  rfl
theorem take_fil {α : Type} {l : List α} {i : Nat} {x : α} (p : α -> Bool) (h : l[i]? = some x) : (l.take (i + 1)).filter p = (l.take i).filter p ++ (if p x = true then [x] else []) := by
  rw [List.take_add_one, h, List.filter_append]
  congr 1
  cases e : p x <;> simp [e]
section
variable {P : Program} {w : World} {K : PySem.W.Frag} {mg : Str -> Option Value} {base : Heap} {f : Addr} {fd : FuncData}
theorem scKin : FnScope ["kinds", "tag", "kind", "tags"] ["kinds", "tag"] (defScope sKin) := ⟨rfl, rfl, rfl, by decide +kernel, rfl, by decide +kernel, by decide +kernel⟩
theorem ndKin : (["kinds", "tag", "kind", "tags", "pair"] : List Str).Nodup := by decide +kernel
theorem ok_kin (F : Fun K "kin" "kin" sKin f fd) : FnOk P w K mg base CX0 1 f fd ["kinds", "tag"] spKin := by
  refine F.by scKin (fun vs H Q E h => ?_) (fun cdv A outer s H vs Q E hr h => ?_)
  · obtain ⟨p, t, qs, ks, rfl, _⟩ := h
    rfl
  obtain ⟨p, t, qs, ks, rfl, hp, hK, hF, q⟩ := h
  refine ⟨_,
    (jss_cons (js_for PassesOwn.never rfl (ji_tup (jv 0)) (jg_name (i := 2) scKin.nd rfl (Or.inl rfl))
      (jss_cons (js_comp ["pair"] (i := 3) scKin.nd rfl (Or.inl rfl) rfl (ji_tup (jv 2)) (fun _ _ _ _ _ => (jg_name (i := 4) ndKin rfl (Or.inl rfl))) (fun _ _ _ _ _ => jts_nil) (fun _ _ _ _ _ => (je_ix (jx_tupK K) (jv 4) je_int (fun _ _ => rfl))))
      (jss_one (js_if (jt_cmpR jo_in_seq (jv 1) (jv 3) (by with_unfolding_all rfl))
        (jss_one (js_ret (jv 3))) jss_nil))))
    (jss_one (js_ret (je_lst ja_nil)))), ?_⟩
  have sl := line0
  have hlen := hK.len
  refine ⟨_, rfl, _, rfl, ⟨_, SqT.of hp⟩, for_tup (xs := qs.map V.ref) (fun i σ H' => Same H H' /\ (∃ x y, σ = [some (.ref p), some (.str t), x, y]) /\ kinF t (ks.drop i) = kinF t ks) ⟨Same.refl _, ⟨none, none, rfl⟩, rfl⟩ (fun i σ H' _ h => SqT.of (h.1 _ _ hp)) ?_ ?_⟩
  · rintro i x σ H1 hx ⟨s1, ⟨y, z, rfl⟩, ek⟩
    rw [List.getElem?_map] at hx
    obtain ⟨qq, hq, rfl⟩ := Option.map_eq_some_iff.mp hx
    obtain ⟨k, hk, ts, hts, hT⟩ := hK.get hq
    rw [kinF_drop hk] at ek
    have hkl := hF.k k (List.mem_of_getElem? hk)
    have htl := hT.len
    refine ⟨_, rfl, _, rfl, ⟨_, SqT.of (s1 _ _ hts)⟩, lc_tup (xs := ts.map V.ref) (fun j τ ys H' => H' = H1 /\ (∃ v, τ = [some (.ref p), some (.str t), some (.ref qq), z, v]) /\ ys = (k.take j).map fun a => V.str a.1) ⟨rfl, ⟨none, rfl⟩, rfl⟩ (fun j τ ys H' _ h => by rw [h.1]; exact SqT.of (s1 _ _ hts)) ?_ ?_⟩
    · rintro j v τ ys H2 hv ⟨rfl, ⟨u, rfl⟩, rfl⟩
      rw [List.getElem?_map] at hv
      obtain ⟨tt, ht, rfl⟩ := Option.map_eq_some_iff.mp hv
      obtain ⟨a, n, e1, e2⟩ := hT.get ht
      have hj : j < k.length := (List.getElem?_eq_some_iff.mp e1).1
      refine ⟨_, rfl, _, _, _, _, rfl, rfl, SqT.of (s1 _ _ e2), rfl, ?_, rfl, ⟨_, rfl⟩, ?_⟩
      · rw [List.length_map, List.length_take]
        omega
      · exact take_map (fun a : Str × Int => V.str a.1) e1
    · rintro τ ys H2 ⟨rfl, _, rfl⟩ r hr
      rw [List.length_map, <- htl, List.take_of_length_le (Nat.le_refl _)]
      have em : (k.map fun a => V.str a.1) = (k.map (·.1)).map V.str := by rw [List.map_map]; rfl
      rw [em]
      refine ⟨_, rfl, _, rfl, r, _, rfl, .inl (SqL.of upd_same), rfl, flat_strs _, _, rfl, ?_⟩
      rw [show (if false = true then !inV (V.str t) ((k.map (·.1)).map V.str) else inV (V.str t) ((k.map (·.1)).map V.str)) = decide (t ∈ k.map (·.1)) from in_strs]
      refine ite2 (fun c => ?_) (fun c => ?_)
      · rw [decide_eq_true_eq] at c
        rw [if_pos c] at ek
        exact ⟨_, rfl, q _ r (s1.new hr) (s1.free hr) (by rw [upd_same, ek])⟩
      · rw [decide_eq_true_eq] at c
        rw [if_neg c] at ek
        exact ⟨s1.new hr, ⟨_, _, rfl⟩, ek⟩
  · rintro σ H1 ⟨s1, ⟨y, z, rfl⟩, ek⟩
    rw [List.length_map, <- hlen, List.drop_of_length_le (Nat.le_refl _)] at ek
    refine ⟨by show 0 <= sizeLine; decide, fun r hr => q _ r (s1.new hr) (s1.free hr) ?_⟩
    rw [upd_same, <- ek]
    rfl
theorem scLacking : FnScope ["kinds", "tags"] ["kinds", "tags"] (defScope sLacking) := ⟨rfl, rfl, rfl, by decide +kernel, rfl, by decide +kernel, by decide +kernel⟩
theorem ndLacking : (["kinds", "tags", "tag"] : List Str).Nodup := by decide +kernel
theorem ok_lacking (F : Fun K "lacking" "lacking" sLacking f fd) (G_kin : Ca P w K mg base CX0 1 "kin" ["kinds", "tag"] spKin) : FnOk P w K mg base CX0 2 f fd ["kinds", "tags"] spLacking := by
  refine F.by scLacking (fun vs H Q E h => ?_) (fun cdv A outer s H vs Q E hr h => ?_)
  · obtain ⟨p, pt, t, ts, qs, ks, rfl, _⟩ := h
    rfl
  obtain ⟨p, pt, t, ts, qs, ks, rfl, hp, hK, hF, hpt, q⟩ := h
  refine ⟨_,
    (jss_one (js_ret (je_comp ["tag"] rfl (ji_list (je_ca G_kin hr rfl pass0 (ja_c (jv 0) (ja_c (je_ix jx_list (jv 1) je_int (fun _ _ => rfl)) ja_nil)))) (fun _ _ _ _ _ => (jg_name (i := 2) ndLacking rfl (Or.inl rfl))) (fun _ _ _ _ _ => (jts_one (jt_cmpR (jo_notInK K) (jv 2) (jv 1) (by with_unfolding_all rfl)))) (fun _ _ _ _ _ => (jv 2))))), ?_⟩
  have sl := line0
  refine ⟨_, rfl, _, rfl, pt, _, _, _, rfl, rfl, SqL.of hpt, atI_nat (j := 0) rfl, p, t, qs, ks, rfl, hp, hK, hF, fun H1 r s1 fr hr1 => ?_⟩
  have hkl := kinF_few (t := t) hF.k
  refine ⟨r, rfl, ⟨_, SqL.of hr1⟩, lc_list (xs := (kinF t ks).map V.str) (fun i τ ys H' => H' = H1 /\ (∃ x, τ = [some (.ref p), some (.ref pt), x]) /\ ys = (((kinF t ks).take i).filter fun x => !decide (x ∈ t :: ts)).map V.str) ⟨rfl, ⟨none, rfl⟩, rfl⟩ (fun i τ ys H' _ h => by rw [h.1]; exact SqL.of hr1) ?_ ?_⟩
  · rintro i x τ ys H2 hx ⟨rfl, ⟨z, rfl⟩, rfl⟩
    rw [List.getElem?_map] at hx
    obtain ⟨y, hy, rfl⟩ := Option.map_eq_some_iff.mp hx
    have hi : i < (kinF t ks).length := (List.getElem?_eq_some_iff.mp hy).1
    have tf := take_fil (fun x => !decide (x ∈ t :: ts)) hy
    refine ⟨_, rfl, _, rfl, pt, _, rfl, .inl (SqL.of (s1 _ _ hpt)), rfl, flat_strs _, _, rfl, ?_⟩
    rw [show (if true = true then !inV (V.str y) ((t :: ts).map V.str) else inV (V.str y) ((t :: ts).map V.str)) = !decide (y ∈ t :: ts) by rw [in_strs]; rfl]
    refine ite2 (fun c => ?_) (fun c => ?_)
    · refine ⟨_, rfl, ?_, rfl, ⟨_, rfl⟩, ?_⟩
      · rw [List.length_map]
        have := List.length_filter_le (fun x => !decide (x ∈ t :: ts)) ((kinF t ks).take i)
        rw [List.length_take] at this
        omega
      · rw [tf, if_pos c, List.map_append]
        rfl
    · refine ⟨rfl, ⟨_, rfl⟩, ?_⟩
      rw [tf, if_neg c, List.append_nil]
  · rintro τ ys H2 ⟨rfl, _, rfl⟩ r2 hr2
    rw [List.length_map, List.take_of_length_le (Nat.le_refl _)]
    exact q _ r2 (s1.new hr2) (s1.free hr2) upd_same
end
end KD
namespace KD
open PySem L2 K11
mutual
inductive Bd where
  | give (x : Str)
  | lt (x : Str) (d : De) (b : Bd)
  | iff (x : Str) (b c : Bd)
  | cs (x : Str) (as : Arms)
inductive Arms where
  | nil
  | cons (t : Str) (ns : List Str) (b : Bd) (r : Arms)
end
def De.ar : De -> Nat
  | .ask _ ns => ns.length
  | _ => 0
mutual
def Bd.sz : Bd -> Nat
  | .give _ => 1
  | .lt _ d b => b.sz + d.ar + 1
  | .iff _ b c => b.sz + c.sz + 1
  | .cs _ as => as.sz + 1
def Arms.sz : Arms -> Nat
  | .nil => 0
  | .cons _ ns b r => ns.length + b.sz + r.sz + 1
end
mutual
def Bd.ok : Bd -> Prop
  | .give _ => True
  | .lt _ _ b => b.ok
  | .iff _ b c => b.ok /\ c.ok
  | .cs _ as => as ≠ .nil /\ as.ok
def Arms.ok : Arms -> Prop
  | .nil => True
  | .cons _ _ b r => b.ok /\ r.ok
end
mutual
def IsBd (H : Hp) : Bd -> Addr -> Prop
  | .give x, p => H p = some (.tup [.str "give", .str x])
  | .lt x d b, p => ∃ q r, H p = some (.tup [.str "let", .str x, .ref q, .ref r]) /\ IsDe H d q /\ IsBd H b r
  | .iff x b c, p => ∃ q r, H p = some (.tup [.str "if", .str x, .ref q, .ref r]) /\ IsBd H b q /\ IsBd H c r
  | .cs x as, p => ∃ q ts, H p = some (.tup [.str "case", .str x, .ref q]) /\ H q = some (.tup (ts.map V.ref)) /\ IsArms H as ts
def IsArms (H : Hp) : Arms -> List Addr -> Prop
  | .nil, ts => ts = []
  | .cons t ns b r, ts => ∃ p q s ts', ts = p :: ts' /\ H p = some (.tup [.str t, .ref q, .ref s]) /\ H q = some (.tup (ns.map V.str)) /\ IsBd H b s /\ IsArms H r ts'
end
mutual
theorem IsBd.keep {H H' : Hp} (t : Tups H H') : ∀ {b : Bd} {p : Addr}, IsBd H b p -> IsBd H' b p
  | .give x, p, h => t _ _ h
  | .lt x d b, p, h => let ⟨q, r, a, e, f⟩ := h; ⟨q, r, t _ _ a, e.keep t, IsBd.keep t f⟩
  | .iff x b c, p, h => let ⟨q, r, a, e, f⟩ := h; ⟨q, r, t _ _ a, IsBd.keep t e, IsBd.keep t f⟩
  | .cs x as, p, h => let ⟨q, ts, a, e, f⟩ := h; ⟨q, ts, t _ _ a, t _ _ e, IsArms.keep t f⟩
theorem IsArms.keep {H H' : Hp} (t : Tups H H') : ∀ {as : Arms} {ts : List Addr}, IsArms H as ts -> IsArms H' as ts
  | .nil, ts, h => h
  | .cons g ns b r, ts, h => let ⟨p, q, s, ts', e, a1, a2, a3, a4⟩ := h; ⟨p, q, s, ts', e, t _ _ a1, t _ _ a2, IsBd.keep t a3, IsArms.keep t a4⟩
end
def Arms.hs : Arms -> List (Str × List Str × Bd)
  | .nil => []
  | .cons t ns b r => (t, ns, b) :: r.hs
theorem IsArms.get {H : Hp} : ∀ {as : Arms} {ts : List Addr} {i : Nat} {p : Addr}, IsArms H as ts -> ts[i]? = some p -> ∃ t ns b q s, as.hs[i]? = some (t, ns, b) /\ H p = some (.tup [.str t, .ref q, .ref s]) /\ H q = some (.tup (ns.map V.str)) /\ IsBd H b s
  | .nil, ts, i, p, h, e => by
    have h' : ts = [] := h
    subst h'
    simp at e
  | .cons t ns b r, ts, i, p, h, e => by
    obtain ⟨p', q, s, ts', rfl, a1, a2, a3, a4⟩ := h
    match i, e with
    | 0, e =>
      cases e
      exact ⟨t, ns, b, q, s, rfl, a1, a2, a3⟩
    | i + 1, e =>
      have := IsArms.get (as := r) (i := i) (p := p) a4 (by simpa using e)
      exact this
theorem IsArms.len {H : Hp} : ∀ {as : Arms} {ts : List Addr}, IsArms H as ts -> as.hs.length = ts.length
  | .nil, ts, h => by
    have h' : ts = [] := h
    subst h'
    rfl
  | .cons t ns b r, ts, h => by
    obtain ⟨p', q, s, ts', rfl, a1, a2, a3, a4⟩ := h
    show r.hs.length + 1 = _
    rw [IsArms.len a4]
    rfl
inductive Fo where
  | n (f : Flt)
  | l (x : Str) (ts : List Str)
def tgF (ks : List (List (Str × Int))) (t : Str) (m : Nat) (tags : List Str) : Option Flt := match ks.flatten.lookup t with
  | none => some (2, t)
  | some k => if tags ≠ [] /\ t ∉ kinF (tags.headD "") ks then some (3, t) else if t ∈ tags then some (1, t) else if ((m : Nat) : Int) ≠ k then some (3, t) else none
def heF (ks : List (List (Str × Int))) (seen : List Str) : List (Str × List Str × Bd) -> List Str -> Option Flt
  | [], _ => none
  | (t, ns, _) :: r, tags => match tgF ks t ns.length tags with
    | some f => some f
    | none => match dup seen ns with
      | some n => some (1, n)
      | none => heF ks seen r (tags ++ [t])
def csF (ks : List (List (Str × Int))) (x : Str) (hs : List (Str × List Str × Bd)) (seen : List Str) : Option Fo := match heF ks seen hs [] with
  | some f => some (.n f)
  | none => if lackF (hs.map (·.1)) ks ((hs.map (·.1)).headD "") = [] then none else some (.l x (lackF (hs.map (·.1)) ks ((hs.map (·.1)).headD "")))
def hdF (ks : List (List (Str × Int))) (kp : List (Str × Int)) : Bd -> List Str -> Option Fo
  | .give x, seen => (unkF seen [x]).map .n
  | .lt x d _, seen => match deF ks.flatten kp seen d with
    | some f => some (.n f)
    | none => if x ∈ seen then some (.n (1, x)) else none
  | .iff x _ _, seen => (unkF seen [x]).map .n
  | .cs x as, seen => match unkF seen [x] with
    | some f => some (.n f)
    | none => csF ks x as.hs seen
mutual
def bdF (ks : List (List (Str × Int))) (kp : List (Str × Int)) : Bd -> List Str -> Option Fo
  | .give x, seen => hdF ks kp (.give x) seen
  | .lt x d b, seen => (hdF ks kp (.lt x d b) seen).or (bdF ks kp b (seen ++ [x]))
  | .iff x b c, seen => (hdF ks kp (.iff x b c) seen).or ((bdF ks kp b seen).or (bdF ks kp c seen))
  | .cs x as, seen => (hdF ks kp (.cs x as) seen).or (asF ks kp as seen)
def asF (ks : List (List (Str × Int))) (kp : List (Str × Int)) : Arms -> List Str -> Option Fo
  | .nil, _ => none
  | .cons _ ns b r, seen => (bdF ks kp b (seen ++ ns)).or (asF ks kp r seen)
end
def subs : Bd -> List Str -> List (Bd × List Str)
  | .give _, _ => []
  | .lt x _ b, seen => [(b, seen ++ [x])]
  | .iff _ b c, seen => [(b, seen), (c, seen)]
  | .cs _ as, seen => as.hs.map fun h => (h.2.2, seen ++ h.2.1)
def stF (ks : List (List (Str × Int))) (kp : List (Str × Int)) (l : List (Bd × List Str)) : Option Fo := l.findSome? fun p => bdF ks kp p.1 p.2
theorem asF_st (ks : List (List (Str × Int))) (kp : List (Str × Int)) : ∀ (as : Arms) (seen : List Str), asF ks kp as seen = stF ks kp (as.hs.map fun h => (h.2.2, seen ++ h.2.1))
  | .nil, _ => by rw [asF]; rfl
  | .cons t ns b r, seen => by
    rw [asF, asF_st ks kp r seen]
    unfold stF
    show _ = List.findSome? _ ((b, seen ++ ns) :: _)
    rw [List.findSome?_cons]
    cases bdF ks kp b (seen ++ ns) <;> rfl
theorem bdF_eq (ks : List (List (Str × Int))) (kp : List (Str × Int)) (b : Bd) (seen : List Str) : bdF ks kp b seen = (hdF ks kp b seen).or (stF ks kp (subs b seen)) := by
  cases b with
  | give x =>
    rw [bdF]
    show _ = (hdF ks kp (.give x) seen).or none
    rw [Option.or_none]
  | lt x d b =>
    rw [bdF]
    congr 1
    show _ = List.findSome? _ [(b, seen ++ [x])]
    rw [List.findSome?_cons]
    cases bdF ks kp b (seen ++ [x]) <;> rfl
  | iff x b c =>
    rw [bdF]
    congr 1
    show _ = List.findSome? _ [(b, seen), (c, seen)]
    rw [List.findSome?_cons, List.findSome?_cons]
    cases bdF ks kp b seen <;> cases bdF ks kp c seen <;> rfl
  | cs x as =>
    rw [bdF]
    congr 1
    exact asF_st ks kp as seen
def tot (l : List (Bd × List Str)) : Nat := (l.map fun p => p.1.sz).sum
theorem arms_tot (seen : List Str) : ∀ as : Arms, tot (as.hs.map fun h => (h.2.2, seen ++ h.2.1)) <= as.sz
  | .nil => by show 0 <= _; omega
  | .cons t ns b r => by
    have := arms_tot seen r
    unfold tot at this ⊢
    rw [Arms.sz, Arms.hs, List.map_cons, List.map_cons, List.sum_cons]
    dsimp only
    omega
theorem subs_tot (b : Bd) (seen : List Str) : tot (subs b seen) < b.sz := by
  cases b with
  | give x => rw [Bd.sz]; show 0 < 1; decide
  | lt x d b =>
    rw [Bd.sz]
    show b.sz + 0 < _
    omega
  | iff x b c =>
    rw [Bd.sz]
    show b.sz + (c.sz + 0) < _
    omega
  | cs x as =>
    rw [Bd.sz]
    have := arms_tot seen as
    show tot (as.hs.map fun h => (h.2.2, seen ++ h.2.1)) < _
    omega
theorem arms_each : ∀ (as : Arms), ∀ h ∈ as.hs, h.2.1.length + h.2.2.sz + 1 <= as.sz
  | .nil, _, h => by cases h
  | .cons t ns b r, h, hm => by
    rw [Arms.sz]
    rcases List.mem_cons.mp hm with e | hm
    · rw [e]
      show ns.length + b.sz + 1 <= _
      omega
    · have := arms_each r h hm
      omega
theorem arms_okE : ∀ (as : Arms), as.ok -> ∀ h ∈ as.hs, h.2.2.ok
  | .nil, _, _, h => by cases h
  | .cons t ns b r, ho, h, hm => by
    rw [Arms.ok] at ho
    rcases List.mem_cons.mp hm with e | hm
    · rw [e]
      exact ho.1
    · exact arms_okE r ho.2 h hm
theorem subs_each {b : Bd} {seen : List Str} (hb : b.ok) {n : Nat} (hn : seen.length + b.sz <= n) : ∀ p ∈ subs b seen, p.1.ok /\ p.2.length + p.1.sz <= n := by
  cases b with
  | give x => intro p hp; cases hp
  | lt x d b =>
    rw [Bd.ok] at hb
    rw [Bd.sz] at hn
    intro p hp
    rw [List.mem_singleton.mp hp]
    refine ⟨hb, ?_⟩
    show (seen ++ [x]).length + b.sz <= n
    rw [List.length_append]
    show seen.length + 1 + b.sz <= n
    omega
  | iff x b c =>
    rw [Bd.ok] at hb
    rw [Bd.sz] at hn
    intro p hp
    rcases List.mem_cons.mp hp with e | hp
    · rw [e]
      exact ⟨hb.1, by show seen.length + b.sz <= n; omega⟩
    · rw [List.mem_singleton.mp hp]
      exact ⟨hb.2, by show seen.length + c.sz <= n; omega⟩
  | cs x as =>
    rw [Bd.ok] at hb
    rw [Bd.sz] at hn
    intro p hp
    obtain ⟨h, hm, rfl⟩ := List.mem_map.mp hp
    have := arms_each as h hm
    refine ⟨arms_okE as hb.2 h hm, ?_⟩
    show (seen ++ h.2.1).length + h.2.2.sz <= n
    rw [List.length_append]
    omega
def IsKs (cK : Addr) (H : Hp) (k : Addr) (ks : List (List (Str × Int))) (kp : List (Str × Int)) : Prop := ∃ dx pk d1 d2 qs, H k = some (.ins cK dx [("kinds", .ref pk), ("tag_sizes", .ref d1), ("param_counts", .ref d2)]) /\ H pk = some (.tup (qs.map V.ref)) /\ KdsT H ks qs /\ H d1 = some (.dK (ents ks.flatten)) /\ H d2 = some (.dK (ents kp))
theorem IsKs.same {cK : Addr} {H H' : Hp} {k : Addr} {ks : List (List (Str × Int))} {kp : List (Str × Int)} (h : IsKs cK H k ks kp) (s : Same H H') : IsKs cK H' k ks kp := let ⟨dx, pk, d1, d2, qs, a, p, q, b, c⟩ := h; ⟨dx, pk, d1, d2, qs, s _ _ a, s _ _ p, q.keep (.of s), s _ _ b, s _ _ c⟩
theorem IsKs.kn {cK : Addr} {H : Hp} {k : Addr} {ks : List (List (Str × Int))} {kp : List (Str × Int)} (h : IsKs cK H k ks kp) : IsKn cK H k ks.flatten kp := let ⟨dx, pk, d1, d2, _, a, _, _, b, c⟩ := h; ⟨dx, pk, d1, d2, a, b, c⟩
def ErrL (C : Addr) (E : XK) (H : Hp) (x : Str) (ts : List Str) : Prop := ∀ d l H', Same H H' -> H' d = some (XD d [("tags", .ref l), ("name", .str x)]) -> H' l = some (.lst (ts.map V.str)) -> E (.ref C) (some d) H'
theorem ErrL.at {C : Addr} {E : XK} {H H' : Hp} {x : Str} {ts : List Str} (h : ErrL C E H x ts) (s : Same H H') : ErrL C E H' x ts := fun d l H2 s2 q => h d l H2 (s.trans s2) q
def ErrO (Tw Un Mi La : Addr) (E : XK) (H : Hp) : Fo -> Prop
  | .n f => Err (clsF Tw Un Mi f.1) E H f.2
  | .l x ts => ErrL La E H x ts
theorem ErrO.at {Tw Un Mi La : Addr} {E : XK} {H H' : Hp} {o : Fo} (h : ErrO Tw Un Mi La E H o) (s : Same H H') : ErrO Tw Un Mi La E H' o := by
  cases o with
  | n f => exact Err.at h s
  | l x ts => exact ErrL.at h s
def spTag (cK Tw Un Mi : Addr) : Sp := fun vs H Q E => ∃ (k p pl q s : Addr) (ks : List (List (Str × Int))) (kp : List (Str × Int)) (t : Str) (ns tags : List Str), vs = [.ref k, .ref p, .ref pl] /\ IsKs cK H k ks kp /\ FewK ks /\ H p = some (.tup [.str t, .ref q, .ref s]) /\ H q = some (.tup (ns.map V.str)) /\ H pl = some (.lst (tags.map V.str)) /\
  (tgF ks t ns.length tags = none -> ∀ H', Same H H' -> Q .non H') /\ ∀ f, tgF ks t ns.length tags = some f -> Err (clsF Tw Un Mi f.1) E H f.2
section
variable {P : Program} {w : World} {K : PySem.W.Frag} {mg : Str -> Option Value} {base : Heap} {f R C Tw Un Mi cK : Addr} {fd : FuncData}
theorem scTag : FnScope ["known", "arm", "tags_ahead", "tag"] ["known", "arm", "tags_ahead"] (defScope sTag) := ⟨rfl, rfl, rfl, by decide +kernel, rfl, by decide +kernel, by decide +kernel⟩
theorem ok_tag (F : Fun K "look_at_tag" "look_at_tag" sTag f fd) (T : Kn K cK) (GI : Ca P w K mg base (CXf P w) 3 "insist_known" ["names", "known_ones"] (spKnowG K Un)) (GK : Ca P w K mg base CX0 1 "kin" ["kinds", "tag"] spKin) (XM : Xa P w K mg base 1 "Misfit" Mi ["self", "name"] (spX Mi "name")) (XW : Xa P w K mg base 1 "Twice" Tw ["self", "name"] (spX Tw "name")) (m_len : mg "len" = none) : FnOk P w K mg base (CXf P w) 4 f fd ["known", "arm", "tags_ahead"] (spTag cK Tw Un Mi) := by
  refine F.byx scTag (fun vs H Q E h => ?_) (fun cdv A outer s H vs Q E hr h => ?_)
  · obtain ⟨k, p, pl, q, s, ks, kp, t, ns, tags, rfl, _⟩ := h
    rfl
  obtain ⟨k, p, pl, pq, ps, ks, kp, t, ns, tags, rfl, ⟨dx, pk, d1, d2, qs, hk, hpk, hK, h1, h2⟩, hF, hp, hq, hl, q1, q2⟩ := h
  have r1 : Room 1 _ := hr.mono (by decide)
  have r2 : Room 2 _ := hr.mono (by decide)
  have r3 : Room 3 _ := hr.mono (by decide)
  refine ⟨_,
    (jss_cons (js_set (i := 3) scTag.nd rfl (Or.inl rfl) (je_ix jx_tup (jv 1) je_int (fun _ _ => rfl)))
    (jss_cons (js_expr (je_ca GI r3 rfl passx (ja_c (je_lst (ja_c (jv 3) ja_nil)) (ja_c (je_fld (jv 0)) ja_nil))))
    (jss_cons (js_if (jW.pt (jw_and (jt_cmpR jo_gt (je_fnB jc_len_seq rfl m_len PySem.boot_len (ja_c (jv 2) ja_nil)) je_int (nomark _)) (jw_and1 (jt_cmpR jo_notIn_seq (jv 3) (je_ca GK r1 rfl pass0 (ja_c (je_fld (jv 0)) (ja_c (je_ix jx_list (jv 2) je_int (fun _ _ => rfl)) ja_nil))) (by with_unfolding_all rfl)))))
      (jss_one (js_raise XM r2 rfl throwx (ja_c (jv 3) ja_nil))) jss_nil)
    (jss_cons (js_if (jt_cmpR jo_in_seq (jv 3) (jv 2) (by with_unfolding_all rfl))
      (jss_one (js_raise XW r2 rfl throwx (ja_c (jv 3) ja_nil))) jss_nil)
    (jss_one (js_if (jt_cmpR jo_ne (je_fnB jc_len_seq rfl m_len PySem.boot_len (ja_c (je_ix jx_tup (jv 1) je_int (fun _ _ => rfl)) ja_nil)) (je_dget hr (je_fld (jv 0)) (jv 3)) (nomark _))
      (jss_one (js_raise XM r2 rfl throwx (ja_c (jv 3) ja_nil))) jss_nil)))))), ?_⟩
  have sl := line0
  refine ⟨_, rfl, p, _, _, _, rfl, rfl, SqT.of hp, rfl, _, rfl, by show 1 <= sizeLine; decide, fun l hl1 => ?_⟩
  have s1 := same_new hl1 (.lst [.str t])
  have hk' : hasK (ents ks.flatten) t = (ks.flatten.lookup t).isSome := by unfold hasK; rw [ents_at, Option.isSome_map]
  refine ⟨_, rfl, k, cK, dx, _, _, rfl, s1 _ _ hk, T.cl, T.a2, rfl, l, d1, [t], ents ks.flatten, rfl, .inl (SqL.of upd_same), s1 _ _ h1, fun hall => ?_, fun n hn => ?_⟩
  · have ht := hall t (by simp)
    rw [hk'] at ht
    obtain ⟨m, hm⟩ := Option.isSome_iff_exists.mp ht
    have tg : tgF ks t ns.length tags = if tags ≠ [] /\ t ∉ kinF (tags.headD "") ks then some (3, t) else if t ∈ tags then some (1, t) else if ((ns.length : Nat) : Int) ≠ m then some (3, t) else none := by unfold tgF; rw [hm]
    suffices rest : ∀ H2, Same H H2 -> ¬ (tags ≠ [] /\ t ∉ kinF (tags.headD "") ks) -> (tSeq _ _ : TS) _ [some (.ref k), some (.ref p), some (.ref pl), some (.str t)] H2 by
      refine ⟨_, rfl, pl, _, rfl, .inl (SqL.of (s1 _ _ hl)), _, _, rfl, rfl, _, rfl, ?_⟩
      cases tags with
      | nil => exact iteF' rfl (iteF (rest _ s1 (fun z => z.1 rfl)))
      | cons t0 ts0 =>
        refine iteT' (by rw [List.length_map, List.length_cons]; exact decide_eq_true (by omega)) ⟨_, rfl, _, rfl, k, cK, dx, _, _, rfl, s1 _ _ hk, T.cl, T.a1, rfl, _, rfl, pl, _, _, _, rfl, rfl, SqL.of (s1 _ _ hl), atI_nat (j := 0) rfl, pk, t0, qs, ks, rfl, s1 _ _ hpk, hK.keep (.of s1), hF, fun H2 r s2 fr hr2 => ⟨r, _, rfl, .inl (SqL.of hr2), rfl, flat_strs _, _, rfl, ?_⟩⟩
        rw [show (if true = true then !inV (V.str t) ((kinF t0 ks).map V.str) else inV (V.str t) ((kinF t0 ks).map V.str)) = !decide (t ∈ kinF t0 ks) by rw [in_strs]; rfl]
        by_cases c : t ∈ kinF t0 ks
        · exact iteF' (by rw [decide_eq_true c]; rfl) (rest _ (s1.trans s2) (fun z => z.2 c))
        · exact iteT' (by rw [decide_eq_false c]; rfl) ⟨_, rfl, by show 1 <= sizeLine; decide, fun e he => raised (Err.at (q2 (3, t) (by rw [tg, if_pos ⟨by simp, c⟩])) (s1.trans s2)) e he⟩
    intro H2 s2 hno
    refine ⟨_, rfl, _, rfl, pl, _, rfl, .inl (SqL.of (s2 _ _ hl)), rfl, flat_strs _, _, rfl, ?_⟩
    rw [show (if false = true then !inV (V.str t) (tags.map V.str) else inV (V.str t) (tags.map V.str)) = decide (t ∈ tags) from in_strs]
    by_cases c : t ∈ tags
    · exact iteT' (decide_eq_true c) ⟨_, rfl, by show 1 <= sizeLine; decide, fun e he => raised (Err.at (q2 (1, t) (by rw [tg, if_neg hno, if_pos c])) s2) e he⟩
    refine iteF' (decide_eq_false c) ?_
    have dg : DGet H2 d1 (.str t) (some (.int m)) := by
      have := DGet.k (k := .inr t) (s2 _ _ h1)
      rw [ents_at, hm] at this
      exact this
    refine ⟨_, rfl, p, _, _, _, rfl, rfl, SqT.of (s2 _ _ hp), atI_nat (j := 1) rfl, pq, _, rfl, .inr (SqT.of (s2 _ _ hq)), _, rfl, k, cK, dx, _, _, rfl, s2 _ _ hk, T.cl, T.a2, rfl, _, rfl, d1, _, rfl, dg, rfl, _, rfl, ?_⟩
    rw [List.length_map]
    by_cases c2 : ((ns.length : Nat) : Int) = m
    · exact iteF' (by rw [decide_eq_true (congrArg V.int c2)]; rfl) (q1 (by rw [tg, if_neg hno, if_neg c, if_neg (fun z => z c2)]) _ s2)
    · exact iteT' (by rw [decide_eq_false (fun z => c2 (V.int.inj z))]; rfl) ⟨_, rfl, by show 1 <= sizeLine; decide, fun e he => raised (Err.at (q2 (3, t) (by rw [tg, if_neg hno, if_neg c, if_pos c2])) s2) e he⟩
  · have hn' : n = t /\ hasK (ents ks.flatten) t = false := by
      by_cases c : hasK (ents ks.flatten) t = true
      · simp [c] at hn
      · simp [c] at hn
        exact ⟨hn.symm, by simpa using c⟩
    rw [hk'] at hn'
    obtain ⟨rfl, hn2⟩ := hn'
    have e0 : ks.flatten.lookup n = none := by simpa using hn2
    exact Err.at (q2 (2, n) (by unfold tgF; rw [e0])) s1
end
end KD
namespace L2
open PySem
theorem je_xinit {X : Cx} {f C R : Addr} {x : Str} {np apos pos : Pos} {a : Expr} {as : List Expr} {t : TA} {pl : Sem Bool} (M : XCl X.K C f) (B : XBase X.K R) (hg : Gl X x) (hm : X.mg x = some (.ref R)) (ha : jA X (a :: as) t) (hdb : (x == ("__debug__" : Str)) = false := by decide) (h1 : isStar a = false := by rfl) (h2 : as.all (fun e => !isStar e) = true := by rfl)
    (ht : eval (.Call (.Attribute (.Name x np) "__init__" apos) (a :: as) [] pos) X.env = (do
      let ov <- eval (.Name x np) X.env
      standAt apos.atName
      let (f, first) <- holding [ov] (getMethod ov "__init__" pl)
      callWith pos f first (backTo pos (starEach (a :: as) X.env)) (backToKw pos (keywordEach [] X.env))) := by rfl) :
    jE X (.Call (.Attribute (.Name x np) "__init__" apos) (a :: as) [] pos) (tXInit C t) := ⟨pe_xinit M B hg hm ha.out hdb h1 h2 ht⟩
end L2
namespace KD
open PySem L2 K11
def spXL (C : Addr) : Sp := fun vs H Q _ => ∃ (e l : Addr) (v : V) (xs : List V), vs = [.ref e, v, .ref l] /\ H e = some (XO e C none) /\ H l = some (.lst xs) /\ ∀ (H' : Hp) (d l2 : Addr), d ≠ e -> (∀ b o, b ≠ e -> H b = some o -> H' b = some o) -> H' e = some (XO e C (some d)) -> H' d = some (XD d [("tags", .ref l2), ("name", v)]) -> H' l2 = some (.lst xs) -> Q .non H'
def Pend (H : Hp) : List (Bd × List Str) -> List Addr -> Prop
  | [], us => us = []
  | (b, s) :: l, us => ∃ t r e us', us = t :: us' /\ H t = some (.tup [.ref r, .ref e]) /\ IsBd H b r /\ H e = some (.dK (marks s)) /\ Pend H l us'
theorem Tups.trans {H H' H'' : Hp} (a : Tups H H') (b : Tups H' H'') : Tups H H'' := fun p xs h => b _ _ (a _ _ h)
def Ups (H H' : Hp) : Prop := Tups H H' /\ ∀ p kvs, H p = some (.dK kvs) -> H' p = some (.dK kvs)
theorem Ups.of {H H' : Hp} (s : Same H H') : Ups H H' := ⟨.of s, fun _ _ h => s _ _ h⟩
theorem Ups.trans {H H' H'' : Hp} (a : Ups H H') (b : Ups H' H'') : Ups H H'' := ⟨fun p xs h => b.1 _ _ (a.1 _ _ h), fun p xs h => b.2 _ _ (a.2 _ _ h)⟩
theorem Ups.put {H : Hp} {l : Addr} {xs : List V} {o : HO} (h : H l = some (.lst xs)) : Ups H (upd H l o) := ⟨fun p ys hp => by rw [upd_ne (ne_of hp h (by intro e; cases e))]; exact hp, fun p ys hp => by rw [upd_ne (ne_of hp h (by intro e; cases e))]; exact hp⟩
theorem Pend.keep {H H' : Hp} (t : Ups H H') : ∀ {l : List (Bd × List Str)} {us : List Addr}, Pend H l us -> Pend H' l us
  | [], _, h => h
  | (b, s) :: l, _, h => let ⟨p, r, e, us', a0, a1, a2, a3, a4⟩ := h; ⟨p, r, e, us', a0, t.1 _ _ a1, a2.keep t.1, t.2 _ _ a3, Pend.keep t a4⟩
theorem Pend.app {H : Hp} : ∀ {l m : List (Bd × List Str)} {us vs : List Addr}, Pend H l us -> Pend H m vs -> Pend H (l ++ m) (us ++ vs)
  | [], _, us, _, h, g => by
    have h' : us = [] := h
    subst h'
    exact g
  | (b, s) :: l, _, _, _, h, g => by
    obtain ⟨p, r, e, us', rfl, a1, a2, a3, a4⟩ := h
    exact ⟨p, r, e, _, rfl, a1, a2, a3, Pend.app a4 g⟩
theorem Pend.len {H : Hp} : ∀ {l : List (Bd × List Str)} {us : List Addr}, Pend H l us -> l.length = us.length
  | [], us, h => by
    have h' : us = [] := h
    subst h'
    rfl
  | (b, s) :: l, _, h => by
    obtain ⟨p, r, e, us', rfl, a1, a2, a3, a4⟩ := h
    rw [List.length_cons, List.length_cons, Pend.len a4]
theorem raisedL {C : Addr} {H : Hp} {E : XK} {x : Str} {ts : List Str} {l : Addr} (hE : ErrL C E H x ts) (hl : H l = some (.lst (ts.map V.str))) (e : Addr) (he : H e = none) :
    spXL C [.ref e, .str x, .ref l] (upd H e (XO e C none)) (fun u H2 => u = .non /\ ∃ dx, H2 e = some (XO e C dx) /\ E (.ref C) dx (drp H2 e)) E0 := by
  refine ⟨e, l, _, _, rfl, upd_same, old he hl, fun H' d l2 nde k h1 h2 h3 => ⟨rfl, some d, h1, hE d l2 _ (fun b u hb => ?_) ?_ ?_⟩⟩
  · rw [drp_ne (ne_of_none hb he)]
    exact k b u (ne_of_none hb he) (old he hb)
  · rw [drp_ne nde]
    exact h2
  · rw [drp_ne (ne_of h3 h1 (by intro z; unfold XO at z; cases z))]
    exact h3
def spArms (cK Tw Un Mi La : Addr) : Sp := fun vs H Q E => ∃ (k p a pa : Addr) (ks : List (List (Str × Int))) (kp : List (Str × Int)) (x : Str) (as : Arms) (ts : List Addr) (seen : List Str), vs = [.ref k, .ref p, .ref a] /\ IsKs cK H k ks kp /\ FewK ks /\ H p = some (.tup [.str "case", .str x, .ref pa]) /\ H pa = some (.tup (ts.map V.ref)) /\ IsArms H as ts /\ as ≠ .nil /\ H a = some (.dK (marks seen)) /\ seen.length + as.sz <= 1000 /\
  (csF ks x as.hs seen = none -> ∀ (H' : Hp) (l : Addr) (us : List Addr), Same H H' -> H l = none -> H' l = some (.lst (us.map V.ref)) -> Pend H' (as.hs.map fun h => (h.2.2, seen ++ h.2.1)) us -> Q (.ref l) H') /\ ∀ f, csF ks x as.hs seen = some f -> ErrO Tw Un Mi La E H f
theorem heF_drop {ks : List (List (Str × Int))} {seen : List Str} {hs : List (Str × List Str × Bd)} {i : Nat} {t : Str} {ns : List Str} {b : Bd} {tags : List Str} (h : hs[i]? = some (t, ns, b)) : heF ks seen (hs.drop i) tags = match tgF ks t ns.length tags with
    | some f => some f
    | none => match dup seen ns with
      | some n => some (1, n)
      | none => heF ks seen (hs.drop (i + 1)) (tags ++ [t]) := by
  obtain ⟨hi, e⟩ := List.getElem?_eq_some_iff.mp h
  rw [List.drop_eq_getElem_cons hi, e]
  rfl
theorem arms_len : ∀ (as : Arms), as.hs.length <= as.sz
  | .nil => Nat.zero_le _
  | .cons t ns b r => by
    have := arms_len r
    rw [Arms.sz]
    show r.hs.length + 1 <= _
    omega
section
variable {P : Program} {w : World} {K : PySem.W.Frag} {mg : Str -> Option Value} {base : Heap} {f R C Tw Un Mi La cK : Addr} {fd : FuncData}
theorem scMisfit : FnScope ["self", "name"] ["self", "name"] (defScope iMisfit) := ⟨rfl, rfl, rfl, by decide +kernel, rfl, by decide +kernel, by decide +kernel⟩
theorem ok_misfit {fi : Addr} (F : Fun K "__init__" "Misfit.__init__" iMisfit f fd) (xw : PySem.W.takerIn K C "name" = some none) (M : XCl K C fi) (B : XBase K R) (mR : mg "ReuseError" = some (.ref R)) : FnOk P w K mg base CX0 1 f fd ["self", "name"] (spX C "name") := by
  refine F.by scMisfit (fun vs H Q E h => ?_) (fun cdv A' outer s H vs Q E hr h => ?_)
  · obtain ⟨e, v, rfl, _⟩ := h
    rfl
  obtain ⟨e, v, rfl, hX, q⟩ := h
  refine ⟨_, jss_cons (js_expr ⟨pe_xinit M B rfl mR (ja_c (jv 0) (ja_c (jv 1) ja_nil)).out⟩) (jss_one ⟨ps_xnew M (jv 0).out (jv 1).out⟩), ?_⟩
  refine ⟨_, rfl, _, rfl, e, [v], none, rfl, by show 1 <= sizeLine; decide, hX, ?_⟩
  exact ⟨_, rfl, _, rfl, e, rfl, hX, xw, fun d hd ne => q d hd ne⟩
theorem sciLacking : FnScope ["self", "name", "tags"] ["self", "name", "tags"] (defScope iLacking) := ⟨rfl, rfl, rfl, by decide +kernel, rfl, by decide +kernel, by decide +kernel⟩
theorem ok_iLacking {fi : Addr} (F : Fun K "__init__" "Lacking.__init__" iLacking f fd) (xn : PySem.W.takerIn K C "name" = some none) (xt : PySem.W.takerIn K C "tags" = some none) (M : XCl K C fi) (B : XBase K R) (mR : mg "ReuseError" = some (.ref R)) (m_list : mg "list" = none) : FnOk P w K mg base CX0 1 f fd ["self", "name", "tags"] (spXL C) := by
  refine F.by sciLacking (fun vs H Q E h => ?_) (fun cdv A' outer s H vs Q E hr h => ?_)
  · obtain ⟨e, l, v, xs, rfl, _⟩ := h
    rfl
  obtain ⟨e, l, v, xs, rfl, hX, hL, q⟩ := h
  refine ⟨_, jss_cons (js_expr (je_xinit M B rfl mR (ja_c (jv 0) (ja_c (jv 1) (ja_c (je_fnTy jc_list_of rfl m_list PyProof.Rows.boot_list (ja_c (jv 2) ja_nil)) ja_nil))))) (jss_cons ⟨ps_xnew M (jv 0).out (jv 1).out⟩ (jss_one (js_xmore M (jv 0) (je_fnTy jc_list_of rfl m_list PyProof.Rows.boot_list (ja_c (jv 2) ja_nil))))), ?_⟩
  refine ⟨_, rfl, _, rfl, _, rfl, l, xs, rfl, .inl (SqL.of hL), fun l1 hl1 => ?_⟩
  have s1 := same_new hl1 (.lst xs)
  have hX1 := s1 _ _ hX
  have hL1 := s1 _ _ hL
  refine ⟨e, [v, .ref l1], none, rfl, by show 2 <= sizeLine; decide, hX1, ?_⟩
  generalize upd H l1 (.lst xs) = H1 at *
  refine ⟨_, rfl, _, rfl, e, rfl, hX1, xn, fun d hd ne => ?_⟩
  have nle : l ≠ e := ne_of hL1 hX1 (by intro z; unfold XO at z; cases z)
  have fd' : H1 d = none := hd
  have hL2 : upd (upd H1 d (XD d [("name", v)])) e (XO e C (some d)) l = some (.lst xs) := by rw [upd_ne nle, upd_ne (ne_of_none hL1 hd)]; exact hL1
  have hE2 := upd_same (H := upd H1 d (XD d [("name", v)])) (a := e) (o := XO e C (some d))
  have hD2 : upd (upd H1 d (XD d [("name", v)])) e (XO e C (some d)) d = some (XD d [("name", v)]) := by rw [upd_ne ne]; exact upd_same
  have k2 : ∀ b o, b ≠ e -> H b = some o -> upd (upd H1 d (XD d [("name", v)])) e (XO e C (some d)) b = some o := fun b o n z => by
    rw [upd_ne n, upd_ne (ne_of_none (s1 _ _ z) hd)]
    exact s1 _ _ z
  generalize upd (upd H1 d (XD d [("name", v)])) e (XO e C (some d)) = H2 at *
  refine ⟨_, rfl, l, xs, rfl, .inl (SqL.of hL2), fun l2 hl2 => ?_⟩
  refine ⟨_, rfl, e, d, _, rfl, old hl2 hE2, old hl2 hD2, by show 1 < 900; decide, xt, ?_⟩
  have n1 : l2 ≠ d := fun z => by rw [z, hD2] at hl2; cases hl2
  have n3 : H d = none := by
    cases z : H d with
    | none => rfl
    | some o => rw [s1 _ _ z] at hd; cases hd
  refine q _ d l2 ne (fun b o n z => ?_) ?_ upd_same ?_
  · rw [upd_ne (ne_of_none z n3)]
    exact old hl2 (k2 b o n z)
  · rw [upd_ne ne.symm]
    exact old hl2 hE2
  · rw [upd_ne n1]
    exact upd_same
theorem scArms : FnScope ["known", "body", "above", "arms", "within", "tags", "arm", "absent"] ["known", "body", "above"] (defScope sArms) := ⟨rfl, rfl, rfl, by decide +kernel, rfl, by decide +kernel, by decide +kernel⟩
theorem ok_arms (F : Fun K "looked_at_arms" "looked_at_arms" sArms f fd) (T : Kn K cK) (GT : Ca P w K mg base (CXf P w) 4 "look_at_tag" ["known", "arm", "tags_ahead"] (spTag cK Tw Un Mi)) (GB : Ca P w K mg base (CXf P w) 3 "with_bound" ["names", "above"] (spBound K Tw)) (GL : Ca P w K mg base CX0 2 "lacking" ["kinds", "tags"] spLacking) (XL : Xa P w K mg base 1 "Lacking" La ["self", "name", "tags"] (spXL La)) (m_len : mg "len" = none) : FnOk P w K mg base (CXf P w) 5 f fd ["known", "body", "above"] (spArms cK Tw Un Mi La) := by
  refine F.byx scArms (fun vs H Q E h => ?_) (fun cdv A outer s H vs Q E hr h => ?_)
  · obtain ⟨k, p, a, pa, ks, kp, x, as, ts, seen, rfl, _⟩ := h
    rfl
  obtain ⟨k, p, a, pa, ks, kp, x, as, ts, seen, rfl, hk, hF, hp, hpa, hA, hne, ha, hz, q1, q2⟩ := h
  have r2 : Room 2 _ := hr.mono (by decide)
  have r3 : Room 3 _ := hr.mono (by decide)
  have r4 : Room 4 _ := hr.mono (by decide)
  refine ⟨_,
    (jss_cons (js_set (i := 3) scArms.nd rfl (Or.inl rfl) (je_ix jx_tup (jv 1) je_int (fun _ _ => rfl)))
    (jss_cons (js_set (i := 4) scArms.nd rfl (Or.inl rfl) (je_lst ja_nil))
    (jss_cons (js_set (i := 5) scArms.nd rfl (Or.inl rfl) (je_lst ja_nil))
    (jss_cons (js_for ownx rfl (ji_tup (jv 3)) (jg_name (i := 6) scArms.nd rfl (Or.inl rfl))
      (jss_cons (js_expr (je_ca GT r4 rfl passx (ja_c (jv 0) (ja_c (jv 6) (ja_c (jv 5) ja_nil)))))
      (jss_cons (js_expr (je_bm PySem.F.plainAttrs_list PySem.F.slot_list_append PySem.F.type_list_append jm_append (jv 5) (ja_c (je_ix jx_tup (jv 6) je_int (fun _ _ => rfl)) ja_nil)))
      (jss_one (js_expr (je_bm PySem.F.plainAttrs_list PySem.F.slot_list_append PySem.F.type_list_append jm_append (jv 4) (ja_c (je_tup (ja_c (je_ix jx_tup (jv 6) je_int (fun _ _ => rfl)) (ja_c (je_ca GB r3 rfl passx (ja_c (je_ix jx_tup (jv 6) je_int (fun _ _ => rfl)) (ja_c (jv 2) ja_nil))) ja_nil))) ja_nil)))))))
    (jss_cons (js_set (i := 7) scArms.nd rfl (Or.inl rfl) (je_ca GL r2 rfl pass0 (ja_c (je_fld (jv 0)) (ja_c (jv 5) ja_nil))))
    (jss_cons (js_if (jt_cmpR jo_gt (je_fnB jc_len_seq rfl m_len PySem.boot_len (ja_c (jv 7) ja_nil)) je_int (nomark _))
      (jss_one (js_raise XL r2 rfl throwx (ja_c (je_ix jx_tup (jv 1) je_int (fun _ _ => rfl)) (ja_c (jv 7) ja_nil)))) jss_nil)
    (jss_one (js_ret (jv 4))))))))), ?_⟩
  have sl := line0
  have hal := arms_len as
  have hlen := hA.len
  refine ⟨_, rfl, p, _, _, _, rfl, rfl, SqT.of hp, atI_nat (j := 2) rfl, by show 0 <= sizeLine; decide, fun lw hlw => ⟨by show 0 <= sizeLine; decide, fun lt hlt => ?_⟩⟩
  have s1 := (same_new hlw (.lst [])).new (o := .lst []) hlt
  have flw : H lw = none := hlw
  have flt : H lt = none := (same_new hlw (.lst [])).free hlt
  have nwt : lw ≠ lt := ne_of_none upd_same hlt
  refine ⟨_, rfl, _, rfl, ⟨_, SqT.of (s1 _ _ hpa)⟩, for_tup (xs := ts.map V.ref) (fun i σ H' => Same H H' /\ H' lt = some (.lst (((as.hs.take i).map (·.1)).map V.str)) /\ (∃ us, H' lw = some (.lst (us.map V.ref)) /\ us.length = i /\ Pend H' ((as.hs.take i).map fun h => (h.2.2, seen ++ h.2.1)) us) /\ heF ks seen (as.hs.drop i) ((as.hs.take i).map (·.1)) = heF ks seen as.hs [] /\ ∃ v, σ = [some (.ref k), some (.ref p), some (.ref a), some (.ref pa), some (.ref lw), some (.ref lt), v, none]) ⟨s1, upd_same, ⟨[], old hlt upd_same, rfl, rfl⟩, rfl, none, rfl⟩ (fun i σ H' _ h => SqT.of (h.1 _ _ hpa)) ?_ ?_⟩
  · rintro i v σ H1 hv ⟨s2, e2, ⟨us, e3, lus, hPe⟩, hh, x', rfl⟩
    rw [List.getElem?_map] at hv
    obtain ⟨pr, hpr, rfl⟩ := Option.map_eq_some_iff.mp hv
    obtain ⟨t, ns, b, q, sb, hhs, g1, g2, g3⟩ := hA.get hpr
    have hi : i < as.hs.length := (List.getElem?_eq_some_iff.mp hhs).1
    have hns : ns.length + b.sz + 1 <= as.sz := arms_each as _ (List.mem_of_getElem? hhs)
    rw [heF_drop hhs] at hh
    have hg1 := s2 _ _ g1
    refine ⟨_, rfl, _, rfl, _, rfl, k, pr, lt, q, sb, ks, kp, t, ns, (as.hs.take i).map (·.1), rfl, hk.same s2, hF, hg1, s2 _ _ g2, e2, fun ht H2 s3 => ?_, fun f hf => ?_⟩
    · rw [ht] at hh
      dsimp only at hh
      have s4 := s2.trans s3
      have e22 := s3 _ _ e2
      have lte : ((as.hs.take i).map (·.1)).length = i := by rw [List.length_map, List.length_take]; omega
      refine ⟨_, rfl, .inl ⟨rfl, _, SqL.of e22⟩, _, rfl, pr, _, _, _, rfl, rfl, SqT.of (s4 _ _ g1), rfl, lt, _, _, rfl, rfl, e22, by rw [List.length_map, lte]; omega, ?_⟩
      have u3 := Ups.put (o := .lst (((as.hs.take i).map (·.1)).map V.str ++ [V.str t])) e22
      have e23 := upd_same (H := H2) (a := lt) (o := .lst (((as.hs.take i).map (·.1)).map V.str ++ [V.str t]))
      have e33 : upd H2 lt (.lst (((as.hs.take i).map (·.1)).map V.str ++ [V.str t])) lw = some (.lst (us.map V.ref)) := by rw [upd_ne nwt]; exact s3 _ _ e3
      have s5 := s4.put (o := .lst (((as.hs.take i).map (·.1)).map V.str ++ [V.str t])) flt
      have hPe3 := (hPe.keep (.of s3)).keep u3
      generalize upd H2 lt (.lst (((as.hs.take i).map (·.1)).map V.str ++ [V.str t])) = H3 at *
      refine ⟨_, rfl, .inl ⟨rfl, _, SqL.of e33⟩, _, rfl, pr, _, _, _, rfl, rfl, SqT.of (s5 _ _ g1), atI_nat (j := 2) rfl, _, rfl, pr, _, _, _, rfl, rfl, SqT.of (s5 _ _ g1), atI_nat (j := 1) rfl, _, rfl, q, a, ns, seen, rfl, .inr (s5 _ _ g2), s5 _ _ ha, by omega, by omega, fun hd H4 e s6 fe he => ?_, fun n hd => ?_⟩
      · rw [hd] at hh
        dsimp only at hh
        refine ⟨by show 2 <= sizeLine; decide, fun tp htp => ⟨lw, _, _, rfl, rfl, old htp (s6 _ _ e33), by rw [List.length_map]; omega, ?_⟩⟩
        have s7 := s6.new (o := .tup [.ref sb, .ref e]) htp
        have e37 := s7 _ _ e33
        have e27 := s7 _ _ e23
        have etp := upd_same (H := H4) (a := tp) (o := .tup [.ref sb, .ref e])
        have he7 := old (o := .tup [.ref sb, .ref e]) htp he
        have s57 := s5.trans s7
        have hPe7 := hPe3.keep (.of s7)
        generalize upd H4 tp (.tup [.ref sb, .ref e]) = H7 at *
        have u8 := Ups.put (o := .lst (us.map V.ref ++ [.ref tp])) e37
        refine ⟨s57.put flw, ?_, ⟨us ++ [tp], ?_, ?_, ?_⟩, ?_, _, rfl⟩
        · rw [upd_ne nwt.symm, e27, <- take_snoc hhs, List.map_append, List.map_append]
          rfl
        · rw [upd_same, List.map_append]
          rfl
        · rw [List.length_append, lus]
          rfl
        · rw [<- take_snoc hhs, List.map_append]
          exact (hPe7.keep u8).app ⟨tp, sb, e, [], rfl, u8.1 _ _ etp, g3.keep ((Tups.of s57).trans u8.1), u8.2 _ _ he7, rfl⟩
        · rw [<- take_snoc hhs, List.map_append]
          exact hh
      · rw [hd] at hh
        dsimp only at hh
        exact Err.at (q2 (.n (1, n)) (by unfold csF; rw [<- hh])) s5
    · rw [hf] at hh
      dsimp only at hh
      exact Err.at (q2 (.n f) (by unfold csF; rw [<- hh])) s2
  · rintro σ H1 ⟨s2, e2, ⟨us, e3, lus, hPe⟩, hh, x', rfl⟩
    rw [List.length_map, <- hlen, List.take_of_length_le (Nat.le_refl _)] at e2 hPe
    rw [List.length_map, <- hlen, List.take_of_length_le (Nat.le_refl _), List.drop_length] at hh
    have hn : heF ks seen as.hs [] = none := hh.symm
    obtain ⟨t0, ts0, e0⟩ : ∃ t0 ts0, as.hs.map (·.1) = t0 :: ts0 := by
      cases as with
      | nil => exact absurd rfl hne
      | cons t ns b r => exact ⟨t, r.hs.map (·.1), rfl⟩
    obtain ⟨dx, pk, d1, d2, qs, hk1, hpk, hK, h1, h2⟩ := hk.same s2
    refine ⟨_, rfl, k, cK, dx, _, _, rfl, hk1, T.cl, T.a1, rfl, _, rfl, pk, lt, t0, ts0, qs, ks, rfl, hpk, hK, hF, (by rw [e2, e0]), fun H2 r s3 fr hr2 => ?_⟩
    have ec : csF ks x as.hs seen = if lackF (t0 :: ts0) ks t0 = [] then none else some (.l x (lackF (t0 :: ts0) ks t0)) := by unfold csF; rw [hn, e0]; rfl
    have s4 := s2.trans s3
    refine ⟨_, rfl, r, _, rfl, .inl (SqL.of hr2), _, _, rfl, rfl, _, rfl, ?_⟩
    rw [List.length_map]
    by_cases c : lackF (t0 :: ts0) ks t0 = []
    · exact iteF' (by rw [c]; rfl) ⟨_, rfl, q1 (by rw [ec, if_pos c]) _ lw us s4 flw (s3 _ _ e3) (hPe.keep (.of s3))⟩
    · refine iteT' (decide_eq_true ?_) ⟨_, rfl, p, _, _, _, rfl, rfl, SqT.of (s4 _ _ hp), atI_nat (j := 1) rfl, _, rfl, by show 2 <= sizeLine; decide, fun e he => raisedL (ErrL.at (q2 (.l x _) (by rw [ec, if_neg c])) s4) hr2 e he⟩
      have := List.length_pos_iff.mpr c
      omega
end
end KD
namespace KD
open PySem L2 K11
theorem clsF_two {Tw Un Mi : Addr} {k : Nat} (h : k ≠ 1) : clsF Un Un Mi k = clsF Tw Un Mi k := by
  unfold clsF
  rw [if_neg h, if_neg h]
theorem unkF_k {seen ns : List Str} {f : Flt} (h : unkF seen ns = some f) : f.1 = 2 := by
  unfold unkF at h
  obtain ⟨n, _, rfl⟩ := Option.map_eq_some_iff.mp h
  rfl
theorem deF_k {kt kp : List (Str × Int)} {seen : List Str} {d : De} {f : Flt} (h : deF kt kp seen d = some f) : f.1 ≠ 1 := by
  cases d with
  | num i => cases h
  | op w a b => rw [unkF_k h]; decide
  | ask g ns => rw [unkF_k h]; decide
  | app w t ns =>
    have h' : (match unkF seen ns with | some f => some f | none => numF kt kp w t ns.length) = some f := h
    cases hu : unkF seen ns with
    | some g =>
      rw [hu] at h'
      cases h'
      rw [unkF_k hu]
      decide
    | none =>
      rw [hu] at h'
      unfold numF at h'
      dsimp only at h'
      generalize (if w = "make" then kt else kp).lookup t = o at h'
      cases o with
      | none =>
        cases h'
        show ¬ (2 : Nat) = 1
        decide
      | some k =>
        have h2 : (if (if w = "func" then ((ns.length : Nat) : Int) <= k else ((ns.length : Nat) : Int) = k) then none else some (3, t)) = some f := h'
        by_cases c : (if w = "func" then ((ns.length : Nat) : Int) <= k else ((ns.length : Nat) : Int) = k)
        · rw [if_pos c] at h2
          cases h2
        · rw [if_neg c] at h2
          cases h2
          show ¬ (3 : Nat) = 1
          decide
def spLooked (cK Tw Un Mi La : Addr) : Sp := fun vs H Q E => ∃ (k p a : Addr) (ks : List (List (Str × Int))) (kp : List (Str × Int)) (b : Bd) (seen : List Str), vs = [.ref k, .ref p, .ref a] /\ IsKs cK H k ks kp /\ FewK ks /\ IsBd H b p /\ b.ok /\ H a = some (.dK (marks seen)) /\ seen.length + b.sz <= 1000 /\
  (hdF ks kp b seen = none -> ∀ (H' : Hp) (l : Addr) (us : List Addr), Same H H' -> H l = none -> H' l = some (.lst (us.map V.ref)) -> Pend H' (subs b seen) us -> Q (.ref l) H') /\ ∀ f, hdF ks kp b seen = some f -> ErrO Tw Un Mi La E H f
structure Dg where
  n : Str
  ps : List Str
  b : Bd
def IsDg (H : Hp) (d : Dg) (p : Addr) : Prop := ∃ pq pb, H p = some (.tup [.str d.n, .ref pq, .ref pb]) /\ H pq = some (.tup (d.ps.map V.str)) /\ IsBd H d.b pb
theorem IsDg.keep {H H' : Hp} (t : Tups H H') {d : Dg} {p : Addr} (h : IsDg H d p) : IsDg H' d p := let ⟨pq, pb, h1, h2, h3⟩ := h; ⟨pq, pb, t _ _ h1, t _ _ h2, h3.keep t⟩
def dueD (ks : List (List (Str × Int))) (kp : List (Str × Int)) (d : Dg) : Option Fo := match dup [] d.ps with
  | some n => some (.n (1, n))
  | none => bdF ks kp d.b d.ps
def spThrough (cK Tw Un Mi La : Addr) : Sp := fun vs H Q E => ∃ (k p : Addr) (ks : List (List (Str × Int))) (kp : List (Str × Int)) (d : Dg), vs = [.ref k, .ref p] /\ IsKs cK H k ks kp /\ FewK ks /\ IsDg H d p /\ d.b.ok /\ d.ps.length + d.b.sz <= 1000 /\
  (dueD ks kp d = none -> ∀ H', Same H H' -> Q .non H') /\ ∀ f, dueD ks kp d = some f -> ErrO Tw Un Mi La E H f
theorem stF_cons {ks : List (List (Str × Int))} {kp : List (Str × Int)} {b : Bd} {s : List Str} {l : List (Bd × List Str)} : stF ks kp ((b, s) :: l) = (hdF ks kp b s).or (stF ks kp (subs b s ++ l)) := by
  have e : stF ks kp ((b, s) :: l) = (bdF ks kp b s).or (stF ks kp l) := by
    unfold stF
    rw [List.findSome?_cons]
    cases bdF ks kp b s <;> rfl
  rw [e, bdF_eq]
  unfold stF
  rw [List.findSome?_append, Option.or_assoc]
theorem tot_app (a b : List (Bd × List Str)) : tot (a ++ b) = tot a + tot b := by
  unfold tot
  rw [List.map_append, List.sum_append]
theorem bd_pos : ∀ b : Bd, 0 < b.sz
  | .give _ => by rw [Bd.sz]; decide
  | .lt _ _ _ => by rw [Bd.sz]; omega
  | .iff _ _ _ => by rw [Bd.sz]; omega
  | .cs _ _ => by rw [Bd.sz]; omega
theorem tot_len : ∀ l : List (Bd × List Str), l.length <= tot l
  | [] => Nat.zero_le _
  | (b, s) :: l => by
    have := tot_len l
    have := bd_pos b
    unfold tot at *
    rw [List.length_cons, List.map_cons, List.sum_cons]
    dsimp only
    omega
section
variable {P : Program} {w : World} {K : PySem.W.Frag} {mg : Str -> Option Value} {base : Heap} {f R C Tw Un Mi La cK : Addr} {fd : FuncData}
theorem scLooked : FnScope ["known", "body", "above"] ["known", "body", "above"] (defScope sLooked) := ⟨rfl, rfl, rfl, by decide +kernel, rfl, by decide +kernel, by decide +kernel⟩
theorem ok_looked (F : Fun K "looked_at" "looked_at" sLooked f fd) (GI : Ca P w K mg base (CXf P w) 3 "insist_known" ["names", "known_ones"] (spKnowG K Un)) (GD : Ca P w K mg base (CXf P w) 5 "look_at_deed" ["known", "deed", "above"] (spDeed cK Un Mi)) (GB : Ca P w K mg base (CXf P w) 3 "with_bound" ["names", "above"] (spBound K Tw)) (GA : Ca P w K mg base (CXf P w) 5 "looked_at_arms" ["known", "body", "above"] (spArms cK Tw Un Mi La)) : FnOk P w K mg base (CXf P w) 6 f fd ["known", "body", "above"] (spLooked cK Tw Un Mi La) := by
  refine F.byx scLooked (fun vs H Q E h => ?_) (fun cdv A outer s H vs Q E hr h => ?_)
  · obtain ⟨k, p, a, ks, kp, b, seen, rfl, _⟩ := h
    rfl
  obtain ⟨k, p, a, ks, kp, b, seen, rfl, hk, hF, hB, hok, hA, hs, q1, q2⟩ := h
  have r3 : Room 3 _ := hr.mono (by decide)
  have r5 : Room 5 _ := hr.mono (by decide)
  refine ⟨_,
    (jss_cons (js_if (jt_cmpR jo_eq (je_ix jx_tup (jv 1) je_int (fun _ _ => rfl)) je_str (nomark _))
      (jss_cons (js_expr (je_ca GD r5 rfl passx (ja_c (jv 0) (ja_c (je_ix jx_tup (jv 1) je_int (fun _ _ => rfl)) (ja_c (jv 2) ja_nil)))))
      (jss_one (js_ret (je_lst (ja_c (je_tup (ja_c (je_ix jx_tup (jv 1) je_int (fun _ _ => rfl)) (ja_c (je_ca GB r3 rfl passx (ja_c (je_lst (ja_c (je_ix jx_tup (jv 1) je_int (fun _ _ => rfl)) ja_nil)) (ja_c (jv 2) ja_nil))) ja_nil))) ja_nil))))) jss_nil)
    (jss_cons (js_expr (je_ca GI r3 rfl passx (ja_c (je_lst (ja_c (je_ix jx_tup (jv 1) je_int (fun _ _ => rfl)) ja_nil)) (ja_c (jv 2) ja_nil))))
    (jss_cons (js_if (jt_cmpR jo_eq (je_ix jx_tup (jv 1) je_int (fun _ _ => rfl)) je_str (nomark _))
      (jss_one (js_ret (je_lst (ja_c (je_tup (ja_c (je_ix jx_tup (jv 1) je_int (fun _ _ => rfl)) (ja_c (jv 2) ja_nil))) (ja_c (je_tup (ja_c (je_ix jx_tup (jv 1) je_int (fun _ _ => rfl)) (ja_c (jv 2) ja_nil))) ja_nil))))) jss_nil)
    (jss_cons (js_if (jt_cmpR jo_eq (je_ix jx_tup (jv 1) je_int (fun _ _ => rfl)) je_str (nomark _))
      (jss_one (js_ret (je_ca GA r5 rfl passx (ja_c (jv 0) (ja_c (jv 1) (ja_c (jv 2) ja_nil)))))) jss_nil)
    (jss_one (js_ret (je_lst ja_nil))))))), ?_⟩
  have sl := line0
  cases b with
  | give x =>
    have hB : H p = some (.tup [.str "give", .str x]) := hB
    refine ⟨_, rfl, p, _, _, _, rfl, rfl, SqT.of hB, rfl, rfl, _, rfl, iteF' (by decide +kernel) ?_⟩
    refine ⟨_, rfl, p, _, _, _, rfl, rfl, SqT.of hB, atI_nat (j := 1) rfl, by show 1 <= sizeLine; decide, fun l hl => ?_⟩
    have s1 := same_new hl (.lst [.str x])
    have hB1 := s1 _ _ hB
    refine ⟨_, rfl, l, a, [x], marks seen, rfl, .inl (SqL.of upd_same), s1 _ _ hA, know_unk (fun hu => ?_) (fun n hu => Err.at (q2 (.n (2, n)) (by show (unkF seen [x]).map Fo.n = _; rw [hu]; rfl)) s1)⟩
    refine ⟨_, rfl, p, _, _, _, rfl, rfl, SqT.of hB1, rfl, rfl, _, rfl, iteF' (by decide +kernel) ?_⟩
    refine ⟨_, rfl, p, _, _, _, rfl, rfl, SqT.of hB1, rfl, rfl, _, rfl, iteF' (by decide +kernel) ?_⟩
    exact ⟨by show 0 <= sizeLine; decide, fun r hr => q1 (by show (unkF seen [x]).map Fo.n = _; rw [hu]; rfl) _ r [] (s1.new hr) (s1.free hr) upd_same rfl⟩
  | lt x d b =>
    obtain ⟨q, r, hB, hD, hb⟩ : ∃ q r, H p = some (.tup [.str "let", .str x, .ref q, .ref r]) /\ IsDe H d q /\ IsBd H b r := hB
    rw [Bd.sz] at hs
    have hfew : ∀ g ns, d = .ask g ns -> ns.length <= 1000 := fun g ns e => by
      rw [e] at hs
      have : (De.ask g ns).ar = ns.length := rfl
      omega
    have hb' := bd_pos b
    refine ⟨_, rfl, p, _, _, _, rfl, rfl, SqT.of hB, rfl, rfl, _, rfl, iteT' (by decide +kernel) ?_⟩
    refine ⟨_, rfl, _, rfl, p, _, _, _, rfl, rfl, SqT.of hB, atI_nat (j := 2) rfl, _, rfl, k, q, a, ks.flatten, kp, seen, d, rfl, hk.kn, hD, hA, hfew, fun hd H1 s1 => ?_, fun f hf => ?_⟩
    · have hB1 := s1 _ _ hB
      refine ⟨_, rfl, p, _, _, _, rfl, rfl, SqT.of hB1, atI_nat (j := 3) rfl, _, rfl, p, _, _, _, rfl, rfl, SqT.of hB1, atI_nat (j := 1) rfl, by show 1 <= sizeLine; decide, fun l hl => ?_⟩
      have s2 := s1.new (o := .lst [.str x]) hl
      have hh : hdF ks kp (.lt x d b) seen = if x ∈ seen then some (.n (1, x)) else none := by
        show (match deF ks.flatten kp seen d with | some f => some (Fo.n f) | none => if x ∈ seen then some (Fo.n (1, x)) else none) = _
        rw [hd]
      refine ⟨_, rfl, l, a, [x], seen, rfl, .inl (SqL.of upd_same), s2 _ _ hA, by show 1 <= 1000; decide, by omega, fun hu H3 e s3 fe he => ?_, fun n hu => ?_⟩
      · have hx : x ∉ seen := fun z => by
          have : dup seen [x] = some x := by unfold dup; rw [if_pos z]
          rw [this] at hu
          cases hu
        have s4 := s2.trans s3
        refine ⟨by show 2 <= sizeLine; decide, fun t ht => ⟨by show 1 <= sizeLine; decide, fun r' hr' => ?_⟩⟩
        have s5 := (s4.new (o := .tup [.ref r, .ref e]) ht).new (o := .lst [.ref t]) hr'
        exact q1 (by rw [hh, if_neg hx]) _ r' [t] s5 ((s4.new (o := .tup [.ref r, .ref e]) ht).free hr') upd_same ⟨t, r, e, [], rfl, old hr' upd_same, hb.keep (.of s5), old hr' (old ht he), rfl⟩
      · have hx : x ∈ seen /\ n = x := by
          unfold dup at hu
          split at hu
          · rename_i z
            cases hu
            exact ⟨z, rfl⟩
          · cases hu
        exact Err.at (q2 (.n (1, n)) (by rw [hh, if_pos hx.1, hx.2])) s2
    · have : hdF ks kp (.lt x d b) seen = some (.n f) := by
        show (match deF ks.flatten kp seen d with | some f => some (Fo.n f) | none => if x ∈ seen then some (Fo.n (1, x)) else none) = _
        rw [hf]
      have h2 : Err (clsF Tw Un Mi f.1) E H f.2 := q2 (.n f) this
      rw [clsF_two (Tw := Tw) (deF_k hf)]
      exact h2
  | iff x b c =>
    obtain ⟨q, r, hB, hb, hc⟩ : ∃ q r, H p = some (.tup [.str "if", .str x, .ref q, .ref r]) /\ IsBd H b q /\ IsBd H c r := hB
    refine ⟨_, rfl, p, _, _, _, rfl, rfl, SqT.of hB, rfl, rfl, _, rfl, iteF' (by decide +kernel) ?_⟩
    refine ⟨_, rfl, p, _, _, _, rfl, rfl, SqT.of hB, atI_nat (j := 1) rfl, by show 1 <= sizeLine; decide, fun l hl => ?_⟩
    have s1 := same_new hl (.lst [.str x])
    have hB1 := s1 _ _ hB
    refine ⟨_, rfl, l, a, [x], marks seen, rfl, .inl (SqL.of upd_same), s1 _ _ hA, know_unk (fun hu => ?_) (fun n hu => Err.at (q2 (.n (2, n)) (by show (unkF seen [x]).map Fo.n = _; rw [hu]; rfl)) s1)⟩
    refine ⟨_, rfl, p, _, _, _, rfl, rfl, SqT.of hB1, rfl, rfl, _, rfl, iteT' (by decide +kernel) ?_⟩
    refine ⟨_, rfl, p, _, _, _, rfl, rfl, SqT.of hB1, atI_nat (j := 2) rfl, _, rfl, by show 2 <= sizeLine; decide, fun t1 ht1 => ?_⟩
    have s2 := s1.new (o := .tup [.ref q, .ref a]) ht1
    refine ⟨_, rfl, p, _, _, _, rfl, rfl, SqT.of (s2 _ _ hB), atI_nat (j := 3) rfl, _, rfl, by show 2 <= sizeLine; decide, fun t2 ht2 => ⟨by show 2 <= sizeLine; decide, fun r' hr' => ?_⟩⟩
    have s3 := s2.new (o := .tup [.ref r, .ref a]) ht2
    have s4 := s3.new (o := .lst [.ref t1, .ref t2]) hr'
    exact q1 (by show (unkF seen [x]).map Fo.n = _; rw [hu]; rfl) _ r' [t1, t2] s4 (s3.free hr') upd_same ⟨t1, q, a, [t2], rfl, old hr' (old ht2 upd_same), hb.keep (.of s4), s4 _ _ hA, t2, r, a, [], rfl, old hr' upd_same, hc.keep (.of s4), s4 _ _ hA, rfl⟩
  | cs x as =>
    obtain ⟨q, ts, hB, hq, hAs⟩ : ∃ (q : Addr) (ts : List Addr), H p = some (.tup [.str "case", .str x, .ref q]) /\ H q = some (.tup (ts.map V.ref)) /\ IsArms H as ts := hB
    rw [Bd.sz] at hs
    rw [Bd.ok] at hok
    refine ⟨_, rfl, p, _, _, _, rfl, rfl, SqT.of hB, rfl, rfl, _, rfl, iteF' (by decide +kernel) ?_⟩
    refine ⟨_, rfl, p, _, _, _, rfl, rfl, SqT.of hB, atI_nat (j := 1) rfl, by show 1 <= sizeLine; decide, fun l hl => ?_⟩
    have s1 := same_new hl (.lst [.str x])
    have hB1 := s1 _ _ hB
    have hh : unkF seen [x] = none -> hdF ks kp (.cs x as) seen = csF ks x as.hs seen := fun hu => by
      show (match unkF seen [x] with | some f => some (Fo.n f) | none => csF ks x as.hs seen) = _
      rw [hu]
    refine ⟨_, rfl, l, a, [x], marks seen, rfl, .inl (SqL.of upd_same), s1 _ _ hA, know_unk (fun hu => ?_) (fun n hu => Err.at (q2 (.n (2, n)) (by show (match unkF seen [x] with | some f => some (Fo.n f) | none => csF ks x as.hs seen) = _; rw [hu])) s1)⟩
    refine ⟨_, rfl, p, _, _, _, rfl, rfl, SqT.of hB1, rfl, rfl, _, rfl, iteF' (by decide +kernel) ?_⟩
    refine ⟨_, rfl, p, _, _, _, rfl, rfl, SqT.of hB1, rfl, rfl, _, rfl, iteT' (by decide +kernel) ?_⟩
    exact ⟨_, rfl, _, rfl, _, rfl, k, p, a, q, ks, kp, x, as, ts, seen, rfl, hk.same s1, hF, hB1, s1 _ _ hq, hAs.keep (.of s1), hok.1, s1 _ _ hA, by omega, fun hc H' l' us s' fl' hl' hP => q1 (by rw [hh hu]; exact hc) _ l' us (s1.trans s') (s1.free fl') hl' hP, fun f hf => ErrO.at (q2 f (by rw [hh hu]; exact hf)) s1⟩
theorem scThrough : FnScope ["known", "one", "left", "pair", "within"] ["known", "one"] (defScope sThrough) := ⟨rfl, rfl, rfl, by decide +kernel, rfl, by decide +kernel, by decide +kernel⟩
theorem ok_through (F : Fun K "look_through" "look_through" sThrough f fd) (GB : Ca P w K mg base (CXf P w) 3 "with_bound" ["names", "above"] (spBound K Tw)) (GL : Ca P w K mg base (CXf P w) 6 "looked_at" ["known", "body", "above"] (spLooked cK Tw Un Mi La)) (m_len : mg "len" = none) (m_reversed : mg "reversed" = none) : FnOk P w K mg base (CXf P w) 7 f fd ["known", "one"] (spThrough cK Tw Un Mi La) := by
  refine F.byx scThrough (fun vs H Q E h => ?_) (fun cdv A outer s H vs Q E hr h => ?_)
  · obtain ⟨k, p, ks, kp, d, rfl, _⟩ := h
    rfl
  obtain ⟨k, p, ks, kp, d, rfl, hk, hF, ⟨pq, pb, hp, hq, hb⟩, hok, hn, q1, q2⟩ := h
  have r3 : Room 3 _ := hr.mono (by decide)
  refine ⟨_,
    (jss_cons (js_set (i := 2) scThrough.nd rfl (Or.inl rfl) (je_lst (ja_c (je_tup (ja_c (je_ix jx_tup (jv 1) je_int (fun _ _ => rfl)) (ja_c (je_ca GB r3 rfl passx (ja_c (je_ix jx_tup (jv 1) je_int (fun _ _ => rfl)) (ja_c je_dnewK ja_nil))) ja_nil))) ja_nil)))
    (jss_one (js_while ownx (jt_cmpR jo_gt (je_fnB jc_len_seq rfl m_len PySem.boot_len (ja_c (jv 2) ja_nil)) je_int (nomark _))
      (jss_cons (js_set (i := 3) scThrough.nd rfl (Or.inl rfl) (je_bm0 PySem.F.plainAttrs_list PySem.F.slot_list_pop PySem.F.type_list_pop jm_pop (jv 2)))
      (jss_one (js_for ownx rfl (ji_rev rfl m_reversed (ja_c (je_ca GL hr rfl passx (ja_c (jv 0) (ja_c (je_ix jx_tup (jv 3) je_int (fun _ _ => rfl)) (ja_c (je_ix jx_tup (jv 3) je_int (fun _ _ => rfl)) ja_nil)))) ja_nil)) (jg_name (i := 4) scThrough.nd rfl (Or.inl rfl))
        (jss_one (js_expr (je_bm PySem.F.plainAttrs_list PySem.F.slot_list_append PySem.F.type_list_append jm_append (jv 2) (ja_c (jv 4) ja_nil)))))))))), ?_⟩
  have sl := line0
  refine ⟨_, rfl, p, _, _, _, rfl, rfl, SqT.of hp, atI_nat (j := 2) rfl, _, rfl, p, _, _, _, rfl, rfl, SqT.of hp, atI_nat (j := 1) rfl, fun a0 ha0 => ?_⟩
  have s1 := same_new ha0 (.dK [])
  refine ⟨pq, a0, d.ps, [], rfl, .inr (s1 _ _ hq), upd_same, by omega, by simp, fun hd H2 e1 s2 hf he => ?_, fun n hd => ?_⟩
  · refine ⟨by show 2 <= sizeLine; decide, fun t1 h1 => ⟨by show 1 <= sizeLine; decide, fun lf h2 => ?_⟩⟩
    have s3 := (s1.trans s2).new (o := .tup [.ref pb, .ref e1]) h1
    have flf : H lf = none := s3.free h2
    have s4 := s3.new (o := .lst [.ref t1]) h2
    have hl4 := upd_same (H := upd H2 t1 (.tup [.ref pb, .ref e1])) (a := lf) (o := .lst [.ref t1])
    have ht4 : upd (upd H2 t1 (.tup [.ref pb, .ref e1])) lf (.lst [.ref t1]) t1 = some (.tup [.ref pb, .ref e1]) := old h2 upd_same
    have he4 : upd (upd H2 t1 (.tup [.ref pb, .ref e1])) lf (.lst [.ref t1]) e1 = some (.dK (marks d.ps)) := old h2 (old h1 he)
    generalize upd (upd H2 t1 (.tup [.ref pb, .ref e1])) lf (.lst [.ref t1]) = H4 at *
    have dd : dueD ks kp d = bdF ks kp d.b d.ps := by unfold dueD; rw [hd]
    refine ⟨fun m σ H' => Same H H' /\ (∃ x y, σ = [some (.ref k), some (.ref p), some (.ref lf), x, y]) /\ ∃ l us, m = tot l /\ H' lf = some (.lst (us.reverse.map V.ref)) /\ Pend H' l us /\ (∀ p ∈ l, p.1.ok /\ p.2.length + p.1.sz <= 1000) /\ stF ks kp l = dueD ks kp d /\ tot l <= 1000,
      ⟨_, s4, ⟨none, none, rfl⟩, [(d.b, d.ps)], [t1], rfl, hl4, ⟨t1, pb, e1, [], rfl, ht4, hb.keep (.of s4), he4, rfl⟩, (fun p hp => by rw [List.mem_singleton.mp hp]; exact ⟨hok, hn⟩), ?_, ?_⟩, ?_⟩
    · rw [dd, stF_cons, bdF_eq, List.append_nil]
    · show d.b.sz + 0 <= 1000
      omega
    rintro m σ H3 ⟨s5, ⟨x, y, rfl⟩, l, us, rfl, hl, hP, hall, hst, htot⟩
    match l, us, hP with
    | [], us, hP =>
      have e0 : us = [] := hP
      subst e0
      exact ⟨_, rfl, _, _, rfl, .inl (SqL.of hl), _, _, rfl, rfl, _, rfl, iteF' rfl (q1 hst.symm _ s5)⟩
    | (b, seen) :: l, _, hP =>
      obtain ⟨t, r, e, us, rfl, ht, hB, he', hP⟩ := hP
      have er : (t :: us).reverse.map V.ref = us.reverse.map V.ref ++ [.ref t] := by rw [List.reverse_cons, List.map_append]; rfl
      rw [er] at hl
      have lus := hP.len
      have ltot := tot_len l
      have tb : tot ((b, seen) :: l) = b.sz + tot l := by unfold tot; rw [List.map_cons, List.sum_cons]
      refine ⟨_, rfl, _, _, rfl, .inl (SqL.of hl), _, _, rfl, rfl, _, rfl, iteT' (decide_eq_true (by rw [List.length_append]; show (0 : Int) < (((us.reverse.map V.ref).length + 1 : Nat) : Int); omega)) ⟨_, fun _ _ h => h, ?_⟩⟩
      refine ⟨_, rfl, .inl ⟨rfl, _, SqL.of hl⟩, lf, _, .ref t, rfl, rfl, hl, by simp, ?_⟩
      rw [List.dropLast_concat]
      have s6 := s5.put (o := .lst (us.reverse.map V.ref)) flf
      have u6 := Ups.put (o := .lst (us.reverse.map V.ref)) hl
      have hl6 := upd_same (H := H3) (a := lf) (o := .lst (us.reverse.map V.ref))
      have ht6 := u6.1 _ _ ht
      have hB6 := hB.keep u6.1
      have he6 := u6.2 _ _ he'
      have hP6 := hP.keep u6
      generalize upd H3 lf (.lst (us.reverse.map V.ref)) = H6 at *
      have hbo := hall (b, seen) List.mem_cons_self
      refine ⟨_, rfl, _, rfl, t, _, _, _, rfl, rfl, SqT.of ht6, rfl, _, rfl, t, _, _, _, rfl, rfl, SqT.of ht6, atI_nat (j := 1) rfl, k, r, e, ks, kp, b, seen, rfl, hk.same s6, hF, hB6, hbo.1, he6, hbo.2, fun hh H7 lr ts s7 hfl hl7 hsub => ?_, fun f hf => ?_⟩
      · have s67 := s6.trans s7
        have nll : lr ≠ lf := fun z => by rw [z, hl6] at hfl; cases hfl
        have lts := hsub.len
        have ltt := tot_len (subs b seen)
        have stt := subs_tot b seen
        refine ⟨_, _, rfl, SqL.of hl7, for_rev (xs := ts.map V.ref) (fun i σ H' => Same H H' /\ Ups H7 H' /\ H' lr = some (.lst (ts.map V.ref)) /\ H' lf = some (.lst ((us.reverse ++ ts.reverse.take i).map V.ref)) /\ ∃ x y, σ = [some (.ref k), some (.ref p), some (.ref lf), x, y]) ⟨s67, .of (Same.refl _), hl7, by rw [List.take_zero, List.append_nil]; exact s7 _ _ hl6, _, _, rfl⟩ (fun i σ H' _ h => SqL.of h.2.2.1) ?_ ?_⟩
        · rintro i v σ H8 hv ⟨s8, u8, hl8, hf8, x', y', rfl⟩
          rw [<- List.map_reverse, List.getElem?_map] at hv
          obtain ⟨tt, htt, rfl⟩ := Option.map_eq_some_iff.mp hv
          have hi : i < ts.length := by
            have := (List.getElem?_eq_some_iff.mp htt).1
            rwa [List.length_reverse] at this
          refine ⟨_, rfl, .inl ⟨rfl, _, SqL.of hf8⟩, _, rfl, lf, _, _, rfl, rfl, hf8, ?_, s8.put flf, u8.trans (Ups.put hf8), ?_, ?_, _, _, rfl⟩
          · rw [List.length_map, List.length_append, List.length_reverse, List.length_take, List.length_reverse]
            omega
          · rw [upd_ne nll]
            exact hl8
          · rw [upd_same, <- take_snoc htt, <- List.append_assoc, List.map_append (l₁ := us.reverse ++ _)]
            rfl
        · rintro σ H8 ⟨s8, u8, hl8, hf8, x', y', rfl⟩
          refine ⟨_, ?_, s8, ⟨_, _, rfl⟩, subs b seen ++ l, ts ++ us, rfl, ?_, (hsub.keep u8).app ((hP6.keep (.of s7)).keep u8), ?_, ?_, ?_⟩
          · rw [tot_app, tb]
            omega
          · rw [hf8, List.length_map, List.take_of_length_le (by rw [List.length_reverse]; exact Nat.le_refl _), List.reverse_append]
          · intro p' hp'
            rcases List.mem_append.mp hp' with h | h
            · exact subs_each hbo.1 hbo.2 p' h
            · exact hall p' (List.mem_cons_of_mem _ h)
          · rw [<- hst, stF_cons, hh]
            rfl
          · rw [tot_app]
            omega
      · exact ErrO.at (q2 f (by rw [<- hst, stF_cons, hf]; rfl)) s6
  · exact Err.at (q2 (.n (1, n)) (by unfold dueD; rw [hd])) s1
end
end KD
namespace KD
open PySem L2 K11
def Dfs (H : Hp) (ds : List Dg) (qs : List Addr) : Prop := ds.length = qs.length /\ ∀ (i : Nat) d q, ds[i]? = some d -> qs[i]? = some q -> IsDg H d q
theorem Dfs.keep {H H' : Hp} (t : Tups H H') {ds : List Dg} {qs : List Addr} (h : Dfs H ds qs) : Dfs H' ds qs := ⟨h.1, fun i d q h1 h2 => (h.2 i d q h1 h2).keep t⟩
theorem Dfs.get {H : Hp} {ds : List Dg} {qs : List Addr} (h : Dfs H ds qs) {i : Nat} {q : Addr} (e : qs[i]? = some q) : ∃ d, ds[i]? = some d /\ IsDg H d q := by
  have hi : i < qs.length := (List.getElem?_eq_some_iff.mp e).1
  exact ⟨ds[i]'(by rw [h.1]; exact hi), by simp, h.2 i _ q (by simp) e⟩
def IsP (H : Hp) (ks : List (List (Str × Int))) (ds : List Dg) (p : Addr) : Prop := ∃ pk pd qs rs, H p = some (.tup [.ref pk, .ref pd]) /\ H pk = some (.tup (qs.map V.ref)) /\ KdsT H ks qs /\ H pd = some (.tup (rs.map V.ref)) /\ Dfs H ds rs
theorem IsP.keep {H H' : Hp} (t : Tups H H') {ks : List (List (Str × Int))} {ds : List Dg} {p : Addr} (h : IsP H ks ds p) : IsP H' ks ds p := by
  obtain ⟨pk, pd, qs, rs, h1, h2, h3, h4, h5⟩ := h
  exact ⟨pk, pd, qs, rs, t _ _ h1, t _ _ h2, h3.keep t, t _ _ h4, h5.keep t⟩
theorem dup_none : ∀ {ns seen : List Str}, dup seen ns = none -> (∀ n ∈ ns, n ∉ seen) /\ ns.Nodup
  | [], _, _ => ⟨fun _ h => (nomatch h), List.nodup_nil⟩
  | a :: l, seen, h => by
    unfold dup at h
    split at h
    · cases h
    · rename_i c
      obtain ⟨h1, h2⟩ := dup_none h
      refine ⟨fun n hn => ?_, List.nodup_cons.mpr ⟨fun z => h1 a z (by simp), h2⟩⟩
      rcases List.mem_cons.mp hn with e | hn
      · rw [e]; exact c
      · exact fun z => h1 n hn (List.mem_append_left _ z)
def kpOf (ds : List Dg) : List (Str × Int) := ds.map fun d => (d.n, ((d.ps.length : Nat) : Int))
def due (ks : List (List (Str × Int))) (ds : List Dg) : Option Fo := match dup [] (tagsOf ks) with
  | some n => some (.n (1, n))
  | none => match dup [] (ds.map (·.n)) with
    | some n => some (.n (1, n))
    | none => ds.findSome? (dueD ks (kpOf ds))
structure Few24 (ks : List (List (Str × Int))) (ds : List Dg) : Prop where
  n : ks.length <= 1000
  k : ks.flatten.length <= 1000
  d : ds.length <= 1000
  p : ∀ d ∈ ds, d.ps.length + d.b.sz <= 1000
  f : ∀ d ∈ ds, d.b.ok
theorem Few24.kk {ks : List (List (Str × Int))} {ds : List Dg} (h : Few24 ks ds) : FewK ks := ⟨h.n, fun r hr => by
  obtain ⟨i, hi⟩ := List.getElem?_of_mem hr
  have := fl_len hi
  have := h.k
  omega⟩
def spSound (Tw Un Mi La : Addr) : Sp := fun vs H Q E => ∃ (p : Addr) (ks : List (List (Str × Int))) (ds : List Dg), vs = [.ref p] /\ IsP H ks ds p /\ Few24 ks ds /\
  (due ks ds = none -> ∀ H', Same H H' -> Q (.bl true) H') /\ ∀ f, due ks ds = some f -> ErrO Tw Un Mi La E H f
def cnts (ds : List Dg) : List (Key × V) := ds.map fun d => (.inr d.n, .int (d.ps.length : Nat))
theorem cnts_ents (ds : List Dg) : cnts ds = ents (kpOf ds) := by unfold cnts ents kpOf; rw [List.map_map]; rfl
theorem cnts_none : ∀ {l : List Dg} {t : Str}, t ∉ l.map (·.n) -> valV (cnts l) (.inr t) = none
  | [], _, _ => rfl
  | a :: l, t, h => by
    rw [List.map_cons, List.mem_cons, not_or] at h
    show valV ((Sum.inr a.n, V.int (a.ps.length : Nat)) :: cnts l) (.inr t) = none
    rw [valV_neg (fun e => h.1 (Sum.inr.inj e).symm)]
    exact cnts_none h.2
def spKInit (cK : Addr) : Sp := fun vs H Q _ => ∃ (b dx p : Addr) (ks : List (List (Str × Int))) (ds : List Dg), vs = [.ref b, .ref p] /\ H b = some (.ins cK dx []) /\ IsP H ks ds p /\ Few ks /\ ds.length <= 1000 /\ (ds.map (·.n)).Nodup /\ ∀ H', (∀ a o, a ≠ b -> H a = some o -> H' a = some o) -> IsKs cK H' b ks (kpOf ds) -> Q .non H'
theorem tags_take {ks : List (List (Str × Int))} {i : Nat} {k : List (Str × Int)} (h : ks[i]? = some k) : tagsOf (ks.take (i + 1)) = tagsOf (ks.take i) ++ k.map (·.1) := by
  unfold tagsOf
  rw [fl_take h, List.map_append]
theorem some_take {ds : List Dg} {i : Nat} {d : Dg} {kt : List (List (Str × Int))} {kp : List (Str × Int)} (h : ds[i]? = some d) (hn : (ds.take i).findSome? (dueD kt kp) = none) {x : Fo} (hx : dueD kt kp d = some x) : ds.findSome? (dueD kt kp) = some x := by
  have e : ds = ds.take i ++ d :: ds.drop (i + 1) := by
    conv => lhs; rw [<- List.take_append_drop (i + 1) ds, <- take_snoc h, List.append_assoc]
    rfl
  rw [e, List.findSome?_append, hn, Option.none_or, List.findSome?_cons, hx]
theorem some_more {ds : List Dg} {i : Nat} {d : Dg} {kt : List (List (Str × Int))} {kp : List (Str × Int)} (h : ds[i]? = some d) (hn : (ds.take i).findSome? (dueD kt kp) = none) (hx : dueD kt kp d = none) : (ds.take (i + 1)).findSome? (dueD kt kp) = none := by
  rw [<- take_snoc h, List.findSome?_append, hn, Option.none_or, List.findSome?_cons, hx]
  rfl
section
variable {P : Program} {w : World} {K : PySem.W.Frag} {mg : Str -> Option Value} {base : Heap} {f R C Tw Un Mi La cK : Addr} {fd : FuncData}
theorem scKInit : FnScope ["self", "program", "one"] ["self", "program"] (defScope iKnown) := ⟨rfl, rfl, rfl, by decide +kernel, rfl, by decide +kernel, by decide +kernel⟩
theorem ok_kinit (F : Fun K "__init__" "Known.__init__" iKnown f fd) (T : Kn K cK) (GS : Ca P w K mg base CX0 1 "sizes" ["kinds"] spSizes) (m_len : mg "len" = none) : FnOk P w K mg base CX0 2 f fd ["self", "program"] (spKInit cK) := by
  refine F.by scKInit (fun vs H Q E h => ?_) (fun cdv A outer s H vs Q E hr h => ?_)
  · obtain ⟨b, dx, p, ks, ds, rfl, _⟩ := h
    rfl
  obtain ⟨b, dx, p, ks, ds, rfl, hb, ⟨pk, pd, qs, rs, hp, hpk, hK, hpd, hD⟩, hF, hn, hnd, q⟩ := h
  refine ⟨_,
    (jss_cons (js_fld (jv 0) (je_ix jx_tup (jv 1) je_int (fun _ _ => rfl)))
    (jss_cons (js_fld (jv 0) (je_ca GS hr rfl pass0 (ja_c (je_ix jx_tup (jv 1) je_int (fun _ _ => rfl)) ja_nil)))
    (jss_cons (js_fld (jv 0) je_dnewK)
    (jss_one (js_for PassesOwn.never rfl (ji_tup (je_ix jx_tup (jv 1) je_int (fun _ _ => rfl))) (jg_name (i := 2) scKInit.nd rfl (Or.inl rfl))
      (jss_one (js_dput hr (je_fld (jv 0)) (je_ix jx_tup (jv 2) je_int (fun _ _ => rfl)) (je_fnB jc_len_seq rfl m_len PySem.boot_len (ja_c (je_ix jx_tup (jv 2) je_int (fun _ _ => rfl)) ja_nil))))))))), ?_⟩
  have sl := line0
  -- tuples stay though b is written
  have tu : ∀ (H1 : Hp) (o : HO) (C : Addr) (dx : Addr) (fs : List (Str × V)), H1 b = some (.ins C dx fs) -> Tups H1 (upd H1 b o) := fun H1 o C dx fs h a xs z => by
    rw [upd_ne (fun e => by rw [e, h] at z; cases z)]
    exact z
  have kb : ∀ (H1 : Hp) (o : HO) (a : Addr) (u : HO), a ≠ b -> H1 a = some u -> upd H1 b o a = some u := fun H1 o a u n z => by rw [upd_ne n]; exact z
  refine ⟨_, rfl, p, _, _, _, rfl, rfl, SqT.of hp, rfl, _, rfl, b, cK, dx, _, rfl, hb, T.cl, T.a1, by show 0 < 1000; decide, ?_⟩
  have t1 := tu H (.ins cK dx (putF "kinds" (.ref pk) [])) _ _ _ hb
  have k1 : ∀ a u, a ≠ b -> H a = some u -> upd H b (.ins cK dx (putF "kinds" (.ref pk) [])) a = some u := kb H _
  have b1 := upd_same (H := H) (a := b) (o := .ins cK dx (putF "kinds" (.ref pk) []))
  generalize upd H b (.ins cK dx (putF "kinds" (.ref pk) [])) = H1 at *
  refine ⟨_, rfl, p, _, _, _, rfl, rfl, SqT.of (t1 _ _ hp), rfl, pk, qs, ks, rfl, t1 _ _ hpk, hK.keep t1, hF, fun H2 d1 s2 f2 e2 => ?_⟩
  have t2 : Tups H H2 := fun a xs z => s2 _ _ (t1 _ _ z)
  have k2 : ∀ a u, a ≠ b -> H a = some u -> H2 a = some u := fun a u n z => s2 _ _ (k1 a u n z)
  have b2 := s2 _ _ b1
  refine ⟨_, rfl, b, cK, dx, _, rfl, b2, T.cl, T.a2, by show 1 < 1000; decide, ?_⟩
  obtain ⟨fs2, efs2⟩ : ∃ fs, fs = putF "tag_sizes" (.ref d1) (putF "kinds" (.ref pk) []) := ⟨_, rfl⟩
  rw [<- efs2]
  have nd1b : d1 ≠ b := fun e => by rw [e, b1] at f2; cases f2
  have e3 : upd H2 b (.ins cK dx fs2) d1 = some (.dK (ents ks.flatten)) := by rw [upd_ne nd1b]; exact e2
  have t3 : Tups H (upd H2 b (.ins cK dx fs2)) := fun a xs z => tu H2 _ _ _ _ b2 _ _ (t2 _ _ z)
  have k3 : ∀ a u, a ≠ b -> H a = some u -> upd H2 b (.ins cK dx fs2) a = some u := fun a u n z => kb H2 _ a u n (k2 a u n z)
  have b3 := upd_same (H := H2) (a := b) (o := .ins cK dx fs2)
  generalize upd H2 b (.ins cK dx fs2) = H3 at *
  intro d2 hd2
  have n2 : d2 ≠ b := fun e => by rw [e, b3] at hd2; cases hd2
  have fd2 : H d2 = none := by
    cases e : H d2 with
    | none => rfl
    | some o => have := k3 d2 o n2 e; rw [hd2] at this; cases this
  refine ⟨_, rfl, b, cK, dx, _, rfl, by rw [upd_ne n2.symm]; exact b3, T.cl, T.a3, by rw [efs2]; show 2 < 1000; decide, ?_⟩
  have look : (putF "param_counts" (.ref d2) fs2).lookup ("param_counts" : Str) = some (V.ref d2) := by rw [efs2]; rfl
  have k4 : ∀ a u, a ≠ b -> H a = some u -> upd (upd H3 d2 (.dK [])) b (.ins cK dx (putF "param_counts" (.ref d2) fs2)) a = some u := fun a u n z => by
    rw [upd_ne n, upd_ne (ne_of_none z fd2)]
    exact k3 a u n z
  have nd12 : d1 ≠ d2 := fun e => by rw [<- e, e3] at hd2; cases hd2
  have e4 : upd (upd H3 d2 (.dK [])) b (.ins cK dx (putF "param_counts" (.ref d2) fs2)) d1 = some (.dK (ents ks.flatten)) := by rw [upd_ne nd1b, upd_ne nd12]; exact e3
  have b4 := upd_same (H := upd H3 d2 (.dK [])) (a := b) (o := .ins cK dx (putF "param_counts" (.ref d2) fs2))
  have d4 : upd (upd H3 d2 (.dK [])) b (.ins cK dx (putF "param_counts" (.ref d2) fs2)) d2 = some (.dK []) := by rw [upd_ne n2]; exact upd_same
  generalize upd (upd H3 d2 (.dK [])) b (.ins cK dx (putF "param_counts" (.ref d2) fs2)) = H4 at *
  have npb : ∀ {a : Addr} {xs : List V}, H a = some (.tup xs) -> a ≠ b := fun z e => by rw [e, hb] at z; cases z
  have tt : ∀ {H5 : Hp}, (∀ a u, a ≠ b -> H a = some u -> H5 a = some u) -> Tups H H5 := fun h a xs z => h a _ (npb z) z
  refine ⟨_, rfl, p, _, _, _, rfl, rfl, SqT.of (tt k4 _ _ hp), atI_nat (j := 1) rfl, _, rfl, ⟨_, SqT.of (tt k4 _ _ hpd)⟩, for_tup (xs := rs.map V.ref) (fun i σ H' => (∀ a u, a ≠ b -> H a = some u -> H' a = some u) /\ H' b = some (.ins cK dx (putF "param_counts" (.ref d2) fs2)) /\ H' d2 = some (.dK (cnts (ds.take i))) /\ H' d1 = some (.dK (ents ks.flatten)) /\ ∃ x, σ = [some (.ref b), some (.ref p), x]) ⟨k4, b4, d4, e4, none, rfl⟩ (fun i σ H' _ h => SqT.of (tt h.1 _ _ hpd)) ?_ ?_⟩
  · rintro i v σ H5 hv ⟨k5, b5, d5, e5', x, rfl⟩
    rw [List.getElem?_map] at hv
    obtain ⟨r, hr', rfl⟩ := Option.map_eq_some_iff.mp hv
    obtain ⟨dg, hdg, pq, pb, e1, e2, e3⟩ := hD.get hr'
    have hi : i < ds.length := (List.getElem?_eq_some_iff.mp hdg).1
    refine ⟨_, rfl, r, _, _, _, rfl, rfl, SqT.of (tt k5 _ _ e1), atI_nat (j := 1) rfl, pq, _, rfl, .inr (SqT.of (tt k5 _ _ e2)), _, rfl, b, cK, dx, _, _, rfl, b5, T.cl, T.a3, look, _, rfl, r, _, _, _, rfl, rfl, SqT.of (tt k5 _ _ e1), rfl, d2, _, rfl, DPut.k (k := .inr dg.n) d5 ?_, fun a u n z => ?_, ?_, ?_, ?_, _, rfl⟩
    · unfold cnts
      rw [List.length_map, List.length_take]
      omega
    · rw [upd_ne (ne_of_none z fd2)]
      exact k5 a u n z
    · rw [upd_ne n2.symm]
      exact b5
    · have nn : dg.n ∉ (ds.take i).map (·.n) := by
        have e : ds = ds.take i ++ dg :: ds.drop (i + 1) := by
          conv => lhs; rw [<- List.take_append_drop (i + 1) ds, <- take_snoc hdg, List.append_assoc]
          rfl
        rw [e, List.map_append, List.nodup_append] at hnd
        exact fun z => hnd.2.2 _ z dg.n (by simp) rfl
      rw [upd_same, putK_new _ (cnts_none nn), <- take_snoc hdg]
      unfold cnts
      rw [List.map_append, List.length_map]
      rfl
    · rw [upd_ne nd12]
      exact e5'
  · rintro σ H5 ⟨k5, b5, d5, e5', x, rfl⟩
    rw [List.length_map, <- hD.1, List.take_of_length_le (Nat.le_refl _), cnts_ents] at d5
    have tu5 : Tups H H5 := fun a xs z => k5 a _ (fun e => by rw [e, hb] at z; cases z) z
    refine q _ k5 ⟨dx, pk, d1, d2, qs, ?_, tu5 _ _ hpk, hK.keep tu5, e5', d5⟩
    rw [b5, efs2]
    rfl
theorem scSound : FnScope ["program", "tags", "kind", "known", "one"] ["program"] (defScope sSound) := ⟨rfl, rfl, rfl, by decide +kernel, rfl, by decide +kernel, by decide +kernel⟩
theorem ndSound : (["program", "tags", "kind", "known", "one", "pair"] : List Str).Nodup := by decide +kernel
theorem ok_sound (F : Fun K "sound" "sound" sSound f fd) (GB : Ca P w K mg base (CXf P w) 3 "with_bound" ["names", "above"] (spBound K Tw)) (GK : Ma P w K mg base CX0 2 "Known" cK ["self", "program"] (spKInit cK)) (GT : Ca P w K mg base (CXf P w) 7 "look_through" ["known", "one"] (spThrough cK Tw Un Mi La)) : FnOk P w K mg base (CXf P w) 8 f fd ["program"] (spSound Tw Un Mi La) := by
  refine F.byx scSound (fun vs H Q E h => ?_) (fun cdv A outer s H vs Q E hr h => ?_)
  · obtain ⟨p, ks, ds, rfl, _⟩ := h
    rfl
  obtain ⟨p, ks, ds, rfl, ⟨pk, pd, qs, rs, hp, hpk, hK, hpd, hD⟩, hF, q1, q2⟩ := h
  have r3 : Room 3 _ := hr.mono (by decide)
  refine ⟨_,
    (jss_cons (js_set (i := 1) scSound.nd rfl (Or.inl rfl) (je_lst ja_nil))
    (jss_cons (js_for ownx rfl (ji_tup (je_ix jx_tup (jv 0) je_int (fun _ _ => rfl))) (jg_name (i := 2) scSound.nd rfl (Or.inl rfl))
      (jss_one (js_expr (je_bm PySem.F.plainAttrs_list PySem.F.slot_list_extend PySem.F.type_list_extend jm_extend (jv 1) (ja_c (je_comp ["pair"] rfl (ji_tup (jv 2)) (fun _ _ _ _ _ => (jg_name (i := 5) ndSound rfl (Or.inl rfl))) (fun _ _ _ _ _ => jts_nil) (fun _ _ _ _ _ => (je_ix (jx_tupK K) (jv 5) je_int (fun _ _ => rfl)))) ja_nil)))))
    (jss_cons (js_expr (je_ca GB r3 rfl passx (ja_c (jv 1) (ja_c je_dnewK ja_nil))))
    (jss_cons (js_expr (je_ca GB r3 rfl passx (ja_c (je_compS [4] [] rfl (ji_tup (je_ix jx_tup (jv 0) je_int (fun _ _ => rfl))) (fun _ _ _ _ _ => (jg_name (i := 4) scSound.nd rfl (Or.inl rfl))) (fun _ _ _ _ _ => jts_nil) (fun _ _ _ _ _ => (je_ix (jx_tupK K) (jv 4) je_int (fun _ _ => rfl)))) (ja_c je_dnewK ja_nil))))
    (jss_cons (js_set (i := 3) scSound.nd rfl (Or.inl rfl) (je_ma GK r3 rfl pass0 (ja_c (jv 0) ja_nil)))
    (jss_cons (js_for ownx rfl (ji_tup (je_ix jx_tup (jv 0) je_int (fun _ _ => rfl))) (jg_name (i := 4) scSound.nd rfl (Or.inl rfl))
      (jss_one (js_expr (je_ca GT hr rfl passx (ja_c (jv 3) (ja_c (jv 4) ja_nil))))))
    (jss_one (js_ret je_bl)))))))), ?_⟩
  have sl := line0
  have hkl := hK.len
  have fn := hF.n
  have fk := hF.k
  have fdl := hF.d
  have hdl := hD.1
  have tgl : (tagsOf ks).length = ks.flatten.length := by unfold tagsOf; rw [List.length_map]
  refine ⟨by show 0 <= sizeLine; decide, fun lt h1 => ?_⟩
  have s1 := same_new h1 (.lst [])
  refine ⟨_, rfl, p, _, _, _, rfl, rfl, SqT.of (s1 _ _ hp), rfl, _, rfl, ⟨_, SqT.of (s1 _ _ hpk)⟩, for_tup (xs := qs.map V.ref) (fun i σ H' => Same H H' /\ H' lt = some (.lst ((tagsOf (ks.take i)).map V.str)) /\ ∃ x, σ = [some (.ref p), some (.ref lt), x, none, none]) ⟨s1, upd_same, none, rfl⟩ (fun i σ H' _ h => SqT.of (h.1 _ _ hpk)) ?_ ?_⟩
  · rintro i v σ H1 hv ⟨s2, e2, x, rfl⟩
    rw [List.getElem?_map] at hv
    obtain ⟨qq, hq, rfl⟩ := Option.map_eq_some_iff.mp hv
    obtain ⟨k, hk, ts, hts, hT⟩ := hK.get hq
    have hl := fl_len hk
    have htl := hT.len
    refine ⟨_, rfl, .inl ⟨rfl, _, SqL.of e2⟩, _, rfl, _, rfl, ⟨_, SqT.of (s2 _ _ hts)⟩, lc_tup (xs := ts.map V.ref) (fun j τ ys H' => H' = H1 /\ (∃ v, τ = [some (.ref p), some (.ref lt), some (.ref qq), none, none, v]) /\ ys = (k.take j).map fun a => V.str a.1) ⟨rfl, ⟨none, rfl⟩, rfl⟩ (fun j τ ys H' _ h => by rw [h.1]; exact SqT.of (s2 _ _ hts)) ?_ ?_⟩
    · rintro j v τ ys H2 hv ⟨rfl, ⟨u, rfl⟩, rfl⟩
      rw [List.getElem?_map] at hv
      obtain ⟨tt, ht, rfl⟩ := Option.map_eq_some_iff.mp hv
      obtain ⟨a, n, e1, e3⟩ := hT.get ht
      have hj : j < k.length := (List.getElem?_eq_some_iff.mp e1).1
      refine ⟨_, rfl, _, _, _, _, rfl, rfl, SqT.of (s2 _ _ e3), rfl, ?_, rfl, ⟨_, rfl⟩, take_map (fun a : Str × Int => V.str a.1) e1⟩
      rw [List.length_map, List.length_take]
      omega
    · rintro τ ys H2 ⟨rfl, _, rfl⟩ r hr
      rw [List.length_map, <- htl, List.take_of_length_le (Nat.le_refl _)]
      refine ⟨lt, r, _, _, rfl, rfl, old hr e2, upd_same, ?_, ?_, ?_, _, rfl⟩
      · rw [List.length_map, List.length_map]
        unfold tagsOf
        rw [List.length_map]
        omega
      · exact (s2.new hr).put h1
      · rw [upd_same, tags_take hk, List.map_append, List.map_map]
        rfl
  rintro σ H1 ⟨s2, e2, x, rfl⟩
  rw [List.length_map, <- hkl, List.take_of_length_le (Nat.le_refl _)] at e2
  refine ⟨_, rfl, fun a0 ha0 => ?_⟩
  refine ⟨lt, a0, tagsOf ks, [], rfl, .inl (SqL.of (old ha0 e2)), upd_same, by omega, by simp, fun hd1 H2 e3 s3 _ _ => ?_, fun n hd => Err.at (q2 (.n (1, n)) (by unfold due; rw [hd])) (s2.new ha0)⟩
  have s4 := (s2.new (o := .dK []) ha0).trans s3
  refine ⟨_, rfl, p, _, _, _, rfl, rfl, SqT.of (s4 _ _ hp), atI_nat (j := 1) rfl, _, rfl, ⟨_, SqT.of (s4 _ _ hpd)⟩, lc_tup (xs := rs.map V.ref) (fun j τ ys H' => H' = H2 /\ (∃ v, τ = [some (.ref p), some (.ref lt), x, none, v]) /\ ys = (ds.take j).map fun a => V.str a.n) ⟨rfl, ⟨none, rfl⟩, rfl⟩ (fun j τ ys H' _ h => by rw [h.1]; exact SqT.of (s4 _ _ hpd)) ?_ ?_⟩
  · rintro j v τ ys H3 hv ⟨rfl, ⟨u, rfl⟩, rfl⟩
    rw [List.getElem?_map] at hv
    obtain ⟨r, hr', rfl⟩ := Option.map_eq_some_iff.mp hv
    obtain ⟨dg, hdg, pq, pb, e4, e5, e6⟩ := hD.get hr'
    have hj : j < ds.length := (List.getElem?_eq_some_iff.mp hdg).1
    refine ⟨_, rfl, _, _, _, _, rfl, rfl, SqT.of (s4 _ _ e4), rfl, ?_, rfl, ⟨_, rfl⟩, take_map (fun a : Dg => V.str a.n) hdg⟩
    rw [List.length_map, List.length_take]
    omega
  rintro τ ys H3 ⟨rfl, _, rfl⟩ ln hln
  rw [List.length_map, <- hdl, List.take_of_length_le (Nat.le_refl _)]
  intro a1 ha1
  have s5 := (s4.new (o := .lst (ds.map fun a => V.str a.n)) hln).new (o := .dK []) ha1
  have eln : (ds.map fun a => V.str a.n) = (ds.map (·.n)).map V.str := by rw [List.map_map]; rfl
  refine ⟨ln, a1, ds.map (·.n), [], rfl, .inl (SqL.of (by rw [<- eln]; exact old ha1 upd_same)), upd_same, by rw [List.length_map]; omega, by simp, fun hd2 H4 e4 s6 _ _ => ?_, fun n hd => Err.at (q2 (.n (1, n)) (by unfold due; rw [hd1]; show (match dup [] (ds.map (·.n)) with | some n => some (Fo.n (1, n)) | none => ds.findSome? (dueD ks (kpOf ds))) = _; rw [hd])) s5⟩
  have s7 := s5.trans s6
  have hdue : due ks ds = ds.findSome? (dueD ks (kpOf ds)) := by
    unfold due
    rw [hd1]
    show (match dup [] (ds.map (·.n)) with | some n => some (Fo.n (1, n)) | none => ds.findSome? (dueD ks (kpOf ds))) = _
    rw [hd2]
  refine ⟨_, rfl, fun kx dx hkx hdx hne => ?_⟩
  have s8 : Same H (upd H4 dx (.own kx)) := s7.new hdx
  have hkx' : upd H4 dx (.own kx) kx = none := by rw [upd_ne hne.symm]; exact hkx
  have s9 : Same H (upd (upd H4 dx (.own kx)) kx (.ins cK dx [])) := s8.new hkx'
  refine ⟨kx, dx, p, ks, ds, rfl, upd_same, ⟨pk, pd, qs, rs, s9 _ _ hp, s9 _ _ hpk, hK.keep (.of s9), s9 _ _ hpd, hD.keep (.of s9)⟩, ⟨fn, fk, (dup_none hd1).2⟩, fdl, (dup_none hd2).2, fun H5 k5 kn => ⟨rfl, ?_⟩⟩
  have fkx : H kx = none := s8.free hkx'
  have s10 : Same H H5 := fun a o z => k5 a o (ne_of_none z fkx) (s9 _ _ z)
  refine ⟨_, rfl, p, _, _, _, rfl, rfl, SqT.of (s10 _ _ hp), atI_nat (j := 1) rfl, _, rfl, ⟨_, SqT.of (s10 _ _ hpd)⟩, for_tup (xs := rs.map V.ref) (fun i σ H' => Same H5 H' /\ (ds.take i).findSome? (dueD ks (kpOf ds)) = none /\ ∃ x y, σ = [some (.ref p), some (.ref lt), x, some (.ref kx), y]) ⟨Same.refl _, rfl, _, _, rfl⟩ (fun i σ H' _ h => SqT.of (h.1 _ _ (s10 _ _ hpd))) ?_ ?_⟩
  · rintro i v σ H6 hv ⟨s11, hnd, x, y, rfl⟩
    rw [List.getElem?_map] at hv
    obtain ⟨r, hr', rfl⟩ := Option.map_eq_some_iff.mp hv
    obtain ⟨dg, hdg, hdD⟩ := hD.get hr'
    refine ⟨_, rfl, _, rfl, kx, r, ks, kpOf ds, dg, rfl, kn.same s11, hF.kk, hdD.keep (.of (s10.trans s11)), hF.f dg (List.mem_of_getElem? hdg), hF.p dg (List.mem_of_getElem? hdg), fun hd H7 s12 => ⟨s11.trans s12, some_more hdg hnd hd, _, _, rfl⟩, fun f hd => ErrO.at (q2 f (by rw [hdue]; exact some_take hdg hnd hd)) (s10.trans s11)⟩
  · rintro σ H6 ⟨s11, hnd, x, y, rfl⟩
    rw [List.length_map, <- hdl, List.take_of_length_le (Nat.le_refl _)] at hnd
    exact q1 (by rw [hdue]; exact hnd) _ (s10.trans s11)
end
end KD
namespace L2
open PySem PySem.Spec PyProof.Rows
section
variable {X : Cx}
end
end L2
namespace L2
open PySem PySem.Spec PyProof.Rows
section
variable {X : Cx} {pins : List (Addr × Obj)} {σ : St} {H : Hp} {s : Shared}
end
end L2
namespace KD
open PySem L2 K11
def wdF (k : Nat) : Str := if k = 1 then "twice" else if k = 2 then "unknown" else "misfit"
def Told (H : Hp) (r : Addr) : Option Fo -> Prop
  | none => H r = some (.tup [.str "sound", .bl true])
  | some (.n f) => H r = some (.tup [.str (wdF f.1), .str f.2])
  | some (.l x ts) => ∃ l, H r = some (.tup [.str "lacking", .str x, .ref l]) /\ H l = some (.lst (ts.map V.str))
theorem Told.same {H H' : Hp} {r : Addr} {o : Option Fo} (s : Same H H') (h : Told H r o) : Told H' r o := by
  match o, h with
  | none, h => exact s _ _ h
  | some (.n f), h => exact s _ _ h
  | some (.l x ts), h => obtain ⟨l, a, b⟩ := h; exact ⟨l, s _ _ a, s _ _ b⟩
def ixF (k : Nat) : Nat := if k = 1 then 1 else if k = 2 then 2 else 3
theorem three (k : Nat) (P : Nat -> Addr -> Str -> Nat -> Prop) (Tw Un Mi : Addr) (h1 : P 1 Tw "twice" 1) (h2 : P 2 Un "unknown" 2) (h3 : ∀ k, k ≠ 1 -> k ≠ 2 -> P k Mi "misfit" 3) : P k (clsF Tw Un Mi k) (wdF k) (ixF k) := by
  by_cases c1 : k = 1
  · subst c1; exact h1
  · by_cases c2 : k = 2
    · subst c2; exact h2
    · have : clsF Tw Un Mi k = Mi := by unfold clsF; rw [if_neg c1, if_neg c2]
      rw [this, show wdF k = "misfit" by unfold wdF; rw [if_neg c1, if_neg c2], show ixF k = 3 by unfold ixF; rw [if_neg c1, if_neg c2]]
      exact h3 k c1 c2
def spLetBy : Sp := fun vs H Q _ => ∃ (p : Addr) (ks : List (List (Str × Int))) (ds : List Dg), vs = [.ref p] /\ IsP H ks ds p /\ Few24 ks ds /\ due ks ds = none /\ ∀ H', Same H H' -> Q (.bl true) H'
section
variable {P : Program} {w : World} {K : PySem.W.Frag} {mg : Str -> Option Value} {base : Heap} {f R Tw Un Mi La : Addr} {fd : FuncData}
theorem scLetBy : FnScope ["_law_program_here", "_law_found"] ["_law_program_here"] (defScope sLetBy) := ⟨rfl, rfl, rfl, by decide +kernel, rfl, by decide +kernel, by decide +kernel⟩
theorem ok_letby (F : Fun K "_law_let_by" "_law_let_by" sLetBy f fd) (GS : Ca P w K mg base (CXf P w) 8 "sound" ["program"] (spSound Tw Un Mi La)) (mR : mg "ReuseError" = some (.ref R)) : FnOk P w K mg base CX0 9 f fd ["_law_program_here"] spLetBy := by
  refine F.by scLetBy (fun vs H Q E h => ?_) (fun cdv A outer s H vs Q E hr h => ?_)
  · obtain ⟨p, ks, ds, rfl, _⟩ := h
    rfl
  obtain ⟨p, ks, ds, rfl, hP, hF, hd, q⟩ := h
  refine ⟨_,
    (jss_cons (js_set (i := 1) scLetBy.nd rfl (Or.inl rfl) je_non)
    (jss_cons (js_tryG (tb := fun E => _) (fun pins E => jss_one (js_set (i := 1) scLetBy.nd rfl (Or.inl rfl) (je_ca GS hr rfl pass_try (ja_c (jv 0) ja_nil))))
      rfl mR (th := fun e oe => _) (fun e oe => jss_one (js_set (i := 1) scLetBy.nd rfl (Or.inl rfl) je_non)))
    (jss_one (js_ret (je_cmpR jo_isB (jv 1) je_bl (by with_unfolding_all rfl)))))), ?_⟩
  have sl := line0
  refine ⟨_, rfl, p, ks, ds, rfl, hP, hF, fun _ H2 s2 => ?_, fun o hd' => by rw [hd] at hd'; cases hd'⟩
  exact ⟨_, rfl, _, _, rfl, rfl, q _ s2⟩
end
end KD
namespace L2
open PySem PySem.Spec PyProof.Rows
theorem miss_keys : typeLookup (.type "list") "keys" = pure none := am_miss_of_fast (by decide +kernel)
theorem keys_named : (["__module__", "__name__", "__qualname__", "__doc__", "__annotations__"] : List Str).contains ("keys" : Str) = false := by decide +kernel
theorem entry_pairs_loop : entryFor table "dict.update.loop" = some Builtin.«dict.update.loop» := entryFor_of_tree (by kernel_rfl)
theorem plain_pairs_loop : plainId "dict.update.loop" = true := by decide +kernel
section
variable {prog : Program} {w : World} {A : Around}
theorem keys_none {E : Value -> Shared -> Prop} {s : Shared} {a : Addr} {xs : Array Value} {k : Nat} {Q : Option Value -> Shared -> Prop} (hx : s.heap.get? a = some { cls := .type "list", data := .seq xs k }) (hA : A.handled = none)
    (h : ∀ h' tk, (∀ b o, s.heap.get? b = some o -> h'.get? b = some o) -> Q none { s with heap := h', toks := tk }) : wpAny (model prog w) A (getAttr? (.ref a) "keys") Q E s := by
  obtain ⟨hp, g, d, tk, os⟩ := s
  have hT : ∀ t', (⟨hp, g, d, t', os⟩ : Shared).TypeIs (.ref a) "list" := fun _ => ⟨_, hx, rfl⟩
  have g1 := sub_AttributeError
  have g2 := PySem.F.slot_list_getattribute.lookup
  have g3 := PySem.F.slot_list_getattribute.bind (.ref a)
  have g4 := am_list_getattr_none
  unfold getAttr? getAttrBy? getAttrBy
  repeat (any_goals (first | assumption | exact hT _ | ((with_reducible show wpAny _ _ (call (Value.builtin "list.__getattribute__") _ _) _ _ _); refine call_meets PySem.F.slot_list_getattribute (hT _) am_entry_list_getattribute (PySem.F.args_list_getattribute_2 _ _) (meets_getattribute_miss_list a xs k #[] "keys" _ miss_keys keys_named (by show 4 + 100 <= sizeLine; decide)) ⟨hx, hA, fun h' tk' e hx' => ?_⟩) | wp_step))
  obtain ⟨t', u', he⟩ := hx'.there
  show wpAny _ _ (getattributeRaised _ _ _ _ _ _ _) _ _ _
  unfold getattributeRaised
  repeat (any_goals (first | assumption | wp_step))
  exact h _ _ hx'.keeps
theorem pairs_loop {κ : Type} [DecidableEq κ] {knd : KeyKind prog w κ} {R : Result -> Shared -> Prop} {I ax D : Addr} {items : Array Value} {more : List (κ × Value)} {res : Value} (hh : A.handled = none) (n1 : ax ≠ I) (n2 : D ≠ I) (n3 : D ≠ ax) (hl : items.size = more.length) (hz : more.length <= sizeLine) :
    ∀ (m i : Nat) (s : Shared), more.length - i = m -> i <= more.length -> s.heap.IsListIter I ax i -> s.heap.IsList ax items -> s.heap.DictOf knd D (merged [] (more.take i)) ->
      (∀ (j : Nat) k v, more[j]? = some (k, v) -> ∃ t ku, items[j]? = some (.ref t) /\ knd.is k ku = true /\ IsTup s.heap t #[ku, v] /\ t ≠ I /\ t ≠ D) ->
      (∀ h' tk, (∀ b o, b ≠ I -> b ≠ D -> s.heap.get? b = some o -> h'.get? b = some o) -> h'.DictOf knd D (merged [] more) -> R (.ok (.ret res)) { s with heap := h', toks := tk }) ->
      codeAny (model prog w) A (.builtin "dict.update.loop" ⟨[.ref D, .ref I, rawInt i, res], []⟩) R s := by
  intro m
  induction m with
  | zero =>
    intro i s hm hi hit hls hd hp hR
    have e : i = more.length := by omega
    refine codeAny_builtin entry_pairs_loop ?_
    rw [Around.under_plainId plain_pairs_loop _]
    show wpAny _ A.in1 (pyNext (.ref I) >>= _) _ _ s
    refine wpAny_bind (wpAny_pyNext_list_end hh hit hls (by rw [Array.getElem?_eq_none (by omega)]) fun h' eb => ?_)
    show wpAny _ A.in1 (Builtin.Dict.addKeywords D [] >>= fun _ => ret res) _ _ _
    refine wpAny_bind (wpAny_pure (wpAny_pure ?_))
    rw [e, List.take_of_length_le (Nat.le_refl _)] at hd
    obtain ⟨o, es, ep, ho, hr⟩ := hd
    exact hR h' s.toks (fun b o nb _ e' => eb b o nb e') ⟨o, es, ep, eb _ _ n2 ho, hr⟩
  | succ m ih =>
    intro i s hm hi hit hls hd hp hR
    have hlt : i < more.length := by omega
    obtain ⟨k, v⟩ : ∃ kv, kv = more[i] := ⟨_, rfl⟩
    obtain ⟨kv, ekv⟩ : ∃ kv, more[i]? = some kv := ⟨_, List.getElem?_eq_getElem hlt⟩
    obtain ⟨k, v⟩ := kv
    obtain ⟨t, ku, e1, e2, e3, e4, e5⟩ := hp i k v ekv
    refine codeAny_builtin entry_pairs_loop ?_
    rw [Around.under_plainId plain_pairs_loop _]
    show wpAny _ A.in1 (pyNext (.ref I) >>= _) _ _ s
    refine wpAny_bind (wpAny_pyNext_list_item hit hls e1 fun h' hit' sb => ?_)
    have ls' := hls.extBut sb.extBut n1
    have tp' := e3.extBut sb.extBut e4
    obtain ⟨ot, hot, hct, nt, hdt⟩ := id tp'
    show wpAny _ A.in1 (holding [Value.ref t] _ >>= _) _ _ _
    refine wpAny_bind (wpAny_holding (wpAny_bind (wpAny_tryCatch ?_)))
    unfold Builtin.Dict.pairItems
    refine wpAny_bind (wpAny_typeOf ⟨ot, hot, hct⟩ ?_)
    rw [if_pos (by decide +kernel)]
    refine wpAny_bind ?_
    unfold seqItems?
    refine wpAny_bind (wpAny_load hot ?_)
    rw [hdt]
    refine wpAny_pure (wpAny_pure ?_)
    show wpAny _ A.in1 (holding [ku, v] (dictSet D ku v)) _ _ _
    have hd' : h'.DictOf knd D (merged [] (more.take i)) := by
      obtain ⟨o, es, ep, ho, hr⟩ := hd
      exact ⟨o, es, ep, sb.extBut _ _ n2 ho, hr⟩
    have lz : (merged [] (more.take i)).length <= sizeLine := by
      have := merged_length_le [] (more.take i)
      rw [List.length_take] at this
      simp only [List.length_nil] at this
      omega
    refine wpAny_holding (wpAny_dictSet_pairs (hsz := lz) e2 hd' fun h'' hd'' sb'' => ?_)
    rw [<- merged_take_succ [] more i (k, v) ekv] at hd''
    have ls'' := ls'.extBut sb''.extBut n3.symm
    have hit'' := hit'.extBut sb''.extBut n2.symm
    refine wpAny_pure ⟨plainId_quiet plain_pairs_loop _, ih (i + 1) _ (by omega) hlt hit'' ls'' hd'' (fun j k' v' ej => ?_) fun h3 tk k3 d3 => ?_⟩
    · obtain ⟨t', ku', a1, a2, a3, a4, a5⟩ := hp j k' v' ej
      exact ⟨t', ku', a1, a2, (a3.extBut sb.extBut a4).extBut sb''.extBut a5, a4, a5⟩
    · exact hR h3 tk (fun b o b1 b2 e' => k3 b o b1 b2 (sb''.extBut _ _ b2 (sb.extBut _ _ b1 e'))) d3
end
section
variable {X : Cx}
theorem prs_vals {s : Shared} {pins : List (Addr × Obj)} {σ : St} {H : Hp} (I : Inv X pins σ H s) : ∀ {kvs : List (Key × V)} {ts : List Addr}, Prs H kvs ts -> ∃ more : List (Key × Value), KV kvs more /\ ∀ (j : Nat) k v, more[j]? = some (k, v) -> ∃ t ku, ts[j]? = some t /\ (mixKind X.prog X.w).is k ku = true /\ IsTup s.heap t #[ku, v]
  | [], _, .nil => ⟨[], .nil, fun j k v h => by simp at h⟩
  | (k, x) :: kvs, t :: ts, .cons h r => by
    obtain ⟨more, e1, e2⟩ := prs_vals I r
    obtain ⟨its, rv, tp, _⟩ := I.tuple (SqT.of h)
    obtain ⟨ku, vu, rfl⟩ : ∃ a b, its = [a, b] := by
      have := rv.length
      match its, this with
      | [a, b], _ => exact ⟨a, b, rfl⟩
    cases rv with
    | cons r1 r2 =>
      cases r2 with
      | cons r2 _ =>
        refine ⟨(k, vu) :: more, .cons ⟨rfl, r2⟩ e1, fun j k' v' hj => ?_⟩
        match j, hj with
        | 0, hj =>
          cases hj
          refine ⟨t, ku, rfl, ?_, tp⟩
          cases k with
          | inl i => obtain ⟨u, rfl⟩ := r1; exact mixKind_int _ _ i u
          | inr z => obtain ⟨u, rfl⟩ := r1; exact mixKind_str _ _ z u
        | j + 1, hj => exact e2 j k' v' hj
def rDictP : List V -> Hp -> VK -> Prop := fun xs H Q => ∃ (l : Addr) (kvs : List (Key × V)) (ts : List Addr), xs = [.ref l] /\ H l = some (.lst (ts.map V.ref)) /\ Prs H kvs ts /\ (kvs.map (·.1)).Nodup /\ ∀ l', H l' = none -> Q (.ref l') (upd H l' (.dK kvs))
theorem call_dict_pairs (hc : X.calm = true) : CallR X (.type "dict") rDictP := by
  intro pins s σ H xs us Q I r h
  obtain ⟨l, kvs, ts, rfl, hl, hp, hn, q⟩ := h
  obtain ⟨u, rfl, rx⟩ := vals1 r
  cases rx
  obtain ⟨its, n, rv, hol, hz⟩ := I.lst hl
  obtain ⟨more, km, hm⟩ := prs_vals I hp
  have hh : X.A.handled = none := I.ok.hd hc
  have lk : kvs.length = more.length := Paired.length km
  have lt : kvs.length = ts.length := Paired.length hp
  have li := rv.length
  rw [List.length_map] at li hz
  have keys : more.map (·.1) = kvs.map (·.1) := by
    have : ∀ {a : List (Key × V)} {b : List (Key × Value)}, KV a b -> b.map (·.1) = a.map (·.1) := fun {a b} z => by
      induction z with
      | nil => rfl
      | cons h _ ih => rw [List.map_cons, List.map_cons, h.1, ih]
    exact this km
  refine callType_codes (Q₁ := fun obj s₁ => obj = .ref s.heap.objs.size /\ s₁ = { s with heap := s.heap.push { cls := .type "dict", data := .dict #[] } }) PySem.F.kt_called_dict (PySem.F.kt_typeCall_dict_1 _) PySem.F.entry_dict_init (kt_code_dict_new _ ⟨rfl, rfl⟩) ?_
  rintro obj s₁ ⟨rfl, rfl⟩
  have new : (s.heap.push { cls := .type "dict", data := .dict #[] }).DictOf (mixKind X.prog X.w) s.heap.objs.size [] := Heap.DictOf.new s.heap
  have hol' : (s.heap.push { cls := .type "dict", data := .dict #[] }).get? l = some { cls := .type "list", data := .seq its.toArray n } := Heap.get?_push_of_some _ hol
  refine ⟨new.typeIs, PySem.F.args_dict_init_2 _ _, ?_⟩
  unfold Builtin.«dict.__init__»
  refine wpAny_bind ?_
  unfold Builtin.Dict.selfAndRest
  refine wpAny_bind (wpAny_notOrdered_dict new.typeIs ?_)
  show wpAny _ _ (pure (s.heap.objs.size, [Value.ref l])) _ _ _
  refine wpAny_pure ?_
  show wpAny _ _ (Builtin.Dict.updateFrom "dict.__init__" s.heap.objs.size (.ref l) [] .none) _ _ _
  unfold Builtin.Dict.updateFrom
  refine wpAny_bind (wpAny_typeOf ⟨_, hol', rfl⟩ ?_)
  rw [if_pos (by decide +kernel)]
  refine wpAny_bind (keys_none hol' hh fun h1 t1 k1 => ?_)
  rw [if_pos (show ((none : Option Value).isNone = true) from rfl)]
  have hol1 := k1 _ _ hol'
  have big := I.big
  obtain ⟨o, es, ep, ho, hr⟩ := id new
  have ho1 := k1 _ _ ho
  have ltD : s.heap.objs.size < h1.objs.size := Heap.lt_size ho1
  have ltl : l < s.heap.objs.size := Heap.lt_size hol
  refine wpAny_bind (wpAny_rule (wpAny_bind (wpAny_pyIter_list (items := its.toArray) ⟨_, hol1, rfl, n, rfl⟩ ?_)))
  refine wpAny_pure ⟨plainId_quiet plain_pairs_loop _, ?_⟩
  refine pairs_loop (A := X.A.in1) (knd := mixKind X.prog X.w) (ax := l) (more := more) (items := its.toArray) hh (Nat.ne_of_lt (Nat.lt_trans ltl ltD)) (Nat.ne_of_lt ltD) (Nat.ne_of_gt ltl) (by rw [List.size_toArray]; omega) (by omega) more.length 0 _ (by omega) (Nat.zero_le _) ⟨_, Heap.get?_push_size _ rfl, rfl, rfl⟩ ⟨_, Heap.get?_push_of_some _ hol1, rfl, n, rfl⟩ ⟨o, es, ep, Heap.get?_push_of_some _ ho1, hr⟩ (fun j k v ej => ?_) (fun h' tk kk dd => ?_)
  · obtain ⟨t, ku, a1, a2, ⟨ot, a3, a4⟩⟩ := hm j k v ej
    have ltt : t < s.heap.objs.size := Heap.lt_size a3
    obtain ⟨u, hu, ru⟩ := rv.get (i := j) (x := .ref t) (by rw [List.getElem?_map, a1]; rfl)
    cases ru
    exact ⟨t, ku, by simpa using hu, a2, ⟨ot, Heap.get?_push_of_some _ (k1 _ _ (Heap.get?_push_of_some _ a3)), a4⟩, Nat.ne_of_lt (Nat.lt_trans ltt ltD), Nat.ne_of_lt ltt⟩
  · rw [merged_nil_of_nodup more (by rw [keys]; exact hn)] at dd
    have hk : ∀ b o, s.heap.get? b = some o -> h'.get? b = some o := fun b o e => kk b o (Nat.ne_of_lt (Nat.lt_trans (Heap.lt_size e) ltD)) (Nat.ne_of_lt (Heap.lt_size e)) (Heap.get?_push_of_some _ (k1 _ _ (Heap.get?_push_of_some _ e)))
    refine ⟨rfl, .ref s.heap.objs.size, _, I.laid (t' := tk) hk (Nat.le_refl _) (show ObjOk X.prog X.w _ h' _ (.dK kvs) from ⟨by omega, ?_, more, km, dd⟩), rfl, q _ (I.hok.fresh (Nat.le_refl _))⟩
    exact beq_eq_false_iff_ne.mpr (fun e => by rw [e] at big; exact Nat.lt_irrefl _ big)
theorem jc_dict_pairs (hc : X.calm = true) : jCa X (.type "dict") rDictP := ⟨call_dict_pairs hc⟩
end
end L2
namespace L2
open PySem
section
variable {X : Cx} {o i : Expr} {to ti : TE} {pos : Pos}
theorem jg_setL (ho : jE X o to) (hi : jE X i ti) (ha : ∀ v, assign (.Subscript o i pos) X.env v = (do
      let ov <- holding [v] (eval o X.env)
      let iv <- holding [v, ov] (eval i X.env)
      standAt pos
      holding [v, ov, iv] (setItem ov iv v)
      release [v, ov, iv] []) := by intro _; rfl) : jG X (.Subscript o i pos) (gSub to ti rSetL) := ⟨pg_sub ho.out hi.out set_list ha⟩
end
end L2
namespace KD
open PySem L2 K11
def Kp (x : Addr) (H H' : Hp) : Prop := ∀ a o, a ≠ x -> H a = some o -> H' a = some o
theorem Kp.refl (x : Addr) (H : Hp) : Kp x H H := fun _ _ _ h => h
theorem Kp.trans {x : Addr} {H H' H'' : Hp} (a : Kp x H H') (b : Kp x H' H'') : Kp x H H'' := fun p o n h => b p o n (a p o n h)
theorem Kp.of {x : Addr} {H H' : Hp} (s : Same H H') : Kp x H H' := fun p o _ h => s p o h
theorem Kp.new {x p : Addr} {o : HO} {H H' : Hp} (a : Kp x H H') (h : H' p = none) : Kp x H (upd H' p o) := a.trans (.of (same_new h o))
theorem Kp.put {x : Addr} {o : HO} {H H' : Hp} (a : Kp x H H') : Kp x H (upd H' x o) := fun p u n h => by rw [upd_ne n]; exact a p u n h
def TX (x : Addr) (H : Hp) (r : Addr) : Option Fo -> Prop
  | none => H r = some (.tup [.str "sound", .bl true])
  | some (.n f) => H r = some (.tup [.str (wdF f.1), .str f.2])
  | some (.l y ts) => ∃ l, H r = some (.tup [.str "lacking", .str y, .ref l]) /\ H l = some (.lst (ts.map V.str)) /\ l ≠ x /\ ts ≠ []
theorem TX.told {x : Addr} {H : Hp} {r : Addr} {o : Option Fo} (h : TX x H r o) : Told H r o := by
  match o, h with
  | none, h => exact h
  | some (.n f), h => exact h
  | some (.l y ts), h => obtain ⟨l, a, b, _⟩ := h; exact ⟨l, a, b⟩
theorem TX.kp {x : Addr} {H H' : Hp} {r : Addr} {o : Option Fo} (k : Kp x H H') (hx : ∃ xs, H x = some (.lst xs)) (h : TX x H r o) : TX x H' r o := by
  obtain ⟨xs, hx⟩ := hx
  have ne : ∀ {ys}, H r = some (.tup ys) -> r ≠ x := fun {ys} e => ne_of e hx (by intro z; cases z)
  match o, h with
  | none, h => exact k _ _ (ne h) h
  | some (.n f), h => exact k _ _ (ne h) h
  | some (.l y ts), h => obtain ⟨l, a, b, c⟩ := h; exact ⟨l, k _ _ (ne a) a, k _ _ c.1 b, c⟩
theorem TX.head {x : Addr} {H : Hp} {r : Addr} {o : Option Fo} (h : TX x H r o) : ∃ z rest, H r = some (.tup (.str z :: rest)) /\ (z = "sound" ↔ o = none) := by
  match o, h with
  | none, h => exact ⟨_, _, h, by simp⟩
  | some (.n f), h =>
    refine ⟨_, _, h, fun e => ?_, fun e => by cases e⟩
    exact absurd e (three f.1 (fun _ _ z _ => z ≠ "sound") 0 0 0 (by decide) (by decide) (fun _ _ _ => by decide))
  | some (.l x ts), h =>
    obtain ⟨l, a, b, _⟩ := h
    exact ⟨_, _, a, fun e => absurd e (by decide), fun e => by cases e⟩
def Sta (H : Hp) (x pc : Addr) (cells : List Int) (i w : Nat) (o : Option Fo) : Prop := ∃ du, H x = some (.lst [.ref pc, .int (i : Nat), .int (w : Nat), .ref du]) /\ H pc = some (.lst (cells.map V.int)) /\ pc ≠ x /\ TX x H du o
theorem Sta.lst {H : Hp} {x pc : Addr} {cells : List Int} {i w : Nat} {o : Option Fo} (h : Sta H x pc cells i w o) : ∃ xs, H x = some (.lst xs) := let ⟨_, a, _⟩ := h; ⟨_, a⟩
theorem Sta.same {H H' : Hp} {x pc : Addr} {cells : List Int} {i w : Nat} {o : Option Fo} (s : Same H H') (h : Sta H x pc cells i w o) : Sta H' x pc cells i w o := by
  have hx := h.lst
  obtain ⟨du, a, b, c, d⟩ := h
  exact ⟨du, s _ _ a, s _ _ b, c, d.kp (.of s) hx⟩
def Wo (x : Addr) (H : Hp) (wo : Addr) (st : Str) (ks : List (List (Str × Int))) (kp : List (Str × Int)) (wl : Bool) : Prop := ∃ pk pd kps dts, H wo = some (.lst [.str st, .ref pk, .ref pd, .bl wl]) /\ H pk = some (.lst (kps.map V.ref)) /\ Kds H ks kps /\ H pd = some (.lst (dts.map V.ref)) /\ Tps H kp dts /\ wo ≠ x /\ pk ≠ x /\ pd ≠ x /\ x ∉ kps
theorem Kp.tups {x : Addr} {H H' : Hp} (k : Kp x H H') (hx : ∃ xs, H x = some (.lst xs)) : Tups H H' := fun p xs h => k _ _ (by obtain ⟨ys, hx⟩ := hx; exact ne_of h hx (by intro z; cases z)) h
theorem Kds.kp {x : Addr} {H H' : Hp} (k : Kp x H H') (hx : ∃ xs, H x = some (.lst xs)) {ks : List (List (Str × Int))} {ps : List Addr} (h : Kds H ks ps) (hn : x ∉ ps) : Kds H' ks ps := by
  have tu := k.tups hx
  induction h with
  | nil => exact .nil
  | @cons c p ks ps a _ ih =>
    obtain ⟨ts, h1, h2⟩ := a
    exact .cons ⟨ts, k _ _ (fun e => hn (by rw [e]; exact List.mem_cons_self)) h1, h2.keep tu⟩ (ih fun e => hn (List.mem_cons_of_mem _ e))
theorem Wo.kp {x : Addr} {H H' : Hp} (k : Kp x H H') (hx : ∃ xs, H x = some (.lst xs)) {wo : Addr} {st : Str} {ks : List (List (Str × Int))} {kp : List (Str × Int)} {wl : Bool} (h : Wo x H wo st ks kp wl) : Wo x H' wo st ks kp wl := by
  obtain ⟨pk, pd, kps, dts, a1, a2, a3, a4, a5, n1, n2, n3, n4⟩ := h
  exact ⟨pk, pd, kps, dts, k _ _ n1 a1, k _ _ n2 a2, a3.kp k hx n4, k _ _ n3 a4, a5.keep (k.tups hx), n1, n2, n3, n4⟩
structure WOk (st : Str) (ks : List (List (Str × Int))) (kp : List (Str × Int)) : Prop where
  sl : st.length <= 9
  nd : (tagsOf ks).Nodup
  k0 : 0 < ks.length
  k1 : ks.length <= 4
  ne : ∀ k ∈ ks, 0 < k.length /\ k.length <= 18
  sz : ∀ a ∈ ks.flatten, 0 <= a.2 /\ a.2 <= 9
  pn : (kp.map (·.1)).Nodup
  p0 : 0 < kp.length
  p1 : kp.length <= 4
  pz : ∀ a ∈ kp, 0 <= a.2 /\ a.2 <= 9
def usF (above : List Str) (n : Str) : Option Fo := if n ∈ above then none else some (.n (2, n))
def twF (above : List Str) (n : Str) : Option Fo := if n ∈ above then some (.n (1, n)) else none
def spFault : Sp := fun vs H Q _ => ∃ (x r pc : Addr) (cells : List Int) (i w : Nat) (o o' : Option Fo), vs = [.ref x, .ref r] /\ Sta H x pc cells i w o /\ TX x H r o' /\ ∀ H', Kp x H H' -> Sta H' x pc cells i w (o.or o') -> Q .non H'
def spUsed : Sp := fun vs H Q _ => ∃ (x wo pa pc : Addr) (cells : List Int) (i w : Nat) (o : Option Fo) (st : Str) (ks : List (List (Str × Int))) (kp : List (Str × Int)) (wl : Bool) (above : List Str) (nu : Int), vs = [.ref x, .ref wo, .ref pa, .int nu] /\ Sta H x pc cells i w o /\ Wo x H wo st ks kp wl /\ st.length <= 9 /\ H pa = some (.lst (above.map V.str)) /\ pa ≠ x /\ 0 < above.length /\ above.length <= 600 /\
  ∀ H' n, Kp x H H' -> Sta H' x pc cells i w (o.or (usF above n)) -> (wl = false -> n ∈ above) -> Q (.str n) H'
def spBoundL : Sp := fun vs H Q _ => ∃ (x wo pa pc : Addr) (cells : List Int) (i w : Nat) (o : Option Fo) (st : Str) (ks : List (List (Str × Int))) (kp : List (Str × Int)) (wl : Bool) (above : List Str) (nu : Int), vs = [.ref x, .ref wo, .ref pa, .int nu] /\ Sta H x pc cells i w o /\ Wo x H wo st ks kp wl /\ st.length <= 9 /\ H pa = some (.lst (above.map V.str)) /\ pa ≠ x /\ above.length <= 600 /\
  ∀ H' n, Kp x H H' -> Sta H' x pc cells i w (o.or (twF above n)) -> (wl = false -> n = nm st above.length) -> Q (.str n) H'
theorem at_str {zs : List Str} {k : Int} (h0 : 0 <= k) (h1 : k < ((zs.length : Nat) : Int)) : ∃ z, z ∈ zs /\ atI (zs.map V.str) k = some (.str z) := by
  obtain ⟨r, rfl⟩ : ∃ r : Nat, k = (r : Int) := ⟨k.toNat, by omega⟩
  have hr : r < zs.length := by omega
  exact ⟨zs[r], List.getElem_mem _, atI_nat (by rw [List.getElem?_map, List.getElem?_eq_getElem hr]; rfl)⟩
section
variable {P : Program} {w : World} {K : PySem.W.Frag} {mg : Str -> Option Value} {base : Heap} {f R C : Addr} {fd : FuncData}
theorem scFaultL : FnScope ["_law_state", "_law_due"] ["_law_state", "_law_due"] (defScope sFault) := ⟨rfl, rfl, rfl, by decide +kernel, rfl, by decide +kernel, by decide +kernel⟩
theorem ok_fault (F : Fun K "_law_fault" "_law_fault" sFault f fd) : FnOk P w K mg base CX0 1 f fd ["_law_state", "_law_due"] spFault := by
  refine F.by scFaultL (fun vs H Q E h => ?_) (fun cdv A outer s H vs Q E hr h => ?_)
  · obtain ⟨x, r, pc, cells, i, w, o, o', rfl, _⟩ := h
    rfl
  obtain ⟨x, r, pc, cells, i, w, o, o', rfl, hSt, hT, q⟩ := h
  have hx := hSt.lst
  obtain ⟨du, h1, h2, h3, h4⟩ := id hSt
  refine ⟨_,
    (jss_one (js_if (jt_cmpR jo_eq (je_ix jx_tup (je_ix jx_list (jv 0) je_int (fun _ _ => rfl)) je_int (fun _ _ => rfl)) je_str (nomark _))
      (jss_one (js_asg (jv 1) (jg_setL (jv 0) je_int))) jss_nil)), ?_⟩
  have sl := line0
  obtain ⟨z, rest, hz, hzs⟩ := h4.head
  refine ⟨_, rfl, x, _, _, _, rfl, rfl, SqL.of h1, atI_nat (j := 3) rfl, du, _, _, _, rfl, rfl, SqT.of hz, atI_nat (j := 0) rfl, rfl, _, rfl, ?_⟩
  by_cases cz : z = "sound"
  · have en := hzs.mp cz
    refine iteT' (decide_eq_true (congrArg V.str cz)) ⟨_, rfl, _, rfl, x, _, 3, 3, rfl, rfl, h1, rfl, q _ (Kp.refl x H).put ?_⟩
    rw [en, Option.none_or]
    exact ⟨r, upd_same, by rw [upd_ne h3]; exact h2, h3, hT.kp (Kp.refl x H).put hx⟩
  · refine iteF' (decide_eq_false fun e => cz (V.str.inj e)) (nxt (q _ (Kp.refl x H) ?_))
    cases o with
    | none => exact absurd (hzs.mpr rfl) cz
    | some o => exact hSt
theorem scUsed : FnScope ["_law_state", "_law_world_here", "_law_above", "_law_number", "_law_name_here"] ["_law_state", "_law_world_here", "_law_above", "_law_number"] (defScope sUsed) := ⟨rfl, rfl, rfl, by decide +kernel, rfl, by decide +kernel, by decide +kernel⟩
theorem ok_used (F : Fun K "_law_used" "_law_used" sUsed f fd) (GN : Ca P w K mg base CX0 1 "_law_name" ["_law_stem_here", "_law_k"] spNm) (GF : Ca P w K mg base CX0 1 "_law_fault" ["_law_state", "_law_due"] spFault) (m_len : mg "len" = none) : FnOk P w K mg base CX0 2 f fd ["_law_state", "_law_world_here", "_law_above", "_law_number"] spUsed := by
  refine F.by scUsed (fun vs H Q E h => ?_) (fun cdv A outer s H vs Q E hr h => ?_)
  · obtain ⟨x, wo, pa, pc, cells, i, w, o, st, ks, kp, wl, above, nu, rfl, _⟩ := h
    rfl
  obtain ⟨x, wo, pa, pc, cells, i, w, o, st, ks, kp, wl, above, nu, rfl, hSt, hW, hst, ha, hax, la0, la, q⟩ := h
  have r1 : Room 1 _ := hr.mono (by decide)
  obtain ⟨pk, pd, kps, dts, hwo, _⟩ := id hW
  refine ⟨_,
    (jss_cons (js_set (i := 4) scUsed.nd rfl (Or.inl rfl) (je_ix jx_list (jv 2) (je_op jo_mod (je_op jo_fdiv (jv 3) je_int) (je_fnB jc_len_seq rfl m_len PySem.boot_len (ja_c (jv 2) ja_nil))) (fun _ _ => rfl)))
    (jss_cons (js_if (jW.pt (jw_and (jt_val (je_ix jx_list (jv 1) je_int (fun _ _ => rfl))) (jw_and1 (jt_cmpR jo_eq (je_op jo_mod (jv 3) je_int) je_int (nomark _)))))
      (jss_one (js_set (i := 4) scUsed.nd rfl (Or.inl rfl) (je_ca GN r1 rfl pass0 (ja_c (je_ix jx_list (jv 1) je_int (fun _ _ => rfl)) (ja_c (je_op jo_mod (je_op jo_fdiv (jv 3) je_int) (je_op jo_add (je_fnB jc_len_seq rfl m_len PySem.boot_len (ja_c (jv 2) ja_nil)) je_int)) ja_nil))))) jss_nil)
    (jss_cons (js_if (jt_cmpR jo_notIn_seq (jv 4) (jv 2) (by with_unfolding_all rfl))
      (jss_one (js_expr (je_ca GF r1 rfl pass0 (ja_c (jv 0) (ja_c (je_tup (ja_c je_str (ja_c (jv 4) ja_nil))) ja_nil))))) jss_nil)
    (jss_one (js_ret (jv 4)))))), ?_⟩
  have sl := line0
  have k0 := Int.emod_nonneg (nu / 32) (show (((above.map V.str).length : Nat) : Int) ≠ 0 by rw [List.length_map]; omega)
  have k1 := Int.emod_lt_of_pos (nu / 32) (show (0 : Int) < (((above.map V.str).length : Nat) : Int) by rw [List.length_map]; omega)
  obtain ⟨z1, hm1, hz1⟩ := at_str (zs := above) (k := nu / 32 % (((above.map V.str).length : Nat) : Int)) k0 (by rw [List.length_map] at *; exact k1)
  suffices rest : ∀ z : Str, (wl = false -> z ∈ above) -> (tSeq _ _ : TS) _ [some (.ref x), some (.ref wo), some (.ref pa), some (.int nu), some (.str z)] H by
    refine ⟨_, rfl, _, rfl, _, _, rfl, rfl, ⟨by decide, by decide⟩, _, rfl, pa, _, rfl, .inl (SqL.of ha), _, _, rfl, rfl, (by rw [List.length_map]; show (0 : Int) < ((above.length : Nat) : Int); omega), pa, _, _, _, rfl, rfl, SqL.of ha, hz1, ?_⟩
    refine ⟨_, rfl, wo, _, _, _, rfl, rfl, SqL.of hwo, atI_nat (j := 3) rfl, wl, rfl, ite2 (fun _ => ?_) (fun _ => iteF (rest z1 fun _ => hm1))⟩
    refine ⟨_, rfl, _, _, rfl, rfl, (by show (0 : Int) < _; decide), rfl, _, rfl, ite2 (fun _ => ?_) (fun _ => rest z1 fun _ => hm1)⟩
    have j0 := Int.emod_nonneg (nu / 32) (show (((above.map V.str).length : Nat) : Int) + 5 ≠ 0 by omega)
    have j1 := Int.emod_lt_of_pos (nu / 32) (show (0 : Int) < (((above.map V.str).length : Nat) : Int) + 5 by omega)
    obtain ⟨m, em⟩ : ∃ m : Nat, nu / 32 % ((((above.map V.str).length : Nat) : Int) + 5) = (m : Int) := ⟨_, (Int.toNat_of_nonneg j0).symm⟩
    rename_i cw _
    refine ⟨_, rfl, wo, _, _, _, rfl, rfl, SqL.of hwo, rfl, _, rfl, _, _, rfl, rfl, ⟨by decide, by decide⟩, _, rfl, pa, _, rfl, .inl (SqL.of ha), _, _, rfl, rfl, _, _, rfl, rfl, (by show (0 : Int) < (((above.map V.str).length : Nat) : Int) + 5; omega), st, m, ?_, hst, ?_, rest _ fun e => ?_⟩
    · show [V.str st, V.int (nu / 32 % ((((above.map V.str).length : Nat) : Int) + 5))] = _
      rw [em]
    · rw [em, List.length_map] at j1
      omega
    · rw [e] at cw
      cases cw
  intro z hz
  refine ⟨_, rfl, _, rfl, pa, _, rfl, .inl (SqL.of ha), rfl, flat_strs _, _, rfl, ?_⟩
  rw [show (if true = true then !inV (V.str z) (above.map V.str) else inV (V.str z) (above.map V.str)) = !decide (z ∈ above) by rw [in_strs]; rfl]
  by_cases c : z ∈ above
  · refine iteF' (by rw [decide_eq_true c]; rfl) (nxt ⟨_, rfl, q _ z (Kp.refl _ _) ?_ hz⟩)
    unfold usF
    rw [if_pos c, Option.or_none]
    exact hSt
  · refine iteT' (by rw [decide_eq_false c]; rfl) ⟨_, rfl, _, rfl, by show 2 <= sizeLine; decide, fun t ht => ⟨x, t, pc, cells, i, w, o, some (.n (2, z)), rfl, hSt.same (same_new ht _), upd_same, fun H' k' hS' => ⟨_, rfl, q _ z ((Kp.of (same_new ht _)).trans k') ?_ hz⟩⟩⟩
    unfold usF
    rw [if_neg c]
    exact hS'
theorem scBoundL : FnScope ["_law_state", "_law_world_here", "_law_above", "_law_number", "_law_name_here"] ["_law_state", "_law_world_here", "_law_above", "_law_number"] (defScope sBoundL) := ⟨rfl, rfl, rfl, by decide +kernel, rfl, by decide +kernel, by decide +kernel⟩
theorem ok_boundL (F : Fun K "_law_bound" "_law_bound" sBoundL f fd) (GN : Ca P w K mg base CX0 1 "_law_name" ["_law_stem_here", "_law_k"] spNm) (GF : Ca P w K mg base CX0 1 "_law_fault" ["_law_state", "_law_due"] spFault) (m_len : mg "len" = none) : FnOk P w K mg base CX0 2 f fd ["_law_state", "_law_world_here", "_law_above", "_law_number"] spBoundL := by
  refine F.by scBoundL (fun vs H Q E h => ?_) (fun cdv A outer s H vs Q E hr h => ?_)
  · obtain ⟨x, wo, pa, pc, cells, i, w, o, st, ks, kp, wl, above, nu, rfl, _⟩ := h
    rfl
  obtain ⟨x, wo, pa, pc, cells, i, w, o, st, ks, kp, wl, above, nu, rfl, hSt, hW, hst, ha, hax, la, q⟩ := h
  have r1 : Room 1 _ := hr.mono (by decide)
  obtain ⟨pk, pd, kps, dts, hwo, _⟩ := id hW
  refine ⟨_,
    (jss_cons (js_set (i := 4) scBoundL.nd rfl (Or.inl rfl) (je_ca GN r1 rfl pass0 (ja_c (je_ix jx_list (jv 1) je_int (fun _ _ => rfl)) (ja_c (je_fnB jc_len_seq rfl m_len PySem.boot_len (ja_c (jv 2) ja_nil)) ja_nil))))
    (jss_cons (js_if (jW.pt (jw_and (jt_val (je_ix jx_list (jv 1) je_int (fun _ _ => rfl))) (jw_and1 (jt_cmpR jo_eq (je_op jo_mod (jv 3) je_int) je_int (nomark _)))))
      (jss_one (js_set (i := 4) scBoundL.nd rfl (Or.inl rfl) (je_ca GN r1 rfl pass0 (ja_c (je_ix jx_list (jv 1) je_int (fun _ _ => rfl)) (ja_c (je_op jo_mod (je_op jo_fdiv (jv 3) je_int) (je_op jo_add (je_fnB jc_len_seq rfl m_len PySem.boot_len (ja_c (jv 2) ja_nil)) je_int)) ja_nil))))) jss_nil)
    (jss_cons (js_if (jt_cmpR jo_in_seq (jv 4) (jv 2) (by with_unfolding_all rfl))
      (jss_one (js_expr (je_ca GF r1 rfl pass0 (ja_c (jv 0) (ja_c (je_tup (ja_c je_str (ja_c (jv 4) ja_nil))) ja_nil))))) jss_nil)
    (jss_one (js_ret (jv 4)))))), ?_⟩
  have sl := line0
  suffices rest : ∀ z : Str, (wl = false -> z = nm st above.length) -> (tSeq _ _ : TS) _ [some (.ref x), some (.ref wo), some (.ref pa), some (.int nu), some (.str z)] H by
    refine ⟨_, rfl, wo, _, _, _, rfl, rfl, SqL.of hwo, rfl, _, rfl, pa, _, rfl, .inl (SqL.of ha), st, above.length, by rw [List.length_map]; rfl, hst, by omega, ?_⟩
    refine ⟨_, rfl, wo, _, _, _, rfl, rfl, SqL.of hwo, atI_nat (j := 3) rfl, wl, rfl, ite2 (fun cw => ?_) (fun _ => iteF (rest _ fun _ => rfl))⟩
    refine ⟨_, rfl, _, _, rfl, rfl, (by show (0 : Int) < _; decide), rfl, _, rfl, ite2 (fun _ => ?_) (fun _ => rest _ fun _ => rfl)⟩
    have j0 := Int.emod_nonneg (nu / 32) (show (((above.map V.str).length : Nat) : Int) + 1 ≠ 0 by omega)
    have j1 := Int.emod_lt_of_pos (nu / 32) (show (0 : Int) < (((above.map V.str).length : Nat) : Int) + 1 by omega)
    obtain ⟨m, em⟩ : ∃ m : Nat, nu / 32 % ((((above.map V.str).length : Nat) : Int) + 1) = (m : Int) := ⟨_, (Int.toNat_of_nonneg j0).symm⟩
    refine ⟨_, rfl, wo, _, _, _, rfl, rfl, SqL.of hwo, rfl, _, rfl, _, _, rfl, rfl, ⟨by decide, by decide⟩, _, rfl, pa, _, rfl, .inl (SqL.of ha), _, _, rfl, rfl, _, _, rfl, rfl, (by show (0 : Int) < (((above.map V.str).length : Nat) : Int) + 1; omega), st, m, ?_, hst, ?_, rest _ fun e => ?_⟩
    · show [V.str st, V.int (nu / 32 % ((((above.map V.str).length : Nat) : Int) + 1))] = _
      rw [em]
    · rw [em, List.length_map] at j1
      omega
    · rw [e] at cw
      cases cw
  intro z hz
  refine ⟨_, rfl, _, rfl, pa, _, rfl, .inl (SqL.of ha), rfl, flat_strs _, _, rfl, ?_⟩
  rw [show (if false = true then !inV (V.str z) (above.map V.str) else inV (V.str z) (above.map V.str)) = decide (z ∈ above) from in_strs]
  by_cases c : z ∈ above
  · refine iteT' (decide_eq_true c) ⟨_, rfl, _, rfl, by show 2 <= sizeLine; decide, fun t ht => ⟨x, t, pc, cells, i, w, o, some (.n (1, z)), rfl, hSt.same (same_new ht _), upd_same, fun H' k' hS' => ⟨_, rfl, q _ z ((Kp.of (same_new ht _)).trans k') ?_ hz⟩⟩⟩
    unfold twF
    rw [if_pos c]
    exact hS'
  · refine iteF' (decide_eq_false c) (nxt ⟨_, rfl, q _ z (Kp.refl _ _) ?_ hz⟩)
    unfold twF
    rw [if_neg c, Option.or_none]
    exact hSt
end
end KD
namespace KD
open PySem L2 K11
theorem prs_of {H : Hp} {l : List (Str × Int)} {ts : List Addr} (h : Tps H l ts) : Prs H (ents l) ts := by
  induction h with
  | nil => exact .nil
  | cons a _ ih => exact .cons a ih
theorem nd_map {α β : Type} {f : α -> β} (hf : ∀ a b, f a = f b -> a = b) : ∀ {l : List α}, l.Nodup -> (l.map f).Nodup
  | [], _ => List.nodup_nil
  | a :: l, h => by
    have h' := List.nodup_cons.mp h
    refine List.nodup_cons.mpr ⟨fun z => ?_, nd_map hf h'.2⟩
    obtain ⟨b, hb, e⟩ := List.mem_map.mp z
    rw [hf _ _ e] at hb
    exact h'.1 hb
theorem ents_nodup {l : List (Str × Int)} (h : (l.map (·.1)).Nodup) : ((ents l).map (·.1)).Nodup := by
  have e : (ents l).map (·.1) = (l.map (·.1)).map (Sum.inr (α := Int)) := by
    unfold ents
    rw [List.map_map, List.map_map]
    rfl
  rw [e]
  exact nd_map (fun _ _ z => Sum.inr.inj z) h
theorem cut_mid4 (xs : List Int) (m : Nat) (h : 4 + m <= xs.length) : cutV (xs.map V.int) (some 4) (some (4 + (m : Int))) = ((xs.drop 4).take m).map V.int := by
  unfold cutV
  have c1 : HT.sIx (xs.map V.int).length 0 (some 4) = min 4 (xs.map V.int).length := rfl
  have c2 : HT.sIx (xs.map V.int).length (xs.map V.int).length (some (4 + (m : Int))) = min (4 + m) (xs.map V.int).length := by
    show (if (4 + (m : Int)) < 0 then ((4 + (m : Int)) + ((xs.map V.int).length : Nat)).toNat else min (4 + (m : Int)).toNat (xs.map V.int).length) = _
    rw [if_neg (by omega)]
    congr 1
  have h4 : min 4 xs.length = 4 := by omega
  have hm : min (4 + m) xs.length = 4 + m := by omega
  rw [c1, c2, List.length_map, h4, hm, <- List.map_drop, <- List.map_take]
  congr 2
  omega
def deFo (ks : List (List (Str × Int))) (kp : List (Str × Int)) (above : List Str) (d : De) : Option Fo := (deF ks.flatten kp above d).map .n
theorem unkF_snoc {above ns : List Str} {n : Str} : ((unkF above ns).map Fo.n).or (usF above n) = (unkF above (ns ++ [n])).map Fo.n := by
  unfold unkF usF
  rw [List.find?_append]
  cases h : ns.find? (fun n => decide (n ∉ above)) with
  | some m => rfl
  | none =>
    rw [Option.none_or]
    by_cases c : n ∈ above
    · rw [if_pos c, List.find?_cons_of_neg (by simp [c])]
      rfl
    · rw [if_neg c, List.find?_cons_of_pos (by simp [c])]
      rfl
theorem unk_all {above ns : List Str} (h : ∀ n ∈ ns, n ∈ above) : unkF above ns = none := by
  unfold unkF
  rw [List.find?_eq_none.mpr (fun m hm => by simp [h m hm])]
  rfl
theorem look_at {l : List (Str × Int)} {k : Nat} {g : Str} {d : Int} (hn : (l.map (·.1)).Nodup) (h : l[k]? = some (g, d)) : l.lookup g = some d := by
  induction l generalizing k with
  | nil => simp at h
  | cons a l ih =>
    rw [List.map_cons] at hn
    have hn' := List.nodup_cons.mp hn
    match k, h with
    | 0, h =>
      cases h
      rw [List.lookup_cons, beq_self_eq_true]
    | k + 1, h =>
      have hm : (g, d) ∈ l := List.mem_of_getElem? (i := k) (by simpa using h)
      rw [List.lookup_cons, beq_eq_false_iff_ne.mpr (fun e => hn'.1 (by rw [<- e]; exact List.mem_map.mpr ⟨_, hm, rfl⟩))]
      exact ih hn'.2 (by simpa using h)
def spTarget : Sp := fun vs H Q _ => ∃ (x wo pa ps px pc : Addr) (cells : List Int) (i w : Nat) (o : Option Fo) (st : Str) (ks : List (List (Str × Int))) (kp : List (Str × Int)) (wl : Bool) (above : List Str) (l : List (Str × Int)) (ts : List Addr) (xs : List Int) (wd : Str), vs = [.ref x, .ref wo, .ref pa, .ref ps, .ref px, .str wd] /\ Sta H x pc cells i w o /\ Wo x H wo st ks kp wl /\ st.length <= 9 /\ H pa = some (.lst (above.map V.str)) /\ pa ≠ x /\ 0 < above.length /\ above.length <= 600 /\ H ps = some (.lst (ts.map V.ref)) /\ ps ≠ x /\ Tps H l ts /\ 0 < l.length /\ (l.map (·.1)).Nodup /\ (∀ a ∈ l, 0 <= a.2 /\ a.2 <= 9) /\ H px = some (.lst (xs.map V.int)) /\ px ≠ x /\ xs.length = 14 /\ (wd = "make" \/ wd = "call" \/ wd = "func") /\ l = (if wd = "make" then ks.flatten else kp) /\
  ∀ H' r g ns, Kp x H H' -> Sta H' x pc cells i w (o.or (deFo ks kp above (.app wd g ns))) -> IsDe H' (.app wd g ns) r -> ns.length <= 9 -> (wl = false -> deFo ks kp above (.app wd g ns) = none) -> Q (.ref r) H'
section
variable {P : Program} {w : World} {K : PySem.W.Frag} {mg : Str -> Option Value} {base : Heap} {f R C : Addr} {fd : FuncData}
theorem scTarget : FnScope ["_law_state", "_law_world_here", "_law_above", "_law_some", "_law_xs", "_law_word", "_law_goal", "_law_due", "_law_many", "_law_taking", "_law_there"] ["_law_state", "_law_world_here", "_law_above", "_law_some", "_law_xs", "_law_word"] (defScope sTarget) := ⟨rfl, rfl, rfl, by decide +kernel, rfl, by decide +kernel, by decide +kernel⟩
theorem ndTarget : (["_law_state", "_law_world_here", "_law_above", "_law_some", "_law_xs", "_law_word", "_law_goal", "_law_due", "_law_many", "_law_taking", "_law_there", "_law_number"] : List Str).Nodup := by decide +kernel
theorem ok_target (F : Fun K "_law_target" "_law_target" sTarget f fd) (GN : Ca P w K mg base CX0 1 "_law_name" ["_law_stem_here", "_law_k"] spNm) (GF : Ca P w K mg base CX0 1 "_law_fault" ["_law_state", "_law_due"] spFault) (GU : Ca P w K mg base CX0 2 "_law_used" ["_law_state", "_law_world_here", "_law_above", "_law_number"] spUsed) (m_len : mg "len" = none) (m_tuple : mg "tuple" = none) (m_dict : mg "dict" = none) : FnOk P w K mg base CX0 3 f fd ["_law_state", "_law_world_here", "_law_above", "_law_some", "_law_xs", "_law_word"] spTarget := by
  refine F.by scTarget (fun vs H Q E h => ?_) (fun cdv A outer s H vs Q E hr h => ?_)
  · obtain ⟨x, wo, pa, ps, px, pc, cells, i, w, o, st, ks, kp, wl, above, l, ts, xs, wd, rfl, _⟩ := h
    rfl
  obtain ⟨x, wo, pa, ps, px, pc, cells, i, w, o, st, ks, kp, wl, above, l, ts, xs, wd, rfl, hSt, hW, hst, ha, hax, la0, la, hps, hpx', hT, ll, hnd, hsz, hx, hxx, lx, hwd, hl, q⟩ := h
  have r1 : Room 1 _ := hr.mono (by decide)
  have r2 : Room 2 _ := hr.mono (by decide)
  obtain ⟨pk, pd, kps, dts, hwo, _⟩ := id hW
  refine ⟨_,
    (jss_cons (js_asg (je_ix jx_list (jv 3) (je_op jo_mod (je_ix jx_list (jv 4) je_int (fun _ _ => rfl)) (je_fnB jc_len_seq rfl m_len PySem.boot_len (ja_c (jv 3) ja_nil))) (fun _ _ => rfl)) (jg_tup rfl (jgs_cons (jg_name (i := 6) scTarget.nd rfl (Or.inl rfl)) (jgs_cons (jg_name (i := 7) scTarget.nd rfl (Or.inl rfl)) jgs_nil))))
    (jss_cons (js_set (i := 8) scTarget.nd rfl (Or.inl rfl) (jv 7))
    (jss_cons (js_if (jt_cmpR jo_eq (jv 5) je_str (nomark _)) 
      (jss_one (js_set (i := 8) scTarget.nd rfl (Or.inl rfl) (je_op jo_mod (je_ix jx_list (jv 4) je_int (fun _ _ => rfl)) (je_op jo_add (jv 7) je_int))))  jss_nil)
    (jss_cons (js_if (jW.pt (jw_and (jt_val (je_ix jx_list (jv 1) je_int (fun _ _ => rfl))) (jw_and1 (jt_cmpR jo_eq (je_op jo_mod (je_ix jx_list (jv 4) je_int (fun _ _ => rfl)) je_int) je_int (nomark _))))) 
      (jss_one (js_set (i := 8) scTarget.nd rfl (Or.inl rfl) (je_op jo_mod (je_ix jx_list (jv 4) je_int (fun _ _ => rfl)) je_int)))  jss_nil)
    (jss_cons (js_if (jW.pt (jw_and (jt_val (je_ix jx_list (jv 1) je_int (fun _ _ => rfl))) (jw_and1 (jt_cmpR jo_eq (je_op jo_mod (je_ix jx_list (jv 4) je_int (fun _ _ => rfl)) je_int) je_int (nomark _))))) 
      (jss_one (js_set (i := 6) scTarget.nd rfl (Or.inl rfl) (je_ca GN r1 rfl pass0 (ja_c (je_ix jx_list (jv 1) je_int (fun _ _ => rfl)) (ja_c (je_op jo_mod (je_op jo_fdiv (je_ix jx_list (jv 4) je_int (fun _ _ => rfl)) je_int) je_int) ja_nil)))))  jss_nil)
    (jss_cons (js_set (i := 9) scTarget.nd rfl (Or.inl rfl) (je_fnTy jc_tuple_of rfl m_tuple PyProof.Rows.boot_tuple (ja_c (je_comp ["_law_number"] rfl (ji_list (je_slice jl_list (jv 4) (jo_some je_int) (jo_some (je_op jo_add je_int (jv 8))))) (fun _ _ _ _ _ => (jg_name (i := 11) ndTarget rfl (Or.inl rfl))) (fun _ _ _ _ _ => jts_nil) (fun _ _ _ _ _ => (je_ca GU r2 rfl pass0 (ja_c (jv 0) (ja_c (jv 1) (ja_c (jv 2) (ja_c (jv 11) ja_nil))))))) ja_nil)))
    (jss_cons (js_set (i := 10) scTarget.nd rfl (Or.inl rfl) (je_fnTy (jc_dict_pairs rfl) rfl m_dict PyProof.Rows.boot_dict (ja_c (jv 3) ja_nil)))
    (jss_cons (js_if (jt_dnotin hr (jv 6) (jv 10)) 
      (jss_one (js_expr (je_ca GF r1 rfl pass0 (ja_c (jv 0) (ja_c (je_tup (ja_c je_str (ja_c (jv 6) ja_nil))) ja_nil))))) 
      (jss_one (js_if (jW.pt (jw_or (jt_cmpR jo_gt (jv 8) (je_dget hr (jv 10) (jv 6)) (nomark _)) (jw_or1 (jW.pt (jw_and (jt_cmpR jo_ne (jv 5) je_str (nomark _)) (jw_and1 (jt_cmpR jo_lt (jv 8) (je_dget hr (jv 10) (jv 6)) (nomark _)))))))) 
        (jss_one (js_expr (je_ca GF r1 rfl pass0 (ja_c (jv 0) (ja_c (je_tup (ja_c je_str (ja_c (jv 6) ja_nil))) ja_nil)))))  jss_nil)))
    (jss_one (js_ret (je_tup (ja_c (jv 5) (ja_c (jv 6) (ja_c (jv 9) ja_nil)))))))))))))), ?_⟩
  have sl := line0
  have lts := hT.len
  have atx : ∀ {j : Nat}, j < 14 -> ∃ v : Int, (xs.map V.int)[j]? = some (.int v) := fun {j} h => ⟨xs[j]'(by omega), by rw [List.getElem?_map, List.getElem?_eq_getElem (by omega)]; rfl⟩
  obtain ⟨x0, e0⟩ := atx (j := 0) (by decide)
  obtain ⟨x1, e1⟩ := atx (j := 1) (by decide)
  obtain ⟨x2, e2⟩ := atx (j := 2) (by decide)
  obtain ⟨x3, e3⟩ := atx (j := 3) (by decide)
  have i0 := Int.emod_nonneg x0 (show (((ts.map V.ref).length : Nat) : Int) ≠ 0 by rw [List.length_map]; omega)
  have i1 := Int.emod_lt_of_pos x0 (show (0 : Int) < (((ts.map V.ref).length : Nat) : Int) by rw [List.length_map]; omega)
  obtain ⟨k, ek⟩ : ∃ k : Nat, x0 % (((ts.map V.ref).length : Nat) : Int) = (k : Int) := ⟨_, (Int.toNat_of_nonneg i0).symm⟩
  have hk : k < ts.length := by
    rw [ek, List.length_map] at i1
    omega
  have hkt : ts[k]? = some ts[k] := List.getElem?_eq_getElem hk
  obtain ⟨g0, du, hgd, htp⟩ := hT.get hkt
  have hlk := look_at hnd hgd
  have hdu := hsz _ (List.mem_of_getElem? hgd)
  have d0 : 0 <= du := hdu.1
  have d9 : du <= 9 := hdu.2
  refine ⟨_, rfl, _, rfl, px, _, _, _, rfl, rfl, SqL.of hx, atI_nat (j := 0) e0, _, rfl, ps, _, rfl, .inl (SqL.of hps), _, _, rfl, rfl, (by rw [List.length_map]; show (0 : Int) < ((ts.length : Nat) : Int); omega), ps, _, _, _, rfl, rfl, SqL.of hps, (by rw [ek]; exact atI_nat (by rw [List.getElem?_map, hkt]; rfl)), _, _, rfl, SqT.of htp, rfl, _, _, rfl, _, _, rfl, rfl, ?_⟩
  refine ⟨_, rfl, ?_⟩
  have cond : ∀ m : Int, ((wd = "func" -> m <= du) /\ (wd ≠ "func" -> m = du)) -> (wl = false -> l.lookup g0 = some du /\ (if wd = "func" then m <= du else m = du)) := fun m h _ => ⟨hlk, by split; exact h.1 (by assumption); exact h.2 (by assumption)⟩
  suffices rest : ∀ (g : Str) (m : Int), 0 <= m -> m <= 9 -> (wl = false -> l.lookup g = some du /\ (if wd = "func" then m <= du else m = du)) -> (tSeq _ _ : TS) _ [some (.ref x), some (.ref wo), some (.ref pa), some (.ref ps), some (.ref px), some (.str wd), some (.str g), some (.int du), some (.int m), none, none] H by
    suffices rest1 : ∀ (m : Int), 0 <= m -> m <= 9 -> (wl = false -> l.lookup g0 = some du /\ (if wd = "func" then m <= du else m = du)) -> (tSeq _ _ : TS) _ [some (.ref x), some (.ref wo), some (.ref pa), some (.ref ps), some (.ref px), some (.str wd), some (.str g0), some (.int du), some (.int m), none, none] H by
      refine ⟨_, rfl, rfl, _, rfl, ?_⟩
      by_cases c : wd = "func"
      · have j0 := Int.emod_nonneg x1 (show du + 1 ≠ 0 by omega)
        have j1 := Int.emod_lt_of_pos x1 (show (0 : Int) < du + 1 by omega)
        exact iteT' (decide_eq_true (congrArg V.str c)) ⟨_, rfl, px, _, _, _, rfl, rfl, SqL.of hx, atI_nat (j := 1) e1, _, rfl, _, _, rfl, rfl, _, _, rfl, rfl, (by show (0 : Int) < du + 1; omega), rest1 _ j0 (by omega) (cond _ ⟨fun _ => by omega, fun n => absurd c n⟩)⟩
      · exact iteF' (decide_eq_false fun e => c (V.str.inj e)) (rest1 du d0 d9 (cond _ ⟨fun n => absurd n c, fun _ => rfl⟩))
    intro m m0 m9 hw
    suffices rest2 : ∀ (m : Int), 0 <= m -> m <= 9 -> (wl = false -> l.lookup g0 = some du /\ (if wd = "func" then m <= du else m = du)) -> (tSeq _ _ : TS) _ [some (.ref x), some (.ref wo), some (.ref pa), some (.ref ps), some (.ref px), some (.str wd), some (.str g0), some (.int du), some (.int m), none, none] H by
      refine ⟨_, rfl, wo, _, _, _, rfl, rfl, SqL.of hwo, atI_nat (j := 3) rfl, wl, rfl, ite2 (fun cw => ?_) (fun _ => iteF (rest2 m m0 m9 hw))⟩
      refine ⟨_, rfl, px, _, _, _, rfl, rfl, SqL.of hx, atI_nat (j := 2) e2, _, _, rfl, rfl, (by show (0 : Int) < _; decide), rfl, _, rfl, ite2 (fun _ => ?_) (fun _ => rest2 m m0 m9 hw)⟩
      have j0 := Int.emod_nonneg x1 (show (10 : Int) ≠ 0 by decide)
      have j1 := Int.emod_lt_of_pos x1 (show (0 : Int) < 10 by decide)
      exact ⟨_, rfl, px, _, _, _, rfl, rfl, SqL.of hx, atI_nat (j := 1) e1, _, _, rfl, rfl, (by show (0 : Int) < _; decide), rest2 _ j0 (by omega) (fun e => by rw [e] at cw; cases cw)⟩
    intro m m0 m9 hw
    refine ⟨_, rfl, wo, _, _, _, rfl, rfl, SqL.of hwo, atI_nat (j := 3) rfl, wl, rfl, ite2 (fun cw => ?_) (fun _ => iteF (rest g0 m m0 m9 hw))⟩
    refine ⟨_, rfl, px, _, _, _, rfl, rfl, SqL.of hx, atI_nat (j := 3) e3, _, _, rfl, rfl, (by show (0 : Int) < _; decide), rfl, _, rfl, ite2 (fun _ => ?_) (fun _ => rest g0 m m0 m9 hw)⟩
    have j0 := Int.emod_nonneg (x3 / 32) (show (50 : Int) ≠ 0 by decide)
    have j1 := Int.emod_lt_of_pos (x3 / 32) (show (0 : Int) < 50 by decide)
    obtain ⟨mm, em⟩ : ∃ mm : Nat, x3 / 32 % 50 = (mm : Int) := ⟨_, (Int.toNat_of_nonneg j0).symm⟩
    refine ⟨_, rfl, wo, _, _, _, rfl, rfl, SqL.of hwo, rfl, _, rfl, px, _, _, _, rfl, rfl, SqL.of hx, atI_nat (j := 3) e3, _, _, rfl, rfl, ⟨by decide, by decide⟩, _, _, rfl, rfl, (by show (0 : Int) < _; decide), st, mm, ?_, hst, ?_, rest _ m m0 m9 (fun e => by rw [e] at cw; cases cw)⟩
    · show [V.str st, V.int (x3 / 32 % 50)] = _
      rw [em]
    · omega
  intro g mi m0 m9 hw
  obtain ⟨m, rfl⟩ : ∃ m : Nat, mi = (m : Int) := ⟨mi.toNat, by omega⟩
  refine ⟨_, rfl, _, rfl, _, rfl, _, _, rfl, rfl, _, rfl, px, _, rfl, SqL.of hx, fun l1 hl1 => ?_⟩
  rw [cut_mid4 xs m (by omega)]
  obtain ⟨ms, ems⟩ : ∃ ms, ms = (xs.drop 4).take m := ⟨_, rfl⟩
  have lms : ms.length = m := by rw [ems, List.length_take, List.length_drop]; omega
  rw [<- ems]
  have s1 := same_new hl1 (.lst (ms.map V.int))
  have el1 := upd_same (H := H) (a := l1) (o := .lst (ms.map V.int))
  obtain ⟨hx0, hx0'⟩ := hSt.lst
  have n1 : l1 ≠ x := (ne_of_none hx0' hl1).symm
  have hSt1 := hSt.same s1
  have hx1 := hSt1.lst
  have hW1 := hW.kp (.of s1) hSt.lst
  have ha1 := s1 _ _ ha
  have hps1 := s1 _ _ hps
  have hT1 := hT.keep (.of s1)
  generalize upd H l1 (.lst (ms.map V.int)) = H1 at *
  refine ⟨l1, rfl, ⟨_, SqL.of el1⟩, lc_list (xs := ms.map V.int) (fun j τ ys H' => Kp x H1 H' /\ (∃ v, τ = [some (.ref x), some (.ref wo), some (.ref pa), some (.ref ps), some (.ref px), some (.str wd), some (.str g), some (.int du), some (.int (m : Nat)), none, none, v]) /\ ∃ ns : List Str, ys = ns.map V.str /\ ns.length = j /\ Sta H' x pc cells i w (o.or ((unkF above ns).map .n)) /\ (wl = false -> ∀ n ∈ ns, n ∈ above)) ⟨Kp.refl _ _, ⟨none, rfl⟩, [], rfl, rfl, by rw [show (unkF above []).map Fo.n = none from rfl, Option.or_none]; exact hSt1, fun _ n hn => by cases hn⟩ (fun j τ ys H' _ h => SqL.of (h.1 _ _ n1 el1)) ?_ ?_⟩
  · rintro j v τ ys H2 hv ⟨k2, ⟨u, rfl⟩, ns, rfl, lns, hS2, hin⟩
    rw [List.getElem?_map] at hv
    obtain ⟨nu, hnu, rfl⟩ := Option.map_eq_some_iff.mp hv
    have hj : j < ms.length := (List.getElem?_eq_some_iff.mp hnu).1
    refine ⟨_, rfl, _, rfl, _, rfl, _, rfl, x, wo, pa, pc, cells, i, w, _, st, ks, kp, wl, above, nu, rfl, hS2, hW1.kp k2 hx1, hst, k2 _ _ hax ha1, hax, la0, la, fun H3 n k3 hS3 hn => ⟨?_, k2.trans k3, ⟨_, rfl⟩, ns ++ [n], ?_, ?_, ?_, fun e n' hn' => ?_⟩⟩
    · rw [List.length_map]; omega
    · rw [List.map_append]; rfl
    · rw [List.length_append, lns]; rfl
    · rw [Option.or_assoc, unkF_snoc] at hS3
      exact hS3
    · rcases List.mem_append.mp hn' with h | h
      · exact hin e n' h
      · rw [List.mem_singleton.mp h]
        exact hn e
  rintro τ ys H2 ⟨k2, _, ns, rfl, lns, hS2, hin⟩ lr hlr
  rw [List.length_map, lms] at lns
  refine ⟨lr, _, rfl, .inl ⟨SqL.of upd_same, fun tt htt => ?_⟩⟩
  have m3 := (same_new hlr (.lst (ns.map V.str))).new (o := .tup (ns.map V.str)) htt
  have ett := upd_same (H := upd H2 lr (.lst (ns.map V.str))) (a := tt) (o := .tup (ns.map V.str))
  have k3 := k2.trans (Kp.of (x := x) m3)
  have hS3 := hS2.same m3
  dsimp only [List.set]
  generalize upd (upd H2 lr (.lst (ns.map V.str))) tt (.tup (ns.map V.str)) = H3 at *
  refine ⟨_, rfl, ps, ents l, ts, rfl, k3 _ _ hpx' hps1, prs_of (hT1.keep (k3.tups hx1)), ents_nodup hnd, fun d hd => ?_⟩
  have m4 := same_new hd (.dK (ents l))
  have hd4 := upd_same (H := H3) (a := d) (o := .dK (ents l))
  have hS4 := hS3.same m4
  have k4 := k3.trans (Kp.of (x := x) m4)
  have ett4 := m4 _ _ ett
  generalize upd H3 d (.dK (ents l)) = H4 at *
  have k04 : Kp x H H4 := (Kp.of s1).trans k4
  have hx4 := hS4.lst
  have dx : tt ≠ x := by obtain ⟨zs, hx4⟩ := hx4; exact ne_of ett4 hx4 (by intro z; cases z)
  have fin : ∀ (H9 : Hp) (r : Addr) (e : Option Fo), Kp x H4 H9 -> Sta H9 x pc cells i w ((o.or ((unkF above ns).map .n)).or e) -> ((unkF above ns).map Fo.n).or e = deFo ks kp above (.app wd g ns) -> H9 r = none -> Q (.ref r) (upd H9 r (.tup [.str wd, .str g, .ref tt])) := by
    intro H9 r e k9 hS9 he hr9
    have m9 := same_new hr9 (.tup [.str wd, .str g, .ref tt])
    rw [Option.or_assoc, he] at hS9
    refine q _ r g ns ((k04.trans k9).trans (.of m9)) (hS9.same m9) (.app hwd upd_same (m9 _ _ (k9 _ _ dx ett4))) (by omega) fun e' => ?_
    obtain ⟨h1, h2⟩ := hw e'
    unfold deFo
    have : deF ks.flatten kp above (.app wd g ns) = none := by
      show (match unkF above ns with | some f => some f | none => numF ks.flatten kp wd g ns.length) = none
      rw [unk_all (hin e')]
      show numF ks.flatten kp wd g ns.length = none
      unfold numF
      rw [<- hl, h1]
      dsimp only
      rw [if_pos]
      rw [lns]
      exact h2
    rw [this]
    rfl
  have nfe : deFo ks kp above (.app wd g ns) = ((unkF above ns).map Fo.n).or ((numF ks.flatten kp wd g m).map .n) := by
    unfold deFo
    have : deF ks.flatten kp above (.app wd g ns) = (match unkF above ns with | some f => some f | none => numF ks.flatten kp wd g m) := by rw [<- lns]; rfl
    rw [this]
    cases unkF above ns <;> rfl
  have dg := DGet.k (k := .inr g) hd4
  rw [ents_at] at dg
  have nf0 : numF ks.flatten kp wd g m = match l.lookup g with
    | none => some (2, g)
    | some k => if (if wd = "func" then ((m : Nat) : Int) <= k else ((m : Nat) : Int) = k) then none else some (3, g) := by
    unfold numF
    rw [<- hl]
    try (cases l.lookup g <;> rfl)
  -- a fault told, then the deed
  have bad : ∀ (f : Flt) (z : Str), numF ks.flatten kp wd g m = some f -> f.2 = g -> wdF f.1 = z -> ∀ t, H4 t = none -> Sta (upd H4 t (.tup [.str z, .str g])) x pc cells i w (o.or ((unkF above ns).map .n)) /\ TX x (upd H4 t (.tup [.str z, .str g])) t (some (.n f)) /\ ∀ H', Kp x (upd H4 t (.tup [.str z, .str g])) H' -> Sta H' x pc cells i w ((o.or ((unkF above ns).map .n)).or (some (.n f))) -> ∀ r, H' r = none -> Q (.ref r) (upd H' r (.tup [.str wd, .str g, .ref tt])) := by
    intro f z hf hg hz t ht
    have m5 := same_new ht (.tup [.str z, .str g])
    refine ⟨hS4.same m5, ?_, fun H' k' hS' r hr' => fin H' r _ ((Kp.of m5).trans k') hS' (by rw [nfe, hf]; rfl) hr'⟩
    show upd H4 t (.tup [.str z, .str g]) t = some (.tup [.str (wdF f.1), .str f.2])
    rw [upd_same, hg, hz]
  have good : numF ks.flatten kp wd g m = none -> ∀ r, H4 r = none -> Q (.ref r) (upd H4 r (.tup [.str wd, .str g, .ref tt])) := fun hn r hr' => fin H4 r none (Kp.refl _ _) (by rw [Option.or_none]; exact hS4) (by rw [nfe, hn]; rfl) hr'
  refine ⟨_, rfl, _, rfl, d, _, rfl, dg, _, rfl, ?_⟩
  cases hlg : l.lookup g with
  | none =>
    rw [hlg] at nf0
    exact iteT' rfl ⟨_, rfl, _, rfl, by show 2 <= sizeLine; decide, fun t ht => let ⟨b1, b2, b3⟩ := bad (2, g) _ (nf0) rfl rfl t ht; ⟨x, t, pc, cells, i, w, _, some (.n (2, g)), rfl, b1, b2, fun H' k' hS' => ⟨_, rfl, _, rfl, _, rfl, by show 3 <= sizeLine; decide, fun r hr' => b3 H' k' hS' r hr'⟩⟩⟩
  | some mm =>
    rw [hlg] at nf0 dg
    refine iteF' rfl ?_
    have nf' : numF ks.flatten kp wd g m = if (if wd = "func" then ((m : Nat) : Int) <= mm else ((m : Nat) : Int) = mm) then none else some (3, g) := nf0
    have gd : (if wd = "func" then ((m : Nat) : Int) <= mm else ((m : Nat) : Int) = mm) -> numF ks.flatten kp wd g m = none := fun h => by rw [nf', if_pos h]
    have bd : ¬ (if wd = "func" then ((m : Nat) : Int) <= mm else ((m : Nat) : Int) = mm) -> numF ks.flatten kp wd g m = some (3, g) := fun h => by rw [nf', if_neg h]
    refine ⟨_, rfl, _, rfl, _, rfl, d, _, rfl, dg, _, _, rfl, rfl, _, rfl, ite2 (fun h => ?_) (fun h => ?_)⟩
    · have h' : mm < ((m : Nat) : Int) := of_decide_eq_true h
      refine iteT ⟨_, rfl, _, rfl, by show 2 <= sizeLine; decide, fun t ht => let ⟨b1, b2, b3⟩ := bad (3, g) _ (bd (by split <;> omega)) rfl rfl t ht; ⟨x, t, pc, cells, i, w, _, some (.n (3, g)), rfl, b1, b2, fun H' k' hS' => ⟨_, rfl, _, rfl, _, rfl, by show 3 <= sizeLine; decide, fun r hr' => b3 H' k' hS' r hr'⟩⟩⟩
    · have h1 : ¬ mm < ((m : Nat) : Int) := fun e => h (decide_eq_true e)
      refine ⟨_, rfl, rfl, _, rfl, ?_⟩
      by_cases c : wd = "func"
      · exact iteF' (by rw [decide_eq_true (congrArg V.str c)]; rfl) (iteF (nxt ⟨_, rfl, _, rfl, _, rfl, by show 3 <= sizeLine; decide, fun r hr' => good (gd (by rw [if_pos c]; omega)) r hr'⟩))
      · refine iteT' (by rw [decide_eq_false fun e => c (V.str.inj e)]; rfl) ⟨_, rfl, _, rfl, _, rfl, d, _, rfl, dg, _, _, rfl, rfl, _, rfl, ite2 (fun h2 => ?_) (fun h2 => ?_)⟩
        · have h' : ((m : Nat) : Int) < mm := of_decide_eq_true h2
          exact ⟨_, rfl, _, rfl, by show 2 <= sizeLine; decide, fun t ht => let ⟨b1, b2, b3⟩ := bad (3, g) _ (bd (by rw [if_neg c]; omega)) rfl rfl t ht; ⟨x, t, pc, cells, i, w, _, some (.n (3, g)), rfl, b1, b2, fun H' k' hS' => ⟨_, rfl, _, rfl, _, rfl, by show 3 <= sizeLine; decide, fun r hr' => b3 H' k' hS' r hr'⟩⟩⟩
        · have h3 : ¬ ((m : Nat) : Int) < mm := fun e => h2 (decide_eq_true e)
          exact nxt ⟨_, rfl, _, rfl, _, rfl, by show 3 <= sizeLine; decide, fun r hr' => good (gd (by rw [if_neg c]; omega)) r hr'⟩
end
end KD
namespace KD
open PySem L2 K11
def spStream : Sp := fun vs H Q _ => ∃ (c : Int) (m : Nat), vs = [.int c, .int (m : Nat)] /\ m <= 100 /\ ∀ H' r (xs : List Int), Same H H' -> H' r = some (.lst (xs.map V.int)) -> xs.length = m -> (∀ v ∈ xs, 0 <= v /\ v < 4294967296) -> Q (.ref r) H'
theorem cut_drop1 (xs : List Int) : cutV (xs.map V.int) (some 1) none = (xs.drop 1).map V.int := by
  unfold cutV
  have c2 : HT.sIx (xs.map V.int).length (xs.map V.int).length none = (xs.map V.int).length := rfl
  have c1 : HT.sIx (xs.map V.int).length 0 (some 1) = min 1 (xs.map V.int).length := rfl
  rw [c1, c2, List.map_drop]
  cases xs with
  | nil => rfl
  | cons a l =>
    have : min 1 ((a :: l).map V.int).length = 1 := by simp
    rw [this, List.take_of_length_le (by rw [List.length_drop]; omega)]
theorem cut_take {α : Type} {f : α -> V} {s : List α} {m : Int} (h : 0 <= m) : cutV (s.map f) none (some m) = (s.take m.toNat).map f := by
  unfold cutV
  have c1 : HT.sIx (s.map f).length 0 none = 0 := rfl
  have c2 : HT.sIx (s.map f).length (s.map f).length (some m) = min m.toNat (s.map f).length := by
    show (if m < 0 then (m + ((s.map f).length : Nat)).toNat else min m.toNat (s.map f).length) = _
    rw [if_neg (by omega)]
  rw [c1, c2, List.drop_zero, Nat.sub_zero, List.map_take]
  by_cases z : m.toNat <= (s.map f).length
  · rw [Nat.min_eq_left z]
  · rw [Nat.min_eq_right (by omega), List.take_of_length_le (Nat.le_refl _), List.take_of_length_le (by omega)]
def De.wd : De -> Nat
  | .num _ => 4
  | .op _ _ _ => 5
  | .ask _ ns => 5 + ns.length
  | .app _ _ ns => 5 + ns.length
theorem De.ar_wd (d : De) : d.ar + 4 <= d.wd := by cases d <;> simp only [De.ar, De.wd] <;> omega
def spWords : Sp := fun vs H Q _ => ∃ (p : Addr) (d : De), vs = [.ref p] /\ IsDe H d p /\ Q (.int (d.wd : Nat)) H
def spLDeed : Sp := fun vs H Q _ => ∃ (x wo pa px pc : Addr) (cells : List Int) (i w : Nat) (o : Option Fo) (st : Str) (ks : List (List (Str × Int))) (kp : List (Str × Int)) (wl : Bool) (above : List Str) (xs : List Int) (wy : Nat), vs = [.ref x, .ref wo, .ref pa, .ref px, .int (wy : Nat)] /\ Sta H x pc cells i w o /\ Wo x H wo st ks kp wl /\ WOk st ks kp /\ H pa = some (.lst (above.map V.str)) /\ pa ≠ x /\ above.length <= 600 /\ H px = some (.lst (xs.map V.int)) /\ px ≠ x /\ xs.length = 14 /\ (∀ v ∈ xs, 0 <= v /\ v < 4294967296) /\ wy <= 5 /\
  ∀ H' r d, Kp x H H' -> Sta H' x pc cells i w (o.or (deFo ks kp above d)) -> IsDe H' d r -> d.wd <= 14 -> (wl = false -> deFo ks kp above d = none) -> Q (.ref r) H'
theorem us_unk {above : List Str} {n : Str} : usF above n = (unkF above [n]).map Fo.n := by
  have := unkF_snoc (above := above) (ns := []) (n := n)
  rw [show (unkF above []).map Fo.n = none from rfl, Option.none_or] at this
  exact this
theorem unk_cons {above ns : List Str} {n : Str} : ((unkF above [n]).map Fo.n).or ((unkF above ns).map Fo.n) = (unkF above (n :: ns)).map Fo.n := by
  unfold unkF
  by_cases c : n ∈ above
  · rw [List.find?_cons_of_neg (by simp [c]), List.find?_cons_of_neg (by simp [c])]
    rfl
  · rw [List.find?_cons_of_pos (by simp [c]), List.find?_cons_of_pos (by simp [c])]
    rfl
section
variable {P : Program} {w : World} {K : PySem.W.Frag} {mg : Str -> Option Value} {base : Heap} {f R C : Addr} {fd : FuncData}
theorem scStream : FnScope ["_law_cell", "_law_many", "_law_found", "_law_number", "_law_k"] ["_law_cell", "_law_many"] (defScope sStream) := ⟨rfl, rfl, rfl, by decide +kernel, rfl, by decide +kernel, by decide +kernel⟩
theorem ok_stream (F : Fun K "_law_stream" "_law_stream" sStream f fd) (m_range : mg "range" = none) : FnOk P w K mg base CX0 1 f fd ["_law_cell", "_law_many"] spStream := by
  refine F.by scStream (fun vs H Q E h => ?_) (fun cdv A outer s H vs Q E hr h => ?_)
  · obtain ⟨c, m, rfl, _⟩ := h
    rfl
  obtain ⟨c, m, rfl, hm, q⟩ := h
  refine ⟨_,
    (jss_cons (js_set (i := 2) scStream.nd rfl (Or.inl rfl) (je_lst ja_nil))
    (jss_cons (js_set (i := 3) scStream.nd rfl (Or.inl rfl) (je_op jo_add (je_op jo_mod (jv 0) je_int) je_int))
    (jss_cons (js_for PassesOwn.never rfl (ji_range1 rfl m_range (ja_c (je_op jo_add (jv 1) je_int) ja_nil)) (jg_name (i := 4) scStream.nd rfl (Or.inl rfl))
      (jss_cons (js_set (i := 3) scStream.nd rfl (Or.inl rfl) (je_op jo_mod (je_op jo_add (je_op jo_add (je_op jo_mul (jv 3) (jv 3)) (je_op jo_mul je_int (jv 3))) (jv 4)) je_int))
      (jss_one (js_expr (je_bm PySem.F.plainAttrs_list PySem.F.slot_list_append PySem.F.type_list_append jm_append (jv 2) (ja_c (jv 3) ja_nil))))))
    (jss_one (js_ret (je_slice jl_list (jv 2) (jo_some je_int) jo_none)))))), ?_⟩
  have sl := line0
  refine ⟨by show 0 <= sizeLine; decide, fun l hl => ?_⟩
  have s1 := same_new hl (.lst [])
  have b0 := Int.emod_nonneg c (show (2147483647 : Int) ≠ 0 by decide)
  have b1 := Int.emod_lt_of_pos c (show (0 : Int) < 2147483647 by decide)
  refine ⟨_, rfl, _, _, rfl, rfl, (by show (0 : Int) < _; decide), _, _, rfl, rfl, ?_⟩
  refine ⟨_, rfl, _, _, rfl, rfl, _, rfl, by show -(2 ^ 62) <= (m : Int) + 1; omega, by show (m : Int) + 1 < 2 ^ 62; omega, for_range (fun i σ H' => Same H H' /\ ∃ (xs : List Int) (n : Int) (x : Option V), σ = [some (.int c), some (.int (m : Nat)), some (.ref l), some (.int n), x] /\ H' l = some (.lst (xs.map V.int)) /\ xs.length = i /\ 0 <= n /\ n < 4294967296 /\ ∀ v ∈ xs, 0 <= v /\ v < 4294967296) ⟨s1, [], _, none, rfl, upd_same, rfl, by show (0 : Int) <= c % 2147483647 + 48271; omega, by show c % 2147483647 + 48271 < 4294967296; omega, fun v hv => by cases hv⟩ ?_ ?_⟩
  · rintro i σ H1 hi ⟨s2, xs, n, x, rfl, hx, hlen, n0, n1, hb⟩
    replace hi : i < m + 1 := by have : (((m : Nat) : Int) + 1).toNat = m + 1 := by omega
                                 rw [<- this]; exact hi
    refine ⟨_, rfl, _, rfl, _, _, rfl, rfl, .inl ⟨by omega, by omega⟩, _, rfl, _, _, rfl, rfl, .inl ⟨by decide, by decide⟩, _, _, rfl, rfl, _, rfl, _, _, rfl, rfl, _, _, rfl, rfl, (by show (0 : Int) < _; decide), ?_⟩
    have c0 := Int.emod_nonneg (n * n + 48271 * n + (0 + (i : Int))) (show (2147483647 : Int) ≠ 0 by decide)
    have c1 := Int.emod_lt_of_pos (n * n + 48271 * n + (0 + (i : Int))) (show (0 : Int) < 2147483647 by decide)
    refine ⟨_, rfl, .inl ⟨rfl, _, SqL.of hx⟩, _, rfl, l, _, _, rfl, rfl, hx, by rw [List.length_map]; omega, s2.put hl, xs ++ [(n * n + 48271 * n + (0 + (i : Int))) % 2147483647], _, _, rfl, ?_, ?_, c0, by omega, fun v hv => ?_⟩
    · rw [upd_same, List.map_append]
      rfl
    · rw [List.length_append, hlen]
      rfl
    · rcases List.mem_append.mp hv with h | h
      · exact hb v h
      · rw [List.mem_singleton.mp h]
        exact ⟨c0, by omega⟩
  · rintro σ H1 ⟨s2, xs, n, x, rfl, hx, hlen, n0, n1, hb⟩
    refine ⟨_, rfl, _, rfl, l, _, rfl, SqL.of hx, fun p hp => ?_⟩
    rw [cut_drop1]
    refine q _ p _ (s2.new hp) upd_same ?_ fun v hv => hb v (List.mem_of_mem_drop hv)
    rw [List.length_drop, hlen]
    omega
theorem scWords : FnScope ["_law_deed_here"] ["_law_deed_here"] (defScope sWords) := ⟨rfl, rfl, rfl, by decide +kernel, rfl, by decide +kernel, by decide +kernel⟩
theorem ok_words (F : Fun K "_law_words" "_law_words" sWords f fd) (m_len : mg "len" = none) : FnOk P w K mg base CX0 1 f fd ["_law_deed_here"] spWords := by
  refine F.by scWords (fun vs H Q E h => ?_) (fun cdv A outer s H vs Q E hr h => ?_)
  · obtain ⟨p, d, rfl, _⟩ := h
    rfl
  obtain ⟨p, d, rfl, hd, q⟩ := h
  refine ⟨_,
    (jss_cons (js_if (jt_cmpR jo_eq (je_ix jx_tup (jv 0) je_int (fun _ _ => rfl)) je_str (nomark _)) 
      (jss_one (js_ret je_int))  jss_nil)
    (jss_cons (js_if (jt_cmpR jo_eq (je_ix jx_tup (jv 0) je_int (fun _ _ => rfl)) je_str (nomark _)) 
      (jss_one (js_ret je_int))  jss_nil)
    (jss_one (js_ret (je_op jo_add je_int (je_fnB jc_len_seq rfl m_len PySem.boot_len (ja_c (je_ix jx_tup (jv 0) je_int (fun _ _ => rfl)) ja_nil))))))), ?_⟩
  cases hd with
  | num h => exact ⟨_, rfl, p, _, _, _, rfl, rfl, SqT.of h, rfl, rfl, _, rfl, iteT' (by decide +kernel) q⟩
  | op h =>
    refine ⟨_, rfl, p, _, _, _, rfl, rfl, SqT.of h, rfl, rfl, _, rfl, iteF' (by decide +kernel) ?_⟩
    exact ⟨_, rfl, p, _, _, _, rfl, rfl, SqT.of h, rfl, rfl, _, rfl, iteT' (by decide +kernel) q⟩
  | @ask g ns p pq h hq =>
    refine ⟨_, rfl, p, _, _, _, rfl, rfl, SqT.of h, rfl, rfl, _, rfl, iteF' (by decide +kernel) ?_⟩
    refine ⟨_, rfl, p, _, _, _, rfl, rfl, SqT.of h, rfl, rfl, _, rfl, iteF' (by decide +kernel) ?_⟩
    refine ⟨_, rfl, p, _, _, _, rfl, rfl, SqT.of h, atI_nat (j := 2) rfl, pq, _, rfl, .inr (SqT.of hq), _, _, rfl, rfl, ?_⟩
    have e : (5 : Int) + (((ns.map V.str).length : Nat) : Int) = (((De.ask g ns).wd : Nat) : Int) := by rw [List.length_map]; show (5 : Int) + _ = ((5 + ns.length : Nat) : Int); omega
    dsimp only
    rw [e]
    exact q
  | @app z t ns p pq hw h hq =>
    have n1 : z ≠ "op" /\ z ≠ "ask" /\ z ≠ "num" := by rcases hw with rfl | rfl | rfl <;> decide +kernel
    refine ⟨_, rfl, p, _, _, _, rfl, rfl, SqT.of h, rfl, rfl, _, rfl, iteF' (decide_eq_false fun e => n1.2.2 (V.str.inj e)) ?_⟩
    refine ⟨_, rfl, p, _, _, _, rfl, rfl, SqT.of h, rfl, rfl, _, rfl, iteF' (decide_eq_false fun e => n1.1 (V.str.inj e)) ?_⟩
    refine ⟨_, rfl, p, _, _, _, rfl, rfl, SqT.of h, atI_nat (j := 2) rfl, pq, _, rfl, .inr (SqT.of hq), _, _, rfl, rfl, ?_⟩
    have e : (5 : Int) + (((ns.map V.str).length : Nat) : Int) = (((De.app z t ns).wd : Nat) : Int) := by rw [List.length_map]; show (5 : Int) + _ = ((5 + ns.length : Nat) : Int); omega
    dsimp only
    rw [e]
    exact q
theorem scLDeed : FnScope ["_law_state", "_law_world_here", "_law_above", "_law_xs", "_law_way", "_law_word", "_law_one", "_law_g", "_law_some", "_law_kind"] ["_law_state", "_law_world_here", "_law_above", "_law_xs", "_law_way"] (defScope sLDeed) := ⟨rfl, rfl, rfl, by decide +kernel, rfl, by decide +kernel, by decide +kernel⟩
theorem ndLDeed : (["_law_state", "_law_world_here", "_law_above", "_law_xs", "_law_way", "_law_word", "_law_one", "_law_g", "_law_some", "_law_kind", "_law_number"] : List Str).Nodup := by decide +kernel
theorem ok_ldeed (F : Fun K "_law_deed" "_law_deed" sLDeed f fd) (GU : Ca P w K mg base CX0 2 "_law_used" ["_law_state", "_law_world_here", "_law_above", "_law_number"] spUsed) (GT : Ca P w K mg base CX0 3 "_law_target" ["_law_state", "_law_world_here", "_law_above", "_law_some", "_law_xs", "_law_word"] spTarget) (m_tuple : mg "tuple" = none) : FnOk P w K mg base CX0 4 f fd ["_law_state", "_law_world_here", "_law_above", "_law_xs", "_law_way"] spLDeed := by
  refine F.by scLDeed (fun vs H Q E h => ?_) (fun cdv A outer s H vs Q E hr h => ?_)
  · obtain ⟨x, wo, pa, px, pc, cells, i, w, o, st, ks, kp, wl, above, xs, wy, rfl, _⟩ := h
    rfl
  obtain ⟨x, wo, pa, px, pc, cells, i, w, o, st, ks, kp, wl, above, xs, wy, rfl, hSt, hW, hOk, ha, hax, la, hx, hxx, lx, hxb, hwy, q⟩ := h
  have r2 : Room 2 _ := hr.mono (by decide)
  refine ⟨_,
    (jss_cons (js_if (jW.pt (jw_or (jt_cmpR jo_eq (jv 4) je_int (nomark _)) (jw_or1 (jt_cmpR (jo_eqE hr) (jv 2) (je_lst ja_nil) (nomark _))))) 
      (jss_one (js_ret (je_tup (ja_c je_str (ja_c (je_op jo_sub (je_op jo_mul (je_ix jx_list (jv 3) je_int (fun _ _ => rfl)) (je_ix jx_list (jv 3) je_int (fun _ _ => rfl))) (je_op jo_pow je_int je_int)) ja_nil)))))  jss_nil)
    (jss_cons (js_if (jt_cmpR jo_eq (jv 4) je_int (nomark _)) 
      (jss_cons (js_set (i := 5) scLDeed.nd rfl (Or.inl rfl) (je_ix jx_list (je_lst (ja_c je_str (ja_c je_str (ja_c je_str (ja_c je_str (ja_c je_str (ja_c je_str (ja_c je_str ja_nil)))))))) (je_op jo_mod (je_ix jx_list (jv 3) je_int (fun _ _ => rfl)) je_int) (fun _ _ => rfl)))
      (jss_cons (js_set (i := 6) scLDeed.nd rfl (Or.inl rfl) (je_ca GU r2 rfl pass0 (ja_c (jv 0) (ja_c (jv 1) (ja_c (jv 2) (ja_c (je_ix jx_list (jv 3) je_int (fun _ _ => rfl)) ja_nil))))))
      (jss_one (js_ret (je_tup (ja_c je_str (ja_c (jv 5) (ja_c (jv 6) (ja_c (je_ca GU r2 rfl pass0 (ja_c (jv 0) (ja_c (jv 1) (ja_c (jv 2) (ja_c (je_ix jx_list (jv 3) je_int (fun _ _ => rfl)) ja_nil))))) ja_nil)))))))))  jss_nil)
    (jss_cons (js_if (jt_cmpR jo_eq (jv 4) je_int (nomark _)) 
      (jss_cons (js_set (i := 7) scLDeed.nd rfl (Or.inl rfl) (je_ca GU r2 rfl pass0 (ja_c (jv 0) (ja_c (jv 1) (ja_c (jv 2) (ja_c (je_ix jx_list (jv 3) je_int (fun _ _ => rfl)) ja_nil))))))
      (jss_one (js_ret (je_tup (ja_c je_str (ja_c (jv 7) (ja_c (je_fnTy jc_tuple_of rfl m_tuple PyProof.Rows.boot_tuple (ja_c (je_comp ["_law_number"] rfl (ji_list (je_slice jl_list (jv 3) (jo_some je_int) (jo_some (je_op jo_add je_int (je_op jo_mod (je_ix jx_list (jv 3) je_int (fun _ _ => rfl)) je_int))))) (fun _ _ _ _ _ => (jg_name (i := 10) ndLDeed rfl (Or.inl rfl))) (fun _ _ _ _ _ => jts_nil) (fun _ _ _ _ _ => (je_ca GU r2 rfl pass0 (ja_c (jv 0) (ja_c (jv 1) (ja_c (jv 2) (ja_c (jv 10) ja_nil))))))) ja_nil)) ja_nil)))))))  jss_nil)
    (jss_cons (js_set (i := 8) scLDeed.nd rfl (Or.inl rfl) (je_ix jx_list (jv 1) je_int (fun _ _ => rfl)))
    (jss_cons (js_if (jt_cmpR jo_eq (jv 4) je_int (nomark _)) 
      (jss_cons (js_set (i := 8) scLDeed.nd rfl (Or.inl rfl) (je_lst ja_nil))
      (jss_one (js_for PassesOwn.never rfl (ji_list (je_ix jx_list (jv 1) je_int (fun _ _ => rfl))) (jg_name (i := 9) scLDeed.nd rfl (Or.inl rfl))
        (jss_one (js_expr (je_bm PySem.F.plainAttrs_list PySem.F.slot_list_extend PySem.F.type_list_extend jm_extend (jv 8) (ja_c (jv 9) ja_nil)))))))  jss_nil)
    (jss_one (js_ret (je_ca GT hr rfl pass0 (ja_c (jv 0) (ja_c (jv 1) (ja_c (jv 2) (ja_c (jv 8) (ja_c (jv 3) (ja_c (je_ix jx_list (je_lst (ja_c je_str (ja_c je_str (ja_c je_str ja_nil)))) (je_op jo_sub (jv 4) je_int) (fun _ _ => rfl)) ja_nil)))))))))))))), ?_⟩
  have sl := line0
  obtain ⟨pk, pd, kps, dts, hwo, hpk, hK, hpd, hTd, w1, w2, w3, w4⟩ := id hW
  have hx0 := hSt.lst
  have atx : ∀ {j : Nat}, j < 14 -> ∃ v : Int, (xs.map V.int)[j]? = some (.int v) /\ 0 <= v /\ v < 4294967296 := fun {j} h => ⟨xs[j]'(by omega), by rw [List.getElem?_map, List.getElem?_eq_getElem (by omega)]; rfl, hxb _ (List.getElem_mem _)⟩
  obtain ⟨x0, e0, x00, x01⟩ := atx (j := 0) (by decide)
  obtain ⟨x1, e1, x10, x11⟩ := atx (j := 1) (by decide)
  obtain ⟨x2, e2, _, _⟩ := atx (j := 2) (by decide)
  -- a number
  have num : ∀ (H' : Hp) (r : Addr), Same H H' -> H' r = none -> Q (.ref r) (upd H' r (.tup [.str "num", .int (x0 * x1 - 2 ^ 60)])) := fun H' r s' hr' => q _ r (.num (x0 * x1 - 2 ^ 60)) (.of (s'.new hr')) (by rw [show deFo ks kp above (.num (x0 * x1 - 2 ^ 60)) = none from rfl, Option.or_none]; exact hSt.same (s'.new hr')) (.num upd_same) (by show 4 <= 14; decide) (fun _ => rfl)
  refine ⟨_, rfl, rfl, _, rfl, ?_⟩
  by_cases c0 : wy = 0
  · refine iteT' (by rw [c0]; rfl) (iteT ⟨_, rfl, px, _, _, _, rfl, rfl, SqL.of hx, atI_nat (j := 0) e0, _, rfl, px, _, _, _, rfl, rfl, SqL.of hx, atI_nat (j := 1) e1, _, _, rfl, rfl, .inl ⟨by omega, by omega⟩, _, _, rfl, rfl, ⟨by decide, by decide, by decide⟩, _, _, rfl, rfl, by show 2 <= sizeLine; decide, fun r hr' => num H r (Same.refl _) hr'⟩)
  refine iteF' (decide_eq_false fun e => c0 (by have := V.int.inj e; omega)) ⟨_, rfl, by show 0 <= sizeLine; decide, fun pe he => ⟨pa, pe, _, rfl, rfl, SqL.of (old he ha), SqL.of upd_same, _, rfl, ?_⟩⟩
  have s1 := same_new he (.lst [])
  by_cases ca : above = []
  · refine iteT' (by rw [ca]; rfl) ⟨_, rfl, px, _, _, _, rfl, rfl, SqL.of (s1 _ _ hx), atI_nat (j := 0) e0, _, rfl, px, _, _, _, rfl, rfl, SqL.of (s1 _ _ hx), atI_nat (j := 1) e1, _, _, rfl, rfl, .inl ⟨by omega, by omega⟩, _, _, rfl, rfl, ⟨by decide, by decide, by decide⟩, _, _, rfl, rfl, by show 2 <= sizeLine; decide, fun r hr' => num _ r s1 hr'⟩
  have la0 : 0 < above.length := List.length_pos_iff.mpr ca
  refine iteF' (by cases above with | nil => exact absurd rfl ca | cons a b => rfl) ?_
  have hSt1 := hSt.same s1
  have hW1 := hW.kp (.of s1) hx0
  have ha1 := s1 _ _ ha
  have hx1 := s1 _ _ hx
  have hx01 := hSt1.lst
  have hwo1 := s1 _ _ hwo
  have hpk1 := s1 _ _ hpk
  have hpd1 := s1 _ _ hpd
  have hK1 := hK.keep s1
  have hTd1 := hTd.keep (.of s1)
  have Q1 : ∀ H' r d, Kp x (upd H pe (.lst [])) H' -> Sta H' x pc cells i w (o.or (deFo ks kp above d)) -> IsDe H' d r -> d.wd <= 14 -> (wl = false -> deFo ks kp above d = none) -> Q (.ref r) H' := fun H' r d k' => q H' r d ((Kp.of s1).trans k')
  generalize upd H pe (.lst []) = H1 at *
  refine ⟨_, rfl, rfl, _, rfl, ?_⟩
  by_cases c1 : wy = 1
  · have b0 := Int.emod_nonneg x0 (show (7 : Int) ≠ 0 by decide)
    have b1 := Int.emod_lt_of_pos x0 (show (0 : Int) < 7 by decide)
    refine iteT' (by rw [c1]; rfl) ⟨by show 7 <= sizeLine; decide, fun l7 hl7 => ?_⟩
    have s2 := same_new hl7 (.lst ([("plus" : Str), "minus", "times", "over", "rest", "less", "same"].map V.str))
    obtain ⟨z, _, hz⟩ := at_str (zs := [("plus" : Str), "minus", "times", "over", "rest", "less", "same"]) (k := x0 % 7) b0 b1
    have hSt2 := hSt1.same s2
    have hW2 := hW1.kp (.of s2) hx01
    have k12 : Kp x H1 _ := Kp.of s2
    refine ⟨_, rfl, px, _, _, _, rfl, rfl, SqL.of (s2 _ _ hx1), atI_nat (j := 0) e0, _, _, rfl, rfl, (by show (0 : Int) < _; decide), l7, _, _, _, rfl, rfl, SqL.of upd_same, hz, ?_⟩
    show (tSeq _ _ : TS) _ _ (upd H1 l7 (.lst ([("plus" : Str), "minus", "times", "over", "rest", "less", "same"].map V.str)))
    have ha2 := s2 _ _ ha1
    have hx2 := s2 _ _ hx1
    generalize upd H1 l7 (.lst ([("plus" : Str), "minus", "times", "over", "rest", "less", "same"].map V.str)) = H2 at *
    have hx02 := hSt2.lst
    refine ⟨_, rfl, _, rfl, _, rfl, _, rfl, px, _, _, _, rfl, rfl, SqL.of hx2, atI_nat (j := 1) e1, x, wo, pa, pc, cells, i, w, o, st, ks, kp, wl, above, x1, rfl, hSt2, hW2, hOk.sl, ha2, hax, la0, la, fun H3 n1 k3 hS3 hn1 => ?_⟩
    refine ⟨_, rfl, _, rfl, _, rfl, _, rfl, _, rfl, _, rfl, px, _, _, _, rfl, rfl, SqL.of (k3 _ _ hxx hx2), atI_nat (j := 2) e2, x, wo, pa, pc, cells, i, w, _, st, ks, kp, wl, above, x2, rfl, hS3, hW2.kp k3 hx02, hOk.sl, k3 _ _ hax ha2, hax, la0, la, fun H4 n2 k4 hS4 hn2 => ⟨by show 4 <= sizeLine; decide, fun r hr' => ?_⟩⟩
    have m5 := same_new hr' (.tup [.str "op", .str z, .str n1, .str n2])
    have ed : deFo ks kp above (.op z n1 n2) = (usF above n1).or (usF above n2) := by
      rw [us_unk (n := n1), unkF_snoc]
      rfl
    rw [Option.or_assoc, <- ed] at hS4
    refine Q1 _ r (.op z n1 n2) (((k12.trans k3).trans k4).trans (.of m5)) (hS4.same m5) (.op upd_same) (by show 5 <= 14; decide) fun e => ?_
    rw [ed]
    unfold usF
    rw [if_pos (hn1 e), if_pos (hn2 e)]
    rfl
  refine iteF' (decide_eq_false fun e => c1 (by have := V.int.inj e; omega)) ?_
  refine ⟨_, rfl, rfl, _, rfl, ?_⟩
  by_cases c5 : wy = 5
  · have b0 := Int.emod_nonneg x1 (show (10 : Int) ≠ 0 by decide)
    have b1 := Int.emod_lt_of_pos x1 (show (0 : Int) < 10 by decide)
    obtain ⟨m, em⟩ : ∃ m : Nat, x1 % 10 = (m : Int) := ⟨_, (Int.toNat_of_nonneg b0).symm⟩
    have m9 : m <= 9 := by omega
    refine iteT' (by rw [c5]; rfl) ⟨_, rfl, _, rfl, _, rfl, _, rfl, px, _, _, _, rfl, rfl, SqL.of hx1, atI_nat (j := 0) e0, x, wo, pa, pc, cells, i, w, o, st, ks, kp, wl, above, x0, rfl, hSt1, hW1, hOk.sl, ha1, hax, la0, la, fun H2 g k2 hS2 hg => ?_⟩
    have hx2 := k2 _ _ hxx hx1
    have ha2 := k2 _ _ hax ha1
    have hW2 := hW1.kp k2 hx01
    have hx02 := hS2.lst
    refine ⟨_, rfl, _, rfl, _, rfl, _, rfl, px, _, _, _, rfl, rfl, SqL.of hx2, atI_nat (j := 1) e1, _, _, rfl, rfl, (by show (0 : Int) < _; decide), _, _, rfl, rfl, _, rfl, px, _, rfl, SqL.of hx2, fun l1 hl1 => ?_⟩
    dsimp only
    rw [em, cut_mid4 xs m (by omega)]
    obtain ⟨ms, ems⟩ : ∃ ms, ms = (xs.drop 4).take m := ⟨_, rfl⟩
    have lms : ms.length = m := by rw [ems, List.length_take, List.length_drop]; omega
    rw [<- ems]
    have s3 := same_new hl1 (.lst (ms.map V.int))
    have el1 := upd_same (H := H2) (a := l1) (o := .lst (ms.map V.int))
    obtain ⟨zs0, hz0⟩ := id hx02
    have n1 : l1 ≠ x := (ne_of_none hz0 hl1).symm
    have hS3 := hS2.same s3
    have hx03 := hS3.lst
    have hW3 := hW2.kp (.of s3) hx02
    have ha3 := s3 _ _ ha2
    have k03 := k2.trans (Kp.of (x := x) s3)
    generalize upd H2 l1 (.lst (ms.map V.int)) = H3 at *
    refine ⟨l1, rfl, ⟨_, SqL.of el1⟩, lc_list (xs := ms.map V.int) (fun j τ ys H' => Kp x H3 H' /\ (∃ v, τ = [some (.ref x), some (.ref wo), some (.ref pa), some (.ref px), some (.int (wy : Nat)), none, none, some (.str g), none, none, v]) /\ ∃ ns : List Str, ys = ns.map V.str /\ ns.length = j /\ Sta H' x pc cells i w ((o.or (usF above g)).or ((unkF above ns).map .n)) /\ (wl = false -> ∀ n ∈ ns, n ∈ above)) ⟨Kp.refl _ _, ⟨none, rfl⟩, [], rfl, rfl, by rw [show (unkF above []).map Fo.n = none from rfl, Option.or_none]; exact hS3, fun _ n hn => by cases hn⟩ (fun j τ ys H' _ h => SqL.of (h.1 _ _ n1 el1)) ?_ ?_⟩
    · rintro j v τ ys H4 hv ⟨k4, ⟨u, rfl⟩, ns, rfl, lns, hS4, hin⟩
      rw [List.getElem?_map] at hv
      obtain ⟨nu, hnu, rfl⟩ := Option.map_eq_some_iff.mp hv
      have hj : j < ms.length := (List.getElem?_eq_some_iff.mp hnu).1
      refine ⟨_, rfl, _, rfl, _, rfl, _, rfl, x, wo, pa, pc, cells, i, w, _, st, ks, kp, wl, above, nu, rfl, hS4, hW3.kp k4 hx03, hOk.sl, k4 _ _ hax ha3, hax, la0, la, fun H5 n k5 hS5 hn => ⟨?_, k4.trans k5, ⟨_, rfl⟩, ns ++ [n], ?_, ?_, ?_, fun e n' hn' => ?_⟩⟩
      · rw [List.length_map]; omega
      · rw [List.map_append]; rfl
      · rw [List.length_append, lns]; rfl
      · rw [Option.or_assoc, unkF_snoc] at hS5
        exact hS5
      · rcases List.mem_append.mp hn' with h | h
        · exact hin e n' h
        · rw [List.mem_singleton.mp h]
          exact hn e
    rintro τ ys H4 ⟨k4, _, ns, rfl, lns, hS4, hin⟩ lr hlr
    rw [List.length_map, lms] at lns
    refine ⟨lr, _, rfl, .inl ⟨SqL.of upd_same, fun tt htt => ⟨by show 3 <= sizeLine; decide, fun r hr' => ?_⟩⟩⟩
    have m5 := ((same_new hlr (.lst (ns.map V.str))).new (o := .tup (ns.map V.str)) htt).new (o := .tup [.str "ask", .str g, .ref tt]) hr'
    have ed : deFo ks kp above (.ask g ns) = (usF above g).or ((unkF above ns).map .n) := by
      rw [us_unk, unk_cons]
      rfl
    rw [Option.or_assoc, <- ed] at hS4
    refine Q1 _ r (.ask g ns) ((k03.trans k4).trans (.of m5)) (hS4.same m5) (.ask upd_same (old hr' upd_same)) (by show 5 + ns.length <= 14; omega) fun e => ?_
    rw [ed, unk_all (hin e)]
    unfold usF
    rw [if_pos (hg e)]
    rfl
  refine iteF' (decide_eq_false fun e => c5 (by have := V.int.inj e; omega)) ?_
  refine ⟨_, rfl, wo, _, _, _, rfl, rfl, SqL.of hwo1, atI_nat (j := 2) rfl, ?_⟩
  -- the target's call
  have call : ∀ (H2 : Hp) (ps : Addr) (l : List (Str × Int)) (ts : List Addr) (wd : Str) (y9 : Option V), Same H1 H2 -> H2 ps = some (.lst (ts.map V.ref)) -> ps ≠ x -> Tps H2 l ts -> 0 < l.length -> (l.map (·.1)).Nodup -> (∀ a ∈ l, 0 <= a.2 /\ a.2 <= 9) -> l = (if wd = "make" then ks.flatten else kp) -> (wd = "make" \/ wd = "call" \/ wd = "func") -> spTarget [.ref x, .ref wo, .ref pa, .ref ps, .ref px, .str wd] H2 Q E0 := by
    intro H2 ps l ts wd y9 s2 h1 h2 h3 h4 h5 h6 h7 h8
    refine ⟨x, wo, pa, ps, px, pc, cells, i, w, o, st, ks, kp, wl, above, l, ts, xs, wd, rfl, hSt1.same s2, hW1.kp (.of s2) hx01, hOk.sl, s2 _ _ ha1, hax, la0, la, h1, h2, h3, h4, h5, h6, s2 _ _ hx1, hxx, lx, h8, h7, fun H' r g ns k' hS' hI l9 hw => Q1 H' r (.app wd g ns) ((Kp.of s2).trans k') hS' hI (by show 5 + ns.length <= 14; omega) hw⟩
  refine ⟨_, rfl, rfl, _, rfl, ?_⟩
  by_cases c2 : wy = 2
  · refine iteT' (by rw [c2]; rfl) ⟨by show 0 <= sizeLine; decide, fun sm hsm => ?_⟩
    have s2 := same_new hsm (.lst [])
    refine ⟨_, rfl, wo, _, _, _, rfl, rfl, SqL.of (s2 _ _ hwo1), atI_nat (j := 1) rfl, _, rfl, ⟨_, SqL.of (s2 _ _ hpk1)⟩, for_list (xs := kps.map V.ref) (fun j σ H' => Same H1 H' /\ (∃ ts : List Addr, H' sm = some (.lst (ts.map V.ref)) /\ Tps H' (ks.take j).flatten ts) /\ ∃ y9, σ = [some (.ref x), some (.ref wo), some (.ref pa), some (.ref px), some (.int (wy : Nat)), none, none, none, some (.ref sm), y9]) ⟨s2, ⟨[], upd_same, .nil⟩, none, rfl⟩ (fun j σ H' _ h => SqL.of (h.1 _ _ hpk1)) ?_ ?_⟩
    · rintro j v σ H2 hv ⟨s3, ⟨ts, e3, hT3⟩, y9, rfl⟩
      rw [List.getElem?_map] at hv
      obtain ⟨pq, hpq, rfl⟩ := Option.map_eq_some_iff.mp hv
      obtain ⟨k, hk, ts', hts, hTp⟩ := hK1.get hpq
      have hfl := fl_len hk
      have lt1 := hT3.len
      have lt2 := hTp.len
      refine ⟨_, rfl, .inl ⟨rfl, _, SqL.of e3⟩, _, rfl, sm, pq, _, _, rfl, rfl, e3, s3 _ _ hts, ?_, s3.put hsm, ⟨ts ++ ts', ?_, ?_⟩, _, rfl⟩
      · have : ks.flatten.length <= 72 := by
          have := hOk.k1
          have hh : ∀ (l : List (List (Str × Int))), (∀ k ∈ l, k.length <= 18) -> l.flatten.length <= 18 * l.length := by
            intro l
            induction l with
            | nil => intro _; exact Nat.zero_le _
            | cons a l ih =>
              intro h
              rw [List.flatten_cons, List.length_append, List.length_cons]
              have := ih fun k hk => h k (List.mem_cons_of_mem _ hk)
              have := h a List.mem_cons_self
              omega
          have := hh ks fun k hk => (hOk.ne k hk).2
          omega
        rw [List.length_map, List.length_map]
        omega
      · rw [upd_same, List.map_append]
      · have tu : Tups H2 (upd H2 sm (.lst (ts.map V.ref ++ ts'.map V.ref))) := fun z zs hz => by
          rw [upd_ne (ne_of hz e3 (by intro e; cases e))]
          exact hz
        rw [fl_take hk]
        exact (hT3.keep tu).app ((hTp.keep (.of s3)).keep tu)
    · rintro σ H2 ⟨s3, ⟨ts, e3, hT3⟩, y9, rfl⟩
      rw [List.length_map, <- hK1.len, List.take_of_length_le (Nat.le_refl _)] at hT3
      have nsm : sm ≠ x := by
        obtain ⟨zs0, hz0⟩ := id hx01
        exact (ne_of_none hz0 hsm).symm
      refine ⟨_, rfl, _, rfl, _, rfl, _, rfl, _, rfl, by show 3 <= sizeLine; decide, fun l3 hl3 => ⟨_, rfl, _, _, rfl, rfl, l3, _, _, _, rfl, rfl, SqL.of upd_same, (by rw [c2]; exact atI_nat (j := 0) (v := .str "make") rfl), ?_⟩⟩
      have s4 := s3.new (o := .lst [V.str "make", V.str "call", V.str "func"]) hl3
      exact call _ sm ks.flatten ts "make" none s4 (old hl3 e3) nsm (hT3.keep (.of (same_new hl3 _))) (by
        have h0 := hOk.k0
        cases ks with
        | nil => exact absurd h0 (by decide)
        | cons a r =>
          rw [List.flatten_cons, List.length_append]
          have := (hOk.ne a List.mem_cons_self).1
          omega) hOk.nd hOk.sz rfl (.inl rfl)
  · have wy34 : wy = 3 \/ wy = 4 := by omega
    obtain ⟨wd, hwd, hat, hwm⟩ : ∃ wd : Str, (wd = "make" \/ wd = "call" \/ wd = "func") /\ atI [V.str "make", V.str "call", V.str "func"] (((wy : Nat) : Int) - 2) = some (.str wd) /\ wd ≠ "make" := by
      rcases wy34 with e | e
      · exact ⟨"call", .inr (.inl rfl), by rw [e]; exact atI_nat (j := 1) (v := V.str "call") rfl, by decide +kernel⟩
      · exact ⟨"func", .inr (.inr rfl), by rw [e]; exact atI_nat (j := 2) (v := V.str "func") rfl, by decide +kernel⟩
    refine iteF' (decide_eq_false fun e => c2 (by have := V.int.inj e; omega)) (nxt ⟨_, rfl, _, rfl, _, rfl, _, rfl, _, rfl, by show 3 <= sizeLine; decide, fun l3 hl3 => ⟨_, rfl, _, _, rfl, rfl, l3, _, _, _, rfl, rfl, SqL.of upd_same, hat, ?_⟩⟩)
    have s4 := same_new (H := H1) hl3 (.lst [V.str "make", V.str "call", V.str "func"])
    exact call _ pd kp dts wd none s4 (s4 _ _ hpd1) w3 (hTd1.keep (.of s4)) hOk.p0 hOk.pn hOk.pz (by rw [if_neg hwm]) hwd
end
end KD
namespace KD
open PySem PySem.Spec PyProof.Rows L2 K11
def rNeP : R2 := fun x y H Q => ∃ (a b : Addr) (k k' : List (Str × Int)) (ts us : List Addr), x = .ref a /\ y = .ref b /\ H a = some (.lst (ts.map V.ref)) /\ Tps H k ts /\ H b = some (.lst (us.map V.ref)) /\ Tps H k' us /\ Q (.bl (!decide (k = k'))) H
section
variable {X : Cx} {pins : List (Addr × Obj)} {σ : L2.St} {H : Hp} {s : Shared}
theorem pair_eq {A : Around} (hu : A.units < cLine) (I : Inv X pins σ H s) {p q : Addr} {a a' : Str} {n n' : Int} (hp : H p = some (.tup [.str a, .int n])) (hq : H q = some (.tup [.str a', .int n'])) : SeqAt.EqAt A s (.ref p) (.ref q) (decide ((a, n) = (a', n'))) := by
  by_cases c : p = q
  · subst c
    rw [hp] at hq
    cases hq
    rw [decide_eq_true rfl]
    exact .same _
  · refine .of_refs c ?_
    obtain ⟨i1, v1, m1, _⟩ := I.tuple (SqT.of hp)
    obtain ⟨i2, v2, m2, _⟩ := I.tuple (SqT.of hq)
    obtain ⟨u1, u2, rfl⟩ : ∃ a b, i1 = [a, b] := by
      have := v1.length
      match i1, this with
      | [a, b], _ => exact ⟨a, b, rfl⟩
    obtain ⟨w1, w2, rfl⟩ : ∃ a b, i2 = [a, b] := by
      have := v2.length
      match i2, this with
      | [a, b], _ => exact ⟨a, b, rfl⟩
    cases v1 with
    | cons r1 r2 =>
      cases r2 with
      | cons r2 _ =>
        cases v2 with
        | cons r3 r4 =>
          cases r4 with
          | cons r4 _ =>
            obtain ⟨t1, rfl⟩ := r1
            obtain ⟨t2, rfl⟩ := r2
            obtain ⟨t3, rfl⟩ := r3
            obtain ⟨t4, rfl⟩ := r4
            have main := SeqAt.RcAt.tuples (A := A) (s := s) (e := fun j => if j = 0 then a == a' else n == n') m1 m2 hu (fun j h1 h2 => by
              match j, h1, h2 with
              | 0, _, _ => exact .str_str _ _ _ _
              | 1, _, _ => exact .int_int _ _ _ _
              | j + 2, h1, _ => exact absurd h1 (by show ¬ j + 2 < 2; omega))
            have e : ((List.range (min [Value.str a t1, Value.int n t2].toArray.size [Value.str a' t3, Value.int n' t4].toArray.size)).all (fun j => if j = 0 then a == a' else n == n') && [Value.str a t1, Value.int n t2].toArray.size == [Value.str a' t3, Value.int n' t4].toArray.size) = decide ((a, n) = (a', n')) := by
              show ((a == a') && ((n == n') && true) && true) = _
              rw [Bool.and_true, Bool.and_true, Bool.eq_iff_iff]
              simp
            rw [e] at main
            exact main
theorem op_neP (hu : X.A.units + 64 < cLine) : OpR X (compareOp .NotEq) rNeP := by
  intro pins s σ H x y v u Q I rx ry h
  obtain ⟨a, b, k, k', ts, us, rfl, rfl, ha, hk, hb, hk', q⟩ := h
  cases rx
  cases ry
  obtain ⟨i1, v1, m1, _⟩ := I.list (SqL.of ha)
  obtain ⟨i2, v2, m2, _⟩ := I.list (SqL.of hb)
  have n1 := v1.length
  have n2 := v2.length
  rw [List.length_map] at n1 n2
  have l1 := hk.len
  have l2 := hk'.len
  by_cases c : ts.length = us.length
  · have main := SeqAt.RcNeAt.lists (A := X.A) (s := s) (e := fun j => decide (k[j]? = k'[j]?)) m1.isList m2.isList (by simp; omega) (by omega) (fun j h1 h2 => by
      simp at h1 h2
      have e1 : ts[j]? = some ts[j] := List.getElem?_eq_getElem (by omega)
      have e2 : us[j]? = some us[j] := List.getElem?_eq_getElem (by omega)
      obtain ⟨s1, z1, f1, g1⟩ := hk.get e1
      obtain ⟨s2, z2, f2, g2⟩ := hk'.get e2
      obtain ⟨u1, o1, p1⟩ := v1.get (i := j) (x := .ref ts[j]) (by rw [List.getElem?_map, e1]; rfl)
      obtain ⟨u2, o2, p2⟩ := v2.get (i := j) (x := .ref us[j]) (by rw [List.getElem?_map, e2]; rfl)
      cases p1
      cases p2
      have w1 : i1.toArray[j]'(by simp; omega) = .ref ts[j] := by
        have := List.getElem?_eq_some_iff.mp o1
        simpa using this.2
      have w2 : i2.toArray[j]'(by simp; omega) = .ref us[j] := by
        have := List.getElem?_eq_some_iff.mp o2
        simpa using this.2
      rw [w1, w2, f1, f2]
      have := pair_eq (A := X.A.in1) (by show X.A.units + 1 < cLine; omega) I g1 g2
      have e : decide ((s1, z1) = (s2, z2)) = decide (some (s1, z1) = some (s2, z2)) := by
        by_cases c : (s1, z1) = (s2, z2)
        · rw [decide_eq_true c, decide_eq_true (congrArg some c)]
        · rw [decide_eq_false c, decide_eq_false (fun z => c (Option.some.inj z))]
      rw [e] at this
      exact this)
    have e : (List.range i1.toArray.size).all (fun j => decide (k[j]? = k'[j]?)) = decide (k = k') := by
      rw [Bool.eq_iff_iff, List.all_eq_true, decide_eq_true_eq]
      constructor
      · intro h
        apply List.ext_getElem?
        intro j
        by_cases cj : j < i1.toArray.size
        · exact of_decide_eq_true (h j (List.mem_range.mpr cj))
        · simp at cj
          rw [List.getElem?_eq_none (by omega), List.getElem?_eq_none (by omega)]
      · intro e j _
        rw [e]
        exact decide_eq_true rfl
    rw [e] at main
    exact main _ _ _ _ ⟨.bl (!decide (k = k')), H, I, rfl, q⟩
  · have main := SeqAt.RcNeAt.lists_lengths (A := X.A) (s := s) m1.isList m2.isList (by simp; omega) (by omega)
    have e : (!decide (k = k')) = true := by
      rw [decide_eq_false]
      · rfl
      · intro e
        rw [e] at l1
        omega
    rw [e] at q
    exact main _ _ _ _ ⟨.bl true, H, I, rfl, q⟩
theorem jo_neP {k : Nat} (hr : Room k X.A) : jOp X (compareOp .NotEq) rNeP := ⟨op_neP hr.units⟩
end
end KD
namespace KD
open PySem L2 K11
def nums : Nat -> List (List (Str × Int)) -> List (Str × Nat × Int)
  | _, [] => []
  | i, k :: r => (k.map fun a => (a.1, i, a.2)) ++ nums (i + 1) r
theorem look_app {α : Type} {a b : List (Str × α)} {t : Str} : (a ++ b).lookup t = (a.lookup t).or (b.lookup t) := by
  induction a with
  | nil => rfl
  | cons x a ih =>
    rw [List.cons_append, List.lookup_cons, List.lookup_cons]
    cases t == x.1 with
    | true => rfl
    | false => exact ih
theorem look_none {α : Type} {l : List (Str × α)} {t : Str} : l.lookup t = none ↔ t ∉ l.map (·.1) := by
  induction l with
  | nil => simp
  | cons a l ih =>
    rw [List.lookup_cons, List.map_cons, List.mem_cons]
    by_cases h : t = a.1
    · simp [h]
    · rw [beq_eq_false_iff_ne.mpr h]
      simp [h, ih]
theorem look_num {k : List (Str × Int)} {t : Str} {i : Nat} : (k.map fun a => (a.1, i, a.2)).lookup t = (k.lookup t).map fun s => (i, s) := by
  induction k with
  | nil => rfl
  | cons a k ih =>
    rw [List.map_cons, List.lookup_cons, List.lookup_cons]
    cases t == a.1 with
    | true => rfl
    | false => exact ih
theorem nums_some {t : Str} {n : Nat} {s : Int} : ∀ {ks : List (List (Str × Int))} {i : Nat}, (nums i ks).lookup t = some (n, s) -> ∃ k, i <= n /\ ks[n - i]? = some k /\ t ∈ k.map (·.1) /\ ks.flatten.lookup t = some s /\ kinF t ks = k.map (·.1)
  | [], i, h => by cases h
  | k :: r, i, h => by
    rw [nums, look_app, look_num] at h
    by_cases c : t ∈ k.map (·.1)
    · obtain ⟨s', e⟩ : ∃ s', k.lookup t = some s' := by
        cases e : k.lookup t with
        | none => exact absurd c (look_none.mp e)
        | some s' => exact ⟨s', rfl⟩
      rw [e] at h
      have h' : some (i, s') = some (n, s) := h
      cases h'
      refine ⟨k, Nat.le_refl _, by rw [Nat.sub_self]; rfl, c, ?_, ?_⟩
      · rw [List.flatten_cons, look_app, e]
        rfl
      · rw [kinF, if_pos c]
    · rw [look_none.mpr c] at h
      have h' : (nums (i + 1) r).lookup t = some (n, s) := h
      obtain ⟨k', h1, h2, h3, h4, h5⟩ := nums_some h'
      refine ⟨k', by omega, ?_, h3, ?_, ?_⟩
      · rw [show n - i = (n - (i + 1)) + 1 by omega]
        exact h2
      · rw [List.flatten_cons, look_app, look_none.mpr c]
        exact h4
      · rw [kinF, if_neg c]
        exact h5
theorem nums_none {t : Str} : ∀ {ks : List (List (Str × Int))} {i : Nat}, (nums i ks).lookup t = none -> ks.flatten.lookup t = none
  | [], i, _ => rfl
  | k :: r, i, h => by
    rw [nums, look_app, look_num] at h
    cases e : k.lookup t with
    | some s => rw [e] at h; cases h
    | none =>
      rw [e] at h
      rw [List.flatten_cons, look_app, e]
      exact nums_none (i := i + 1) h
theorem nums_snoc {k : List (Str × Int)} : ∀ {l : List (List (Str × Int))} {j : Nat}, nums j (l ++ [k]) = nums j l ++ k.map fun a => (a.1, j + l.length, a.2)
  | [], j => by
    show (k.map fun a => (a.1, j, a.2)) ++ [] = _
    rw [List.append_nil]
    rfl
  | x :: l, j => by
    rw [List.cons_append, nums, nums, nums_snoc, List.append_assoc, List.length_cons, show j + 1 + l.length = j + (l.length + 1) by omega]
theorem nums_names {i : Nat} : ∀ {ks : List (List (Str × Int))}, (nums i ks).map (·.1) = tagsOf ks := by
  intro ks
  induction ks generalizing i with
  | nil => rfl
  | cons k r ih =>
    rw [nums, List.map_append, ih]
    unfold tagsOf
    rw [List.flatten_cons, List.map_append, List.map_map]
    rfl
theorem one_kind {t : Str} : ∀ {ks : List (List (Str × Int))}, (tagsOf ks).Nodup -> ∀ {a b : Nat} {ka kb : List (Str × Int)}, ks[a]? = some ka -> ks[b]? = some kb -> t ∈ ka.map (·.1) -> t ∈ kb.map (·.1) -> a = b
  | [], _, a, _, _, _, h, _, _, _ => by simp at h
  | k :: r, hn, a, b, ka, kb, h1, h2, m1, m2 => by
    have hn' : (k.map (·.1) ++ tagsOf r).Nodup := by
      have : tagsOf (k :: r) = k.map (·.1) ++ tagsOf r := by unfold tagsOf; rw [List.flatten_cons, List.map_append]
      rw [<- this]
      exact hn
    rw [List.nodup_append] at hn'
    have inr : ∀ {c : Nat} {kc : List (Str × Int)}, r[c]? = some kc -> t ∈ kc.map (·.1) -> t ∈ tagsOf r := fun {c kc} h m => by
      obtain ⟨x, hx, e⟩ := List.mem_map.mp m
      exact List.mem_map.mpr ⟨x, List.mem_flatten.mpr ⟨kc, List.mem_of_getElem? h, hx⟩, e⟩
    match a, b, h1, h2 with
    | 0, 0, _, _ => rfl
    | 0, b + 1, h1, h2 =>
      cases h1
      exact absurd rfl (hn'.2.2 t m1 t (inr h2 m2))
    | a + 1, 0, h1, h2 =>
      cases h2
      exact absurd rfl (hn'.2.2 t m2 t (inr h1 m1))
    | a + 1, b + 1, h1, h2 => rw [one_kind hn'.2.1 (a := a) (b := b) h1 h2 m1 m2]
theorem kin_num {ks : List (List (Str × Int))} (hn : (tagsOf ks).Nodup) {t t0 : Str} {n n0 : Nat} {s s0 : Int} (h : (nums 0 ks).lookup t = some (n, s)) (h0 : (nums 0 ks).lookup t0 = some (n0, s0)) : t ∈ kinF t0 ks ↔ n = n0 := by
  obtain ⟨k, _, g1, g2, _, g4⟩ := nums_some h
  obtain ⟨k0, _, f1, f2, _, f4⟩ := nums_some h0
  rw [f4]
  rw [Nat.sub_zero] at g1 f1
  constructor
  · intro m
    exact one_kind hn g1 f1 g2 m
  · intro e
    rw [e, f1] at g1
    cases g1
    exact g2
inductive KinD (H : Hp) (kps : List Addr) : List (Str × Nat × Int) -> List (Key × V) -> Prop
  | nil : KinD H kps [] []
  | cons {a : Str} {n : Nat} {s : Int} {t : Addr} {l : List (Str × Nat × Int)} {kvs : List (Key × V)} {p : Addr} : kps[n]? = Option.some p -> H t = some (.tup [.ref p, .int s]) -> KinD H kps l kvs -> KinD H kps ((a, n, s) :: l) ((.inr a, .ref t) :: kvs)
theorem KinD.keep {H H' : Hp} (t : Tups H H') {l : List (Str × Nat × Int)} {kvs : List (Key × V)} {kps : List Addr} (h : KinD H kps l kvs) : KinD H' kps l kvs := by
  induction h with
  | nil => exact .nil
  | cons b a _ ih => exact .cons b (t _ _ a) ih
theorem KinD.snoc {H : Hp} {kps : List Addr} {l : List (Str × Nat × Int)} {kvs : List (Key × V)} (h : KinD H kps l kvs) {a : Str} {n : Nat} {s : Int} {t p : Addr} (b : kps[n]? = Option.some p) (g : H t = some (.tup [.ref p, .int s])) : KinD H kps (l ++ [(a, n, s)]) (kvs ++ [(.inr a, .ref t)]) := by
  induction h with
  | nil => exact .cons b g .nil
  | cons y x _ ih => exact .cons y x ih
theorem KinD.len {H : Hp} {kps : List Addr} {l : List (Str × Nat × Int)} {kvs : List (Key × V)} (h : KinD H kps l kvs) : l.length = kvs.length := by
  induction h with
  | nil => rfl
  | cons _ _ _ ih => rw [List.length_cons, List.length_cons, ih]
theorem KinD.none {H : Hp} {kps : List Addr} {l : List (Str × Nat × Int)} {kvs : List (Key × V)} (h : KinD H kps l kvs) {t : Str} (e : l.lookup t = none) : valV kvs (.inr t) = none := by
  induction h with
  | nil => rfl
  | @cons a n s t' l kvs p _ _ _ ih =>
    rw [List.lookup_cons] at e
    by_cases c : t = a
    · rw [c, beq_self_eq_true] at e
      cases e
    · rw [beq_eq_false_iff_ne.mpr c] at e
      rw [valV_neg (fun z => c (Sum.inr.inj z).symm)]
      exact ih e
theorem KinD.some {H : Hp} {kps : List Addr} {l : List (Str × Nat × Int)} {kvs : List (Key × V)} (h : KinD H kps l kvs) {t : Str} {n : Nat} {s : Int} (e : l.lookup t = Option.some (n, s)) : ∃ p q, valV kvs (.inr t) = Option.some (.ref p) /\ kps[n]? = Option.some q /\ H p = Option.some (.tup [.ref q, .int s]) := by
  induction h with
  | nil => cases e
  | @cons a n' s' t' l kvs p b g _ ih =>
    rw [List.lookup_cons] at e
    by_cases c : t = a
    · rw [c, beq_self_eq_true] at e
      cases e
      exact ⟨t', p, by rw [c, valV_pos rfl], b, g⟩
    · rw [beq_eq_false_iff_ne.mpr c] at e
      obtain ⟨q, q', e1, e2, e3⟩ := ih e
      exact ⟨q, q', by rw [valV_neg (fun z => c (Sum.inr.inj z).symm)]; exact e1, e2, e3⟩
abbrev Hd := Str × List Str
def HeadP (H : Hp) (a : Hd) (p : Addr) : Prop := ∃ q, H p = some (.tup [.str a.1, .ref q]) /\ H q = some (.tup (a.2.map V.str))
theorem HeadP.keep {H H' : Hp} (t : Tups H H') {a : Hd} {p : Addr} (h : HeadP H a p) : HeadP H' a p := let ⟨q, x, y⟩ := h; ⟨q, t _ _ x, t _ _ y⟩
def HeadsL (H : Hp) (l : List Hd) (ts : List Addr) : Prop := l.length = ts.length /\ ∀ (i : Nat) a p, l[i]? = some a -> ts[i]? = some p -> HeadP H a p
theorem HeadsL.keep {H H' : Hp} (t : Tups H H') {l : List Hd} {ts : List Addr} (h : HeadsL H l ts) : HeadsL H' l ts := ⟨h.1, fun i a p h1 h2 => (h.2 i a p h1 h2).keep t⟩
def hsOf (l : List Hd) : List (Str × List Str × Bd) := l.map fun a => (a.1, a.2, .give a.1)
def TN (H0 H : Hp) (r : Addr) (o : Option Fo) : Prop := ∀ x, H0 x ≠ none -> TX x H r o
def spHeadsDue : Sp := fun vs H Q _ => ∃ (ph pb pk : Addr) (y : Str) (hs : List Hd) (ts : List Addr) (above : List Str) (ks : List (List (Str × Int))) (kps : List Addr), vs = [.ref ph, .str y, .ref pb, .ref pk] /\ H ph = some (.lst (ts.map V.ref)) /\ HeadsL H hs ts /\ 0 < hs.length /\ hs.length <= 20 /\ (∀ a ∈ hs, a.2.length <= 9) /\ H pb = some (.lst (above.map V.str)) /\ H pk = some (.lst (kps.map V.ref)) /\ Kds H ks kps /\ (tagsOf ks).Nodup /\ (∀ k ∈ ks, k ≠ []) /\ ks.length <= 10 /\ ks.flatten.length <= 1000 /\
  ∀ H' r, Same H H' -> TN H H' r (csF ks y (hsOf hs) above) -> Q (.ref r) H'
section
variable {P : Program} {w : World} {K : PySem.W.Frag} {mg : Str -> Option Value} {base : Heap} {f R C : Addr} {fd : FuncData}
theorem scHeads : FnScope ["_law_heads_here", "_law_x", "_law_above", "_law_kinds", "_law_kin", "_law_kind", "_law_tag", "_law_size", "_law_seen", "_law_names", "_law_k", "_law_lost"] ["_law_heads_here", "_law_x", "_law_above", "_law_kinds"] (defScope sHeadsDue) := ⟨rfl, rfl, rfl, by decide +kernel, rfl, by decide +kernel, by decide +kernel⟩
theorem ok_headsdue (F : Fun K "_law_heads_due" "_law_heads_due" sHeadsDue f fd) (m_len : mg "len" = none) (m_range : mg "range" = none) : FnOk P w K mg base CX0 1 f fd ["_law_heads_here", "_law_x", "_law_above", "_law_kinds"] spHeadsDue := by
  refine F.by scHeads (fun vs H Q E h => ?_) (fun cdv A outer s H vs Q E hr h => ?_)
  · obtain ⟨ph, pb, pk, y, hs, ts, above, ks, kps, rfl, _⟩ := h
    rfl
  obtain ⟨ph, pb, pk, y, hs, ts, above, ks, kps, rfl, hph, hA, la0, la, l9, hb, hk, hK, hnd, hne, lks, lfl, q⟩ := h
  refine ⟨_,
    (jss_cons (js_set (i := 4) scHeads.nd rfl (Or.inl rfl) je_dnewK)
    (jss_cons (js_for PassesOwn.never rfl (ji_list (jv 3)) (jg_name (i := 5) scHeads.nd rfl (Or.inl rfl))
      (jss_one (js_for PassesOwn.never rfl (ji_list (jv 5)) (jg_tup rfl (jgs_cons (jg_name (i := 6) scHeads.nd rfl (Or.inl rfl)) (jgs_cons (jg_name (i := 7) scHeads.nd rfl (Or.inl rfl)) jgs_nil)))
        (jss_one (js_dput hr (jv 4) (jv 6) (je_tup (ja_c (jv 5) (ja_c (jv 7) ja_nil))))))))
    (jss_cons (js_set (i := 8) scHeads.nd rfl (Or.inr rfl) (je_lst ja_nil))
    (jss_cons (js_for PassesOwn.never rfl (ji_list (jv 0)) (jg_tup rfl (jgs_cons (jg_name (i := 6) scHeads.nd rfl (Or.inl rfl)) (jgs_cons (jg_name (i := 9) scHeads.nd rfl (Or.inl rfl)) jgs_nil)))
      (jss_cons (js_if (jt_dnotin hr (jv 6) (jv 4)) 
        (jss_one (js_ret (je_tup (ja_c je_str (ja_c (jv 6) ja_nil)))))  jss_nil)
      (jss_cons (js_if (jW.pt (jw_and (jt_cmpR (jo_neE hr) (jv 8) (je_lst ja_nil) (nomark _)) (jw_and1 (jt_cmpR (jo_neP hr) (je_ix jx_tup (je_dget hr (jv 4) (jv 6)) je_int (fun _ _ => rfl)) (je_ix jx_tup (je_dget hr (jv 4) (je_ix jx_list (jv 8) je_int (fun _ _ => rfl))) je_int (fun _ _ => rfl)) (nomark _))))) 
        (jss_one (js_ret (je_tup (ja_c je_str (ja_c (jv 6) ja_nil)))))  jss_nil)
      (jss_cons (js_if (jt_cmpR jo_in_seq (jv 6) (jv 8) (by with_unfolding_all rfl)) 
        (jss_one (js_ret (je_tup (ja_c je_str (ja_c (jv 6) ja_nil)))))  jss_nil)
      (jss_cons (js_if (jt_cmpR jo_ne (je_fnB jc_len_seq rfl m_len PySem.boot_len (ja_c (jv 9) ja_nil)) (je_ix jx_tup (je_dget hr (jv 4) (jv 6)) je_int (fun _ _ => rfl)) (nomark _)) 
        (jss_one (js_ret (je_tup (ja_c je_str (ja_c (jv 6) ja_nil)))))  jss_nil)
      (jss_cons (js_for PassesOwn.never rfl (ji_range1 rfl m_range (ja_c (je_fnB jc_len_seq rfl m_len PySem.boot_len (ja_c (jv 9) ja_nil)) ja_nil)) (jg_name (i := 10) scHeads.nd rfl (Or.inl rfl))
        (jss_one (js_if (jW.pt (jw_or (jt_cmpR jo_in_seq (je_ix jx_tup (jv 9) (jv 10) (fun _ _ => rfl)) (jv 2) (by with_unfolding_all rfl)) (jw_or1 (jt_cmpR jo_in_seq (je_ix jx_tup (jv 9) (jv 10) (fun _ _ => rfl)) (je_slice jl_tupO (jv 9) jo_none (jo_some (jv 10))) (by with_unfolding_all rfl))))) 
          (jss_one (js_ret (je_tup (ja_c je_str (ja_c (je_ix jx_tup (jv 9) (jv 10) (fun _ _ => rfl)) ja_nil)))))  jss_nil)))
      (jss_one (js_expr (je_bm PySem.F.plainAttrs_list PySem.F.slot_list_append PySem.F.type_list_append jm_append (jv 8) (ja_c (jv 6) ja_nil))))))))))
    (jss_cons (js_compS [6, 7] [] (i := 11) scHeads.nd rfl (Or.inl rfl) rfl (ji_list (je_ix jx_tup (je_dget hr (jv 4) (je_ix jx_list (jv 8) je_int (fun _ _ => rfl))) je_int (fun _ _ => rfl))) (fun _ _ _ _ _ => (jg_tupK K (n := 2) rfl (jgs_cons (jg_name (i := 6) scHeads.nd rfl (Or.inl rfl)) (jgs_cons (jg_name (i := 7) scHeads.nd rfl (Or.inl rfl)) jgs_nil)))) (fun _ _ _ _ _ => (jts_one (jt_cmpR (jo_notInK K) (jv 6) (jv 8) (by with_unfolding_all rfl)))) (fun _ _ _ _ _ => (jv 6)))
    (jss_cons (js_if (jt_cmpR (jo_neE hr) (jv 11) (je_lst ja_nil) (nomark _)) 
      (jss_one (js_ret (je_tup (ja_c je_str (ja_c (jv 1) (ja_c (jv 11) ja_nil))))))  jss_nil)
    (jss_one (js_ret (je_tup (ja_c je_str (ja_c je_bl ja_nil))))))))))), ?_⟩
  have sl := line0
  have lps := hK.len
  intro d hd
  have s1 := same_new (o := .dK []) hd
  refine ⟨_, rfl, _, rfl, ⟨_, SqL.of (s1 _ _ hk)⟩, for_list (xs := kps.map V.ref) (fun i σ H' => Same H H' /\ (∃ kvs, H' d = some (.dK kvs) /\ KinD H' kps (nums 0 (ks.take i)) kvs) /\ ∃ x5 x6 x7, σ = [some (.ref ph), some (.str y), some (.ref pb), some (.ref pk), some (.ref d), x5, x6, x7, none, none, none, none]) ⟨s1, ⟨[], upd_same, .nil⟩, none, none, none, rfl⟩ (fun i σ H' _ h => SqL.of (h.1 _ _ hk)) ?_ ?_⟩
  · rintro i v σ H1 hv ⟨s2, ⟨kvs, hd2, hKD⟩, x5, x6, x7, rfl⟩
    rw [List.getElem?_map] at hv
    obtain ⟨pq, hq, rfl⟩ := Option.map_eq_some_iff.mp hv
    obtain ⟨k, hki, ts', hts, hTp⟩ := hK.get hq
    have hl := fl_len hki
    have htl := hTp.len
    refine ⟨_, rfl, _, rfl, ⟨_, SqL.of (s2 _ _ hts)⟩, for_list (xs := ts'.map V.ref) (fun j σ H' => Same H H' /\ (∃ kvs, H' d = some (.dK kvs) /\ KinD H' kps (nums 0 (ks.take i) ++ (k.take j).map fun a => (a.1, i, a.2)) kvs) /\ ∃ x6 x7, σ = [some (.ref ph), some (.str y), some (.ref pb), some (.ref pk), some (.ref d), some (.ref pq), x6, x7, none, none, none, none]) ⟨s2, ⟨kvs, hd2, by rw [List.take_zero, List.map_nil, List.append_nil]; exact hKD⟩, _, _, rfl⟩ (fun j σ H' _ h => SqL.of (h.1 _ _ hts)) ?_ ?_⟩
    · rintro j v σ H3 hv ⟨s4, ⟨kvs, hd4, hKD4⟩, x6, x7, rfl⟩
      rw [List.getElem?_map] at hv
      obtain ⟨tt, ht, rfl⟩ := Option.map_eq_some_iff.mp hv
      obtain ⟨a, n, e1, e2⟩ := hTp.get ht
      have hj : j < k.length := (List.getElem?_eq_some_iff.mp e1).1
      have nn : (nums 0 (ks.take i) ++ (k.take j).map fun a => (a.1, i, a.2)).lookup a = none := by
        rw [look_none, List.map_append, nums_names, List.map_map]
        have := tag_new hnd hki e1
        rw [List.map_append] at this
        exact this
      have lkv := hKD4.len
      have lnu : (nums 0 (ks.take i)).length = (ks.take i).flatten.length := by
        have := congrArg List.length (nums_names (i := 0) (ks := ks.take i))
        unfold tagsOf at this
        rw [List.length_map, List.length_map] at this
        exact this
      rw [List.length_append, lnu, List.length_map, List.length_take] at lkv
      refine ⟨_, _, rfl, SqT.of (s4 _ _ e2), rfl, _, _, rfl, _, _, rfl, rfl, ?_⟩
      refine ⟨_, rfl, _, rfl, by show 2 <= sizeLine; decide, fun t ht' => ⟨_, rfl, _, rfl, d, _, rfl, DPut.k (k := .inr a) (old ht' hd4) (by omega), ?_⟩⟩
      have k5 := same_new ht' (.tup [.ref pq, .int n])
      have hd5 := k5 _ _ hd4
      have et := upd_same (H := H3) (a := t) (o := .tup [.ref pq, .int n])
      have hKD5 := hKD4.keep (.of k5)
      have s5 := s4.trans k5
      generalize upd H3 t (.tup [.ref pq, .int n]) = H5 at *
      have tu : Tups H5 (upd H5 d (.dK (putK kvs (.inr a) (.ref t)))) := fun z zs hz => by
        rw [upd_ne (ne_of hz hd5 (by intro e; cases e))]
        exact hz
      refine ⟨s5.put hd, ⟨_, upd_same, ?_⟩, _, _, rfl⟩
      rw [<- take_snoc e1, List.map_append, <- List.append_assoc]
      have := (hKD5.keep tu).snoc (a := a) hq (tu _ _ et)
      rw [putK_new _ (hKD4.none nn)] at this ⊢
      exact this
    · rintro σ H3 ⟨s4, ⟨kvs, hd4, hKD4⟩, x6, x7, rfl⟩
      refine ⟨s4, ⟨kvs, hd4, ?_⟩, _, _, _, rfl⟩
      rw [List.length_map, <- htl, List.take_of_length_le (Nat.le_refl _)] at hKD4
      have hil : i < ks.length := (List.getElem?_eq_some_iff.mp hki).1
      rw [<- take_snoc hki, nums_snoc, List.length_take, Nat.min_eq_left (by omega), Nat.zero_add]
      exact hKD4
  rintro σ H2 ⟨s2, ⟨kvs, hd2, hKD⟩, x5, x6, x7, rfl⟩
  rw [List.length_map, <- lps, List.take_of_length_le (Nat.le_refl _)] at hKD
  refine ⟨by show 0 <= sizeLine; decide, fun sn hsn => ?_⟩
  have fsn : H2 sn = none := hsn
  have lts := hA.1
  have kn := same_new (H := H2) hsn (.lst [])
  have hget : ∀ {H' : Hp}, Same H2 H' -> ∀ t n s, (nums 0 ks).lookup t = some (n, s) -> ∃ p q k ts', DGet H' d (.str t) (some (.ref p)) /\ H' p = some (.tup [.ref q, .int s]) /\ ks[n]? = some k /\ kps[n]? = some q /\ H' q = some (.lst (ts'.map V.ref)) /\ Tps H' k ts' := fun {H'} s' t n s e => by
    obtain ⟨p, q', e1, e2, e3⟩ := hKD.some e
    obtain ⟨k, hk', ts', h1, h2⟩ := hK.get e2
    have := DGet.k (k := .inr t) (s' _ _ hd2)
    rw [e1] at this
    exact ⟨p, q', k, ts', this, s' _ _ e3, hk', e2, (s2.trans s') _ _ h1, h2.keep (.of (s2.trans s'))⟩
  have hhs : ∀ {i : Nat} {t : Str} {ns : List Str}, hs[i]? = some (t, ns) -> (hsOf hs)[i]? = some (t, ns, .give t) := fun h => by unfold hsOf; rw [List.getElem?_map, h]; rfl
  have qf : ∀ (f : Flt) (H' : Hp) (r : Addr), heF ks above (hsOf hs) [] = some f -> Same H H' -> H' r = none -> Q (.ref r) (upd H' r (.tup [.str (wdF f.1), .str f.2])) := fun f H' r hf s' hr' => q _ r (s'.new hr') (fun x _ => by unfold csF; rw [hf]; exact upd_same)
  refine ⟨_, rfl, _, rfl, ⟨_, SqL.of (kn _ _ (s2 _ _ hph))⟩, for_list (xs := ts.map V.ref) (fun i σ H' => Same H2 H' /\ H' sn = some (.lst (((hs.take i).map (·.1)).map V.str)) /\ heF ks above ((hsOf hs).drop i) ((hs.take i).map (·.1)) = heF ks above (hsOf hs) [] /\ (∀ t ∈ (hs.take i).map (·.1), ∃ n s, (nums 0 ks).lookup t = some (n, s)) /\ ∃ x6 x9 xa, σ = [some (.ref ph), some (.str y), some (.ref pb), some (.ref pk), some (.ref d), x5, x6, x7, some (.ref sn), x9, xa, none]) ⟨kn, upd_same, rfl, (fun t ht => by cases ht), _, _, _, rfl⟩ (fun i σ H' _ h => SqL.of (h.1 _ _ (s2 _ _ hph))) ?_ ?_⟩
  · rintro i v σ H3 hv ⟨s3, e3, hh, hkn, x6, x9, xa, rfl⟩
    rw [List.getElem?_map] at hv
    obtain ⟨pr, hpr, rfl⟩ := Option.map_eq_some_iff.mp hv
    have hi : i < hs.length := by rw [lts]; exact (List.getElem?_eq_some_iff.mp hpr).1
    obtain ⟨⟨t, ns⟩, har⟩ : ∃ a, hs[i]? = some a := ⟨_, List.getElem?_eq_getElem hi⟩
    obtain ⟨pn, g1, g2⟩ := hA.2 i _ pr har hpr
    have S3 := s2.trans s3
    have lns : ns.length <= 9 := l9 _ (List.mem_of_getElem? har)
    obtain ⟨seen, esn⟩ : ∃ seen, seen = (hs.take i).map (·.1) := ⟨_, rfl⟩
    have lsn : seen.length = i := by rw [esn, List.length_map, List.length_take]; omega
    rw [<- esn] at e3 hh hkn
    rw [heF_drop (hhs har)] at hh
    refine ⟨_, _, rfl, SqT.of (S3 _ _ g1), rfl, _, _, rfl, _, _, rfl, rfl, ?_⟩
    refine ⟨_, rfl, _, rfl, d, _, rfl, DGet.k (k := .inr t) (s3 _ _ hd2), _, rfl, ?_⟩
    cases elk : (nums 0 ks).lookup t with
    | none =>
      have hno := hKD.none elk
      rw [hno]
      refine iteT' rfl ⟨_, rfl, by show 2 <= sizeLine; decide, fun r hr' => qf (2, t) _ r ?_ S3 hr'⟩
      rw [<- hh]
      unfold tgF
      rw [nums_none elk]
    | some nsz =>
    obtain ⟨n, sz⟩ := nsz
    obtain ⟨k', _, hk', htk, hfl, _⟩ := nums_some elk
    rw [Nat.sub_zero] at hk'
    have tg : tgF ks t ns.length seen = if seen ≠ [] /\ t ∉ kinF (seen.headD "") ks then some (3, t) else if t ∈ seen then some (1, t) else if ((ns.length : Nat) : Int) ≠ sz then some (3, t) else none := by unfold tgF; rw [hfl]
    obtain ⟨p0, _, ev, _⟩ := hKD.some elk
    rw [ev]
    refine iteF' rfl ?_
    have ret : ∀ (f : Flt) (H' : Hp) (r : Addr), tgF ks t ns.length seen = some f -> Same H3 H' -> H' r = none -> Q (.ref r) (upd H' r (.tup [.str (wdF f.1), .str f.2])) := fun f H' r hf s' hr' => qf f H' r (by rw [<- hh, hf]) (S3.trans s') hr'
    suffices rest : ∀ H4, Same H3 H4 -> ¬ (seen ≠ [] /\ t ∉ kinF (seen.headD "") ks) -> (tSeq _ _ : TS) _ [some (.ref ph), some (.str y), some (.ref pb), some (.ref pk), some (.ref d), x5, some (.str t), x7, some (.ref sn), some (.ref pn), xa, none] H4 by
      refine ⟨_, rfl, by show 0 <= sizeLine; decide, fun pe he => ⟨sn, pe, _, rfl, rfl, SqL.of (old he e3), SqL.of upd_same, _, rfl, ?_⟩⟩
      have k4 := same_new (H := H3) he (.lst [])
      cases seen with
      | nil => exact iteF' rfl (iteF (rest _ k4 (fun z => z.1 rfl)))
      | cons t0 ts0 =>
        obtain ⟨n0, sz0, e0⟩ := hkn t0 (by simp)
        obtain ⟨p1, q1, k1, u1, dg1, hp1, hk1, hq1, hl1, hT1⟩ := hget (s3.trans k4) t n sz elk
        obtain ⟨p2, q2, k2, u2, dg2, hp2, hk2, hq2, hl2, hT2⟩ := hget (s3.trans k4) t0 n0 sz0 e0
        have kn := kin_num hnd elk e0
        refine iteT' rfl ⟨_, rfl, _, rfl, d, _, rfl, dg1, p1, _, _, _, rfl, rfl, SqT.of hp1, rfl, _, rfl, _, rfl, sn, _, _, _, rfl, rfl, SqL.of (k4 _ _ e3), atI_nat (j := 0) rfl, d, _, rfl, dg2, p2, _, _, _, rfl, rfl, SqT.of hp2, rfl, q1, q2, k1, k2, u1, u2, rfl, rfl, hl1, hT1, hl2, hT2, _, rfl, ?_⟩
        have hkk : k1 = k' := by rw [hk'] at hk1; exact (Option.some.inj hk1).symm
        have iffk : k1 = k2 ↔ n = n0 := by
          constructor
          · intro e
            refine one_kind hnd hk1 hk2 (t := t) (by rw [hkk]; exact htk) (by rw [<- e, hkk]; exact htk)
          · intro e
            rw [e, hk2] at hk1
            exact (Option.some.inj hk1).symm
        by_cases c : n = n0
        · exact iteF' (by rw [decide_eq_true (iffk.mpr c)]; rfl) (rest _ k4 (fun z => z.2 (kn.mpr c)))
        · exact iteT' (by rw [decide_eq_false (fun z => c (iffk.mp z))]; rfl) ⟨_, rfl, by show 2 <= sizeLine; decide, fun r hr' => ret (3, t) _ r (by rw [tg, if_pos ⟨by simp, fun z => c (kn.mp z)⟩]) k4 hr'⟩
    intro H4 s4 hno
    have e4 := s4 _ _ e3
    refine ⟨_, rfl, _, rfl, sn, _, rfl, .inl (SqL.of e4), rfl, flat_strs _, _, rfl, ?_⟩
    rw [show (if false = true then !inV (V.str t) (seen.map V.str) else inV (V.str t) (seen.map V.str)) = decide (t ∈ seen) from in_strs]
    by_cases c : t ∈ seen
    · exact iteT' (decide_eq_true c) ⟨_, rfl, by show 2 <= sizeLine; decide, fun r hr' => ret (1, t) _ r (by rw [tg, if_neg hno, if_pos c]) s4 hr'⟩
    refine iteF' (decide_eq_false c) ?_
    obtain ⟨p1, q1, k1, u1, dg1, hp1, hk1, hq1, hl1, hT1⟩ := hget (s3.trans s4) t n sz elk
    have S4 := S3.trans s4
    have hn4 := S4 _ _ g2
    refine ⟨_, rfl, pn, _, rfl, .inr (SqT.of hn4), _, rfl, _, rfl, d, _, rfl, dg1, p1, _, _, _, rfl, rfl, SqT.of hp1, atI_nat (j := 1) rfl, rfl, _, rfl, ?_⟩
    rw [List.length_map]
    by_cases c2 : ((ns.length : Nat) : Int) ≠ sz
    · exact iteT' (by rw [decide_eq_false (fun z => c2 (V.int.inj z))]; rfl) ⟨_, rfl, by show 2 <= sizeLine; decide, fun r hr' => ret (3, t) _ r (by rw [tg, if_neg hno, if_neg c, if_pos c2]) s4 hr'⟩
    replace c2 : ((ns.length : Nat) : Int) = sz := Classical.not_not.mp c2
    refine iteF' (by rw [decide_eq_true (congrArg V.int c2)]; rfl) ?_
    have tgn : tgF ks t ns.length seen = none := by rw [tg, if_neg hno, if_neg c, if_neg (fun z => z c2)]
    rw [tgn] at hh
    dsimp only at hh
    refine ⟨_, rfl, pn, _, rfl, .inr (SqT.of hn4), _, rfl, by show -(2 ^ 62) <= (((ns.map V.str).length : Nat) : Int); omega, by rw [List.length_map]; show ((ns.length : Nat) : Int) < 2 ^ 62; omega, for_range (fun j σ H' => Same H4 H' /\ dup above (ns.take j) = none /\ ∃ xa, σ = [some (.ref ph), some (.str y), some (.ref pb), some (.ref pk), some (.ref d), x5, some (.str t), x7, some (.ref sn), some (.ref pn), xa, none]) ⟨Same.refl _, rfl, _, rfl⟩ ?_ ?_⟩
    · rintro j σ H5 hj ⟨s5, hdu, xb', rfl⟩
      replace hj : j < ns.length := by
        have : ((((ns.map V.str).length : Nat) : Int)).toNat = ns.length := by rw [List.length_map]; omega
        rw [<- this]; exact hj
      obtain ⟨n', hn'⟩ : ∃ n', ns[j]? = some n' := ⟨_, List.getElem?_eq_getElem hj⟩
      have hn5 := s5 _ _ hn4
      have hb5 := (S4.trans s5) _ _ hb
      have at_ : atI (ns.map V.str) (0 + (j : Int)) = some (.str n') := by
        rw [Int.zero_add]
        exact atI_nat (by rw [List.getElem?_map, hn']; rfl)
      have dt := dup_take (seen := above) hn' (fun m z => by rw [hdu] at z; cases z)
      have retw : ∀ (H' : Hp) (r : Addr), n' ∈ above ++ ns.take j -> Same H5 H' -> H' r = none -> Q (.ref r) (upd H' r (.tup [.str "twice", .str n'])) := fun H' r hm s' hr' => qf (1, n') H' r (by rw [<- hh, dt, if_pos hm]) ((S4.trans s5).trans s') hr'
      refine ⟨_, rfl, _, rfl, pn, _, _, _, rfl, rfl, SqT.of hn5, at_, _, rfl, pb, _, rfl, .inl (SqL.of hb5), rfl, flat_strs _, _, rfl, ?_⟩
      rw [show (if false = true then !inV (V.str n') (above.map V.str) else inV (V.str n') (above.map V.str)) = decide (n' ∈ above) from in_strs]
      by_cases c3 : n' ∈ above
      · exact iteT' (decide_eq_true c3) (iteT ⟨_, rfl, _, rfl, pn, _, _, _, rfl, rfl, SqT.of hn5, at_, by show 2 <= sizeLine; decide, fun r hr' => retw _ r (List.mem_append_left _ c3) (Same.refl _) hr'⟩)
      refine iteF' (decide_eq_false c3) ⟨_, rfl, _, rfl, pn, _, _, _, rfl, rfl, SqT.of hn5, at_, _, rfl, _, rfl, _, rfl, pn, _, rfl, hn5, fun tp H6 s6 e6 => ?_⟩
      rw [cut_take (by omega), show (0 + (j : Int)).toNat = j by omega] at e6
      refine ⟨tp, _, rfl, .inr (SqT.of e6), rfl, flat_strs _, _, rfl, ?_⟩
      rw [show (if false = true then !inV (V.str n') ((ns.take j).map V.str) else inV (V.str n') ((ns.take j).map V.str)) = decide (n' ∈ ns.take j) from in_strs]
      have S6 : Same H5 H6 := s6
      by_cases c4 : n' ∈ ns.take j
      · exact iteT' (decide_eq_true c4) ⟨_, rfl, _, rfl, pn, _, _, _, rfl, rfl, SqT.of (S6 _ _ hn5), at_, by show 2 <= sizeLine; decide, fun r hr' => retw _ r (List.mem_append_right _ c4) S6 hr'⟩
      · refine iteF' (decide_eq_false c4) ⟨s5.trans S6, dup_more hn' hdu (fun z => ?_), _, rfl⟩
        rcases List.mem_append.mp z with z | z
        · exact c3 z
        · exact c4 z
    · rintro σ H5 ⟨s5, hdu, xb', rfl⟩
      have el : ((((ns.map V.str).length : Nat) : Int)).toNat = ns.length := by rw [List.length_map]; omega
      rw [el, List.take_of_length_le (Nat.le_refl _)] at hdu
      rw [hdu] at hh
      dsimp only at hh
      have e5 := s5 _ _ e4
      refine ⟨_, rfl, .inl ⟨rfl, _, SqL.of e5⟩, _, rfl, sn, _, _, rfl, rfl, e5, by rw [List.length_map]; omega, ?_⟩
      have esn' : (hs.take (i + 1)).map (·.1) = seen ++ [t] := by rw [<- take_snoc har, List.map_append, esn]; rfl
      refine ⟨((s3.trans s4).trans s5).put fsn, by rw [esn', upd_same, List.map_append]; rfl, by rw [esn']; exact hh, fun t' ht' => ?_, _, _, _, rfl⟩
      rw [esn'] at ht'
      rcases List.mem_append.mp ht' with h | h
      · exact hkn t' h
      · rw [List.mem_singleton.mp h]
        exact ⟨n, sz, elk⟩
  · rintro σ H3 ⟨s3, e3, hh, hkn, x6, x9, xa, rfl⟩
    have lh : (hsOf hs).length = hs.length := by unfold hsOf; rw [List.length_map]
    have lm : (hsOf hs).map (·.1) = hs.map (·.1) := by unfold hsOf; rw [List.map_map]; rfl
    rw [List.length_map, <- lts, List.take_of_length_le (Nat.le_refl _)] at e3 hkn
    rw [List.length_map, <- lts, List.take_of_length_le (Nat.le_refl _), <- lh, List.drop_length] at hh
    have hn : heF ks above (hsOf hs) [] = none := hh.symm
    obtain ⟨t0, ts0, e0⟩ : ∃ t0 ts0, hs.map (·.1) = t0 :: ts0 := by
      cases hs with
      | nil => exact absurd la0 (by decide)
      | cons a r => exact ⟨a.1, r.map (·.1), rfl⟩
    obtain ⟨n0, sz0, el0⟩ := hkn t0 (by rw [e0]; simp)
    obtain ⟨p2, q2, k0, ts', dg2, hp2, hk0, hq2, hts, hTp⟩ := hget s3 t0 n0 sz0 el0
    obtain ⟨k1, _, hk1, _, _, hkin⟩ := nums_some el0
    rw [Nat.sub_zero, hk0] at hk1
    cases hk1
    have S3 := s2.trans s3
    have lfl0 := fl_len hk0
    have htl := hTp.len
    rw [e0] at e3
    have ecs : csF ks y (hsOf hs) above = if ((k0.map (·.1)).filter fun x => !decide (x ∈ t0 :: ts0)) = [] then none else some (.l y ((k0.map (·.1)).filter fun x => !decide (x ∈ t0 :: ts0))) := by
      unfold csF
      rw [hn, lm, e0]
      show (if lackF (t0 :: ts0) ks t0 = [] then none else some (Fo.l y (lackF (t0 :: ts0) ks t0))) = _
      unfold lackF
      rw [hkin]
    refine ⟨_, rfl, _, rfl, sn, _, _, _, rfl, rfl, SqL.of e3, atI_nat (j := 0) rfl, d, _, rfl, dg2, p2, _, _, _, rfl, rfl, SqT.of hp2, rfl, _, rfl, ⟨_, SqL.of hts⟩, lc_list (xs := ts'.map V.ref) (fun j τ ys H' => H' = H3 /\ (∃ u v, τ = [some (.ref ph), some (.str y), some (.ref pb), some (.ref pk), some (.ref d), x5, u, v, some (.ref sn), x9, xa, none]) /\ ys = (((k0.map (·.1)).take j).filter fun x => !decide (x ∈ t0 :: ts0)).map V.str) ⟨rfl, ⟨_, _, rfl⟩, rfl⟩ (fun j τ ys H' _ h => by rw [h.1]; exact SqL.of hts) ?_ ?_⟩
    · rintro j v τ ys H4 hv ⟨rfl, ⟨u, v', rfl⟩, rfl⟩
      rw [List.getElem?_map] at hv
      obtain ⟨tt, ht, rfl⟩ := Option.map_eq_some_iff.mp hv
      obtain ⟨a, n, e1, e2⟩ := hTp.get ht
      have hj : j < k0.length := (List.getElem?_eq_some_iff.mp e1).1
      have hm : (k0.map (·.1))[j]? = some a := by rw [List.getElem?_map, e1]; rfl
      have tf := take_fil (fun x => !decide (x ∈ t0 :: ts0)) hm
      refine ⟨_, _, rfl, SqT.of e2, rfl, _, _, rfl, _, _, rfl, rfl, _, rfl, _, rfl, sn, _, rfl, .inl (SqL.of e3), rfl, flat_strs _, _, rfl, ?_⟩
      rw [show (if true = true then !inV (V.str a) ((t0 :: ts0).map V.str) else inV (V.str a) ((t0 :: ts0).map V.str)) = !decide (a ∈ t0 :: ts0) by rw [in_strs]; rfl]
      refine ite2 (fun c => ?_) (fun c => ?_)
      · refine ⟨_, rfl, ?_, rfl, ⟨_, _, rfl⟩, ?_⟩
        · rw [List.length_map]
          have := List.length_filter_le (fun x => !decide (x ∈ t0 :: ts0)) ((k0.map (·.1)).take j)
          rw [List.length_take, List.length_map] at this
          omega
        · rw [tf, if_pos c, List.map_append]
          rfl
      · refine ⟨rfl, ⟨_, _, rfl⟩, ?_⟩
        rw [tf, if_neg c, List.append_nil]
    · rintro τ ys H4 ⟨rfl, _, rfl⟩ r2 hr2
      rw [List.length_map, <- htl, List.take_of_length_le (by rw [List.length_map]; exact Nat.le_refl _)]
      obtain ⟨lost, elo⟩ : ∃ lost, lost = (k0.map (·.1)).filter fun x => !decide (x ∈ t0 :: ts0) := ⟨_, rfl⟩
      rw [<- elo] at ecs ⊢
      have s5 := S3.new (o := .lst (lost.map V.str)) hr2
      have er2 := upd_same (H := H4) (a := r2) (o := .lst (lost.map V.str))
      have fr2 : H r2 = none := S3.free hr2
      dsimp only [List.set]
      generalize upd H4 r2 (.lst (lost.map V.str)) = H5 at *
      refine ⟨_, rfl, by show 0 <= sizeLine; decide, fun pe he => ⟨r2, pe, _, rfl, rfl, SqL.of (old he er2), SqL.of upd_same, _, rfl, ?_⟩⟩
      have s6 := s5.new (o := .lst []) he
      have er6 := old (o := .lst []) he er2
      generalize upd H5 pe (.lst []) = H6 at *
      by_cases cl : lost = []
      · rw [if_pos cl] at ecs
        exact iteF' (by rw [cl]; rfl) (nxt ⟨by show 2 <= sizeLine; decide, fun r hr' => q _ r (s6.new hr') (fun x _ => by rw [ecs]; exact upd_same)⟩)
      · rw [if_neg cl] at ecs
        refine iteT' (by cases lost with | nil => exact absurd rfl cl | cons a b => rfl) ⟨_, rfl, _, rfl, by show 3 <= sizeLine; decide, fun r hr' => q _ r (s6.new hr') (fun x hx => ?_)⟩
        rw [ecs]
        exact ⟨r2, upd_same, old hr' er6, fun e => hx (by rw [<- e]; exact fr2), cl⟩
end
end KD
namespace KD
open PySem L2 K11
theorem look_of_mem {α : Type} {t : Str} {s : α} : ∀ {l : List (Str × α)}, (l.map (·.1)).Nodup -> (t, s) ∈ l -> l.lookup t = some s
  | (a, b) :: l, hn, h => by
    rw [List.map_cons, List.nodup_cons] at hn
    rw [List.lookup_cons]
    rcases List.mem_cons.mp h with e | h
    · cases e
      simp
    · have ne : t ≠ a := fun e => hn.1 (by rw [<- e]; exact List.mem_map.mpr ⟨_, h, rfl⟩)
      rw [show (t == a) = false by simpa using ne]
      exact look_of_mem hn.2 h
theorem look_perm {α : Type} {t : Str} {l l' : List (Str × α)} (hn : (l.map (·.1)).Nodup) (p : l.Perm l') : l.lookup t = l'.lookup t := by
  have hn' : (l'.map (·.1)).Nodup := (p.map _).nodup_iff.mp hn
  cases e : l.lookup t with
  | some s =>
    have hm : (t, s) ∈ l := by
      clear hn hn' p
      induction l with
      | nil => cases e
      | cons a l ih =>
        rw [List.lookup_cons] at e
        split at e
        · rename_i h
          have := eq_of_beq h
          cases e
          rw [this]
          exact List.mem_cons_self
        · exact List.mem_cons_of_mem _ (ih e)
    rw [look_of_mem hn' (p.mem_iff.mp hm)]
  | none =>
    rw [look_none] at e
    symm
    rw [look_none]
    exact fun h => e ((p.map _).mem_iff.mpr h)
theorem kin_mem {t : Str} {k : List (Str × Int)} : ∀ {ks : List (List (Str × Int))}, (tagsOf ks).Nodup -> k ∈ ks -> t ∈ k.map (·.1) -> kinF t ks = k.map (·.1)
  | c :: ks, hn, hk, ht => by
    have hn' : (c.map (·.1) ++ tagsOf ks).Nodup := by
      have : tagsOf (c :: ks) = c.map (·.1) ++ tagsOf ks := by unfold tagsOf; rw [List.flatten_cons, List.map_append]
      rw [<- this]
      exact hn
    have hd := List.nodup_append.mp hn'
    unfold kinF
    rcases List.mem_cons.mp hk with e | hk
    · rw [<- e, if_pos ht]
    · have hm : t ∈ tagsOf ks := by
        unfold tagsOf
        obtain ⟨a, ha, e⟩ := List.mem_map.mp ht
        exact List.mem_map.mpr ⟨a, List.mem_flatten.mpr ⟨k, hk, ha⟩, e⟩
      rw [if_neg fun h => hd.2.2 t h t hm rfl]
      exact kin_mem hd.2.1 hk ht
theorem heF_whole {ks : List (List (Str × Int))} (hn : (tagsOf ks).Nodup) {k : List (Str × Int)} (hk : k ∈ ks) {seen : List Str} : ∀ {hs : List (Str × List Str × Bd)} {tags : List Str}, (∀ a ∈ hs, (a.1, ((a.2.1.length : Nat) : Int)) ∈ k) -> (tags ++ hs.map (·.1)).Nodup -> (∀ t ∈ tags, t ∈ k.map (·.1)) -> (∀ a ∈ hs, dup seen a.2.1 = none) -> heF ks seen hs tags = none
  | [], _, _, _, _, _ => rfl
  | (t, ns, b) :: hs, tags, h1, h2, h3, h4 => by
    have m1 := h1 _ List.mem_cons_self
    have ht : t ∈ k.map (·.1) := List.mem_map.mpr ⟨_, m1, rfl⟩
    have hl : ks.flatten.lookup t = some ((ns.length : Nat) : Int) := look_of_mem hn (List.mem_flatten.mpr ⟨k, hk, m1⟩)
    have hnt : t ∉ tags := fun h => by
      have := (List.nodup_append.mp h2).2.2 t h t (by rw [List.map_cons]; exact List.mem_cons_self)
      exact this rfl
    have e1 : tgF ks t ns.length tags = none := by
      unfold tgF
      rw [hl]
      dsimp only
      rw [if_neg, if_neg hnt, if_neg (by simp)]
      rintro ⟨c1, c2⟩
      cases tags with
      | nil => exact c1 rfl
      | cons a r =>
        apply c2
        show t ∈ kinF a ks
        rw [kin_mem hn hk (h3 a List.mem_cons_self)]
        exact ht
    rw [heF, e1]
    dsimp only
    rw [h4 _ List.mem_cons_self]
    dsimp only
    refine heF_whole hn hk (fun a ha => h1 a (List.mem_cons_of_mem _ ha)) ?_ ?_ fun a ha => h4 a (List.mem_cons_of_mem _ ha)
    · rw [List.append_assoc]
      exact h2
    · intro x hx
      rcases List.mem_append.mp hx with hx | hx
      · exact h3 x hx
      · rw [List.mem_singleton.mp hx]
        exact ht
theorem csF_whole {ks : List (List (Str × Int))} (hn : (tagsOf ks).Nodup) {k : List (Str × Int)} (hk : k ∈ ks) {y : Str} {seen : List Str} {hs : List (Str × List Str × Bd)} (h0 : hs ≠ []) (h1 : ∀ a ∈ hs, (a.1, ((a.2.1.length : Nat) : Int)) ∈ k) (h2 : (hs.map (·.1)).Nodup) (h3 : ∀ t ∈ k.map (·.1), t ∈ hs.map (·.1)) (h4 : ∀ a ∈ hs, dup seen a.2.1 = none) : csF ks y hs seen = none := by
  unfold csF
  rw [heF_whole hn hk h1 (by simpa using h2) (fun t h => (by cases h)) h4]
  dsimp only
  have hh : (hs.map (·.1)).headD ("" : Str) ∈ k.map (·.1) := by
    cases hs with
    | nil => exact absurd rfl h0
    | cons a r => exact List.mem_map.mpr ⟨_, h1 a List.mem_cons_self, rfl⟩
  rw [if_pos]
  unfold lackF
  rw [kin_mem hn hk hh, List.filter_eq_nil_iff]
  intro x hx
  simpa using h3 x hx
structure Rnd (ks : List (List (Str × Int))) (kp : List (Str × Int)) (ks' : List (List (Str × Int))) (kp' : List (Str × Int)) : Prop where
  lk : ∀ t, ks'.flatten.lookup t = ks.flatten.lookup t
  lp : ∀ t, kp'.lookup t = kp.lookup t
  nd : (tagsOf ks').Nodup
  mem : ∀ k ∈ ks, k ∈ ks'
def Cl (ks : List (List (Str × Int))) (kp : List (Str × Int)) (b : Bd) (above : List Str) : Prop := ∀ ks' kp', Rnd ks kp ks' kp' -> bdF ks' kp' b above = none
theorem Rnd.de {ks : List (List (Str × Int))} {kp : List (Str × Int)} {ks' : List (List (Str × Int))} {kp' : List (Str × Int)} (r : Rnd ks kp ks' kp') {above : List Str} {d : De} : deFo ks' kp' above d = deFo ks kp above d := by
  unfold deFo
  congr 1
  cases d with
  | num _ => rfl
  | op _ a b => rfl
  | ask g ns => rfl
  | app w t ns =>
    show (match unkF above ns with | some f => some f | none => numF ks'.flatten kp' w t ns.length) = (match unkF above ns with | some f => some f | none => numF ks.flatten kp w t ns.length)
    have e : numF ks'.flatten kp' w t ns.length = numF ks.flatten kp w t ns.length := by
      unfold numF
      have : (if w = "make" then ks'.flatten else kp').lookup t = (if w = "make" then ks.flatten else kp).lookup t := by
        split
        · exact r.lk t
        · exact r.lp t
      rw [this]
    rw [e]
theorem flat_perm {α : Type} {l l' : List (List α)} (p : l.Perm l') : l.flatten.Perm l'.flatten := by
  induction p with
  | nil => exact .refl _
  | cons x _ ih => rw [List.flatten_cons, List.flatten_cons]; exact .append_left x ih
  | swap x y l =>
    rw [List.flatten_cons, List.flatten_cons, List.flatten_cons, List.flatten_cons, <- List.append_assoc, <- List.append_assoc]
    exact .append_right _ List.perm_append_comm
  | trans _ _ h1 h2 => exact h1.trans h2
theorem Rnd.of {ks ks' : List (List (Str × Int))} {kp kp' : List (Str × Int)} (h1 : (tagsOf ks).Nodup) (h2 : (kp.map (·.1)).Nodup) (p : ks'.Perm ks) (g : kp'.Perm kp) : Rnd ks kp ks' kp' := by
  have f := flat_perm p
  have n1 : (tagsOf ks').Nodup := (f.map _).nodup_iff.mpr h1
  exact ⟨fun t => look_perm n1 f, fun t => look_perm ((g.map _).nodup_iff.mpr h2) g, n1, fun k hk => p.mem_iff.mpr hk⟩
def Whole (st : Str) (ks : List (List (Str × Int))) (above : List Str) (hs : List Hd) : Prop := ∃ k ∈ ks, (∀ a ∈ hs, (a.1, ((a.2.length : Nat) : Int)) ∈ k) /\ (hs.map (·.1)).Nodup /\ (∀ t ∈ k.map (·.1), t ∈ hs.map (·.1)) /\ ∀ a ∈ hs, a.2 = (List.range a.2.length).map fun j => nm st (above.length + j)
def RotI (st : Str) (k : List (Str × Int)) (tn : Nat) (above : List Str) (i : Nat) (hs : List Hd) : Prop := hs.map (fun a => (a.1, ((a.2.length : Nat) : Int))) = (k.drop tn ++ k.take tn).take i /\ ∀ a ∈ hs, a.2 = (List.range a.2.length).map fun j => nm st (above.length + j)
theorem RotI.snoc {st : Str} {k : List (Str × Int)} {tn : Nat} {above : List Str} {i : Nat} {hs : List Hd} (h : RotI st k tn above i hs) {t : Str} {m : Nat} (e : (k.drop tn ++ k.take tn)[i]? = some (t, ((m : Nat) : Int))) {ns : List Str} (hn : ns = (List.range m).map fun j => nm st (above.length + j)) : RotI st k tn above (i + 1) (hs ++ [(t, ns)]) := by
  have ln : ns.length = m := by rw [hn, List.length_map, List.length_range]
  refine ⟨?_, fun a ha => ?_⟩
  · rw [List.map_append, h.1, List.take_add_one, e]
    show _ ++ [(t, ((ns.length : Nat) : Int))] = _
    rw [ln]
    rfl
  · rcases List.mem_append.mp ha with ha | ha
    · exact h.2 a ha
    · rw [List.mem_singleton.mp ha]
      show ns = (List.range ns.length).map _
      rw [ln]
      exact hn
theorem RotI.whole {st : Str} {ks : List (List (Str × Int))} {k : List (Str × Int)} {tn : Nat} {above : List Str} {i : Nat} {hs : List Hd} (h : RotI st k tn above i hs) (hk : k ∈ ks) (hn : (tagsOf ks).Nodup) (hi : k.length <= i) : Whole st ks above hs := by
  have e := h.1
  rw [List.take_of_length_le (by rw [List.length_append, List.length_drop, List.length_take]; omega)] at e
  have pk : (k.drop tn ++ k.take tn).Perm k := List.perm_append_comm.trans (by rw [List.take_append_drop])
  have e1 : hs.map (·.1) = (k.drop tn ++ k.take tn).map (·.1) := by
    rw [<- e, List.map_map]
    rfl
  have nk : (k.map (·.1)).Nodup := by
    unfold tagsOf at hn
    obtain ⟨a, b, rfl⟩ := List.append_of_mem hk
    rw [List.flatten_append, List.flatten_cons, List.map_append, List.map_append] at hn
    exact (List.nodup_append.mp (List.nodup_append.mp hn).2.1).1
  refine ⟨k, hk, fun a ha => ?_, ?_, fun t ht => ?_, h.2⟩
  · refine pk.mem_iff.mp ?_
    rw [<- e]
    exact List.mem_map.mpr ⟨a, ha, rfl⟩
  · rw [e1]
    exact (pk.map _).nodup_iff.mpr nk
  · rw [e1]
    exact (pk.map _).mem_iff.mpr ht
theorem Tps.take {H : Hp} {l : List (Str × Int)} {ts : List Addr} (h : Tps H l ts) (n : Nat) : Tps H (l.take n) (ts.take n) := by
  induction h generalizing n with
  | nil => rw [List.take_nil, List.take_nil]; exact .nil
  | cons a _ ih =>
    cases n with
    | zero => exact .nil
    | succ n => rw [List.take_succ_cons, List.take_succ_cons]; exact .cons a (ih n)
theorem Tps.drop {H : Hp} {l : List (Str × Int)} {ts : List Addr} (h : Tps H l ts) (n : Nat) : Tps H (l.drop n) (ts.drop n) := by
  induction h generalizing n with
  | nil => rw [List.drop_nil, List.drop_nil]; exact .nil
  | cons a b ih =>
    cases n with
    | zero => exact .cons a b
    | succ n => rw [List.drop_succ_cons, List.drop_succ_cons]; exact ih n
end KD
namespace L2
open PySem
theorem jm_popAt {X : Cx} : jMt X "list.pop" rPopAt := ⟨mt_popAt⟩
end L2
namespace KD
open PySem L2 K11
theorem cut_drop {α : Type} {f : α -> V} {s : List α} {m : Int} (h : 0 <= m) : cutV (s.map f) (some m) none = (s.drop m.toNat).map f := by
  unfold cutV
  have c1 : HT.sIx (s.map f).length 0 (some m) = min m.toNat (s.map f).length := by
    show (if m < 0 then (m + ((s.map f).length : Nat)).toNat else min m.toNat (s.map f).length) = _
    rw [if_neg (by omega)]
  have c2 : HT.sIx (s.map f).length (s.map f).length none = (s.map f).length := rfl
  rw [c1, c2, <- List.map_drop, <- List.map_take]
  congr 1
  rw [List.length_map]
  by_cases z : m.toNat <= s.length
  · rw [Nat.min_eq_left z, List.take_of_length_le (by rw [List.length_drop]; omega)]
  · rw [Nat.min_eq_right (by omega), List.drop_eq_nil_of_le (Nat.le_refl _), List.drop_eq_nil_of_le (by omega), List.take_nil]
def spHeadsL : Sp := fun vs H Q _ => ∃ (x wo pa px : Addr) (st : Str) (ks : List (List (Str × Int))) (kp : List (Str × Int)) (wl : Bool) (above : List Str) (xs : List Int), vs = [.ref wo, .ref pa, .ref px] /\ Wo x H wo st ks kp wl /\ WOk st ks kp /\ H pa = some (.lst (above.map V.str)) /\ above.length <= 600 /\ H px = some (.lst (xs.map V.int)) /\ xs.length = 14 /\ (∀ v ∈ xs, 0 <= v /\ v < 4294967296) /\
  ∀ (H' : Hp) (r : Addr) (hs : List Hd) (ts : List Addr), Same H H' -> H r = none -> H' r = some (.lst (ts.map V.ref)) -> HeadsL H' hs ts -> 0 < hs.length -> hs.length <= 18 -> (∀ a ∈ hs, a.2.length <= 9) -> (wl = false -> Whole st ks above hs) -> Q (.ref r) H'
theorem HeadsL.app {H : Hp} {a b : List Hd} {p q : List Addr} (h : HeadsL H a p) (g : HeadsL H b q) : HeadsL H (a ++ b) (p ++ q) := by
  refine ⟨by rw [List.length_append, List.length_append, h.1, g.1], fun i d r h1 h2 => ?_⟩
  by_cases c : i < a.length
  · rw [List.getElem?_append_left c] at h1
    rw [List.getElem?_append_left (by rw [<- h.1]; exact c)] at h2
    exact h.2 i d r h1 h2
  · rw [List.getElem?_append_right (by omega)] at h1
    rw [List.getElem?_append_right (by rw [<- h.1]; omega), <- h.1] at h2
    exact g.2 _ d r h1 h2
theorem HeadsL.one {H : Hp} {d : Hd} {r : Addr} (h : HeadP H d r) : HeadsL H [d] [r] := ⟨rfl, fun i d' q h1 h2 => by
  match i, h1, h2 with
  | 0, h1, h2 => cases h1; cases h2; exact h
  | i + 1, h1, _ => simp at h1⟩
theorem erase_map : ∀ (l : List Addr) (k : Nat), (l.map V.ref).eraseIdx k = (l.eraseIdx k).map V.ref
  | [], _ => rfl
  | a :: l, 0 => rfl
  | a :: l, k + 1 => congrArg (V.ref a :: ·) (erase_map l k)
theorem HeadsL.erase {H : Hp} {l : List Hd} {ts : List Addr} (h : HeadsL H l ts) (k : Nat) : HeadsL H (l.eraseIdx k) (ts.eraseIdx k) := by
  refine ⟨by rw [List.length_eraseIdx, List.length_eraseIdx, h.1], fun i a p h1 h2 => ?_⟩
  rw [List.getElem?_eraseIdx] at h1 h2
  split at h1
  · rename_i c
    rw [if_pos c] at h2
    exact h.2 i a p h1 h2
  · rename_i c
    rw [if_neg c] at h2
    exact h.2 (i + 1) a p h1 h2
section
variable {P : Program} {w : World} {K : PySem.W.Frag} {mg : Str -> Option Value} {base : Heap} {f R C : Addr} {fd : FuncData}
theorem scHeadsL : FnScope ["_law_world_here", "_law_above", "_law_xs", "_law_kind", "_law_turn", "_law_heads_here", "_law_k", "_law_pair", "_law_tag", "_law_many", "_law_number", "_law_names"] ["_law_world_here", "_law_above", "_law_xs"] (defScope sHeads) := ⟨rfl, rfl, rfl, by decide +kernel, rfl, by decide +kernel, by decide +kernel⟩
theorem ndHeadsL : (["_law_world_here", "_law_above", "_law_xs", "_law_kind", "_law_turn", "_law_heads_here", "_law_k", "_law_pair", "_law_tag", "_law_many", "_law_number", "_law_names", "_law_j"] : List Str).Nodup := by decide +kernel
theorem ok_headsL (F : Fun K "_law_heads" "_law_heads" sHeads f fd) (GN : Ca P w K mg base CX0 1 "_law_name" ["_law_stem_here", "_law_k"] spNm) (m_len : mg "len" = none) (m_range : mg "range" = none) (m_enumerate : mg "enumerate" = none) (m_tuple : mg "tuple" = none) : FnOk P w K mg base CX0 2 f fd ["_law_world_here", "_law_above", "_law_xs"] spHeadsL := by
  refine F.by scHeadsL (fun vs H Q E h => ?_) (fun cdv A outer s H vs Q E hr h => ?_)
  · obtain ⟨x, wo, pa, px, st, ks, kp, wl, above, xs, rfl, _⟩ := h
    rfl
  obtain ⟨x, wo, pa, px, st, ks, kp, wl, above, xs, rfl, hW, hOk, ha, la, hx, lx, hxb, q⟩ := h
  have r1 : Room 1 _ := hr.mono (by decide)
  refine ⟨_,
    (jss_cons (js_set (i := 3) scHeadsL.nd rfl (Or.inl rfl) (je_ix jx_list (je_ix jx_list (jv 0) je_int (fun _ _ => rfl)) (je_op jo_mod (je_ix jx_list (jv 2) je_int (fun _ _ => rfl)) (je_fnB jc_len_seq rfl m_len PySem.boot_len (ja_c (je_ix jx_list (jv 0) je_int (fun _ _ => rfl)) ja_nil))) (fun _ _ => rfl)))
    (jss_cons (js_set (i := 4) scHeadsL.nd rfl (Or.inl rfl) (je_op jo_mod (je_ix jx_list (jv 2) je_int (fun _ _ => rfl)) (je_fnB jc_len_seq rfl m_len PySem.boot_len (ja_c (jv 3) ja_nil))))
    (jss_cons (js_set (i := 5) scHeadsL.nd rfl (Or.inl rfl) (je_lst ja_nil))
    (jss_cons (js_for PassesOwn.never rfl (ji_enum rfl m_enumerate (ja_c (je_op jo_cat (je_slice jl_list (jv 3) (jo_some (jv 4)) jo_none) (je_slice jl_list (jv 3) jo_none (jo_some (jv 4)))) ja_nil)) (jg_tup rfl (jgs_cons (jg_name (i := 6) scHeadsL.nd rfl (Or.inl rfl)) (jgs_cons (jg_name (i := 7) scHeadsL.nd rfl (Or.inl rfl)) jgs_nil)))
      (jss_cons (js_asg (jv 7) (jg_tup rfl (jgs_cons (jg_name (i := 8) scHeadsL.nd rfl (Or.inl rfl)) (jgs_cons (jg_name (i := 9) scHeadsL.nd rfl (Or.inl rfl)) jgs_nil))))
      (jss_cons (js_set (i := 10) scHeadsL.nd rfl (Or.inl rfl) (je_op jo_fdiv (je_ix jx_list (jv 2) (je_op jo_add je_int (je_op jo_mod (jv 6) je_int)) (fun _ _ => rfl)) (je_op jo_add (jv 6) je_int)))
      (jss_cons (js_if (jW.pt (jw_and (jt_val (je_ix jx_list (jv 0) je_int (fun _ _ => rfl))) (jw_and1 (jt_cmpR jo_eq (je_op jo_mod (jv 10) je_int) je_int (nomark _))))) 
        (jss_one (js_set (i := 8) scHeadsL.nd rfl (Or.inl rfl) (je_ca GN r1 rfl pass0 (ja_c (je_ix jx_list (jv 0) je_int (fun _ _ => rfl)) (ja_c (je_op jo_mod (je_op jo_fdiv (jv 10) je_int) je_int) ja_nil)))))  jss_nil)
      (jss_cons (js_if (jW.pt (jw_and (jt_val (je_ix jx_list (jv 0) je_int (fun _ _ => rfl))) (jw_and1 (jt_cmpR jo_eq (je_op jo_mod (jv 10) je_int) je_int (nomark _))))) 
        (jss_one (js_set (i := 9) scHeadsL.nd rfl (Or.inl rfl) (je_op jo_mod (je_op jo_fdiv (jv 10) je_int) je_int)))  jss_nil)
      (jss_cons (js_comp ["_law_j"] (i := 11) scHeadsL.nd rfl (Or.inl rfl) rfl (ji_range1 rfl m_range (ja_c (jv 9) ja_nil)) (fun _ _ _ _ _ => (jg_name (i := 12) ndHeadsL rfl (Or.inl rfl))) (fun _ _ _ _ _ => jts_nil) (fun _ _ _ _ _ => (je_ca GN r1 rfl pass0 (ja_c (je_ix (jx_listK K) (jv 0) je_int (fun _ _ => rfl)) (ja_c (je_op jo_add (je_fnB (jc_len_seqK K) rfl m_len PySem.boot_len (ja_c (jv 1) ja_nil)) (jv 12)) ja_nil)))))
      (jss_cons (js_if (jW.pt (jw_and (jt_val (je_ix jx_list (jv 0) je_int (fun _ _ => rfl))) (jw_and (jt_cmpR jo_eq (je_op jo_mod (jv 10) je_int) je_int (nomark _)) (jw_and1 (jt_cmpR jo_gt (jv 9) je_int (nomark _)))))) 
        (jss_one (js_asg (je_ca GN r1 rfl pass0 (ja_c (je_ix jx_list (jv 0) je_int (fun _ _ => rfl)) (ja_c (je_op jo_mod (je_op jo_fdiv (jv 10) je_int) (je_op jo_add (je_fnB jc_len_seq rfl m_len PySem.boot_len (ja_c (jv 1) ja_nil)) (jv 9))) ja_nil))) (jg_setL (jv 11) (je_op jo_mod (je_op jo_fdiv (jv 10) je_int) (jv 9)))))  jss_nil)
      (jss_one (js_expr (je_bm PySem.F.plainAttrs_list PySem.F.slot_list_append PySem.F.type_list_append jm_append (jv 5) (ja_c (je_tup (ja_c (jv 8) (ja_c (je_fnTy jc_tuple_of rfl m_tuple PyProof.Rows.boot_tuple (ja_c (jv 11) ja_nil)) ja_nil))) ja_nil)))))))))))
    (jss_cons (js_if (jW.pt (jw_and (jt_val (je_ix jx_list (jv 0) je_int (fun _ _ => rfl))) (jw_and (jt_cmpR jo_eq (je_op jo_mod (je_ix jx_list (jv 2) je_int (fun _ _ => rfl)) je_int) je_int (nomark _)) (jw_and1 (jt_cmpR jo_gt (je_fnB jc_len_seq rfl m_len PySem.boot_len (ja_c (jv 5) ja_nil)) je_int (nomark _)))))) 
      (jss_one (js_expr (je_bm PySem.F.plainAttrs_list PySem.F.slot_list_pop PySem.F.type_list_pop jm_popAt (jv 5) (ja_c (je_op jo_mod (je_op jo_fdiv (je_ix jx_list (jv 2) je_int (fun _ _ => rfl)) je_int) (je_fnB jc_len_seq rfl m_len PySem.boot_len (ja_c (jv 5) ja_nil))) ja_nil))))  jss_nil)
    (jss_one (js_ret (jv 5)))))))), ?_⟩
  have sl := line0
  obtain ⟨pk, pd, kps, dts, hwo, hpk, hK, _⟩ := id hW
  have atx : ∀ {j : Nat}, j < 14 -> ∃ v : Int, (xs.map V.int)[j]? = some (.int v) := fun {j} h => ⟨xs[j]'(by omega), by rw [List.getElem?_map, List.getElem?_eq_getElem (by omega)]; rfl⟩
  obtain ⟨x0, e0⟩ := atx (j := 0) (by decide)
  obtain ⟨x1, e1⟩ := atx (j := 1) (by decide)
  obtain ⟨x2, e2⟩ := atx (j := 2) (by decide)
  have lps := hK.len
  have ok0 := hOk.k0
  have i0 := Int.emod_nonneg x0 (show (((kps.map V.ref).length : Nat) : Int) ≠ 0 by rw [List.length_map]; omega)
  have i1 := Int.emod_lt_of_pos x0 (show (0 : Int) < (((kps.map V.ref).length : Nat) : Int) by rw [List.length_map]; omega)
  obtain ⟨ki, eki⟩ : ∃ k : Nat, x0 % (((kps.map V.ref).length : Nat) : Int) = (k : Int) := ⟨_, (Int.toNat_of_nonneg i0).symm⟩
  have hki : ki < kps.length := by
    rw [eki, List.length_map] at i1
    omega
  have hkt : kps[ki]? = some kps[ki] := List.getElem?_eq_getElem hki
  obtain ⟨pq, epq⟩ : ∃ pq, pq = kps[ki] := ⟨_, rfl⟩
  rw [<- epq] at hkt
  obtain ⟨k, hk, ts', hts, hTp⟩ := hK.get hkt
  have lk := hTp.len
  have hkne := hOk.ne k (List.mem_of_getElem? hk)
  refine ⟨_, rfl, wo, _, _, _, rfl, rfl, SqL.of hwo, atI_nat (j := 1) rfl, _, rfl, px, _, _, _, rfl, rfl, SqL.of hx, atI_nat (j := 0) e0, _, rfl, wo, _, _, _, rfl, rfl, SqL.of hwo, atI_nat (j := 1) rfl, pk, _, rfl, .inl (SqL.of hpk), _, _, rfl, rfl, (by rw [List.length_map]; show (0 : Int) < ((kps.length : Nat) : Int); omega), pk, _, _, _, rfl, rfl, SqL.of hpk, (by rw [eki]; exact atI_nat (by rw [List.getElem?_map, hkt]; rfl)), ?_⟩
  have t0 := Int.emod_nonneg x1 (show (((ts'.map V.ref).length : Nat) : Int) ≠ 0 by rw [List.length_map]; omega)
  refine ⟨_, rfl, px, _, _, _, rfl, rfl, SqL.of hx, atI_nat (j := 1) e1, _, rfl, pq, _, rfl, .inl (SqL.of hts), _, _, rfl, rfl, (by rw [List.length_map]; show (0 : Int) < ((ts'.length : Nat) : Int); omega), ?_⟩
  obtain ⟨tn, etn⟩ : ∃ tn : Nat, x1 % (((ts'.map V.ref).length : Nat) : Int) = (tn : Int) := ⟨_, (Int.toNat_of_nonneg t0).symm⟩
  dsimp only
  rw [etn]
  have hTr := (hTp.drop tn).app (hTp.take tn)
  refine ⟨by show 0 <= sizeLine; decide, fun lm hlm => ?_⟩
  have flm : H lm = none := hlm
  have m1 := same_new hlm (.lst [])
  have elm := upd_same (H := H) (a := lm) (o := .lst [])
  generalize upd H lm (.lst []) = H1 at *
  refine ⟨_, rfl, _, rfl, _, rfl, pq, _, rfl, SqL.of (m1 _ _ hts), fun l3 hl3 => ?_⟩
  rw [cut_drop (by omega), show ((tn : Nat) : Int).toNat = tn by omega]
  have o3 := same_new (H := H1) hl3 (.lst ((ts'.drop tn).map V.ref))
  refine ⟨_, rfl, _, rfl, _, rfl, pq, _, rfl, SqL.of (o3 _ _ (m1 _ _ hts)), fun l4 hl4 => ?_⟩
  rw [cut_take (by omega), show ((tn : Nat) : Int).toNat = tn by omega]
  have o4 := o3.new (o := .lst ((ts'.take tn).map V.ref)) hl4
  refine ⟨l3, l4, _, _, rfl, rfl, old hl4 upd_same, upd_same, by rw [List.length_map, List.length_map, List.length_drop, List.length_take]; omega, fun l5 hl5 => ?_⟩
  rw [<- List.map_append]
  have o5 := o4.new (o := .lst ((ts'.drop tn ++ ts'.take tn).map V.ref)) hl5
  have el5 := upd_same (H := upd (upd H1 l3 (.lst ((ts'.drop tn).map V.ref))) l4 (.lst ((ts'.take tn).map V.ref))) (a := l5) (o := .lst ((ts'.drop tn ++ ts'.take tn).map V.ref))
  have elm5 := o5 _ _ elm
  have m5 := m1.trans o5
  have n5m : l5 ≠ lm := fun e => by rw [e] at hl5; rw [o4 _ _ elm] at hl5; cases hl5
  generalize upd (upd (upd H1 l3 (.lst ((ts'.drop tn).map V.ref))) l4 (.lst ((ts'.take tn).map V.ref))) l5 (.lst ((ts'.drop tn ++ ts'.take tn).map V.ref)) = H5 at *
  refine ⟨l5, rfl, ⟨_, SqL.of el5⟩, ?_⟩
  refine for_enum (xs := (ts'.drop tn ++ ts'.take tn).map V.ref) (fun i σ H' => Same H H' /\ H' l5 = some (.lst ((ts'.drop tn ++ ts'.take tn).map V.ref)) /\ (∃ (rs : List Addr) (hs : List Hd), H' lm = some (.lst (rs.map V.ref)) /\ HeadsL H' hs rs /\ hs.length = i /\ (∀ a ∈ hs, a.2.length <= 9) /\ (wl = false -> RotI st k tn above i hs)) /\ ∃ x6 x7 x8 x9 xa xb, σ = [some (.ref wo), some (.ref pa), some (.ref px), some (.ref pq), some (.int (tn : Nat)), some (.ref lm), x6, x7, x8, x9, xa, xb])
    ⟨m5, el5, ⟨[], [], elm5, ⟨rfl, fun i d q h => by simp at h⟩, rfl, (fun a ha => by cases ha), fun _ => ⟨rfl, fun a ha => by cases ha⟩⟩, none, none, none, none, none, none, rfl⟩ (fun i σ H' _ h => SqL.of h.2.1) ?_ ?_
  · rintro i v T σ H6 hv hTn ⟨s6, e5, ⟨rs, hs, e8, hA, lhs, h9, hR⟩, x6, x7, x8, x9, xa, xb, rfl⟩
    rw [List.getElem?_map] at hv
    obtain ⟨pr, hpr, rfl⟩ := Option.map_eq_some_iff.mp hv
    have hi : i < ts'.length := by
      have := (List.getElem?_eq_some_iff.mp hpr).1
      rw [List.length_append, List.length_drop, List.length_take] at this
      omega
    obtain ⟨tg, nn, hka, htg⟩ := hTr.get hpr
    have hkm : (tg, nn) ∈ k := by
      rcases List.mem_append.mp (List.mem_of_getElem? hka) with h | h
      · exact List.mem_of_mem_drop h
      · exact List.mem_of_mem_take h
    have hsz := hOk.sz (tg, nn) (List.mem_flatten.mpr ⟨k, List.mem_of_getElem? hk, hkm⟩)
    have nn0 : 0 <= nn := hsz.1
    have nn9 : nn <= 9 := hsz.2
    refine ⟨_, _, rfl, SqT.of upd_same, rfl, _, _, rfl, _, _, rfl, rfl, ?_⟩
    have k7 := same_new hTn (.tup [.int (i : Nat), .ref pr])
    have s7 := s6.trans k7
    have e87 := k7 _ _ e8
    have e57 := k7 _ _ e5
    have hA7 := hA.keep (.of k7)
    generalize upd H6 T (.tup [.int (i : Nat), .ref pr]) = H7 at *
    have hwo7 := s7 _ _ hwo
    have ha7 := s7 _ _ ha
    refine ⟨_, rfl, _, _, rfl, SqT.of (s7 _ _ htg), rfl, _, _, rfl, _, _, rfl, rfl, ?_⟩
    have j0 := Int.emod_nonneg ((i : Nat) : Int) (show (7 : Int) ≠ 0 by decide)
    have j1 := Int.emod_lt_of_pos ((i : Nat) : Int) (show (0 : Int) < 7 by decide)
    obtain ⟨xi, hxi⟩ : ∃ v : Int, atI (xs.map V.int) (3 + ((i : Nat) : Int) % 7) = some (.int v) := by
      obtain ⟨v, hv⟩ := atx (j := (3 + ((i : Nat) : Int) % 7).toNat) (by omega)
      have := atI_nat hv
      rw [Int.toNat_of_nonneg (by omega)] at this
      exact ⟨v, this⟩
    refine ⟨_, rfl, _, rfl, _, _, rfl, rfl, (by show (0 : Int) < _; decide), _, _, rfl, rfl, px, _, _, _, rfl, rfl, SqL.of (s7 _ _ hx), hxi, _, rfl, _, _, rfl, rfl, _, _, rfl, rfl, ⟨by show (0 : Int) < ((i : Nat) : Int) + 1; omega, by show ((i : Nat) : Int) + 1 < 1073741824; omega⟩, ?_⟩
    dsimp only
    generalize xi / (((i : Nat) : Int) + 1) = nu
    suffices rest1 : ∀ t : Str, (wl = false -> t = tg) -> (tSeq _ _ : TS) _ [some (.ref wo), some (.ref pa), some (.ref px), some (.ref pq), some (.int (tn : Nat)), some (.ref lm), some (.int (i : Nat)), some (.ref pr), some (.str t), some (.int nn), some (.int nu), xb] H7 by
      refine ⟨_, rfl, wo, _, _, _, rfl, rfl, SqL.of hwo7, atI_nat (j := 3) rfl, wl, rfl, ite2 (fun cw => ?_) (fun _ => iteF (rest1 tg fun _ => rfl))⟩
      refine ⟨_, rfl, _, _, rfl, rfl, (by show (0 : Int) < _; decide), rfl, _, rfl, ite2 (fun _ => ?_) (fun _ => rest1 tg fun _ => rfl)⟩
      have b0 := Int.emod_nonneg (nu / 32) (show (50 : Int) ≠ 0 by decide)
      have b1 := Int.emod_lt_of_pos (nu / 32) (show (0 : Int) < 50 by decide)
      obtain ⟨mm, em⟩ : ∃ mm : Nat, nu / 32 % 50 = (mm : Int) := ⟨_, (Int.toNat_of_nonneg b0).symm⟩
      refine ⟨_, rfl, wo, _, _, _, rfl, rfl, SqL.of hwo7, rfl, _, rfl, _, _, rfl, rfl, ⟨by decide, by decide⟩, _, _, rfl, rfl, (by show (0 : Int) < _; decide), st, mm, ?_, hOk.sl, by omega, rest1 _ fun e => by rw [e] at cw; cases cw⟩
      show [V.str st, V.int (nu / 32 % 50)] = _
      rw [em]
    intro t hTt
    suffices rest2 : ∀ m : Int, 0 <= m -> m <= 9 -> (wl = false -> m = nn) -> (tSeq _ _ : TS) _ [some (.ref wo), some (.ref pa), some (.ref px), some (.ref pq), some (.int (tn : Nat)), some (.ref lm), some (.int (i : Nat)), some (.ref pr), some (.str t), some (.int m), some (.int nu), xb] H7 by
      refine ⟨_, rfl, wo, _, _, _, rfl, rfl, SqL.of hwo7, atI_nat (j := 3) rfl, wl, rfl, ite2 (fun cw => ?_) (fun _ => iteF (rest2 nn nn0 nn9 fun _ => rfl))⟩
      refine ⟨_, rfl, _, _, rfl, rfl, (by show (0 : Int) < _; decide), rfl, _, rfl, ite2 (fun _ => ?_) (fun _ => rest2 nn nn0 nn9 fun _ => rfl)⟩
      have b0 := Int.emod_nonneg (nu / 32) (show (4 : Int) ≠ 0 by decide)
      have b1 := Int.emod_lt_of_pos (nu / 32) (show (0 : Int) < 4 by decide)
      exact ⟨_, rfl, _, _, rfl, rfl, ⟨by decide, by decide⟩, _, _, rfl, rfl, (by show (0 : Int) < _; decide), rest2 _ b0 (by omega) fun e => by rw [e] at cw; cases cw⟩
    intro mi mi0 mi9 hMi
    obtain ⟨m, rfl⟩ : ∃ m : Nat, mi = (m : Int) := ⟨mi.toNat, by omega⟩
    refine ⟨_, rfl, _, rfl, by show -(2 ^ 62) <= (m : Int); omega, by show (m : Int) < 2 ^ 62; omega, lc_range (fun j τ ys H' => H' = H7 /\ (∃ v, τ = [some (.ref wo), some (.ref pa), some (.ref px), some (.ref pq), some (.int (tn : Nat)), some (.ref lm), some (.int (i : Nat)), some (.ref pr), some (.str t), some (.int (m : Nat)), some (.int nu), xb, v]) /\ ∃ ns : List Str, ys = ns.map V.str /\ ns.length = j /\ ns = (List.range j).map fun z => nm st (above.length + z)) ⟨rfl, ⟨none, rfl⟩, [], rfl, rfl, rfl⟩ ?_ ?_⟩
    · rintro j τ ys H8 hj ⟨rfl, ⟨v, rfl⟩, ns, rfl, lns, ens⟩
      replace hj : j < m := by
        have : ((m : Nat) : Int).toNat = m := by omega
        rw [<- this]; exact hj
      refine ⟨_, rfl, wo, _, _, _, rfl, rfl, SqL.of hwo7, rfl, _, rfl, pa, _, rfl, .inl (SqL.of ha7), _, rfl, _, _, rfl, rfl, st, above.length + j, ?_, hOk.sl, by omega, ?_, rfl, ⟨_, rfl⟩, ns ++ [nm st (above.length + j)], ?_, ?_, ?_⟩
      · show [V.str st, V.int ((((above.map V.str).length : Nat) : Int) + (0 + (j : Int)))] = _
        rw [List.length_map, show ((above.length : Nat) : Int) + (0 + (j : Int)) = ((above.length + j : Nat) : Int) by omega]
      · rw [List.length_map]; omega
      · rw [List.map_append]; rfl
      · rw [List.length_append, lns]; rfl
      · rw [ens, List.range_succ, List.map_append]; rfl
    rintro τ ys H8' ⟨rfl, _, ns, rfl, lns, ens⟩ ln hln
    have em : ((m : Nat) : Int).toNat = m := by omega
    rw [em] at lns ens
    have k8 := same_new hln (.lst (ns.map V.str))
    have eln := upd_same (H := H8') (a := ln) (o := .lst (ns.map V.str))
    have s8 := s7.trans k8
    have e88 := k8 _ _ e87
    have e58 := k8 _ _ e57
    have hA8 := hA7.keep (.of k8)
    have fln : H ln = none := s7.free hln
    have nlm : ln ≠ lm := fun e => by rw [e, e87] at hln; cases hln
    have nl5 : l5 ≠ ln := fun e => by rw [<- e, e57] at hln; cases hln
    have hwo8 := k8 _ _ hwo7
    have ha8 := k8 _ _ ha7
    dsimp only [List.set]
    generalize upd H8' ln (.lst (ns.map V.str)) = H8 at *
    have lrs := hA.1
    have fin : ∀ (H9 : Hp) (ns' : List Str), (∀ a o, a ≠ ln -> H8 a = some o -> H9 a = some o) -> ns'.length <= 9 -> (wl = false -> ns' = (List.range m).map fun z => nm st (above.length + z)) -> ∀ t1 t2, H9 t1 = none -> upd H9 t1 (.tup (ns'.map V.str)) t2 = none -> Same H (upd (upd (upd H9 t1 (.tup (ns'.map V.str))) t2 (.tup [.str t, .ref t1])) lm (.lst (rs.map V.ref ++ [.ref t2]))) /\ (upd (upd (upd H9 t1 (.tup (ns'.map V.str))) t2 (.tup [.str t, .ref t1])) lm (.lst (rs.map V.ref ++ [.ref t2]))) l5 = some (.lst ((ts'.drop tn ++ ts'.take tn).map V.ref)) /\ (∃ (rz : List Addr) (hz : List Hd), (upd (upd (upd H9 t1 (.tup (ns'.map V.str))) t2 (.tup [.str t, .ref t1])) lm (.lst (rs.map V.ref ++ [.ref t2]))) lm = some (.lst (rz.map V.ref)) /\ HeadsL (upd (upd (upd H9 t1 (.tup (ns'.map V.str))) t2 (.tup [.str t, .ref t1])) lm (.lst (rs.map V.ref ++ [.ref t2]))) hz rz /\ hz.length = i + 1 /\ (∀ a ∈ hz, a.2.length <= 9) /\ (wl = false -> RotI st k tn above (i + 1) hz)) /\ ∃ x6 x7 x8 x9 xa xb, ([some (.ref wo), some (.ref pa), some (.ref px), some (.ref pq), some (.int (tn : Nat)), some (.ref lm), some (.int (i : Nat)), some (.ref pr), some (.str t), some (.int (m : Nat)), some (.int nu), some (.ref ln)] : St) = [some (.ref wo), some (.ref pa), some (.ref px), some (.ref pq), some (.int (tn : Nat)), some (.ref lm), x6, x7, x8, x9, xa, xb] := by
      intro H9 ns' k9 l9' hNs t1 t2 h1 h2
      have m9 := (same_new h1 (.tup (ns'.map V.str))).new (o := .tup [.str t, .ref t1]) h2
      have S9 : Same H H9 := fun b o hb => k9 b o (fun e => by rw [e, fln] at hb; cases hb) (s8 _ _ hb)
      have S10 := S9.trans m9
      have e89 := m9 _ _ (k9 _ _ nlm.symm e88)
      have e59 := m9 _ _ (k9 _ _ nl5 e58)
      have et2 := upd_same (H := upd H9 t1 (.tup (ns'.map V.str))) (a := t2) (o := .tup [.str t, .ref t1])
      have et1 := old (o := .tup [.str t, .ref t1]) h2 (upd_same (H := H9) (a := t1) (o := .tup (ns'.map V.str)))
      have tu8 : Tups H8 H9 := fun z zs hz => k9 _ _ (fun e => by rw [e, eln] at hz; cases hz) hz
      have hA9 := (hA8.keep tu8).keep (.of m9)
      generalize upd (upd H9 t1 (.tup (ns'.map V.str))) t2 (.tup [.str t, .ref t1]) = H10 at *
      have tu : Tups H10 (upd H10 lm (.lst (rs.map V.ref ++ [.ref t2]))) := fun z zs hz => by
        rw [upd_ne (ne_of hz e89 (by intro e; cases e))]
        exact hz
      refine ⟨S10.put flm, by rw [upd_ne n5m]; exact e59, ⟨rs ++ [t2], hs ++ [(t, ns')], by rw [upd_same, List.map_append]; rfl, (hA9.keep tu).app (HeadsL.one (d := (t, ns')) ⟨t1, tu _ _ et2, tu _ _ et1⟩), by rw [List.length_append, lhs]; rfl, fun a ha => ?_, fun e => (hR e).snoc (by rw [hka, hTt e, <- hMi e]) (hNs e)⟩, _, _, _, _, _, _, rfl⟩
      rcases List.mem_append.mp ha with h | h
      · exact h9 a h
      · rw [List.mem_singleton.mp h]
        exact l9'
    refine ⟨_, rfl, wo, _, _, _, rfl, rfl, SqL.of hwo8, atI_nat (j := 3) rfl, wl, rfl, ite2 (fun cw => ?_) (fun _ => iteF (nxt ⟨_, rfl, .inl ⟨rfl, _, SqL.of (e88)⟩, _, rfl, _, rfl, ln, _, rfl, .inl ⟨SqL.of (eln), fun t1 ht1 => ⟨by show 2 <= sizeLine; decide, fun t2 ht2 => ⟨lm, _, _, rfl, rfl, old ht2 (old ht1 (e88)), by rw [List.length_map]; omega, fin H8 ns (fun _ _ _ h => h) (by omega) (fun _ => ens) t1 t2 ht1 ht2⟩⟩⟩⟩))⟩
    refine ⟨_, rfl, _, _, rfl, rfl, (by show (0 : Int) < _; decide), rfl, _, rfl, ite2 (fun _ => ?_) (fun _ => iteF (nxt ⟨_, rfl, .inl ⟨rfl, _, SqL.of (e88)⟩, _, rfl, _, rfl, ln, _, rfl, .inl ⟨SqL.of (eln), fun t1 ht1 => ⟨by show 2 <= sizeLine; decide, fun t2 ht2 => ⟨lm, _, _, rfl, rfl, old ht2 (old ht1 (e88)), by rw [List.length_map]; omega, fin H8 ns (fun _ _ _ h => h) (by omega) (fun _ => ens) t1 t2 ht1 ht2⟩⟩⟩⟩))⟩
    refine ⟨_, rfl, _, _, rfl, rfl, _, rfl, ite2 (fun cm => ?_) (fun _ => nxt ⟨_, rfl, .inl ⟨rfl, _, SqL.of (e88)⟩, _, rfl, _, rfl, ln, _, rfl, .inl ⟨SqL.of (eln), fun t1 ht1 => ⟨by show 2 <= sizeLine; decide, fun t2 ht2 => ⟨lm, _, _, rfl, rfl, old ht2 (old ht1 (e88)), by rw [List.length_map]; omega, fin H8 ns (fun _ _ _ h => h) (by omega) (fun _ => ens) t1 t2 ht1 ht2⟩⟩⟩⟩)⟩
    have cm' : 0 < m := by
      have := of_decide_eq_true cm
      omega
    have b0 := Int.emod_nonneg (nu / 288) (show (((above.map V.str).length : Nat) : Int) + ((m : Nat) : Int) ≠ 0 by omega)
    have b1 := Int.emod_lt_of_pos (nu / 288) (show (0 : Int) < (((above.map V.str).length : Nat) : Int) + ((m : Nat) : Int) by omega)
    obtain ⟨mm, emm⟩ : ∃ mm : Nat, nu / 288 % ((((above.map V.str).length : Nat) : Int) + ((m : Nat) : Int)) = (mm : Int) := ⟨_, (Int.toNat_of_nonneg b0).symm⟩
    rw [emm] at b1
    have d0 := Int.emod_nonneg (nu / 32) (show ((m : Nat) : Int) ≠ 0 by omega)
    have d1 := Int.emod_lt_of_pos (nu / 32) (show (0 : Int) < ((m : Nat) : Int) by omega)
    obtain ⟨jj, ejj⟩ : ∃ jj : Nat, nu / 32 % ((m : Nat) : Int) = (jj : Int) := ⟨_, (Int.toNat_of_nonneg d0).symm⟩
    rw [ejj] at d1
    refine ⟨_, rfl, wo, _, _, _, rfl, rfl, SqL.of hwo8, rfl, _, rfl, _, _, rfl, rfl, ⟨by decide, by decide⟩, _, rfl, pa, _, rfl, .inl (SqL.of ha8), _, rfl, _, _, rfl, rfl, _, _, rfl, rfl, (by show (0 : Int) < (((above.map V.str).length : Nat) : Int) + ((m : Nat) : Int); omega), st, mm, ?_, hOk.sl, ?_, ?_⟩
    · show [V.str st, V.int (nu / 288 % ((((above.map V.str).length : Nat) : Int) + ((m : Nat) : Int)))] = _
      rw [emm]
    · rw [List.length_map] at b1
      omega
    refine ⟨_, rfl, _, rfl, _, _, rfl, rfl, ⟨by decide, by decide⟩, _, rfl, _, _, rfl, rfl, (by show (0 : Int) < ((m : Nat) : Int); omega), ln, _, _, jj, rfl, rfl, eln, ?_, ?_⟩
    · show ixN (ns.map V.str).length (nu / 32 % ((m : Nat) : Int)) = some jj
      rw [ejj, List.length_map]
      unfold ixN
      rw [if_pos (by omega), if_pos (by omega)]
      rfl
    rw [<- List.map_set]
    have k9 : ∀ a o, a ≠ ln -> H8 a = some o -> upd H8 ln (.lst ((ns.set jj (nm st mm)).map V.str)) a = some o := fun a o n h => by rw [upd_ne n]; exact h
    have eln9 := upd_same (H := H8) (a := ln) (o := .lst ((ns.set jj (nm st mm)).map V.str))
    have e89 := k9 _ _ nlm.symm e88
    have l9' : (ns.set jj (nm st mm)).length <= 9 := by rw [List.length_set]; omega
    generalize upd H8 ln (.lst ((ns.set jj (nm st mm)).map V.str)) = H9 at *
    exact ⟨_, rfl, .inl ⟨rfl, _, SqL.of (e89)⟩, _, rfl, _, rfl, ln, _, rfl, .inl ⟨SqL.of (eln9), fun t1 ht1 => ⟨by show 2 <= sizeLine; decide, fun t2 ht2 => ⟨lm, _, _, rfl, rfl, old ht2 (old ht1 (e89)), by rw [List.length_map]; omega, fin H9 _ k9 l9' (fun e => by rw [e] at cw; cases cw) t1 t2 ht1 ht2⟩⟩⟩⟩
  · rintro σ H6 ⟨s6, e5, ⟨rs, hs, e8, hA, lhs, h9, hR⟩, x6, x7, x8, x9, xa, xb, rfl⟩
    have lls : hs.length = ts'.length := by
      rw [lhs, List.length_map, List.length_append, List.length_drop, List.length_take]
      omega
    have lrs := hA.1
    have p0 : 0 < hs.length := by omega
    have p18 : hs.length <= 18 := by omega
    have done : ∀ (H' : Hp) (rs' : List Addr) (hs' : List Hd), Same H H' -> H' lm = some (.lst (rs'.map V.ref)) -> HeadsL H' hs' rs' -> 0 < hs'.length -> hs'.length <= 18 -> (∀ a ∈ hs', a.2.length <= 9) -> (wl = false -> Whole st ks above hs') -> Q (.ref lm) H' := fun H' rs' hs' s' e' h1 h2 h3 h4 h5 => q _ lm hs' rs' s' flm e' h1 h2 h3 h4 h5
    have hWh : wl = false -> Whole st ks above hs := fun e => (hR e).whole (List.mem_of_getElem? hk) hOk.nd (by rw [List.length_map, List.length_append, List.length_drop, List.length_take]; omega)
    have hwo6 := s6 _ _ hwo
    refine ⟨_, rfl, wo, _, _, _, rfl, rfl, SqL.of hwo6, atI_nat (j := 3) rfl, wl, rfl, ite2 (fun cw => ?_) (fun _ => iteF (nxt ⟨_, rfl, done _ rs hs s6 e8 hA p0 p18 h9 hWh⟩))⟩
    refine ⟨_, rfl, px, _, _, _, rfl, rfl, SqL.of (s6 _ _ hx), atI_nat (j := 2) e2, _, _, rfl, rfl, (by show (0 : Int) < _; decide), rfl, _, rfl, ite2 (fun _ => ?_) (fun _ => iteF (nxt ⟨_, rfl, done _ rs hs s6 e8 hA p0 p18 h9 hWh⟩))⟩
    refine ⟨_, rfl, lm, _, rfl, .inl (SqL.of e8), _, _, rfl, rfl, _, rfl, ite2 (fun c => ?_) (fun _ => nxt ⟨_, rfl, done _ rs hs s6 e8 hA p0 p18 h9 hWh⟩)⟩
    have c' : 1 < rs.length := by
      have := of_decide_eq_true c
      rw [List.length_map] at this
      omega
    have b0 := Int.emod_nonneg (x2 / 16) (show (((rs.map V.ref).length : Nat) : Int) ≠ 0 by rw [List.length_map]; omega)
    have b1 := Int.emod_lt_of_pos (x2 / 16) (show (0 : Int) < (((rs.map V.ref).length : Nat) : Int) by rw [List.length_map]; omega)
    obtain ⟨kk, ekk⟩ : ∃ kk : Nat, x2 / 16 % (((rs.map V.ref).length : Nat) : Int) = (kk : Int) := ⟨_, (Int.toNat_of_nonneg b0).symm⟩
    have hkk : kk < rs.length := by
      rw [ekk, List.length_map] at b1
      omega
    refine ⟨_, rfl, .inl ⟨rfl, _, SqL.of e8⟩, _, rfl, px, _, _, _, rfl, rfl, SqL.of (s6 _ _ hx), atI_nat (j := 2) e2, _, _, rfl, rfl, ⟨by decide, by decide⟩, _, rfl, lm, _, rfl, .inl (SqL.of e8), _, _, rfl, rfl, (by rw [List.length_map]; show (0 : Int) < ((rs.length : Nat) : Int); omega), lm, _, (kk : Int), kk, .ref rs[kk], rfl, ?_, e8, by omega, by omega, ?_, ?_, ?_⟩
    · show [V.int (x2 / 16 % (((rs.map V.ref).length : Nat) : Int))] = _
      rw [ekk]
    · rw [List.length_map]
      unfold seqIndex?
      simp
      omega
    · rw [List.getElem?_map, List.getElem?_eq_getElem hkk]
      rfl
    refine ⟨_, rfl, ?_⟩
    have tu : Tups H6 (upd H6 lm (.lst ((rs.map V.ref).eraseIdx kk))) := fun z zs hz => by
      rw [upd_ne (ne_of hz e8 (by intro e; cases e))]
      exact hz
    refine done _ (rs.eraseIdx kk) (hs.eraseIdx kk) (s6.put flm) ?_ ((hA.keep tu).erase kk) ?_ ?_ (fun a ha => h9 a (List.mem_of_mem_eraseIdx ha)) fun e => by rw [e] at cw; cases cw
    · rw [upd_same]
      congr 2
      exact erase_map rs kk
    · rw [List.length_eraseIdx, if_pos (by omega)]
      omega
    · rw [List.length_eraseIdx, if_pos (by omega)]
      omega
end
end KD
namespace KD
open PySem L2 K11
theorem dup_of : ∀ {ns seen : List Str}, (∀ n ∈ ns, n ∉ seen) -> ns.Nodup -> dup seen ns = none
  | [], _, _, _ => rfl
  | a :: l, seen, h, hn => by
    unfold dup
    rw [if_neg (h a List.mem_cons_self)]
    have := List.nodup_cons.mp hn
    refine dup_of (fun n hm z => ?_) this.2
    rcases List.mem_append.mp z with z | z
    · exact h n (List.mem_cons_of_mem _ hm) z
    · rw [List.mem_singleton.mp z] at hm
      exact this.1 hm
theorem nm_nodup {st : Str} : ∀ {l : List Nat}, l.Nodup -> (∀ k ∈ l, k < 676) -> (l.map (nm st)).Nodup
  | [], _, _ => List.nodup_nil
  | a :: l, h, hk => by
    have h' := List.nodup_cons.mp h
    refine List.nodup_cons.mpr ⟨fun z => ?_, nm_nodup h'.2 fun k hm => hk k (List.mem_cons_of_mem _ hm)⟩
    obtain ⟨b, hb, e⟩ := List.mem_map.mp z
    have := nm_inj (hk b (List.mem_cons_of_mem _ hb)) (hk a List.mem_cons_self) e
    rw [this] at hb
    exact h'.1 hb
def spCellD (K : PySem.W.Frag) : Sp := fun vs H Q _ => ∃ (a : Addr) (ns : List Int) (k : Nat), vs = [.ref a, .int (k : Nat)] /\ SqL K H a (ns.map V.int) /\ Q (.int (ns.getD k 0)) H
theorem Sta.put {H : Hp} {x pc du : Addr} {cells : List Int} {i w : Nat} {o : Option Fo} (h1 : H x = some (.lst [.ref pc, .int (i : Nat), .int (w : Nat), .ref du])) (h2 : H pc = some (.lst (cells.map V.int))) (h3 : pc ≠ x) (h4 : TX x H du o) (i' w' : Nat) : Sta (upd H x (.lst [.ref pc, .int (i' : Nat), .int (w' : Nat), .ref du])) x pc cells i' w' o := ⟨du, upd_same, by rw [upd_ne h3]; exact h2, h3, h4.kp (Kp.refl x H).put ⟨_, h1⟩⟩
def mkA : List (Str × List Str × Bd) -> Arms
  | [] => .nil
  | (t, ns, b) :: r => .cons t ns b (mkA r)
theorem mkA_hs : ∀ l, (mkA l).hs = l
  | [] => rfl
  | (t, ns, b) :: r => by rw [mkA, Arms.hs, mkA_hs r]
theorem mkA_asF (ks : List (List (Str × Int))) (kp : List (Str × Int)) (above : List Str) (l : List (Str × List Str × Bd)) : asF ks kp (mkA l) above = stF ks kp (l.map fun h => (h.2.2, above ++ h.2.1)) := by rw [asF_st, mkA_hs]
theorem stF_snoc {ks : List (List (Str × Int))} {kp : List (Str × Int)} {l : List (Bd × List Str)} {b : Bd} {s : List Str} : stF ks kp (l ++ [(b, s)]) = (stF ks kp l).or (bdF ks kp b s) := by
  unfold stF
  rw [List.findSome?_append, List.findSome?_cons]
  cases bdF ks kp b s <;> rfl
theorem mkA_sz : ∀ l, (mkA l).sz = (l.map fun h => h.2.1.length + h.2.2.sz + 1).sum
  | [] => by rw [mkA, Arms.sz]; rfl
  | (t, ns, b) :: r => by
    rw [mkA, Arms.sz, mkA_sz r, List.map_cons, List.sum_cons]
    dsimp only
    omega
theorem mkA_ok : ∀ l, (∀ h ∈ l, h.2.2.ok) -> (mkA l).ok
  | [], _ => by rw [mkA, Arms.ok]; trivial
  | (t, ns, b) :: r, h => by
    rw [mkA, Arms.ok]
    exact ⟨h _ List.mem_cons_self, mkA_ok r fun x hx => h x (List.mem_cons_of_mem _ hx)⟩
def ArmQ (H : Hp) (a : Str × List Str × Bd) (p : Addr) : Prop := ∃ q s, H p = some (.tup [.str a.1, .ref q, .ref s]) /\ H q = some (.tup (a.2.1.map V.str)) /\ IsBd H a.2.2 s
def ArmsQ (H : Hp) (l : List (Str × List Str × Bd)) (ts : List Addr) : Prop := l.length = ts.length /\ ∀ (i : Nat) a p, l[i]? = some a -> ts[i]? = some p -> ArmQ H a p
theorem ArmsQ.keep {H H' : Hp} (t : Tups H H') {l : List (Str × List Str × Bd)} {ts : List Addr} (h : ArmsQ H l ts) : ArmsQ H' l ts := ⟨h.1, fun i a p h1 h2 => let ⟨q, s, x, y, z⟩ := h.2 i a p h1 h2; ⟨q, s, t _ _ x, t _ _ y, z.keep t⟩⟩
theorem ArmsQ.snoc {H : Hp} {l : List (Str × List Str × Bd)} {ts : List Addr} (h : ArmsQ H l ts) {a : Str × List Str × Bd} {p : Addr} (g : ArmQ H a p) : ArmsQ H (l ++ [a]) (ts ++ [p]) := by
  refine ⟨by rw [List.length_append, List.length_append, h.1]; rfl, fun i d r h1 h2 => ?_⟩
  by_cases c : i < l.length
  · rw [List.getElem?_append_left c] at h1
    rw [List.getElem?_append_left (by rw [<- h.1]; exact c)] at h2
    exact h.2 i d r h1 h2
  · rw [List.getElem?_append_right (by omega)] at h1
    rw [List.getElem?_append_right (by rw [<- h.1]; omega), <- h.1] at h2
    have : i - l.length = 0 := by
      have := (List.getElem?_eq_some_iff.mp h1).1
      simp at this
      omega
    rw [this] at h1 h2
    cases h1
    cases h2
    exact g
theorem ArmsQ.is {H : Hp} : ∀ {l : List (Str × List Str × Bd)} {ts : List Addr}, ArmsQ H l ts -> IsArms H (mkA l) ts
  | [], ts, h => List.length_eq_zero_iff.mp h.1.symm
  | (t, ns, y) :: l, [], h => by
    have := h.1
    simp at this
  | (t, ns, y) :: l, p :: ts, h => by
    obtain ⟨q, s, a1, a2, a3⟩ := h.2 0 _ _ rfl rfl
    exact ⟨p, q, s, ts, rfl, a1, a2, a3, ArmsQ.is ⟨by have := h.1; simpa using this, fun i a p' h1 h2 => h.2 (i + 1) a p' h1 h2⟩⟩
theorem heF_congr {ks : List (List (Str × Int))} {seen : List Str} : ∀ {a b : List (Str × List Str × Bd)} {tags : List Str}, a.map (fun h => (h.1, h.2.1)) = b.map (fun h => (h.1, h.2.1)) -> heF ks seen a tags = heF ks seen b tags
  | [], [], _, _ => rfl
  | [], _ :: _, _, h => by simp at h
  | _ :: _, [], _, h => by simp at h
  | (t, ns, x) :: a, (t', ns', x') :: b, tags, h => by
    simp only [List.map_cons, List.cons.injEq, Prod.mk.injEq] at h
    obtain ⟨⟨rfl, rfl⟩, h⟩ := h
    rw [heF, heF, heF_congr h]
theorem csF_congr {ks : List (List (Str × Int))} {y : Str} {seen : List Str} {a b : List (Str × List Str × Bd)} (h : a.map (fun h => (h.1, h.2.1)) = b.map (fun h => (h.1, h.2.1))) : csF ks y a seen = csF ks y b seen := by
  have e : a.map (·.1) = b.map (·.1) := by
    have := congrArg (List.map Prod.fst) h
    rw [List.map_map, List.map_map] at this
    exact this
  unfold csF
  rw [heF_congr h, e]
theorem lt_due {ks : List (List (Str × Int))} {kp : List (Str × Int)} {n : Str} {d : De} {b : Bd} {above : List Str} : bdF ks kp (.lt n d b) above = ((deFo ks kp above d).or (twF above n)).or (bdF ks kp b (above ++ [n])) := by
  rw [bdF]
  congr 1
  show (match deF ks.flatten kp above d with | some f => some (Fo.n f) | none => if n ∈ above then some (Fo.n (1, n)) else none) = _
  unfold deFo twF
  cases deF ks.flatten kp above d <;> rfl
theorem give_due {ks : List (List (Str × Int))} {kp : List (Str × Int)} {n : Str} {above : List Str} : bdF ks kp (.give n) above = usF above n := by
  rw [bdF, us_unk]
  rfl
theorem iff_due {ks : List (List (Str × Int))} {kp : List (Str × Int)} {n : Str} {b c : Bd} {above : List Str} : bdF ks kp (.iff n b c) above = (usF above n).or ((bdF ks kp b above).or (bdF ks kp c above)) := by
  rw [bdF, us_unk]
  rfl
theorem cs_due {ks : List (List (Str × Int))} {kp : List (Str × Int)} {n : Str} {l : List (Str × List Str × Bd)} {above : List Str} : bdF ks kp (.cs n (mkA l)) above = ((usF above n).or (csF ks n l above)).or (stF ks kp (l.map fun h => (h.2.2, above ++ h.2.1))) := by
  rw [bdF, mkA_asF]
  congr 1
  show (match unkF above [n] with | some f => some (Fo.n f) | none => csF ks n (mkA l).hs above) = _
  rw [us_unk, mkA_hs]
  cases unkF above [n] <;> rfl
theorem flat_le : ∀ (ks : List (List (Str × Int))), (∀ k ∈ ks, k.length <= 18) -> ks.flatten.length <= 18 * ks.length
  | [], _ => Nat.zero_le _
  | k :: ks, h => by
    rw [List.flatten_cons, List.length_append, List.length_cons]
    have := h k List.mem_cons_self
    have := flat_le ks fun x hx => h x (List.mem_cons_of_mem _ hx)
    omega
def sumL (l : List Hd) : Nat := (l.map fun a => a.2.length).sum
theorem sumL_cast : ∀ (l : List Hd), (l.map fun a => ((a.2.length : Nat) : Int)).sum = ((sumL l : Nat) : Int)
  | [] => rfl
  | a :: l => by
    have := sumL_cast l
    unfold sumL at *
    rw [List.map_cons, List.map_cons, List.sum_cons, List.sum_cons, this]
    omega
theorem sumL_mem : ∀ {l : List Hd} {a : Hd}, a ∈ l -> a.2.length <= sumL l
  | b :: l, a, h => by
    unfold sumL
    rw [List.map_cons, List.sum_cons]
    rcases List.mem_cons.mp h with rfl | h
    · omega
    · have := sumL_mem h
      unfold sumL at this
      omega
theorem sumL_le : ∀ {l : List Hd}, (∀ a ∈ l, a.2.length <= 9) -> sumL l <= 9 * l.length
  | [], _ => Nat.le_refl _
  | b :: l, h => by
    have e := sumL_le fun a ha => h a (List.mem_cons_of_mem _ ha)
    have := h b List.mem_cons_self
    unfold sumL at *
    rw [List.map_cons, List.sum_cons, List.length_cons]
    omega
theorem nm_new {st : Str} {above : List Str} {n : Nat} (h : above = (List.range above.length).map (nm st)) (h1 : above.length <= n) (h2 : n < 676) : nm st n ∉ above := fun z => by
  rw [h] at z
  obtain ⟨j, hj, e⟩ := List.mem_map.mp z
  have := List.mem_range.mp hj
  have := nm_inj (by omega) h2 e
  omega
theorem nm_snoc {st : Str} {above : List Str} (h : above = (List.range above.length).map (nm st)) : above ++ [nm st above.length] = (List.range (above ++ [nm st above.length]).length).map (nm st) := by
  rw [List.length_append, List.length_singleton, List.range_succ, List.map_append, <- h]
  rfl
theorem nm_app {st : Str} {above ns : List Str} (h : above = (List.range above.length).map (nm st)) (g : ns = (List.range ns.length).map fun j => nm st (above.length + j)) : above ++ ns = (List.range (above ++ ns).length).map (nm st) := by
  rw [List.length_append, List.range_add, List.map_append, List.map_map, <- h]
  congr 1
theorem dup_nms {st : Str} {above : List Str} (h : above = (List.range above.length).map (nm st)) {m : Nat} (hm : above.length + m <= 676) : dup above ((List.range m).map fun j => nm st (above.length + j)) = none := by
  refine dup_of (fun n hn => ?_) ?_
  · obtain ⟨j, hj, rfl⟩ := List.mem_map.mp hn
    have := List.mem_range.mp hj
    exact nm_new h (by omega) (by omega)
  · have e : ((List.range m).map fun j => nm st (above.length + j)) = ((List.range m).map fun j => above.length + j).map (nm st) := by
      rw [List.map_map]
      rfl
    rw [e]
    refine nm_nodup ?_ fun k hk => ?_
    · exact nd_map (fun a b z => by omega) List.nodup_range
    · obtain ⟨j, hj, rfl⟩ := List.mem_map.mp hk
      have := List.mem_range.mp hj
      omega
def spBodyL (n : Nat) : Sp := fun vs H Q _ => ∃ (x wo pa pc : Addr) (cells : List Int) (i w : Nat) (o : Option Fo) (st : Str) (ks : List (List (Str × Int))) (kp : List (Str × Int)) (wl : Bool) (above : List Str), vs = [.ref x, .ref wo, .ref pa] /\ Sta H x pc cells i w o /\ Wo x H wo st ks kp wl /\ WOk st ks kp /\ H pa = some (.lst (above.map V.str)) /\ pa ≠ x /\ above.length <= w + 10 /\ w <= 400 /\ (above = [] -> w <= 10) /\ (cells.length - i) + (if above = [] then 2 else 1) <= n /\
  ∀ H' r b i' w', Kp x H H' -> Sta H' x pc cells i' w' (o.or (bdF ks kp b above)) -> i < i' -> w <= w' -> w' <= 400 -> IsBd H' b r -> b.ok -> b.sz + w <= w' + 1 -> (wl = false -> above = (List.range above.length).map (nm st) -> Cl ks kp b above) -> Q (.ref r) H'
section
variable {P : Program} {w : World} {K : PySem.W.Frag} {mg : Str -> Option Value} {base : Heap} {f R C : Addr} {fd : FuncData}
theorem ok_celld (F : Fun K "_law_cell_at" "_law_cell_at" sCellAt f fd) (m_len : mg "len" = none) : FnOk P w K mg base CX0 1 f fd ["_law_script", "_law_k"] (spCellD K) := by
  refine F.by scCellAt (fun vs H Q E h => ?_) (fun cdv A outer s H vs Q E hr h => ?_)
  · obtain ⟨a, ns, k, rfl, _⟩ := h
    rfl
  obtain ⟨a, ns, k, rfl, hS, q⟩ := h
  refine ⟨_,
    (jss_cons (js_if (jt_cmpR jo_lt (jv 1) (je_fnB jc_len_seq rfl m_len PySem.boot_len (ja_c (jv 0) ja_nil)) (nomark _))
      (jss_one (js_ret (je_ix jx_list (jv 0) (jv 1) (fun _ _ => rfl)))) jss_nil)
    (jss_one (js_ret je_int))), ?_⟩
  refine ⟨_, rfl, _, rfl, _, _, rfl, .inl hS, _, _, rfl, rfl, _, rfl, ?_⟩
  by_cases c : k < ns.length
  · have hx : (ns.map V.int)[k]? = some (.int (ns.getD k 0)) := by rw [List.getElem?_map, List.getElem?_eq_getElem c, List.getD_eq_getElem?_getD, List.getElem?_eq_getElem c]; rfl
    exact iteT' (decide_eq_true (by rw [List.length_map]; omega)) ⟨_, rfl, _, rfl, a, _, _, _, rfl, rfl, hS, atI_nat hx, q⟩
  · rw [List.getD_eq_getElem?_getD, List.getElem?_eq_none (by omega)] at q
    exact iteF' (decide_eq_false (by rw [List.length_map]; omega)) (nxt q)
theorem scBody : FnScope ["_law_state", "_law_world_here", "_law_above", "_law_cell", "_law_xs", "_law_way", "_law_deed_here", "_law_x", "_law_first", "_law_heads_here", "_law_arms"] ["_law_state", "_law_world_here", "_law_above"] (defScope sBody) := ⟨rfl, rfl, rfl, by decide +kernel, rfl, by decide +kernel, by decide +kernel⟩
theorem ndBody : (["_law_state", "_law_world_here", "_law_above", "_law_cell", "_law_xs", "_law_way", "_law_deed_here", "_law_x", "_law_first", "_law_heads_here", "_law_arms", "_law_tag", "_law_names"] : List Str).Nodup := by decide +kernel
theorem ok_bodyL0 (F : Fun K "_law_body" "_law_body" sBody f fd) : FnOk P w K mg base CX0 (5 + 0) f fd ["_law_state", "_law_world_here", "_law_above"] (spBodyL 0) := by
  refine F.by scBody (fun vs H Q E h => ?_) (fun cdv A outer s H vs Q E hr h => ?_)
  · obtain ⟨x, wo, pa, pc, cells, i, w, o, st, ks, kp, wl, above, rfl, _⟩ := h
    rfl
  obtain ⟨x, wo, pa, pc, cells, i, w, o, st, ks, kp, wl, above, rfl, _, _, _, _, _, _, _, _, hn, _⟩ := h
  exfalso
  split at hn <;> omega
theorem ok_bodyL {n : Nat} (F : Fun K "_law_body" "_law_body" sBody f fd) (GC : Ca P w K mg base CX0 1 "_law_cell_at" ["_law_script", "_law_k"] (spCellD K)) (GX : Ca P w K mg base CX0 1 "_law_stream" ["_law_cell", "_law_many"] spStream) (GU : Ca P w K mg base CX0 2 "_law_used" ["_law_state", "_law_world_here", "_law_above", "_law_number"] spUsed) (GB : Ca P w K mg base CX0 2 "_law_bound" ["_law_state", "_law_world_here", "_law_above", "_law_number"] spBoundL) (GD : Ca P w K mg base CX0 4 "_law_deed" ["_law_state", "_law_world_here", "_law_above", "_law_xs", "_law_way"] spLDeed) (GW : Ca P w K mg base CX0 1 "_law_words" ["_law_deed_here"] spWords) (GH : Ca P w K mg base CX0 2 "_law_heads" ["_law_world_here", "_law_above", "_law_xs"] spHeadsL) (GF : Ca P w K mg base CX0 1 "_law_fault" ["_law_state", "_law_due"] spFault) (GE : Ca P w K mg base CX0 1 "_law_heads_due" ["_law_heads_here", "_law_x", "_law_above", "_law_kinds"] spHeadsDue) (GY : Ca P w K mg base CX0 (5 + n) "_law_body" ["_law_state", "_law_world_here", "_law_above"] (spBodyL n))
    (m_len : mg "len" = none) (m_sum : mg "sum" = none) (m_list : mg "list" = none) (m_tuple : mg "tuple" = none) : FnOk P w K mg base CX0 (5 + n + 1) f fd ["_law_state", "_law_world_here", "_law_above"] (spBodyL (n + 1)) := by
  refine F.by scBody (fun vs H Q E h => ?_) (fun cdv A outer s H vs Q E hr h => ?_)
  · obtain ⟨x, wo, pa, pc, cells, i, w, o, st, ks, kp, wl, above, rfl, _⟩ := h
    rfl
  obtain ⟨x, wo, pa, pc, cells, i, w, o, st, ks, kp, wl, above, rfl, hSt, hW, hOk, ha, hax, law_, w4, hae, hn, q⟩ := h
  have r1 : Room 1 _ := hr.mono (by omega)
  have r2 : Room 2 _ := hr.mono (by omega)
  have r4 : Room 4 _ := hr.mono (by omega)
  refine ⟨_,
    (jss_cons (js_set (i := 3) scBody.nd rfl (Or.inl rfl) (je_ca GC r1 rfl pass0 (ja_c (je_ix jx_list (jv 0) je_int (fun _ _ => rfl)) (ja_c (je_ix jx_list (jv 0) je_int (fun _ _ => rfl)) ja_nil))))
    (jss_cons (js_asg (je_op jo_add (je_ix jx_list (jv 0) je_int (fun _ _ => rfl)) je_int) (jg_setL (jv 0) je_int))
    (jss_cons (js_set (i := 4) scBody.nd rfl (Or.inl rfl) (je_ca GX r1 rfl pass0 (ja_c (jv 3) (ja_c je_int ja_nil))))
    (jss_cons (js_set (i := 5) scBody.nd rfl (Or.inl rfl) (je_op jo_mod (jv 3) je_int))
    (jss_cons (js_if (jW.pt (jw_and (jt_cmpR (jo_neE hr) (jv 2) (je_lst ja_nil) (nomark _)) (jw_and1 (jW.pt (jw_or (jt_cmpR jo_eq (jv 5) je_int (nomark _)) (jw_or1 (jt_cmpR jo_gt (je_ix jx_list (jv 0) je_int (fun _ _ => rfl)) je_int (nomark _)))))))) 
      (jss_one (js_ret (je_tup (ja_c je_str (ja_c (je_ca GU r2 rfl pass0 (ja_c (jv 0) (ja_c (jv 1) (ja_c (jv 2) (ja_c (je_ix jx_list (jv 4) je_int (fun _ _ => rfl)) ja_nil))))) ja_nil)))))  jss_nil)
    (jss_cons (js_if (jW.pt (jw_or (jt_cmpR (jo_eqE hr) (jv 2) (je_lst ja_nil) (nomark _)) (jw_or1 (jt_cmpR jo_lt (jv 5) je_int (nomark _))))) 
      (jss_cons (js_set (i := 6) scBody.nd rfl (Or.inl rfl) (je_ca GD r4 rfl pass0 (ja_c (jv 0) (ja_c (jv 1) (ja_c (jv 2) (ja_c (jv 4) (ja_c (je_op jo_mod (je_op jo_fdiv (jv 3) je_int) je_int) ja_nil)))))))
      (jss_cons (js_set (i := 7) scBody.nd rfl (Or.inl rfl) (je_ca GB r2 rfl pass0 (ja_c (jv 0) (ja_c (jv 1) (ja_c (jv 2) (ja_c (je_ix jx_list (jv 4) je_int (fun _ _ => rfl)) ja_nil))))))
      (jss_cons (js_asg (je_op jo_add (je_ix jx_list (jv 0) je_int (fun _ _ => rfl)) (je_ca GW r1 rfl pass0 (ja_c (jv 6) ja_nil))) (jg_setL (jv 0) je_int))
      (jss_one (js_ret (je_tup (ja_c je_str (ja_c (jv 7) (ja_c (jv 6) (ja_c (je_ca GY hr rfl pass0 (ja_c (jv 0) (ja_c (jv 1) (ja_c (je_op jo_cat (jv 2) (je_lst (ja_c (jv 7) ja_nil))) ja_nil)))) ja_nil))))))))))  jss_nil)
    (jss_cons (js_set (i := 7) scBody.nd rfl (Or.inl rfl) (je_ca GU r2 rfl pass0 (ja_c (jv 0) (ja_c (jv 1) (ja_c (jv 2) (ja_c (je_ix jx_list (jv 4) je_int (fun _ _ => rfl)) ja_nil))))))
    (jss_cons (js_if (jt_cmpR jo_eq (jv 5) je_int (nomark _)) 
      (jss_cons (js_asg (je_op jo_add (je_ix jx_list (jv 0) je_int (fun _ _ => rfl)) je_int) (jg_setL (jv 0) je_int))
      (jss_cons (js_set (i := 8) scBody.nd rfl (Or.inl rfl) (je_ca GY hr rfl pass0 (ja_c (jv 0) (ja_c (jv 1) (ja_c (jv 2) ja_nil)))))
      (jss_one (js_ret (je_tup (ja_c je_str (ja_c (jv 7) (ja_c (jv 8) (ja_c (je_ca GY hr rfl pass0 (ja_c (jv 0) (ja_c (jv 1) (ja_c (jv 2) ja_nil)))) ja_nil)))))))))  jss_nil)
    (jss_cons (js_set (i := 9) scBody.nd rfl (Or.inl rfl) (je_ca GH r2 rfl pass0 (ja_c (jv 1) (ja_c (jv 2) (ja_c (jv 4) ja_nil)))))
    (jss_cons (js_expr (je_ca GF r1 rfl pass0 (ja_c (jv 0) (ja_c (je_ca GE r1 rfl pass0 (ja_c (jv 9) (ja_c (jv 7) (ja_c (jv 2) (ja_c (je_ix jx_list (jv 1) je_int (fun _ _ => rfl)) ja_nil))))) ja_nil))))
    (jss_cons (js_asg (je_op jo_add (je_op jo_add (je_op jo_add (je_ix jx_list (jv 0) je_int (fun _ _ => rfl)) je_int) (je_op jo_mul je_int (je_fnB jc_len_seq rfl m_len PySem.boot_len (ja_c (jv 9) ja_nil)))) (je_fnB (jc_sum rfl) rfl m_sum PyProof.Rows.boot_sum (ja_c (je_comp ["_law_tag", "_law_names"] rfl (ji_list (jv 9)) (fun _ _ _ _ _ => (jg_tupK K (n := 2) rfl (jgs_cons (jg_name (i := 11) ndBody rfl (Or.inl rfl)) (jgs_cons (jg_name (i := 12) ndBody rfl (Or.inl rfl)) jgs_nil)))) (fun _ _ _ _ _ => jts_nil) (fun _ _ _ _ _ => (je_fnB (jc_len_seqK K) rfl m_len PySem.boot_len (ja_c (jv 12) ja_nil)))) ja_nil))) (jg_setL (jv 0) je_int))
    (jss_cons (js_comp ["_law_tag", "_law_names"] (i := 10) scBody.nd rfl (Or.inl rfl) rfl (ji_list (jv 9)) (fun _ _ _ _ _ => (jg_tupK K (n := 2) rfl (jgs_cons (jg_name (i := 11) ndBody rfl (Or.inl rfl)) (jgs_cons (jg_name (i := 12) ndBody rfl (Or.inl rfl)) jgs_nil)))) (fun _ _ _ _ _ => jts_nil) (fun _ _ _ _ _ => (je_tup (ja_c (jv 11) (ja_c (jv 12) (ja_c (je_ca GY hr rfl pass0 (ja_c (jv 0) (ja_c (jv 1) (ja_c (je_op jo_cat (jv 2) (je_fnTy (jc_list_ofK K) rfl m_list PyProof.Rows.boot_list (ja_c (jv 12) ja_nil))) ja_nil)))) ja_nil))))))
    (jss_one (js_ret (je_tup (ja_c je_str (ja_c (jv 7) (ja_c (je_fnTy jc_tuple_of rfl m_tuple PyProof.Rows.boot_tuple (ja_c (jv 10) ja_nil)) ja_nil)))))))))))))))))), ?_⟩
  have sl := line0
  have hx0 := hSt.lst
  obtain ⟨du, h1, h2, h3, h4⟩ := id hSt
  refine ⟨_, rfl, x, _, _, _, rfl, rfl, SqL.of h1, rfl, _, rfl, x, _, _, _, rfl, rfl, SqL.of h1, atI_nat (j := 1) rfl, pc, cells, i, rfl, SqL.of h2, ?_⟩
  obtain ⟨c, ec⟩ : ∃ c, c = cells.getD i 0 := ⟨_, rfl⟩
  rw [<- ec]
  refine ⟨_, rfl, x, _, _, _, rfl, rfl, SqL.of h1, atI_nat (j := 1) rfl, _, _, rfl, rfl, _, rfl, x, _, 1, 1, rfl, rfl, h1, rfl, ?_⟩
  have e1 : (((i : Nat) : Int) + 1) = ((i + 1 : Nat) : Int) := by omega
  dsimp only [List.set]
  rw [e1]
  have hS1 := Sta.put h1 h2 h3 h4 (i + 1) w
  have k1 : Kp x H (upd H x (.lst [.ref pc, .int ((i + 1 : Nat) : Int), .int (w : Nat), .ref du])) := (Kp.refl x H).put
  have hW1 := hW.kp k1 hx0
  have ha1 := k1 _ _ hax ha
  generalize upd H x (.lst [.ref pc, .int ((i + 1 : Nat) : Int), .int (w : Nat), .ref du]) = H1 at *
  refine ⟨_, rfl, c, 14, rfl, by decide, fun H2 px xs s2 hx lx hxb => ?_⟩
  have hx01 := hS1.lst
  have hS2 := hS1.same s2
  have hW2 := hW1.kp (.of s2) hx01
  have ha2 := s2 _ _ ha1
  have k2 := k1.trans (Kp.of (x := x) s2)
  have c0 := Int.emod_nonneg c (show (7 : Int) ≠ 0 by decide)
  have c7 := Int.emod_lt_of_pos c (show (0 : Int) < 7 by decide)
  refine ⟨_, rfl, _, _, rfl, rfl, (by show (0 : Int) < _; decide), ?_⟩
  have npx : px ≠ x := fun e => by
    obtain ⟨du2, g1, _⟩ := hS2
    rw [e, g1] at hx
    have := congrArg List.length (HO.lst.inj (Option.some.inj hx))
    rw [List.length_map, lx] at this
    cases this
  have atx : ∀ {j : Nat}, j < 14 -> ∃ v : Int, (xs.map V.int)[j]? = some (.int v) := fun {j} h => ⟨xs[j]'(by omega), by rw [List.getElem?_map, List.getElem?_eq_getElem (by omega)]; rfl⟩
  obtain ⟨x0, e0⟩ := atx (j := 0) (by decide)
  obtain ⟨x12, e12⟩ := atx (j := 12) (by decide)
  obtain ⟨x13, e13⟩ := atx (j := 13) (by decide)
  have mlt : c % 7 ≠ 0 -> i < cells.length := fun h => by
    by_cases g : i < cells.length
    · exact g
    · exfalso
      apply h
      rw [ec, List.getD_eq_getElem?_getD, List.getElem?_eq_none (by omega)]
      rfl
  have hxl2 := hS2.lst
  dsimp only
  show (tSeq (tIfS _ _ _) _ : TS) _ _ H2
  show (tSeq (tIfS _ _ _) (tSeq (tIfS _ _ _) _) : TS) _ _ H2
  show (tSeq (tIfS _ _ _) (tSeq (tIfS _ _ _) _) : TS) _ [some (.ref x), some (.ref wo), some (.ref pa), some (.int c), some (.ref px), some (.int (c % 7)), none, none, none, none, none] H2
  refine (show ∀ (uG uL uR : TS) (D : Ends), D.rt = Q -> (∀ (D' : Ends) (H' : Hp), D'.rt = Q -> above ≠ [] -> Same H2 H' -> uG D' [some (.ref x), some (.ref wo), some (.ref pa), some (.int c), some (.ref px), some (.int (c % 7)), none, none, none, none, none] H') -> (∀ (D' : Ends) (H' : Hp), D'.rt = Q -> (above ≠ [] -> w <= 90 /\ c % 7 ≠ 0) -> Same H2 H' -> uL D' [some (.ref x), some (.ref wo), some (.ref pa), some (.int c), some (.ref px), some (.int (c % 7)), none, none, none, none, none] H') -> (∀ (H' : Hp), above ≠ [] -> w <= 90 -> c % 7 ≠ 0 -> Same H2 H' -> uR D [some (.ref x), some (.ref wo), some (.ref pa), some (.int c), some (.ref px), some (.int (c % 7)), none, none, none, none, none] H') -> (tSeq (tIfS _ uG tNext) (tSeq (tIfS _ uL tNext) uR) : TS) D [some (.ref x), some (.ref wo), some (.ref pa), some (.int c), some (.ref px), some (.int (c % 7)), none, none, none, none, none] H2 from ?key) _ _ _ _ rfl ?g ?l ?r
  case key =>
    intro uG uL uR D hD hG hL hR
    obtain ⟨du2, g1, _⟩ := id hS2
    refine ⟨_, rfl, by show 0 <= sizeLine; decide, fun pe h3 => ?_⟩
    have n3 := same_new (H := H2) h3 (.lst [])
    refine ⟨_, _, _, rfl, rfl, SqL.of (n3 _ _ ha2), SqL.of upd_same, _, rfl, ?_⟩
    show if (if true = true then !(above.map V.str).isEmpty else (above.map V.str).isEmpty) = true then _ else _
    generalize upd H2 pe (.lst []) = H3 at *
    by_cases he : above = []
    · have ee : (above.map V.str).isEmpty = true := by rw [he]; rfl
      rw [ee]
      refine iteF (iteF (nxt ?_))
      refine ⟨_, rfl, by show 0 <= sizeLine; decide, fun pe3 h4 => ?_⟩
      have n4 := same_new (H := H3) h4 (.lst [])
      refine ⟨_, _, _, rfl, rfl, SqL.of (old h4 (n3 _ _ ha2)), SqL.of upd_same, _, rfl, ?_⟩
      show if (if false = true then !(above.map V.str).isEmpty else (above.map V.str).isEmpty) = true then _ else _
      rw [ee]
      exact iteT (iteT (hL _ _ hD (fun e => absurd he e) (n3.trans n4)))
    · have ee : (above.map V.str).isEmpty = false := by
        cases above with
        | nil => exact absurd rfl he
        | cons _ _ => rfl
      rw [ee]
      refine iteT ?_
      refine ⟨_, rfl, rfl, _, rfl, ?_⟩
      refine ite2 (fun _ => iteT (hG _ _ hD he n3)) (fun c1 => ?_)
      have c1' : c % 7 ≠ 0 := fun e => by rw [e] at c1; exact absurd c1 (by decide)
      refine ⟨_, rfl, x, _, _, _, rfl, rfl, SqL.of (n3 _ _ g1), atI_nat (j := 2) rfl, _, _, rfl, rfl, _, rfl, ?_⟩
      refine ite2 (fun _ => hG _ _ hD he n3) (fun c2 => nxt ?_)
      rw [decide_eq_true_eq] at c2
      have c2' : w <= 90 := by omega
      refine ⟨_, rfl, by show 0 <= sizeLine; decide, fun pe3 h4 => ?_⟩
      have n4 := same_new (H := H3) h4 (.lst [])
      refine ⟨_, _, _, rfl, rfl, SqL.of (old h4 (n3 _ _ ha2)), SqL.of upd_same, _, rfl, ?_⟩
      show if (if false = true then !(above.map V.str).isEmpty else (above.map V.str).isEmpty) = true then _ else _
      rw [ee]
      refine iteF ?_
      refine ⟨_, rfl, _, _, rfl, rfl, _, rfl, ?_⟩
      exact ite2 (fun _ => hL _ _ hD (fun _ => ⟨c2', c1'⟩) (n3.trans n4)) (fun _ => nxt (hR _ he c2' c1' (n3.trans n4)))
  case g =>
    intro D' H3 hD ha0 s3
    have a0 : 0 < above.length := by
      cases above with
      | nil => exact absurd rfl ha0
      | cons _ _ => exact Nat.succ_pos _
    refine ⟨_, rfl, _, rfl, _, rfl, _, rfl, px, _, _, _, rfl, rfl, SqL.of (s3 _ _ hx), atI_nat (j := 0) e0, x, wo, pa, pc, cells, i + 1, w, o, st, ks, kp, wl, above, x0, rfl, hS2.same s3, hW2.kp (.of s3) hxl2, hOk.sl, s3 _ _ ha2, hax, a0, by omega, fun H4 m k4 S4 hm => ⟨by show 2 <= sizeLine; decide, fun t1 h5 => ?_⟩⟩
    rw [hD]
    exact q _ t1 (.give m) (i + 1) w (((k2.trans (.of s3)).trans k4).new h5) (by rw [give_due]; exact S4.same (same_new h5 _)) (by omega) (Nat.le_refl _) w4 upd_same (by rw [Bd.ok]; trivial) (by rw [Bd.sz]; omega) fun e _ ks' kp' _ => by rw [give_due]; unfold usF; rw [if_pos (hm e)]
  case l =>
    intro D' H3 hD hab s3
    have wb : w <= 90 := by
      by_cases e : above = []
      · have := hae e
        omega
      · exact (hab e).1
    have mm : (cells.length - (i + 1)) + 1 <= n := by
      by_cases e : above = []
      · rw [if_pos e] at hn
        omega
      · rw [if_neg e] at hn
        have := mlt (hab e).2
        omega
    have S3 := hS2.same s3
    have W3 := hW2.kp (.of s3) hxl2
    have ha3 := s3 _ _ ha2
    have hx3 := s3 _ _ hx
    have y0 := Int.emod_nonneg (c / 7) (show (6 : Int) ≠ 0 by decide)
    have y1 := Int.emod_lt_of_pos (c / 7) (show (0 : Int) < 6 by decide)
    obtain ⟨wy, ewy⟩ : ∃ wy : Nat, c / 7 % 6 = (wy : Int) := ⟨_, (Int.toNat_of_nonneg y0).symm⟩
    refine ⟨_, rfl, _, rfl, _, rfl, _, rfl, _, rfl, _, _, rfl, rfl, ⟨by decide, by decide⟩, _, _, rfl, rfl, (by show (0 : Int) < _; decide), x, wo, pa, px, pc, cells, i + 1, w, o, st, ks, kp, wl, above, xs, wy, ?_, S3, W3, hOk, ha3, hax, by omega, hx3, npx, lx, hxb, by omega, fun H4 r d k4 S4 hd hw hde => ?_⟩
    · show [V.ref x, V.ref wo, V.ref pa, V.ref px, V.int (c / 7 % 6)] = _
      rw [ewy]
    have W4 := W3.kp k4 S3.lst
    have ha4 := k4 _ _ hax ha3
    refine ⟨_, rfl, _, rfl, _, rfl, _, rfl, px, _, _, _, rfl, rfl, SqL.of (k4 _ _ npx hx3), atI_nat (j := 13) e13, x, wo, pa, pc, cells, i + 1, w, _, st, ks, kp, wl, above, x13, rfl, S4, W4, hOk.sl, ha4, hax, by omega, fun H5 m k5 S5 hbn => ?_⟩
    have W5 := W4.kp k5 S4.lst
    have ha5 := k5 _ _ hax ha4
    have hd5 := hd.keep (k5.tups S4.lst)
    have k25 := ((k2.trans (.of s3)).trans k4).trans k5
    have hxl5 := S5.lst
    obtain ⟨du5, g1, g2, g3, g4⟩ := id S5
    refine ⟨_, rfl, x, _, _, _, rfl, rfl, SqL.of g1, atI_nat (j := 2) rfl, _, rfl, r, d, rfl, hd5, _, _, rfl, rfl, _, rfl, x, _, 2, 2, rfl, rfl, g1, rfl, ?_⟩
    have e2 : (((w : Nat) : Int) + ((d.wd : Nat) : Int)) = ((w + d.wd : Nat) : Int) := by omega
    dsimp only [List.set]
    rw [e2]
    have S6 := Sta.put g1 g2 g3 g4 (i + 1) (w + d.wd)
    have k6 : Kp x H5 (upd H5 x (.lst [.ref pc, .int ((i + 1 : Nat) : Int), .int ((w + d.wd : Nat) : Int), .ref du5])) := (Kp.refl x H5).put
    have W6 := W5.kp k6 hxl5
    have ha6 := k6 _ _ hax ha5
    have hd6 := hd5.keep (k6.tups hxl5)
    have k26 := k25.trans k6
    generalize upd H5 x (.lst [.ref pc, .int ((i + 1 : Nat) : Int), .int ((w + d.wd : Nat) : Int), .ref du5]) = H6 at *
    refine ⟨_, rfl, _, rfl, _, rfl, _, rfl, _, rfl, _, rfl, by show 1 <= sizeLine; decide, fun pl h7 => ?_⟩
    refine ⟨pa, pl, _, _, rfl, rfl, old h7 ha6, upd_same, by rw [List.length_map]; show _ + 1 <= _; omega, fun pm h8 => ?_⟩
    have em : above.map V.str ++ [V.str m] = (above ++ [m]).map V.str := by rw [List.map_append]; rfl
    rw [em]
    have n7 := (same_new h7 (.lst [.str m])).new (o := .lst ((above ++ [m]).map V.str)) h8
    have epm := upd_same (H := upd H6 pl (.lst [.str m])) (a := pm) (o := .lst ((above ++ [m]).map V.str))
    have npm : pm ≠ x := fun e => by
      obtain ⟨ys, hy⟩ := S6.lst
      rw [e] at h8
      rw [old h7 hy] at h8
      cases h8
    have hxl6 := S6.lst
    have S7 := S6.same n7
    have W7 := W6.kp (.of n7) hxl6
    have hd7 := hd6.keep (.of n7)
    generalize upd (upd H6 pl (.lst [.str m])) pm (.lst ((above ++ [m]).map V.str)) = H7 at *
    have dw := d.ar_wd
    refine ⟨x, wo, pm, pc, cells, i + 1, w + d.wd, _, st, ks, kp, wl, above ++ [m], rfl, S7, W7, hOk, epm, npm, ?_, by omega, fun e => by simp at e, ?_, fun H8 pb b i' w' k8 S8 hi hw1 hw2 hb hbo hbs hCl => ⟨by show 4 <= sizeLine; decide, fun t2 h9 => ?_⟩⟩
    · rw [List.length_append, List.length_singleton]
      omega
    · rw [if_neg (by simp)]
      exact mm
    rw [hD]
    have tu := (k8.tups S7.lst)
    have n9 := same_new h9 (.tup [.str "let", .str m, .ref r, .ref pb])
    refine q _ t2 (.lt m d b) i' w' (((k26.trans (.of n7)).trans k8).new h9) ?_ (by omega) (by omega) hw2 ⟨r, pb, upd_same, (hd7.keep tu).keep (.of n9), hb.keep (.of n9)⟩ (by rw [Bd.ok]; exact hbo) (by rw [Bd.sz]; omega) ?_
    · rw [lt_due, <- Option.or_assoc, <- Option.or_assoc]
      exact S8.same n9
    · intro e hab ks' kp' rn
      have em := hbn e
      rw [lt_due, rn.de, hde e, Option.none_or]
      have ht : twF above m = none := by
        unfold twF
        rw [if_neg]
        rw [em]
        exact nm_new hab (Nat.le_refl _) (by omega)
      rw [ht, Option.none_or]
      refine hCl e ?_ ks' kp' rn
      rw [em]
      exact nm_snoc hab
  case r =>
    intro H3 ha0 wb c1 s3
    have a0 : 0 < above.length := by
      cases above with
      | nil => exact absurd rfl ha0
      | cons _ _ => exact Nat.succ_pos _
    have mm : (cells.length - (i + 1)) + 1 <= n := by
      rw [if_neg ha0] at hn
      have := mlt c1
      omega
    have S3 := hS2.same s3
    have W3 := hW2.kp (.of s3) hxl2
    have ha3 := s3 _ _ ha2
    have hx3 := s3 _ _ hx
    refine ⟨_, rfl, _, rfl, _, rfl, _, rfl, px, _, _, _, rfl, rfl, SqL.of hx3, atI_nat (j := 12) e12, x, wo, pa, pc, cells, i + 1, w, o, st, ks, kp, wl, above, x12, rfl, S3, W3, hOk.sl, ha3, hax, a0, by omega, fun H4 y k4 S4 hy => ?_⟩
    have W4 := W3.kp k4 S3.lst
    have ha4 := k4 _ _ hax ha3
    have hx4 := k4 _ _ npx hx3
    have k24 := (k2.trans (.of s3)).trans k4
    have hxl4 := S4.lst
    refine ⟨_, rfl, rfl, _, rfl, ite2 (fun _ => ?_) (fun _ => nxt ?_)⟩
    · obtain ⟨du4, g1, g2, g3, g4⟩ := id S4
      refine ⟨_, rfl, x, _, _, _, rfl, rfl, SqL.of g1, atI_nat (j := 2) rfl, _, _, rfl, rfl, _, rfl, x, _, 2, 2, rfl, rfl, g1, rfl, ?_⟩
      have e2 : (((w : Nat) : Int) + 5) = ((w + 5 : Nat) : Int) := by omega
      dsimp only [List.set]
      rw [e2]
      have S5 := Sta.put g1 g2 g3 g4 (i + 1) (w + 5)
      have k5 : Kp x H4 (upd H4 x (.lst [.ref pc, .int ((i + 1 : Nat) : Int), .int ((w + 5 : Nat) : Int), .ref du4])) := (Kp.refl x H4).put
      have W5 := W4.kp k5 hxl4
      have ha5 := k5 _ _ hax ha4
      have k25 := k24.trans k5
      generalize upd H4 x (.lst [.ref pc, .int ((i + 1 : Nat) : Int), .int ((w + 5 : Nat) : Int), .ref du4]) = H5 at *
      refine ⟨_, rfl, _, rfl, _, rfl, x, wo, pa, pc, cells, i + 1, w + 5, _, st, ks, kp, wl, above, rfl, S5, W5, hOk, ha5, hax, by omega, by omega, fun e => absurd e ha0, by rw [if_neg ha0]; exact mm, fun H6 p1 b1 i1 w1 k6 S6 hi1 hw1 hw1' hb1 hbo1 hbs1 hC1 => ?_⟩
      have W6 := W5.kp k6 S5.lst
      have ha6 := k6 _ _ hax ha5
      refine ⟨_, rfl, _, rfl, _, rfl, _, rfl, _, rfl, x, wo, pa, pc, cells, i1, w1, _, st, ks, kp, wl, above, rfl, S6, W6, hOk, ha6, hax, by omega, hw1', fun e => absurd e ha0, by rw [if_neg ha0]; omega, fun H7 p2 b2 i2 w2 k7 S7 hi2 hw2 hw2' hb2 hbo2 hbs2 hC2 => ⟨by show 4 <= sizeLine; decide, fun t2 h9 => ?_⟩⟩
      have tu := (k7.tups S6.lst)
      have n9 := same_new h9 (.tup [.str "if", .str y, .ref p1, .ref p2])
      refine q _ t2 (.iff y b1 b2) i2 w2 (((k25.trans k6).trans k7).new h9) ?_ (by omega) (by omega) hw2' ⟨p1, p2, upd_same, (hb1.keep tu).keep (.of n9), hb2.keep (.of n9)⟩ (by rw [Bd.ok]; exact ⟨hbo1, hbo2⟩) (by rw [Bd.sz]; omega) ?_
      · rw [iff_due, <- Option.or_assoc, <- Option.or_assoc]
        exact S7.same n9
      · intro e hab ks' kp' rn
        rw [iff_due, hC1 e hab ks' kp' rn, hC2 e hab ks' kp' rn]
        unfold usF
        rw [if_pos (hy e)]
        rfl
    · refine ⟨_, rfl, _, rfl, _, rfl, x, wo, pa, px, st, ks, kp, wl, above, xs, rfl, W4, hOk, ha4, by omega, hx4, lx, hxb, fun H5 ph hs ts s5 fph eph hHs h0 h18 h9 hWh => ?_⟩
      have nph : ph ≠ x := fun e => by
        obtain ⟨ys, hy⟩ := hxl4
        rw [e, hy] at fph
        cases fph
      have S5 := S4.same s5
      have W5 := W4.kp (.of s5) hxl4
      have ha5 := s5 _ _ ha4
      have k25 := k24.trans (Kp.of (x := x) s5)
      have hxl5 := S5.lst
      have hx5 : H5 x ≠ none := fun e => by
        obtain ⟨ys, hy⟩ := hxl5
        rw [e] at hy
        cases hy
      obtain ⟨pk, pd, kps, dts, hwo, hpk, hK, hpd, hTd, n1, n2, n3, n4⟩ := id W5
      have k4' := hOk.k1
      have fl := flat_le ks fun k hk => (hOk.ne k hk).2
      refine ⟨_, rfl, _, rfl, _, rfl, _, rfl, _, rfl, wo, _, _, _, rfl, rfl, SqL.of hwo, atI_nat (j := 1) rfl, ph, pa, pk, y, hs, ts, above, ks, kps, rfl, eph, hHs, h0, by omega, h9, ha5, hpk, hK, hOk.nd, (fun k hk e => by have := (hOk.ne k hk).1; rw [e] at this; exact absurd this (by decide)), by omega, by omega, fun H6 r6 s6 t6 => ?_⟩
      have T6 := t6 x hx5
      have S6 := S5.same s6
      have hxl6 := S6.lst
      have W6 := W5.kp (.of s6) hxl5
      refine ⟨x, r6, pc, cells, i + 1, w, _, _, rfl, S6, T6, fun H7 k7 S7 => ?_⟩
      have W7 := W6.kp k7 hxl6
      have ha7 := k7 _ _ hax (s6 _ _ ha5)
      have eph7 := k7 _ _ nph (s6 _ _ eph)
      have hHs7 := (hHs.keep (.of s6)).keep (k7.tups hxl6)
      have k27 := (k25.trans (Kp.of (x := x) s6)).trans k7
      have hxl7 := S7.lst
      obtain ⟨du7, g1, g2, g3, g4⟩ := id S7
      have lts := hHs7.1
      refine ⟨_, rfl, x, _, _, _, rfl, rfl, SqL.of g1, atI_nat (j := 2) rfl, _, _, rfl, rfl, _, rfl, ph, _, rfl, .inl (SqL.of eph7), _, _, rfl, rfl, ?cm, _, _, rfl, rfl, _, rfl, _, rfl, ⟨_, SqL.of eph7⟩, lc_list (xs := ts.map V.ref) (fun j τ ys H' => H' = H7 /\ (∃ u v, τ = [some (.ref x), some (.ref wo), some (.ref pa), some (.int c), some (.ref px), some (.int (c % 7)), none, some (.str y), none, some (.ref ph), none, u, v]) /\ ys = (hs.take j).map fun a => V.int ((a.2.length : Nat) : Int)) ⟨rfl, ⟨none, none, rfl⟩, rfl⟩ (fun j τ ys H' _ h => by rw [h.1]; exact SqL.of eph7) ?_ ?_⟩
      case cm => exact .inl ⟨by decide, by decide⟩
      · rintro j v τ ys H8 hv ⟨rfl, ⟨u, v', rfl⟩, rfl⟩
        rw [List.getElem?_map] at hv
        obtain ⟨tq, htq, rfl⟩ := Option.map_eq_some_iff.mp hv
        have hj : j < hs.length := by
          have := (List.getElem?_eq_some_iff.mp htq).1
          omega
        obtain ⟨qa, a1, a2⟩ := hHs7.2 j hs[j] tq (List.getElem?_eq_getElem hj) htq
        refine ⟨_, _, rfl, SqT.of a1, rfl, _, _, rfl, _, _, rfl, rfl, _, rfl, qa, _, rfl, .inr (SqT.of a2), ?_, rfl, ⟨_, _, rfl⟩, ?_⟩
        · rw [List.length_map, List.length_take]
          omega
        · rw [List.length_map]
          exact take_map (fun a : Hd => V.int ((a.2.length : Nat) : Int)) (List.getElem?_eq_getElem hj)
      · rintro τ ys H8 ⟨rfl, _, rfl⟩ pw hpw
        rw [List.length_map, <- lts, List.take_of_length_le (Nat.le_refl _)]
        have emm : (hs.map fun a => V.int ((a.2.length : Nat) : Int)) = (hs.map fun a => ((a.2.length : Nat) : Int)).map V.int := by rw [List.map_map]; rfl
        rw [emm]
        have n8 := same_new hpw (.lst ((hs.map fun a => ((a.2.length : Nat) : Int)).map V.int))
        refine ⟨pw, _, rfl, SqL.of upd_same, _, _, rfl, rfl, _, rfl, x, _, 2, 2, rfl, rfl, n8 _ _ g1, rfl, ?_⟩
        have W0e : ((((w : Nat) : Int) + 1) + 4 * ((hs.length : Nat) : Int)) + (hs.map fun a => ((a.2.length : Nat) : Int)).sum = ((w + 1 + 4 * hs.length + sumL hs : Nat) : Int) := by
          rw [sumL_cast]
          omega
        dsimp only [List.set]
        rw [W0e]
        have sl9 := sumL_le h9
        obtain ⟨w0, ew0⟩ : ∃ w0, w0 = w + 1 + 4 * hs.length + sumL hs := ⟨_, rfl⟩
        rw [<- ew0]
        have hxl8 : ∃ zs, upd H8 pw (.lst ((hs.map fun a => ((a.2.length : Nat) : Int)).map V.int)) x = some (.lst zs) := ⟨_, n8 _ _ g1⟩
        have S9 := Sta.put (n8 _ _ g1) (n8 _ _ g2) g3 (g4.kp (.of n8) hxl7) (i + 1) w0
        have k9 : Kp x (upd H8 pw (.lst ((hs.map fun a => ((a.2.length : Nat) : Int)).map V.int))) (upd (upd H8 pw (.lst ((hs.map fun a => ((a.2.length : Nat) : Int)).map V.int))) x (.lst [.ref pc, .int ((i + 1 : Nat) : Int), .int (w0 : Nat), .ref du7])) := (Kp.refl x _).put
        have W9 := (W7.kp (.of n8) hxl7).kp k9 hxl8
        have ha9 := k9 _ _ hax (n8 _ _ ha7)
        have eph9 := k9 _ _ nph (n8 _ _ eph7)
        have hHs9 := (hHs7.keep (.of n8)).keep (k9.tups hxl8)
        have k29 := (k27.trans (Kp.of (x := x) n8)).trans k9
        have hxl9 := S9.lst
        generalize upd (upd H8 pw (.lst ((hs.map fun a => ((a.2.length : Nat) : Int)).map V.int))) x (.lst [.ref pc, .int ((i + 1 : Nat) : Int), .int (w0 : Nat), .ref du7]) = H9 at *
        refine ⟨_, rfl, _, rfl, ⟨_, SqL.of eph9⟩, lc_list (xs := ts.map V.ref) (fun j τ ys H' => Kp x H9 H' /\ (∃ u v, τ = [some (.ref x), some (.ref wo), some (.ref pa), some (.int c), some (.ref px), some (.int (c % 7)), none, some (.str y), none, some (.ref ph), none, u, v]) /\ ∃ (l : List (Str × List Str × Bd)) (rs : List Addr) (i' w' : Nat), ys = rs.map V.ref /\ ArmsQ H' l rs /\ l.map (fun h => (h.1, h.2.1)) = hs.take j /\ (∀ h ∈ l, h.2.2.ok) /\ (wl = false -> above = (List.range above.length).map (nm st) -> ∀ h ∈ l, Cl ks kp h.2.2 (above ++ h.2.1)) /\ Sta H' x pc cells i' w' (((o.or (usF above y)).or (csF ks y (hsOf hs) above)).or (stF ks kp (l.map fun h => (h.2.2, above ++ h.2.1)))) /\ i + 1 <= i' /\ w0 <= w' /\ w' <= 400 /\ (mkA l).sz + w0 <= w' + 2 * j + sumL (hs.take j)) ⟨Kp.refl x H9, ⟨none, none, rfl⟩, [], [], i + 1, w0, rfl, ⟨rfl, fun i a p h => by simp at h⟩, rfl, (fun h hh => by cases hh), (fun _ _ h hh => by cases hh), ?s0, Nat.le_refl _, Nat.le_refl _, by omega, by rw [mkA, Arms.sz]; omega⟩ (fun j τ ys H' _ h => SqL.of (h.1 _ _ nph eph9)) ?_ ?_⟩
        case s0 =>
          show Sta _ _ _ _ _ _ (Option.or _ none)
          rw [Option.or_none]
          exact S9
        · rintro j v τ ys Ha hv ⟨ka, ⟨u, v', rfl⟩, l, rs, i', w', rfl, hA, hl, hlo, hlc, Sa, hi', hw', hw4, hsz⟩
          rw [List.getElem?_map] at hv
          obtain ⟨tq, htq, rfl⟩ := Option.map_eq_some_iff.mp hv
          have hj : j < hs.length := by
            have := (List.getElem?_eq_some_iff.mp htq).1
            omega
          have hjg : hs[j]? = some hs[j] := List.getElem?_eq_getElem hj
          obtain ⟨hd, ehd⟩ : ∃ hd, hd = hs[j] := ⟨_, rfl⟩
          rw [<- ehd] at hjg
          obtain ⟨qa, a1, a2⟩ := (hHs9.keep (ka.tups hxl9)).2 j hd tq hjg htq
          have hdm : hd ∈ hs := List.mem_of_getElem? hjg
          have hd9 := h9 hd hdm
          have hds := sumL_mem hdm
          have haa := ka _ _ hax ha9
          have Wa := W9.kp ka hxl9
          have lrs : rs.length = j := by
            have e1 := congrArg List.length hl
            rw [List.length_map, List.length_take] at e1
            have := hA.1
            omega
          refine ⟨_, _, rfl, SqT.of a1, rfl, _, _, rfl, _, _, rfl, rfl, _, rfl, _, rfl, _, rfl, _, rfl, _, rfl, _, rfl, qa, _, rfl, .inr (SqT.of a2), fun l1 hl1 => ⟨pa, l1, _, _, rfl, rfl, old hl1 haa, upd_same, by rw [List.length_map, List.length_map]; omega, fun pm hpm => ?_⟩⟩
          rw [<- List.map_append]
          have m1 := (same_new hl1 (.lst (hd.2.map V.str))).new (o := .lst ((above ++ hd.2).map V.str)) hpm
          have epm := upd_same (H := upd Ha l1 (.lst (hd.2.map V.str))) (a := pm) (o := .lst ((above ++ hd.2).map V.str))
          have hxla := Sa.lst
          have npm : pm ≠ x := fun e => by
            obtain ⟨zs, hz⟩ := hxla
            rw [e] at hpm
            rw [old hl1 hz] at hpm
            cases hpm
          have Sb := Sa.same m1
          have Wb := Wa.kp (.of m1) hxla
          have a1b := m1 _ _ a1
          have a2b := m1 _ _ a2
          have hAb := hA.keep (.of m1)
          generalize upd (upd Ha l1 (.lst (hd.2.map V.str))) pm (.lst ((above ++ hd.2).map V.str)) = Hb at *
          have ane : above ++ hd.2 ≠ [] := fun e => ha0 (List.append_eq_nil_iff.mp e).1
          refine ⟨x, wo, pm, pc, cells, i', w', _, st, ks, kp, wl, above ++ hd.2, rfl, Sb, Wb, hOk, epm, npm, by rw [List.length_append]; omega, hw4, fun e => absurd e ane, by rw [if_neg ane]; omega, fun Hc pb b i2 w2 kc Sc hi2 hw2 hw2' hb hbo hbs hCb => ⟨by show 3 <= sizeLine; decide, fun t2 h2 => ?_⟩⟩
          have tc := kc.tups Sb.lst
          have n2 := same_new h2 (.tup [.str hd.1, .ref qa, .ref pb])
          have z1 : (mkA (l ++ [(hd.1, hd.2, b)])).sz = (mkA l).sz + (hd.2.length + b.sz + 1) := by
            rw [mkA_sz, mkA_sz, List.map_append, List.sum_append]
            rfl
          have z2 : sumL (hs.take (j + 1)) = sumL (hs.take j) + hd.2.length := by
            unfold sumL
            rw [List.take_add_one, hjg, List.map_append, List.sum_append]
            rfl
          refine ⟨by rw [List.length_map]; omega, ((ka.trans (.of m1)).trans kc).new h2, ⟨_, _, rfl⟩, l ++ [(hd.1, hd.2, b)], rs ++ [t2], i2, w2, by rw [List.map_append]; rfl, ((hAb.keep tc).keep (.of n2)).snoc ⟨qa, pb, upd_same, n2 _ _ (tc _ _ a2b), hb.keep (.of n2)⟩, ?_, ?_, ?cl, ?_, by omega, by omega, hw2', by rw [z1, z2]; omega⟩
          · rw [List.map_append, hl, List.take_add_one, hjg]
            rfl
          · intro h hh
            rcases List.mem_append.mp hh with hh | hh
            · exact hlo h hh
            · rw [List.mem_singleton.mp hh]
              exact hbo
          case cl =>
            intro e hab h hh
            rcases List.mem_append.mp hh with hh | hh
            · exact hlc e hab h hh
            · rw [List.mem_singleton.mp hh]
              obtain ⟨_, _, _, _, _, hnm⟩ := hWh e
              exact hCb e (nm_app hab (hnm hd hdm))
          · rw [List.map_append]
            show Sta _ _ _ _ _ _ (Option.or _ (stF ks kp (_ ++ [(b, above ++ hd.2)])))
            rw [stF_snoc, <- Option.or_assoc]
            exact Sc.same n2
        · rintro τ ys Ha ⟨ka, ⟨u, v', rfl⟩, l, rs, i', w', rfl, hA, hl, hlo, hlc, Sa, hi', hw', hw4, hsz⟩ pl hpl
          rw [List.length_map, <- lts, List.take_of_length_le (Nat.le_refl _)] at hl hsz
          have n1 := same_new hpl (.lst (rs.map V.ref))
          refine ⟨_, rfl, _, rfl, pl, _, rfl, .inl ⟨SqL.of upd_same, fun pt hpt => ⟨by show 3 <= sizeLine; decide, fun t2 h2 => ?_⟩⟩⟩
          have m3 := (n1.new (o := .tup (rs.map V.ref)) hpt).new (o := .tup [.str "case", .str y, .ref pt]) h2
          refine q _ t2 (.cs y (mkA l)) i' w' ((k29.trans ka).trans (.of m3)) ?_ (by omega) (by omega) hw4 ⟨pt, rs, upd_same, old h2 upd_same, (hA.keep (.of m3)).is⟩ ?_ ?_ ?_
          · rw [cs_due, csF_congr (b := hsOf hs) (by rw [hl]; unfold hsOf; rw [List.map_map]; exact (List.map_id _).symm), <- Option.or_assoc, <- Option.or_assoc]
            exact Sa.same m3
          · rw [Bd.ok]
            refine ⟨fun e => ?_, mkA_ok l hlo⟩
            cases l with
            | nil =>
              rw [List.map_nil] at hl
              rw [<- hl] at h0
              exact absurd h0 (by decide)
            | cons a r =>
              rw [mkA] at e
              cases e
          · rw [Bd.sz]
            omega
          · intro e hab ks' kp' rn
            obtain ⟨k, hk, w1, w2, w3, w4'⟩ := hWh e
            have ehs : l.map (fun h => (h.1, h.2.1)) = (hsOf hs).map (fun h => (h.1, h.2.1)) := by rw [hl]; unfold hsOf; rw [List.map_map]; exact (List.map_id _).symm
            rw [cs_due, csF_congr (b := hsOf hs) ehs, csF_whole rn.nd (rn.mem k hk) (hs := hsOf hs) ?n0 ?n1 ?n2 ?n3 ?n4]
            case n0 =>
              intro z
              unfold hsOf at z
              rw [List.map_eq_nil_iff.mp z] at h0
              exact absurd h0 (by decide)
            case n1 =>
              intro a ha
              unfold hsOf at ha
              obtain ⟨x', hx', rfl⟩ := List.mem_map.mp ha
              exact w1 x' hx'
            case n2 =>
              unfold hsOf
              rw [List.map_map]
              exact w2
            case n3 =>
              unfold hsOf
              rw [List.map_map]
              exact w3
            case n4 =>
              intro a ha
              unfold hsOf at ha
              obtain ⟨x', hx', rfl⟩ := List.mem_map.mp ha
              show dup above x'.2 = none
              rw [w4' x' hx']
              have := h9 x' hx'
              exact dup_nms hab (by omega)
            unfold usF
            rw [if_pos (hy e)]
            show stF ks' kp' (l.map fun h => (h.2.2, above ++ h.2.1)) = none
            unfold stF
            rw [List.findSome?_eq_none_iff]
            intro a ha
            obtain ⟨h, hh, rfl⟩ := List.mem_map.mp ha
            exact hlc e hab h hh ks' kp' rn
end
end KD
namespace L2
open PySem PySem.Spec PyProof.Rows
def pickV (xs : List V) (lo hi st : Option Int) : List V := (sliceRange (sliceBounds lo hi st xs.length).1 (sliceBounds lo hi st xs.length).2.1 (sliceBounds lo hi st xs.length).2.2).filterMap (xs[·]?)
theorem vals_pick {xs : List V} {us : List Value} (h : Vals xs us) : ∀ (l : List Nat), Vals (l.filterMap (xs[·]?)) (l.filterMap (us.toArray[·]?))
  | [] => .nil
  | i :: l => by
    have ih := vals_pick h l
    have hl := h.length
    by_cases c : i < xs.length
    · have e1 : xs[i]? = some xs[i] := List.getElem?_eq_getElem c
      obtain ⟨u, h1, h2⟩ := Vals.get h e1
      have e2 : us.toArray[i]? = some u := by rw [List.getElem?_toArray]; exact h1
      rw [List.filterMap_cons, List.filterMap_cons, e1, e2]
      exact .cons h2 ih
    · have e1 : xs[i]? = none := List.getElem?_eq_none (by omega)
      have e2 : us.toArray[i]? = none := by rw [List.getElem?_toArray]; exact List.getElem?_eq_none (by omega)
      rw [List.filterMap_cons, List.filterMap_cons, e1, e2]
      exact ih
def rSl3 (K : PySem.W.Frag) : V -> Option Int -> Option Int -> Option Int -> Hp -> VK -> Prop := fun x lo hi st H Q => ∃ a xs, x = .ref a /\ SqL K H a xs /\ st ≠ some 0 /\ ∀ p, H p = none -> Q (.ref p) (upd H p (.lst (pickV xs lo hi st)))
def tSl3 (r : V -> Option Int -> Option Int -> Option Int -> Hp -> VK -> Prop) (te : TE) (tl th ts : TO) : TE := fun σ H Q => te σ H fun x H1 => tl σ H1 fun l H2 => th σ H2 fun u H3 => ts σ H3 fun st H4 => r x l u st H4 Q
section
variable {X : Cx} {e : Expr} {te : TE} {lo hi : Option Expr} {st : Expr} {tl th ts : TO} {pos p2 : Pos}
theorem pe_slice3 (he : PE X e te) (hl : PO X lo tl) (hu : PO X hi th) (ht : PO X (some st) ts) : PE X (.Subscript e (.Slice lo hi (some st) p2) pos) (tSl3 (rSl3 X.K) te tl th ts) := by
  intro pins s σ H Q I h
  refine Subscript_ (thn (he pins s σ H _ I h) fun v s1 ⟨x, H1, I1, r1, q1⟩ => ?_)
  refine wpAny_Slice (thn (hl pins s1 σ H1 _ I1 q1) fun vl s2 ⟨l, H2, I2, pl, q2⟩ => thn (hu pins s2 σ H2 _ I2 q2) fun vu s3 ⟨u, H3, I3, pu, q3⟩ => thn (ht pins s3 σ H3 _ I3 q3) fun vt s4 ⟨t, H4, I4, pt, q4⟩ => ?_)
  have I5 : Inv X pins σ H4 { s4 with heap := s4.heap.push { cls := .type "slice", data := .fields #[vl, vu, vt] } } := I4.kept (t' := s4.toks) fun b ob q => Heap.get?_push_of_some _ q
  obtain ⟨a, xs, rfl, hx, h0, q⟩ := q4
  cases r1
  obtain ⟨its, r, hp, hz⟩ := I5.list hx
  have hlen := r.length
  show wpAny (model X.prog X.w) X.A (subscriptTail e (.Slice lo hi (some st) p2) (.ref a) (.ref s4.heap.objs.size)) (EP X pins σ Q) X.xe { s4 with heap := s4.heap.push { cls := .type "slice", data := .fields #[vl, vu, vt] } }
  refine tail_any (ops := [.ref a, .ref s4.heap.objs.size]) hp.isList.typeIs slot_list_getitem.lookup ?_ (by with_unfolding_all rfl)
  refine wpAny_getItem_list_slice hp.isList (Heap.IsSliceOf.new ..) pl pu pt h0 ?_ (by rw [List.size_toArray] <;> omega)
  have hpk := vals_pick r (sliceRange (sliceBounds l u t xs.length).1 (sliceBounds l u t xs.length).2.1 (sliceBounds l u t xs.length).2.2)
  have hle : (pickV xs l u t).length <= xs.length := by
    have := slicePick_size_le its.toArray l u t
    unfold slicePick at this
    rw [List.size_toArray, List.size_toArray, <- hlen] at this
    unfold pickV
    rw [hpk.length]
    exact this
  refine ⟨.ref _, _, I5.laid (t' := s4.toks) (o := .lst (pickV xs l u t)) (fun b ob q => Heap.get?_push_of_some _ q) (Nat.le_refl _) ?_, rfl, q _ (I5.hok.fresh (Nat.le_refl _))⟩
  refine ⟨Nat.le_trans hle hz, _, 0, hpk, ?_⟩
  have e2 : slicePick its.toArray l u t = (List.filterMap (its.toArray[·]?) (sliceRange (sliceBounds l u t xs.length).1 (sliceBounds l u t xs.length).2.1 (sliceBounds l u t xs.length).2.2)).toArray := by
    unfold slicePick
    rw [List.size_toArray, <- hlen]
  rw [<- e2]
  exact Heap.get?_push_size _ rfl
theorem je_slice3 (he : jE X e te) (hl : jO X lo tl) (hu : jO X hi th) (ht : jO X (some st) ts) : jE X (.Subscript e (.Slice lo hi (some st) p2) pos) (tSl3 (rSl3 X.K) te tl th ts) := ⟨pe_slice3 he.out hl.out hu.out ht.out⟩
end
theorem pick_ints {xs : List V} {ns : List Int} (h : xs = ns.map V.int) (lo hi st : Option Int) : ∃ ms : List Int, pickV xs lo hi st = ms.map V.int /\ ms.length <= ns.length := by
  subst h
  refine ⟨(sliceRange (sliceBounds lo hi st ns.length).1 (sliceBounds lo hi st ns.length).2.1 (sliceBounds lo hi st ns.length).2.2).filterMap (ns[·]?), ?_, ?_⟩
  · unfold pickV
    rw [List.length_map, List.map_filterMap]
    congr 1
    funext i
    rw [List.getElem?_map]
  · have := slicePick_size_le (ns.map fun i => rawInt i).toArray lo hi st
    unfold slicePick at this
    rw [List.size_toArray, List.size_toArray, List.length_map] at this
    refine Nat.le_trans (Nat.le_of_eq ?_) this
    have : (fun i => (ns.map fun i => rawInt i).toArray[i]?) = fun i : Nat => (ns[i]?).map fun i => rawInt i := by
      funext i
      rw [List.getElem?_toArray, List.getElem?_map]
    show _ = (List.filterMap (fun i => (ns.map fun i => rawInt i).toArray[i]?) _).length
    rw [this, <- List.map_filterMap, List.length_map]
end L2
namespace KD
open PySem L2 K11
def W0 (H : Hp) (wo : Addr) (st : Str) (ks : List (List (Str × Int))) (kp : List (Str × Int)) (wl : Bool) : Prop := ∃ pk pd kps dts, H wo = some (.lst [.str st, .ref pk, .ref pd, .bl wl]) /\ H pk = some (.lst (kps.map V.ref)) /\ Kds H ks kps /\ H pd = some (.lst (dts.map V.ref)) /\ Tps H kp dts
theorem W0.at {H H' : Hp} {wo x : Addr} {st : Str} {ks : List (List (Str × Int))} {kp : List (Str × Int)} {wl : Bool} (h : W0 H wo st ks kp wl) (s : Same H H') (hx : H x = none) : Wo x H' wo st ks kp wl := by
  obtain ⟨pk, pd, kps, dts, a1, a2, a3, a4, a5⟩ := h
  have ne : ∀ {z o}, H z = some o -> z ≠ x := fun {z o} e1 e2 => by
    rw [e2, hx] at e1
    cases e1
  refine ⟨pk, pd, kps, dts, s _ _ a1, s _ _ a2, a3.keep s, s _ _ a4, a5.keep (.of s), ne a1, ne a2, ne a4, fun hm => ?_⟩
  obtain ⟨i, hi⟩ := List.getElem?_of_mem hm
  obtain ⟨k, _, ts, ht, _⟩ := a3.get hi
  exact ne ht rfl
def spWorld (K : PySem.W.Frag) : Sp := fun vs H Q _ => ∃ (a : Addr) (ns : List Int) (wl : Bool), vs = [.ref a, .bl wl] /\ SqL K H a (ns.map V.int) /\ ∀ H' wo st ks kp, Same H H' -> W0 H' wo st ks kp wl -> WOk st ks kp -> Q (.ref wo) H'
theorem tags_snoc {ks : List (List (Str × Int))} {k : List (Str × Int)} : tagsOf (ks ++ [k]) = tagsOf ks ++ k.map (·.1) := by
  unfold tagsOf
  rw [List.flatten_append, List.map_append, List.flatten_cons, List.flatten_nil, List.append_nil]
theorem range_add {α : Type} {f : Nat -> α} {m j : Nat} : (List.range (m + j)).map f = (List.range m).map f ++ (List.range j).map fun i => f (m + i) := by
  rw [List.range_add, List.map_append, List.map_map]
  rfl
section
variable {P : Program} {w : World} {K : PySem.W.Frag} {mg : Str -> Option Value} {base : Heap} {f R C : Addr} {fd : FuncData}
theorem scWorld : FnScope ["_law_script", "_law_wild", "_law_first", "_law_second", "_law_stem_here", "_law_kinds", "_law_many", "_law_k", "_law_size", "_law_most", "_law_defs"] ["_law_script", "_law_wild"] (defScope sWorld) := ⟨rfl, rfl, rfl, by decide +kernel, rfl, by decide +kernel, by decide +kernel⟩
theorem ndWorld : (["_law_script", "_law_wild", "_law_first", "_law_second", "_law_stem_here", "_law_kinds", "_law_many", "_law_k", "_law_size", "_law_most", "_law_defs", "_law_j"] : List Str).Nodup := by decide +kernel
theorem ok_world (F : Fun K "_law_world" "_law_world" sWorld f fd) (GC : Ca P w K mg base CX0 1 "_law_cell_at" ["_law_script", "_law_k"] (spCellD K)) (GS : Ca P w K mg base CX0 1 "_law_stem" ["_law_cell"] spStem) (GN : Ca P w K mg base CX0 1 "_law_name" ["_law_stem_here", "_law_k"] spNm) (m_range : mg "range" = none) (m_min : mg "min" = none) (m_int : mg "int" = none) : FnOk P w K mg base CX0 2 f fd ["_law_script", "_law_wild"] (spWorld K) := by
  refine F.by scWorld (fun vs H Q E h => ?_) (fun cdv A outer s H vs Q E hr h => ?_)
  · obtain ⟨a, ns, wl, rfl, _⟩ := h
    rfl
  obtain ⟨a, ns, wl, rfl, hS, q⟩ := h
  have r1 : Room 1 _ := hr.mono (by decide)
  refine ⟨_,
    (jss_cons (js_set (i := 2) scWorld.nd rfl (Or.inr rfl) (je_ca GC r1 rfl pass0 (ja_c (jv 0) (ja_c je_int ja_nil))))
    (jss_cons (js_set (i := 3) scWorld.nd rfl (Or.inl rfl) (je_ca GC r1 rfl pass0 (ja_c (jv 0) (ja_c je_int ja_nil))))
    (jss_cons (js_set (i := 4) scWorld.nd rfl (Or.inr rfl) (je_ca GS r1 rfl pass0 (ja_c (je_op jo_fdiv (jv 3) je_int) ja_nil)))
    (jss_cons (js_set (i := 5) scWorld.nd rfl (Or.inl rfl) (je_lst ja_nil))
    (jss_cons (js_set (i := 6) scWorld.nd rfl (Or.inr rfl) je_int)
    (jss_cons (js_for PassesOwn.never rfl (ji_range1 rfl m_range (ja_c (je_op jo_add je_int (je_op jo_mod (jv 2) je_int)) ja_nil)) (jg_name (i := 7) scWorld.nd rfl (Or.inr rfl))
      (jss_cons (js_set (i := 8) scWorld.nd rfl (Or.inl rfl) (je_op jo_add je_int (je_op jo_mod (je_op jo_fdiv (jv 3) (je_op jo_add (je_op jo_mul je_int (jv 7)) je_int)) je_int)))
      (jss_cons (js_if (jW.pt (jw_and (jt_cmpR jo_eq (je_op jo_mod (jv 3) je_int) je_int (nomark _)) (jw_and1 (jt_cmpR jo_eq (jv 7) je_int (nomark _))))) 
        (jss_one (js_set (i := 8) scWorld.nd rfl (Or.inl rfl) je_int))  jss_nil)
      (jss_cons (js_set (i := 9) scWorld.nd rfl (Or.inr rfl) (je_op jo_sub (je_ix jx_list (je_lst (ja_c je_int (ja_c je_int (ja_c je_int (ja_c je_int (ja_c je_int (ja_c je_int ja_nil))))))) (je_fnB (jc_min2 rfl) rfl m_min PyProof.Rows.boot_min (ja_c (jv 8) (ja_c je_int ja_nil))) (fun _ _ => rfl)) (je_op jo_mul je_int (je_fnTy jc_int1 rfl m_int PyProof.Rows.boot_int (ja_c (je_cmpR jo_eq (jv 8) je_int (nomark _)) ja_nil)))))
      (jss_cons (js_expr (je_bm PySem.F.plainAttrs_list PySem.F.slot_list_append PySem.F.type_list_append jm_append (jv 5) (ja_c (je_comp ["_law_j"] rfl (ji_range1 rfl m_range (ja_c (jv 8) ja_nil)) (fun _ _ _ _ _ => (jg_name (i := 11) ndWorld rfl (Or.inl rfl))) (fun _ _ _ _ _ => jts_nil) (fun _ _ _ _ _ => (je_tup (ja_c (je_ca GN r1 rfl pass0 (ja_c (jv 4) (ja_c (je_op jo_add (jv 6) (jv 11)) ja_nil))) (ja_c (je_op jo_mod (je_op jo_add (je_op jo_fdiv (jv 2) (je_op jo_add je_int (jv 7))) (je_op jo_mul je_int (jv 11))) (jv 9)) ja_nil))))) ja_nil)))
      (jss_one (js_set (i := 6) scWorld.nd rfl (Or.inr rfl) (je_op jo_add (jv 6) (jv 8)))))))))
    (jss_cons (js_set (i := 10) scWorld.nd rfl (Or.inl rfl) (je_lst ja_nil))
    (jss_cons (js_for PassesOwn.never rfl (ji_range1 rfl m_range (ja_c (je_op jo_add je_int (je_op jo_mod (je_op jo_fdiv (jv 2) je_int) je_int)) ja_nil)) (jg_name (i := 7) scWorld.nd rfl (Or.inr rfl))
      (jss_one (js_expr (je_bm PySem.F.plainAttrs_list PySem.F.slot_list_append PySem.F.type_list_append jm_append (jv 10) (ja_c (je_tup (ja_c (je_ca GN r1 rfl pass0 (ja_c (jv 4) (ja_c (je_op jo_add je_int (jv 7)) ja_nil))) (ja_c (je_op jo_mod (je_op jo_add (je_op jo_fdiv (jv 2) je_int) (je_op jo_fdiv (jv 3) (je_op jo_add je_int (jv 7)))) je_int) ja_nil))) ja_nil)))))
    (jss_one (js_ret (je_lst (ja_c (jv 4) (ja_c (jv 5) (ja_c (jv 10) (ja_c (jv 1) ja_nil))))))))))))))), ?_⟩
  have sl := line0
  refine ⟨_, rfl, a, ns, 0, rfl, hS, _, rfl, a, ns, 1, rfl, hS, ?_⟩
  generalize ns.getD 0 0 = c0
  generalize ns.getD 1 0 = c1
  refine ⟨_, rfl, _, _, rfl, rfl, ⟨by decide, by decide⟩, _, rfl, fun st hst => ?_⟩
  refine ⟨by show 0 <= sizeLine; decide, fun lm hlm => ?_⟩
  have flm : H lm = none := hlm
  have m1 := same_new hlm (.lst [])
  have elm := upd_same (H := H) (a := lm) (o := .lst [])
  generalize upd H lm (.lst []) = H1 at *
  have f0 := Int.emod_nonneg c0 (show (4 : Int) ≠ 0 by decide)
  have f4 := Int.emod_lt_of_pos c0 (show (0 : Int) < 4 by decide)
  refine ⟨_, rfl, _, _, rfl, rfl, (by show (0 : Int) < _; decide), _, _, rfl, rfl, _, rfl, by omega, by omega, for_range (n := (1 + c0 % 4).toNat) (fun i σ H' => Same H H' /\ ∃ (kps : List Addr) (ks : List (List (Str × Int))) (many : Nat) (x7 x8 x9 : Option V), H' lm = some (.lst (kps.map V.ref)) /\ Kds H' ks kps /\ lm ∉ kps /\ ks.length = i /\ tagsOf ks = (List.range many).map (nm st) /\ many <= 18 * i /\ (∀ k ∈ ks, 0 < k.length /\ k.length <= 18) /\ (∀ a ∈ ks.flatten, 0 <= a.2 /\ a.2 <= 9) /\ σ = [some (.ref a), some (.bl wl), some (.int c0), some (.int c1), some (.str st), some (.ref lm), some (.int (many : Nat)), x7, x8, x9, none])
    ⟨m1, [], [], 0, none, none, none, elm, .nil, fun h => (by cases h), rfl, rfl, by omega, fun k h => (by cases h), fun k h => (by cases h), rfl⟩ ?_ ?_⟩
  · rintro i σ H2 hi ⟨s2, kps, ks, many, x7, x8, x9, e2, hK, hno, lks, htg, hmy, hne, hsz, rfl⟩
    have ez : ((0 : Int) + ((i : Nat) : Int)) = ((i : Nat) : Int) := by omega
    rw [ez]
    have hi4 : i < 4 := by omega
    have d0 := Int.emod_nonneg (c1 / (4 * ((i : Nat) : Int) + 1)) (show (5 : Int) ≠ 0 by decide)
    have d5 := Int.emod_lt_of_pos (c1 / (4 * ((i : Nat) : Int) + 1)) (show (0 : Int) < 5 by decide)
    obtain ⟨m0, em0⟩ : ∃ m : Nat, 1 + c1 / (4 * ((i : Nat) : Int) + 1) % 5 = (m : Int) := ⟨_, (Int.toNat_of_nonneg (by omega)).symm⟩
    suffices rest : ∀ m : Nat, 0 < m -> (m = 18 \/ m <= 5) -> (tSeq _ _ : TS) _ [some (.ref a), some (.bl wl), some (.int c0), some (.int c1), some (.str st), some (.ref lm), some (.int (many : Nat)), some (.int (i : Nat)), some (.int (m : Nat)), x9, none] H2 by
      refine ⟨_, rfl, _, rfl, _, _, rfl, rfl, .inl ⟨by decide, by decide⟩, _, _, rfl, rfl, _, _, rfl, rfl, ⟨by omega, by omega⟩, _, _, rfl, rfl, (by show (0 : Int) < _; decide), _, _, rfl, rfl, ?_⟩
      dsimp only
      rw [em0]
      have r0 := rest m0 (by omega) (.inr (by omega))
      exact ⟨_, rfl, _, _, rfl, rfl, (by show (0 : Int) < _; decide), rfl, _, rfl, ite2 (fun _ => ⟨_, rfl, rfl, _, rfl, ite2 (fun _ => rest 18 (by decide) (.inl rfl)) (fun _ => r0)⟩) (fun _ => iteF r0)⟩
    intro m hm0 hm
    obtain ⟨v, hv, v4, v10⟩ : ∃ v : Int, atI [V.int 10, .int 10, .int 10, .int 10, .int 4, .int 4] (if (5 : Int) < ((m : Nat) : Int) then 5 else ((m : Nat) : Int)) = some (.int v) /\ 4 <= v /\ v <= 10 := by
      have : m = 1 \/ m = 2 \/ m = 3 \/ m = 4 \/ m = 5 \/ m = 18 := by omega
      rcases this with rfl | rfl | rfl | rfl | rfl | rfl <;> exact ⟨_, rfl, by decide, by decide⟩
    refine ⟨by show 6 <= sizeLine; decide, fun l6 h6 => ?_⟩
    have n6 := same_new (H := H2) h6 (.lst [.int 10, .int 10, .int 10, .int 10, .int 4, .int 4])
    refine ⟨_, rfl, _, _, rfl, l6, _, _, _, rfl, rfl, SqL.of upd_same, hv, _, rfl, rfl, .inr ⟨_, rfl, ?_⟩⟩
    have e6 := n6 _ _ e2
    have hK6 := hK.keep n6
    have s6 := s2.trans n6
    generalize upd H2 l6 (.lst [.int 10, .int 10, .int 10, .int 10, .int 4, .int 4]) = H3 at *
    refine ⟨_, _, rfl, rfl, .inl ⟨by decide, by decide⟩, _, _, rfl, rfl, ?_⟩
    obtain ⟨mo, emo⟩ : ∃ mo : Int, mo = v - 2 * (if decide (V.int ((m : Nat) : Int) = V.int 18) = true then 1 else 0) := ⟨_, rfl⟩
    have mo2 : 0 < mo /\ mo <= 10 := by
      rw [emo]
      split <;> omega
    dsimp only
    rw [<- emo]
    refine ⟨_, rfl, .inl ⟨rfl, _, SqL.of e6⟩, _, rfl, _, rfl, by show -(2 ^ 62) <= ((m : Nat) : Int); omega, by show ((m : Nat) : Int) < 2 ^ 62; omega, lc_range (fun j τ ys H' => Same H3 H' /\ (∃ u, τ = [some (.ref a), some (.bl wl), some (.int c0), some (.int c1), some (.str st), some (.ref lm), some (.int (many : Nat)), some (.int (i : Nat)), some (.int (m : Nat)), some (.int mo), none, u]) /\ ∃ (ts : List Addr) (row : List (Str × Int)), ys = ts.map V.ref /\ Tps H' row ts /\ row.map (·.1) = (List.range j).map (fun k => nm st (many + k)) /\ ∀ b ∈ row, 0 <= b.2 /\ b.2 <= 9) ⟨Same.refl _, ⟨none, rfl⟩, [], [], rfl, .nil, rfl, fun b h => (by cases h)⟩ ?_ ?_⟩
    · rintro j τ ys H4 hj ⟨s4, ⟨u, rfl⟩, ts, row, rfl, hT, hrn, hrb⟩
      have ez : ((0 : Int) + ((j : Nat) : Int)) = ((j : Nat) : Int) := by omega
      rw [ez]
      have hj' : j < m := by omega
      have lts : ts.length = j := by
        have e1 := congrArg List.length hrn
        rw [List.length_map, List.length_map, List.length_range] at e1
        rw [<- hT.len, e1]
      have q0 := Int.emod_nonneg (c0 / (3 + ((i : Nat) : Int)) + 3 * ((j : Nat) : Int)) (show mo ≠ 0 by omega)
      have q1 := Int.emod_lt_of_pos (c0 / (3 + ((i : Nat) : Int)) + 3 * ((j : Nat) : Int)) (show 0 < mo by omega)
      refine ⟨_, rfl, _, rfl, _, rfl, _, _, rfl, rfl, st, many + j, ?_, hst, by omega, ?_⟩
      · show [V.str st, V.int (((many : Nat) : Int) + ((j : Nat) : Int))] = _
        have : (((many : Nat) : Int) + ((j : Nat) : Int)) = ((many + j : Nat) : Int) := by omega
        rw [this]
      refine ⟨_, rfl, _, rfl, _, _, rfl, rfl, _, _, rfl, rfl, ⟨by omega, by omega⟩, _, rfl, _, _, rfl, rfl, .inl ⟨by decide, by decide⟩, _, _, rfl, rfl, _, rfl, _, _, rfl, rfl, (by show 0 < mo; omega), by show 2 <= sizeLine; decide, fun t ht => ?_⟩
      have nt := same_new ht (.tup [.str (nm st (many + j)), .int ((c0 / (3 + ((i : Nat) : Int)) + 3 * ((j : Nat) : Int)) % mo)])
      refine ⟨by rw [List.length_map]; omega, s4.trans nt, ⟨_, rfl⟩, ts ++ [t], row ++ [(nm st (many + j), (c0 / (3 + ((i : Nat) : Int)) + 3 * ((j : Nat) : Int)) % mo)], by rw [List.map_append]; rfl, (hT.keep (.of nt)).app (.cons upd_same .nil), ?_, fun b hb => ?_⟩
      · rw [List.map_append, hrn, List.range_succ, List.map_append]
        rfl
      · rcases List.mem_append.mp hb with hb | hb
        · exact hrb b hb
        · rw [List.mem_singleton.mp hb]
          exact ⟨q0, by show _ <= (9 : Int); omega⟩
    · rintro τ ys H4 ⟨s4, ⟨u, rfl⟩, ts, row, rfl, hT, hrn, hrb⟩ p hp
      have np := same_new hp (.lst (ts.map V.ref))
      have e4 := np _ _ (s4 _ _ e6)
      have hK4 := (hK6.keep s4).keep np
      have hT4 := hT.keep (.of np)
      have ep := upd_same (H := H4) (a := p) (o := .lst (ts.map V.ref))
      have s5 := (s6.trans s4).trans np
      have npl : p ≠ lm := fun e => by
        rw [e] at hp
        rw [s4 _ _ e6] at hp
        cases hp
      generalize upd H4 p (.lst (ts.map V.ref)) = H5 at *
      have lk : kps.length = i := by rw [<- hK.len, lks]
      have lrow : row.length = m := by
        have e1 := congrArg List.length hrn
        rw [List.length_map, List.length_map, List.length_range] at e1
        omega
      refine ⟨lm, _, _, rfl, rfl, e4, by rw [List.length_map]; omega, ?_⟩
      refine ⟨_, rfl, _, rfl, _, _, rfl, rfl, ?_⟩
      have emm : (((many : Nat) : Int) + ((m : Nat) : Int)) = ((many + m : Nat) : Int) := by omega
      have tu : Tups H5 (upd H5 lm (.lst (kps.map V.ref ++ [.ref p]))) := fun z zs hz => by
        rw [upd_ne (ne_of hz e4 (by intro e; cases e))]
        exact hz
      refine ⟨s5.put flm, kps ++ [p], ks ++ [row], many + m, some (.int (i : Nat)), some (.int (m : Nat)), some (.int mo), by rw [upd_same, List.map_append]; rfl, (hK4.off ⟨_, e4⟩ hno).app (.cons ⟨ts, by rw [upd_ne npl]; exact ep, hT4.keep tu⟩ .nil), fun h => ?_, by rw [List.length_append, lks]; rfl, ?_, by omega, fun k hk => ?_, fun b hb => ?_, by dsimp only [List.set]; rw [emm]⟩
      · rcases List.mem_append.mp h with h | h
        · exact hno h
        · exact npl (List.mem_singleton.mp h).symm
      · rw [tags_snoc, htg, hrn, range_add]
        rw [show ((m : Nat) : Int).toNat = m by omega]
      · rcases List.mem_append.mp hk with hk | hk
        · exact hne k hk
        · rw [List.mem_singleton.mp hk]
          exact ⟨by omega, by omega⟩
      · rw [List.flatten_append, List.flatten_cons, List.flatten_nil, List.append_nil] at hb
        rcases List.mem_append.mp hb with hb | hb
        · exact hsz b hb
        · exact hrb b hb
  · rintro σ H2 ⟨s2, kps, ks, many, x7, x8, x9, e2, hK, hno, lks, htg, hmy, hne, hsz, rfl⟩
    refine ⟨by show 0 <= sizeLine; decide, fun ld hld => ?_⟩
    have n3 := same_new (H := H2) hld (.lst [])
    have eld := upd_same (H := H2) (a := ld) (o := .lst [])
    have e3 := n3 _ _ e2
    have hK3 := hK.keep n3
    have s3 := s2.trans n3
    have g2 : H2 ld = none := hld
    generalize upd H2 ld (.lst []) = H3 at *
    have b0 := Int.emod_nonneg (c0 / 4) (show (4 : Int) ≠ 0 by decide)
    have b4 := Int.emod_lt_of_pos (c0 / 4) (show (0 : Int) < 4 by decide)
    refine ⟨_, rfl, _, _, rfl, rfl, ⟨by decide, by decide⟩, _, _, rfl, rfl, (by show (0 : Int) < _; decide), _, _, rfl, rfl, _, rfl, by omega, by omega, for_range (n := (1 + c0 / 4 % 4).toNat) (fun i σ H' => Same H2 H' /\ ∃ (ts : List Addr) (kp : List (Str × Int)) (y7 : Option V), H' ld = some (.lst (ts.map V.ref)) /\ Tps H' kp ts /\ kp.map (·.1) = (List.range i).map (fun k => nm st (40 + k)) /\ (∀ b ∈ kp, 0 <= b.2 /\ b.2 <= 9) /\ σ = [some (.ref a), some (.bl wl), some (.int c0), some (.int c1), some (.str st), some (.ref lm), some (.int (many : Nat)), y7, x8, x9, some (.ref ld)])
      ⟨n3, [], [], x7, eld, .nil, rfl, fun b h => (by cases h), rfl⟩ ?_ ?_⟩
    · rintro i σ H4 hi ⟨s4, ts, kp, y7, e4, hT, hkn, hkb, rfl⟩
      have ez : ((0 : Int) + ((i : Nat) : Int)) = ((i : Nat) : Int) := by omega
      rw [ez]
      have hi4 : i < 4 := by omega
      have lts : ts.length = i := by
        have e1 := congrArg List.length hkn
        rw [List.length_map, List.length_map, List.length_range] at e1
        rw [<- hT.len, e1]
      have q0 := Int.emod_nonneg (c0 / 16 + c1 / (5 + ((i : Nat) : Int))) (show (5 : Int) ≠ 0 by decide)
      have q1 := Int.emod_lt_of_pos (c0 / 16 + c1 / (5 + ((i : Nat) : Int))) (show (0 : Int) < 5 by decide)
      refine ⟨_, rfl, .inl ⟨rfl, _, SqL.of e4⟩, _, rfl, _, rfl, _, _, rfl, rfl, st, 40 + i, ?_, hst, by omega, ?_⟩
      · show [V.str st, V.int (40 + ((i : Nat) : Int))] = _
        have : (40 + ((i : Nat) : Int)) = ((40 + i : Nat) : Int) := by omega
        rw [this]
      refine ⟨_, rfl, _, _, rfl, rfl, ⟨by decide, by decide⟩, _, rfl, _, rfl, _, _, rfl, rfl, _, _, rfl, rfl, ⟨by omega, by omega⟩, _, _, rfl, rfl, _, _, rfl, rfl, (by show (0 : Int) < _; decide), by show 2 <= sizeLine; decide, fun t ht => ?_⟩
      have nt := same_new ht (.tup [.str (nm st (40 + i)), .int ((c0 / 16 + c1 / (5 + ((i : Nat) : Int))) % 5)])
      have e5 := nt _ _ e4
      have hT5 := hT.keep (.of nt)
      have et := upd_same (H := H4) (a := t) (o := .tup [.str (nm st (40 + i)), .int ((c0 / 16 + c1 / (5 + ((i : Nat) : Int))) % 5)])
      have s5 := s4.trans nt
      generalize upd H4 t (.tup [.str (nm st (40 + i)), .int ((c0 / 16 + c1 / (5 + ((i : Nat) : Int))) % 5)]) = H5 at *
      refine ⟨ld, _, _, rfl, rfl, e5, by rw [List.length_map]; omega, ?_⟩
      have tu : Tups H5 (upd H5 ld (.lst (ts.map V.ref ++ [.ref t]))) := fun z zs hz => by
        rw [upd_ne (ne_of hz e5 (by intro e; cases e))]
        exact hz
      refine ⟨s5.put g2, ts ++ [t], kp ++ [(nm st (40 + i), (c0 / 16 + c1 / (5 + ((i : Nat) : Int))) % 5)], some (.int (i : Nat)), by rw [upd_same, List.map_append]; rfl, (hT5.keep tu).app (.cons (tu _ _ et) .nil), ?_, fun b hb => ?_, rfl⟩
      · rw [List.map_append, hkn, List.range_succ, List.map_append]
        rfl
      · rcases List.mem_append.mp hb with hb | hb
        · exact hkb b hb
        · rw [List.mem_singleton.mp hb]
          exact ⟨q0, by show _ <= (9 : Int); omega⟩
    · rintro σ H4 ⟨s4, ts, kp, y7, e4, hT, hkn, hkb, rfl⟩
      refine ⟨_, rfl, _, rfl, _, rfl, _, rfl, by show 4 <= sizeLine; decide, fun wo hwo => ?_⟩
      have nw := same_new hwo (.lst [.str st, .ref lm, .ref ld, .bl wl])
      have lkp : kp.length = (1 + c0 / 4 % 4).toNat := by
        have e1 := congrArg List.length hkn
        rw [List.length_map, List.length_map, List.length_range] at e1
        exact e1
      refine q _ wo st ks kp ((s2.trans s4).trans nw) ⟨lm, ld, kps, ts, upd_same, nw _ _ (s4 _ _ e2), (hK.keep s4).keep nw, nw _ _ e4, hT.keep (.of nw)⟩ ⟨hst, ?_, by omega, by omega, hne, hsz, ?_, by omega, by omega, hkb⟩
      · rw [htg]
        exact nm_nodup List.nodup_range fun k hk => by
          have := List.mem_range.mp hk
          omega
      · have e1 : (List.range (1 + c0 / 4 % 4).toNat).map (fun k => nm st (40 + k)) = ((List.range (1 + c0 / 4 % 4).toNat).map fun k => 40 + k).map (nm st) := by rw [List.map_map]; rfl
        rw [hkn, e1]
        refine nm_nodup (nd_map (fun x y e => by omega) List.nodup_range) fun k hk => ?_
        obtain ⟨j, hj, rfl⟩ := List.mem_map.mp hk
        have := List.mem_range.mp hj
        omega
end
end KD
namespace KD
open PySem L2 K11
theorem Dfs.snoc {H : Hp} {l : List Dg} {ts : List Addr} (h : Dfs H l ts) {a : Dg} {p : Addr} (g : IsDg H a p) : Dfs H (l ++ [a]) (ts ++ [p]) := by
  refine ⟨by rw [List.length_append, List.length_append, h.1]; rfl, fun i d r h1 h2 => ?_⟩
  by_cases c : i < l.length
  · rw [List.getElem?_append_left c] at h1
    rw [List.getElem?_append_left (by rw [<- h.1]; exact c)] at h2
    exact h.2 i d r h1 h2
  · rw [List.getElem?_append_right (by omega)] at h1
    rw [List.getElem?_append_right (by rw [<- h.1]; omega), <- h.1] at h2
    have : i - l.length = 0 := by
      have := (List.getElem?_eq_some_iff.mp h1).1
      simp at this
      omega
    rw [this] at h1 h2
    cases h1
    cases h2
    exact g
theorem def_due {st : Str} {ks : List (List (Str × Int))} {kp : List (Str × Int)} {k : Nat} {n : Str} {b : Bd} (hk : k <= 100) : dueD ks kp ⟨n, (List.range k).map (nm st), b⟩ = bdF ks kp b ((List.range k).map (nm st)) := by
  unfold dueD
  rw [dup_of (fun _ _ z => by cases z) (nm_nodup List.nodup_range fun j hj => by have := List.mem_range.mp hj; omega)]
theorem fs_snoc {α β : Type} {f : α -> Option β} {l : List α} {a : α} : (l ++ [a]).findSome? f = (l.findSome? f).or (f a) := by
  rw [List.findSome?_append, List.findSome?_cons]
  cases f a <;> rfl
theorem kpOf_names {ds : List Dg} : (kpOf ds).map (·.1) = ds.map (·.n) := by
  unfold kpOf
  rw [List.map_map]
  rfl
theorem prog_due {ks : List (List (Str × Int))} {ds : List Dg} (h1 : (tagsOf ks).Nodup) (h2 : ((kpOf ds).map (·.1)).Nodup) : due ks ds = ds.findSome? (dueD ks (kpOf ds)) := by
  unfold due
  rw [dup_of (fun _ _ z => by cases z) h1]
  dsimp only
  rw [kpOf_names] at h2
  rw [dup_of (fun _ _ z => by cases z) h2]
theorem Sta.off {H : Hp} {x pc ld : Addr} {cells : List Int} {i w : Nat} {o : Option Fo} {rs : List Addr} {v : HO} (h : Sta H x pc cells i w o) (e : H ld = some (.lst (rs.map V.ref))) (n1 : ld ≠ x) (n2 : pc ≠ ld) : Sta (upd H ld v) x pc cells i w o := by
  obtain ⟨du, a, b, c, d⟩ := h
  have ne : ∀ {r ys}, H r = some (.tup ys) -> r ≠ ld := fun {r ys} z => ne_of z e (by intro z; cases z)
  refine ⟨du, by rw [upd_ne n1.symm]; exact a, by rw [upd_ne n2]; exact b, c, ?_⟩
  match o, d with
  | none, d => show _ = _; rw [upd_ne (ne d)]; exact d
  | some (.n f), d => show _ = _; rw [upd_ne (ne d)]; exact d
  | some (.l y ts), d =>
    obtain ⟨l, d1, d2, d3, d4⟩ := d
    have nl : l ≠ ld := fun z => by
      rw [z, e] at d2
      have := HO.lst.inj (Option.some.inj d2)
      cases ts with
      | nil => exact d4 rfl
      | cons t ts =>
        cases rs with
        | nil => cases this
        | cons r rs =>
          rw [List.map_cons, List.map_cons] at this
          injection this with z1 _
          cases z1
    exact ⟨l, by rw [upd_ne (ne d1)]; exact d1, by rw [upd_ne nl]; exact d2, d3, d4⟩
def spProgram (K : PySem.W.Frag) : Sp := fun vs H Q _ => ∃ (a wo : Addr) (ns : List Int) (st : Str) (ks : List (List (Str × Int))) (kp : List (Str × Int)) (wl : Bool), vs = [.ref a, .ref wo] /\ SqL K H a (ns.map V.int) /\ ns.length <= 63 /\ W0 H wo st ks kp wl /\ WOk st ks kp /\ ∀ H' r p du ds, Same H H' -> H' r = some (.tup [.ref p, .ref du]) -> IsP H' ks ds p -> Few24 ks ds -> Told H' du (due ks ds) -> (tagsOf ks).Nodup -> (wl = false -> ∀ ks' ds', ks'.Perm ks -> ds'.Perm ds -> due ks' ds' = none) -> Q (.ref r) H'
section
variable {P : Program} {w : World} {K : PySem.W.Frag} {mg : Str -> Option Value} {base : Heap} {f R C : Addr} {fd : FuncData}
theorem scProgram : FnScope ["_law_script", "_law_world_here", "_law_state", "_law_defs", "_law_k", "_law_pair", "_law_name_here", "_law_many", "_law_params"] ["_law_script", "_law_world_here"] (defScope sProgram) := ⟨rfl, rfl, rfl, by decide +kernel, rfl, by decide +kernel, by decide +kernel⟩
theorem ndProgram : (["_law_script", "_law_world_here", "_law_state", "_law_defs", "_law_k", "_law_pair", "_law_name_here", "_law_many", "_law_params", "_law_j"] : List Str).Nodup := by decide +kernel
theorem ndProgram2 : (["_law_script", "_law_world_here", "_law_state", "_law_defs", "_law_k", "_law_pair", "_law_name_here", "_law_many", "_law_params", "_law_kind"] : List Str).Nodup := by decide +kernel
theorem ok_program (F : Fun K "_law_program" "_law_program" sProgram f fd) (GN : Ca P w K mg base CX0 1 "_law_name" ["_law_stem_here", "_law_k"] spNm) (GY : Ca P w K mg base CX0 (5 + 64) "_law_body" ["_law_state", "_law_world_here", "_law_above"] (spBodyL 64)) (m_len : mg "len" = none) (m_range : mg "range" = none) (m_enumerate : mg "enumerate" = none) (m_tuple : mg "tuple" = none) : FnOk P w K mg base CX0 70 f fd ["_law_script", "_law_world_here"] (spProgram K) := by
  refine F.by scProgram (fun vs H Q E h => ?_) (fun cdv A outer s H vs Q E hr h => ?_)
  · obtain ⟨a, wo, ns, st, ks, kp, wl, rfl, _⟩ := h
    rfl
  obtain ⟨a, wo, ns, st, ks, kp, wl, rfl, hS, h63, hW, hOk, q⟩ := h
  have r1 : Room 1 _ := hr.mono (by decide)
  refine ⟨_,
    (jss_cons (js_set (i := 2) scProgram.nd rfl (Or.inl rfl) (je_lst (ja_c (je_lst ja_nil) (ja_c je_int (ja_c je_int (ja_c (je_tup (ja_c je_str (ja_c je_bl ja_nil))) ja_nil))))))
    (jss_cons (js_set (i := 3) scProgram.nd rfl (Or.inl rfl) (je_lst ja_nil))
    (jss_cons (js_for PassesOwn.never rfl (ji_enum rfl m_enumerate (ja_c (je_ix jx_list (jv 1) je_int (fun _ _ => rfl)) ja_nil)) (jg_tup rfl (jgs_cons (jg_name (i := 4) scProgram.nd rfl (Or.inl rfl)) (jgs_cons (jg_name (i := 5) scProgram.nd rfl (Or.inl rfl)) jgs_nil)))
      (jss_cons (js_asg (jv 5) (jg_tup rfl (jgs_cons (jg_name (i := 6) scProgram.nd rfl (Or.inl rfl)) (jgs_cons (jg_name (i := 7) scProgram.nd rfl (Or.inl rfl)) jgs_nil))))
      (jss_cons (js_asg (je_slice3 (je_slice jl_list (jv 0) (jo_some je_int) jo_none) (jo_some (jv 4)) jo_none (jo_some (je_fnB jc_len_seq rfl m_len PySem.boot_len (ja_c (je_ix jx_list (jv 1) je_int (fun _ _ => rfl)) ja_nil)))) (jg_setL (jv 2) je_int))
      (jss_cons (js_asg je_int (jg_setL (jv 2) je_int))
      (jss_cons (js_asg je_int (jg_setL (jv 2) je_int))
      (jss_cons (js_comp ["_law_j"] (i := 8) scProgram.nd rfl (Or.inl rfl) rfl (ji_range1 rfl m_range (ja_c (jv 7) ja_nil)) (fun _ _ _ _ _ => (jg_name (i := 9) ndProgram rfl (Or.inl rfl))) (fun _ _ _ _ _ => jts_nil) (fun _ _ _ _ _ => (je_ca GN r1 rfl pass0 (ja_c (je_ix (jx_listK K) (jv 1) je_int (fun _ _ => rfl)) (ja_c (jv 9) ja_nil)))))
      (jss_one (js_expr (je_bm PySem.F.plainAttrs_list PySem.F.slot_list_append PySem.F.type_list_append jm_append (jv 3) (ja_c (je_tup (ja_c (jv 6) (ja_c (je_fnTy jc_tuple_of rfl m_tuple PyProof.Rows.boot_tuple (ja_c (jv 8) ja_nil)) (ja_c (je_ca GY hr rfl pass0 (ja_c (jv 2) (ja_c (jv 1) (ja_c (jv 8) ja_nil)))) ja_nil)))) ja_nil))))))))))
    (jss_one (js_ret (je_tup (ja_c (je_tup (ja_c (je_fnTy jc_tuple_of rfl m_tuple PyProof.Rows.boot_tuple (ja_c (je_comp ["_law_kind"] rfl (ji_list (je_ix jx_list (jv 1) je_int (fun _ _ => rfl))) (fun _ _ _ _ _ => (jg_name (i := 9) ndProgram2 rfl (Or.inl rfl))) (fun _ _ _ _ _ => jts_nil) (fun _ _ _ _ _ => (je_fnTy (jc_tuple_ofK K) rfl m_tuple PyProof.Rows.boot_tuple (ja_c (jv 9) ja_nil)))) ja_nil)) (ja_c (je_fnTy jc_tuple_of rfl m_tuple PyProof.Rows.boot_tuple (ja_c (jv 3) ja_nil)) ja_nil))) (ja_c (je_ix jx_list (jv 2) je_int (fun _ _ => rfl)) ja_nil)))))))), ?_⟩
  have sl := line0
  obtain ⟨pk, pd, kps, dts, hwo, hpk, hK, hpd, hTd⟩ := id hW
  refine ⟨by show 0 <= sizeLine; decide, fun l0 h0 => ⟨by show 2 <= sizeLine; decide, fun t0 ht0 => ⟨by show 4 <= sizeLine; decide, fun x hx => ?_⟩⟩⟩
  have s1 := (same_new h0 (.lst [])).new (o := .tup [.str "sound", .bl true]) ht0
  have el0 := old (o := .tup [.str "sound", .bl true]) ht0 (upd_same (H := H) (a := l0) (o := .lst []))
  have et0 := upd_same (H := upd H l0 (.lst [])) (a := t0) (o := .tup [.str "sound", .bl true])
  generalize upd (upd H l0 (.lst [])) t0 (.tup [.str "sound", .bl true]) = H1 at *
  have fx : H x = none := by
    cases e : H x with
    | none => rfl
    | some o => rw [s1 _ _ e] at hx; cases hx
  have s2 := same_new hx (.lst [.ref l0, .int 0, .int 0, .ref t0])
  refine ⟨by show 0 <= sizeLine; decide, fun ld hld => ?_⟩
  have s3 := s2.new (o := .lst []) hld
  have eld := upd_same (H := upd H1 x (.lst [.ref l0, .int 0, .int 0, .ref t0])) (a := ld) (o := .lst [])
  have ex := old (o := .lst []) hld (upd_same (H := H1) (a := x) (o := .lst [.ref l0, .int 0, .int 0, .ref t0]))
  have nld : ld ≠ x := fun e => by
    rw [e, upd_same] at hld
    cases hld
  have fld : H ld = none := by
    cases e : H ld with
    | none => rfl
    | some o => rw [s2 _ _ (s1 _ _ e)] at hld; cases hld
  have nl0 : l0 ≠ x := fun e => by rw [e] at el0; rw [el0] at hx; cases hx
  have S3 := s1.trans s3
  have St3 : Sta (upd (upd H1 x (.lst [.ref l0, .int 0, .int 0, .ref t0])) ld (.lst [])) x l0 [] 0 0 none := ⟨t0, ex, s3 _ _ el0, nl0, s3 _ _ et0⟩
  generalize upd (upd H1 x (.lst [.ref l0, .int 0, .int 0, .ref t0])) ld (.lst []) = H3 at *
  have ltd := hTd.len
  have p0 := hOk.p0
  have p1 := hOk.p1
  refine ⟨_, rfl, wo, _, _, _, rfl, rfl, SqL.of (S3 _ _ hwo), atI_nat (j := 2) rfl, pd, rfl, ⟨_, SqL.of (S3 _ _ hpd)⟩, ?_⟩
  refine for_enum (xs := dts.map V.ref) (fun k σ H' => Same H H' /\ (∃ (rs : List Addr) (ds : List Dg) (pc : Addr) (cells : List Int) (i w : Nat), H' ld = some (.lst (rs.map V.ref)) /\ Dfs H' ds rs /\ kpOf ds = kp.take k /\ (∀ d ∈ ds, d.ps.length + d.b.sz <= 1000 /\ d.b.ok) /\ (wl = false -> ∀ d ∈ ds, Cl ks kp d.b d.ps /\ dup [] d.ps = none) /\ Sta H' x pc cells i w (ds.findSome? (dueD ks kp))) /\ ∃ x4 x5 x6 x7 x8, σ = [some (.ref a), some (.ref wo), some (.ref x), some (.ref ld), x4, x5, x6, x7, x8])
    ⟨S3, ⟨[], [], l0, [], 0, 0, eld, ⟨rfl, fun i d q h => by simp at h⟩, rfl, (fun d h => by cases h), (fun _ d h => by cases h), St3⟩, none, none, none, none, none, rfl⟩ (fun i σ H' _ h => SqL.of (h.1 _ _ hpd)) ?_ ?_
  · rintro k v T σ H4 hv hTn ⟨s4, ⟨rs, ds, pc, cells, i, w', e4, hD, hkp, hdb, hcl, hSt⟩, x4, x5, x6, x7, x8, rfl⟩
    rw [List.getElem?_map] at hv
    obtain ⟨pr, hpr, rfl⟩ := Option.map_eq_some_iff.mp hv
    obtain ⟨nme, cnt, hka, hpt⟩ := hTd.get hpr
    have hcz := hOk.pz (nme, cnt) (List.mem_of_getElem? hka)
    have c0 : 0 <= cnt := hcz.1
    have c9 : cnt <= 9 := hcz.2
    obtain ⟨m, rfl⟩ : ∃ m : Nat, cnt = (m : Int) := ⟨cnt.toNat, by omega⟩
    refine ⟨_, _, rfl, SqT.of upd_same, rfl, _, _, rfl, _, _, rfl, rfl, ?_⟩
    have n5 := same_new hTn (.tup [.int (k : Nat), .ref pr])
    have s5 := s4.trans n5
    have e5 := n5 _ _ e4
    have hD5 := hD.keep (.of n5)
    have St5 := hSt.same n5
    generalize upd H4 T (.tup [.int (k : Nat), .ref pr]) = H5 at *
    refine ⟨_, rfl, _, _, rfl, SqT.of (s5 _ _ hpt), rfl, _, _, rfl, _, _, rfl, rfl, ?_⟩
    refine ⟨_, rfl, _, rfl, a, _, rfl, s5.seq hS, fun l1 hl1 => ?_⟩
    have ecut := cut_drop (f := V.int) (s := ns) (m := 2) (by decide)
    rw [ecut]
    have n6 := same_new hl1 (.lst ((ns.drop (2 : Int).toNat).map V.int))
    have el1 := upd_same (H := H5) (a := l1) (o := .lst ((ns.drop (2 : Int).toNat).map V.int))
    have s6 := s5.trans n6
    have e6 := n6 _ _ e5
    have hD6 := hD5.keep (.of n6)
    have St6 := St5.same n6
    generalize upd H5 l1 (.lst ((ns.drop (2 : Int).toNat).map V.int)) = H6 at *
    refine ⟨_, rfl, _, rfl, _, rfl, wo, _, _, _, rfl, rfl, SqL.of (s6 _ _ hwo), atI_nat (j := 2) rfl, pd, _, rfl, .inl (SqL.of (s6 _ _ hpd)), _, rfl, l1, _, rfl, SqL.of el1, ?ne, fun pc' hpc => ?_⟩
    case ne =>
      intro e
      have := Option.some.inj e
      rw [List.length_map] at this
      omega
    obtain ⟨ms, ems, lms⟩ := pick_ints (xs := (ns.drop (2 : Int).toNat).map V.int) rfl (some ((k : Nat) : Int)) none (some (((dts.map V.ref).length : Nat) : Int))
    rw [ems]
    have n7 := same_new hpc (.lst (ms.map V.int))
    have epc := upd_same (H := H6) (a := pc') (o := .lst (ms.map V.int))
    have s7 := s6.trans n7
    have e7 := n7 _ _ e6
    have hD7 := hD6.keep (.of n7)
    have St7 := St6.same n7
    have npl : pc' ≠ ld := fun e => by
      rw [e, e6] at hpc
      cases hpc
    have npc : pc' ≠ x := fun e => by
      obtain ⟨zs, hz⟩ := St6.lst
      rw [e, hz] at hpc
      cases hpc
    generalize upd H6 pc' (.lst (ms.map V.int)) = H7 at *
    have hxl7 := St7.lst
    obtain ⟨du, g1, g2, g3, g4⟩ := id St7
    refine ⟨_, rfl, x, _, 0, 0, rfl, rfl, g1, rfl, ?_⟩
    dsimp only [List.set]
    refine ⟨_, rfl, x, _, 1, 1, rfl, rfl, upd_same, rfl, ?_⟩
    dsimp only [List.set]
    refine ⟨_, rfl, x, _, 2, 2, rfl, rfl, upd_same, rfl, ?_⟩
    dsimp only [List.set]
    have k8 : Kp x H7 (upd (upd (upd H7 x (.lst [.ref pc', .int (i : Nat), .int (w' : Nat), .ref du])) x (.lst [.ref pc', .int 0, .int (w' : Nat), .ref du])) x (.lst [.ref pc', .int 0, .int 2, .ref du])) := (((Kp.refl x H7).put).put).put
    have e8x := upd_same (H := upd (upd H7 x (.lst [.ref pc', .int (i : Nat), .int (w' : Nat), .ref du])) x (.lst [.ref pc', .int 0, .int (w' : Nat), .ref du])) (a := x) (o := .lst [.ref pc', .int 0, .int 2, .ref du])
    generalize upd (upd (upd H7 x (.lst [.ref pc', .int (i : Nat), .int (w' : Nat), .ref du])) x (.lst [.ref pc', .int 0, .int (w' : Nat), .ref du])) x (.lst [.ref pc', .int 0, .int 2, .ref du]) = H8 at *
    have St8 : Sta H8 x pc' ms 0 2 (ds.findSome? (dueD ks kp)) := ⟨du, e8x, k8 _ _ npc epc, npc, g4.kp k8 hxl7⟩
    have sk : ∀ {Hz}, Kp x H7 Hz -> Same H Hz := fun {Hz} kz b o hb => kz b o (fun e => by rw [e, fx] at hb; cases hb) (s7 _ _ hb)
    have s8 := sk k8
    have e8 := k8 _ _ nld e7
    have hD8 := hD7.keep (k8.tups hxl7)
    refine ⟨_, rfl, _, rfl, by show -(2 ^ 62) <= ((m : Nat) : Int); omega, by show ((m : Nat) : Int) < 2 ^ 62; omega, lc_range (fun j τ ys H' => H' = H8 /\ (∃ u, τ = [some (.ref a), some (.ref wo), some (.ref x), some (.ref ld), some (.int (k : Nat)), some (.ref pr), some (.str nme), some (.int (m : Nat)), x8, u]) /\ ys = ((List.range j).map (nm st)).map V.str) ⟨rfl, ⟨none, rfl⟩, rfl⟩ ?_ ?_⟩
    · rintro j τ ys H9 hj ⟨rfl, ⟨u, rfl⟩, rfl⟩
      have ez : ((0 : Int) + ((j : Nat) : Int)) = ((j : Nat) : Int) := by omega
      rw [ez]
      refine ⟨_, rfl, wo, _, _, _, rfl, rfl, SqL.of (s8 _ _ hwo), rfl, _, rfl, st, j, rfl, hOk.sl, by omega, ?_, rfl, ⟨_, rfl⟩, ?_⟩
      · rw [List.length_map, List.length_map, List.length_range]
        omega
      · rw [List.range_succ, List.map_append, List.map_append]
        rfl
    · rintro τ ys H9 ⟨rfl, ⟨u, rfl⟩, rfl⟩ pa hpa
      rw [show ((m : Nat) : Int).toNat = m by omega]
      have n9 := same_new hpa (.lst (((List.range m).map (nm st)).map V.str))
      have epa := upd_same (H := H9) (a := pa) (o := .lst (((List.range m).map (nm st)).map V.str))
      have npa : pa ≠ x := fun e => by
        rw [e, e8x] at hpa
        cases hpa
      have s9 := s8.trans n9
      have e9 := n9 _ _ e8
      have hD9 := hD8.keep (.of n9)
      have St9 := St8.same n9
      generalize upd H9 pa (.lst (((List.range m).map (nm st)).map V.str)) = Ha at *
      refine ⟨_, rfl, .inl ⟨rfl, _, SqL.of e9⟩, _, rfl, _, rfl, pa, _, rfl, .inl ⟨SqL.of epa, fun pt hpt' => ?_⟩⟩
      have na := same_new hpt' (.tup (((List.range m).map (nm st)).map V.str))
      have ept := upd_same (H := Ha) (a := pt) (o := .tup (((List.range m).map (nm st)).map V.str))
      have sa := s9.trans na
      have ea := na _ _ e9
      have hDa := hD9.keep (.of na)
      have Sta' := St9.same na
      have epa' := na _ _ epa
      generalize upd Ha pt (.tup (((List.range m).map (nm st)).map V.str)) = Hb at *
      have lps : ((List.range m).map (nm st)).length = m := by rw [List.length_map, List.length_range]
      have ldr : (ns.drop (2 : Int).toNat).length <= 61 := by
        rw [List.length_drop]
        show ns.length - 2 <= 61
        omega
      refine ⟨_, rfl, _, rfl, _, rfl, x, wo, pa, pc', ms, 0, 2, _, st, ks, kp, wl, (List.range m).map (nm st), rfl, Sta', hW.at sa fx, hOk, epa', npa, by omega, by decide, fun _ => by decide, by split <;> omega, fun Hc rb b i2 w2 kc Sc hi2 hw2 hw2' hb hbo hbs hCb => ⟨by show 3 <= sizeLine; decide, fun t2 h2 => ?_⟩⟩
      have hxlb := Sta'.lst
      have sc : Same H Hc := fun z o hz => kc z o (fun e => by rw [e, fx] at hz; cases hz) (sa _ _ hz)
      have ec := kc _ _ nld ea
      have hDc := hDa.keep (kc.tups hxlb)
      have eptc := kc.tups hxlb _ _ ept
      have n2 := same_new h2 (.tup [.str nme, .ref pt, .ref rb])
      have e2t := upd_same (H := Hc) (a := t2) (o := .tup [.str nme, .ref pt, .ref rb])
      have sd := sc.trans n2
      have ed := n2 _ _ ec
      have hDd := hDc.keep (.of n2)
      have Sd := Sc.same n2
      have hbd := hb.keep (.of n2)
      have eptd := n2 _ _ eptc
      generalize upd Hc t2 (.tup [.str nme, .ref pt, .ref rb]) = Hd' at *
      have lds : ds.length = k := by
        have e1 := congrArg List.length hkp
        unfold kpOf at e1
        rw [List.length_map, List.length_take] at e1
        have := (List.getElem?_eq_some_iff.mp hka).1
        omega
      have lrs := hD.1
      have hk4 := (List.getElem?_eq_some_iff.mp hka).1
      refine ⟨ld, _, _, rfl, rfl, ed, by rw [List.length_map]; omega, ?_⟩
      have kd : Kp ld Hd' (upd Hd' ld (.lst (rs.map V.ref ++ [.ref t2]))) := (Kp.refl ld Hd').put
      have tu := kd.tups ⟨_, ed⟩
      refine ⟨sd.put fld, ⟨rs ++ [t2], ds ++ [⟨nme, (List.range m).map (nm st), b⟩], pc', ms, i2, w2, by rw [upd_same, List.map_append]; rfl, (hDd.keep tu).snoc ⟨pt, rb, tu _ _ e2t, tu _ _ eptd, hbd.keep tu⟩, ?_, fun d hd => ?_, fun e d hd => ?_, ?_⟩, _, _, _, _, _, rfl⟩
      · rw [List.take_add_one, hka, <- hkp]
        unfold kpOf
        rw [List.map_append]
        show _ ++ [(nme, ((((List.range m).map (nm st)).length : Nat) : Int))] = _
        rw [lps]
        rfl
      · rcases List.mem_append.mp hd with hd | hd
        · exact hdb d hd
        · rw [List.mem_singleton.mp hd]
          exact ⟨by show ((List.range m).map (nm st)).length + b.sz <= 1000; omega, hbo⟩
      · rcases List.mem_append.mp hd with hd | hd
        · exact hcl e d hd
        · rw [List.mem_singleton.mp hd]
          exact ⟨hCb e (by rw [lps]), dup_of (fun _ _ z => by cases z) (nm_nodup List.nodup_range fun j hj => by have := List.mem_range.mp hj; omega)⟩
      · rw [fs_snoc, def_due (by omega)]
        exact Sd.off ed nld npl
  · rintro σ H4 ⟨s4, ⟨rs, ds, pc, cells, i, w', e4, hD, hkp, hdb, hcl, hSt⟩, x4, x5, x6, x7, x8, rfl⟩
    rw [List.length_map, <- ltd, List.take_of_length_le (Nat.le_refl _)] at hkp
    have lkp := hK.len
    have hpk4 := s4 _ _ hpk
    have hK4 := hK.keep s4
    refine ⟨_, rfl, wo, _, _, _, rfl, rfl, SqL.of (s4 _ _ hwo), atI_nat (j := 1) rfl, pk, rfl, ⟨_, SqL.of hpk4⟩, lc_list (xs := kps.map V.ref) (fun j τ ys H' => Same H4 H' /\ (∃ u, τ = [some (.ref a), some (.ref wo), some (.ref x), some (.ref ld), x4, x5, x6, x7, x8, u]) /\ ∃ qs : List Addr, ys = qs.map V.ref /\ KdsT H' (ks.take j) qs) ⟨Same.refl _, ⟨none, rfl⟩, [], rfl, .nil⟩ (fun j τ ys H' _ h => SqL.of (h.1 _ _ hpk4)) ?_ ?_⟩
    · rintro j v τ ys H5 hv ⟨s5, ⟨u, rfl⟩, qs, rfl, hQ⟩
      rw [List.getElem?_map] at hv
      obtain ⟨pj, hpj, rfl⟩ := Option.map_eq_some_iff.mp hv
      obtain ⟨kj, hkj, ts, ht1, ht2⟩ := hK4.get hpj
      have hjl := (List.getElem?_eq_some_iff.mp hkj).1
      have lq := hQ.len
      rw [List.length_take] at lq
      have k4' := hOk.k1
      refine ⟨_, rfl, pj, _, rfl, .inl ⟨SqL.of (s5 _ _ ht1), fun pt hpt => ?_⟩⟩
      have np := same_new hpt (.tup (ts.map V.ref))
      refine ⟨by rw [List.length_map]; omega, s5.trans np, ⟨_, rfl⟩, qs ++ [pt], by rw [List.map_append]; rfl, ?_⟩
      rw [List.take_add_one, hkj]
      exact (hQ.keep (.of np)).app (.cons ⟨ts, upd_same, (ht2.keep (.of s5)).keep (.of np)⟩ .nil)
    · rintro τ ys H5 ⟨s5, ⟨u, rfl⟩, qs, rfl, hQ⟩ pl hpl
      rw [List.length_map, <- lkp, List.take_of_length_le (Nat.le_refl _)] at hQ
      have n6 := same_new hpl (.lst (qs.map V.ref))
      have epl := upd_same (H := H5) (a := pl) (o := .lst (qs.map V.ref))
      have s6 := s5.trans n6
      have hQ6 := hQ.keep (.of n6)
      generalize upd H5 pl (.lst (qs.map V.ref)) = H6 at *
      refine ⟨pl, _, rfl, .inl ⟨SqL.of epl, fun t1 h1 => ?_⟩⟩
      have n7 := same_new h1 (.tup (qs.map V.ref))
      have et1 := upd_same (H := H6) (a := t1) (o := .tup (qs.map V.ref))
      have s7 := s6.trans n7
      have hQ7 := hQ6.keep (.of n7)
      generalize upd H6 t1 (.tup (qs.map V.ref)) = H7 at *
      refine ⟨_, rfl, ld, _, rfl, .inl ⟨SqL.of (s7 _ _ e4), fun t2 h2 => ?_⟩⟩
      have n8 := same_new h2 (.tup (rs.map V.ref))
      have et2 := upd_same (H := H7) (a := t2) (o := .tup (rs.map V.ref))
      have s8 := s7.trans n8
      have et18 := n8 _ _ et1
      have hQ8 := hQ7.keep (.of n8)
      generalize upd H7 t2 (.tup (rs.map V.ref)) = H8 at *
      refine ⟨by show 2 <= sizeLine; decide, fun p hp => ?_⟩
      have n9 := same_new hp (.tup [.ref t1, .ref t2])
      have ep := upd_same (H := H8) (a := p) (o := .tup [.ref t1, .ref t2])
      have s9 := s8.trans n9
      have isP : IsP (upd H8 p (.tup [.ref t1, .ref t2])) ks ds p := ⟨t1, t2, qs, rs, ep, n9 _ _ et18, hQ8.keep (.of n9), n9 _ _ et2, hD.keep (.of s9)⟩
      generalize upd H8 p (.tup [.ref t1, .ref t2]) = H9 at *
      have St9 := hSt.same s9
      obtain ⟨du, g1, g2, g3, g4⟩ := id St9
      refine ⟨_, rfl, x, _, _, _, rfl, rfl, SqL.of g1, atI_nat (j := 3) rfl, by show 2 <= sizeLine; decide, fun r hr' => ?_⟩
      have n10 := same_new hr' (.tup [.ref p, .ref du])
      have fl := flat_le ks fun k hk => (hOk.ne k hk).2
      have k4' := hOk.k1
      have lds : ds.length = kp.length := by
        rw [<- hkp]
        unfold kpOf
        rw [List.length_map]
      refine q _ r p du ds ((s4.trans s9).trans n10) upd_same (isP.keep (.of n10)) ⟨by omega, by omega, by omega, fun d hd => (hdb d hd).1, fun d hd => (hdb d hd).2⟩ ?_ hOk.nd fun e ks' ds' pk' pd' => ?_
      · rw [prog_due hOk.nd (by rw [hkp]; exact hOk.pn), hkp]
        exact (g4.kp (.of n10) St9.lst).told
      · have pk2 : (kpOf ds').Perm kp := by
          rw [<- hkp]
          exact pd'.map _
        have rn := Rnd.of hOk.nd hOk.pn pk' pk2
        rw [prog_due rn.nd ((pk2.map _).nodup_iff.mpr hOk.pn), List.findSome?_eq_none_iff]
        intro d hd'
        obtain ⟨c1, c2⟩ := hcl e d (pd'.mem_iff.mp hd')
        unfold dueD
        rw [c2]
        exact c1 _ _ rn
end
end KD
namespace L2
open PySem PySem.Spec PyProof.Rows
theorem tup_norev : typeLookup (.type "tuple") "__reversed__" = pure none := by rw [typeLookup_type, builtinLookup_eq_fast]; kernel_rfl
theorem rev_slot_next : Slot "reversed" "__next__" "reversed.__next__" :=
  .of (owner := "reversed") (n := "__next__") (by rw [typeLookup_type, builtinLookup_eq_fast]; kernel_rfl) (by decide +kernel) (by decide +kernel) (by decide +kernel)
    (by first | exact .inl (by decide +kernel) | exact .inr (by decide +kernel)) (by rw [isSubtype_type]; kernel_rfl)
theorem rev_entry_next : entryFor table "reversed.__next__" = some Builtin.«reversed.__next__» := entryFor_of_tree (by kernel_rfl)
section
variable {prog : Program} {w : World} {A : Around} {E : Value -> Shared -> Prop} {s : Shared}
theorem code_reversed_newT {l : Addr} {items : Array Value} {Q₁ : Value -> Shared -> Prop} (hl : IsTup s.heap l items) (hz : items.size <= sizeLine)
    (h : ∀ tk, Q₁ (.ref s.heap.objs.size) { s with heap := s.heap.push { cls := .type "reversed", data := .fields #[.ref l, rawInt ((items.size : Int) - 1)] }, toks := tk }) :
    codeAny (model prog w) A (.call (.builtin "reversed.__new__") ⟨[.type "reversed", .ref l], []⟩) (wants Q₁ E) s := by
  refine codeAny_of_tree ?_
  show wpAny _ A.in1 (do checkBuiltinCall "reversed.__new__" ⟨[.type "reversed", .ref l], []⟩; again (.builtin "reversed.__new__" ⟨[.type "reversed", .ref l], []⟩)) _ _ s
  refine wpAny_bind (wpAny_of_eq (F.newCall_reversed_1 _) (wpAny_pure ⟨plainId_quiet F.plain_reversed_new _, codeAny_builtin F.entry_reversed_new ?_⟩))
  rw [Around.under_plainId F.plain_reversed_new _]
  unfold Builtin.«reversed.__new__»
  refine wpAny_bind (wpAny_of_eq (newClass_reversed _) ?_)
  try dsimp only
  refine wpAny_bind (wpAny_of_eq (a := ()) (by first | rfl | kernel_rfl) ?_)
  refine wpAny_bind (wpAny_of_eq (a := ()) (by first | rfl | kernel_rfl) ?_)
  try dsimp only
  refine wpAny_bind (wpAny_specialOf hl.typeIs tup_norev ?_)
  try dsimp only
  refine wpAny_bind ?_
  wp_delta
  refine wpAny_bind (wpAny_isInstance (T := "tuple") (b := false) hl.typeIs (by rw [isSubtype_type]; kernel_rfl) ?_)
  refine wpAny_ite_split (fun hab => absurd hab (by decide)) (fun _ => ?_)
  try dsimp only
  refine wpAny_bind (wpAny_specialOf hl.typeIs slot_tuple_getitem.lookup ?_)
  try dsimp only
  rw [if_pos (by decide)]
  refine wpAny_pure ?_
  rw [if_neg (by decide)]
  have hn := line63
  refine wpAny_bind (len_tuple hl (by omega) ?_)
  refine wpAny_bind (wpAny_of_eq (a := some ((items.size : Nat) : Int)) (by first | rfl | kernel_rfl) ?_)
  try dsimp only
  refine wpAny_bind ?_
  show wpAny _ _ (newObj (.type "reversed") (.fields [Value.ref l, rawInt (((items.size : Nat) : Int) - 1)].toArray)) _ _ _
  refine wpAny_newObj_type ?_
  exact wpAny_pure (h _)
theorem slot_reversed_init : Slot "reversed" "__init__" "object.__init__" :=
  .of (owner := "object") (n := "__init__") (by rw [typeLookup_type, builtinLookup_eq_fast]; kernel_rfl) (by decide +kernel) (by decide +kernel) (by decide +kernel)
    (by first | exact .inl (by decide +kernel) | exact .inr (by decide +kernel)) (by rw [isSubtype_type]; kernel_rfl)
theorem called_reversed : TypeCalled "reversed" "reversed.__new__" "object.__init__" :=
  ⟨by decide +kernel, by decide +kernel, ⟨_, _, F.mro_reversed⟩, F.made_reversed, by decide +kernel, F.sub_reversed_self, slot_reversed_init⟩
def IsRevT (h : Heap) (a l : Addr) (i : Int) : Prop := ∃ o, h.get? a = some o /\ o.cls = .type "reversed" /\ o.data = .fields #[.ref l, rawInt i]
theorem IsRevT.typeIs {a l : Addr} {i : Int} (x : IsRevT s.heap a l i) : s.TypeIs (.ref a) "reversed" := let ⟨o, ho, hc, _⟩ := x; ⟨o, ho, hc⟩
theorem IsRevT.at {h h' : Heap} {a l : Addr} {i : Int} (x : IsRevT h a l i) (e : ∀ o, h.get? a = some o -> h'.get? a = some o) : IsRevT h' a l i := let ⟨o, ho, r⟩ := x; ⟨o, e _ ho, r⟩
theorem call_reversed_tuple {l : Addr} {items : Array Value} {Q : Value -> Shared -> Prop} (hl : IsTup s.heap l items) (hz : items.size <= sizeLine)
    (h : ∀ tk, Q (.ref s.heap.objs.size) { s with heap := s.heap.push { cls := .type "reversed", data := .fields #[.ref l, rawInt ((items.size : Int) - 1)] }, toks := tk }) :
    wpAny (model prog w) A (call (.type "reversed") [.ref l]) Q E s := by
  refine callType_codes (Q₁ := fun obj s₁ => s₁.TypeIs obj "reversed" /\ Q obj s₁) called_reversed (F.typeCall_reversed_1 _) F.entry_object_init
    (code_reversed_newT hl hz fun tk => ⟨⟨_, Heap.get?_push_size _ rfl, rfl⟩, h tk⟩) fun obj s₁ h₁ => ?_
  exact ⟨h₁.1, F.args_object_init_2 obj _, object_init_meets called_reversed.init.lookup called_reversed.made (by decide) prog w A.in1 _ s₁ ⟨h₁.1, rfl, h₁.2⟩⟩
theorem rev_owner : Manifest.owners.lookup (String.ofList ['d', 'e', 's', 'r', 'e', 'v', 'e', 'r'].reverse) = some Manifest.sig_reversed := by kernel_rfl
theorem rev_args_next (a : Value) : argsOk "reversed.__next__" ⟨[a], []⟩ := by
  unfold argsOk; rw [signature?_of (id := "reversed.__next__") (n := ['_', '_', 't', 'x', 'e', 'n', '_', '_']) (o := ['d', 'e', 's', 'r', 'e', 'v', 'e', 'r']) (by kernel_rfl) rev_owner]; kernel_rfl
theorem revT_item {it l : Addr} {i : Nat} {items : Array Value} {x : Value} {Q : Option Value -> Shared -> Prop} (hit : IsRevT s.heap it l (i : Int)) (hl : IsTup s.heap l items) (hz : items.size <= sizeLine) (hx : items[i]? = some x)
    (hQ : ∀ h' tk, IsRevT h' it l ((i : Int) - 1) -> Heap.SameBut it s.heap h' -> Q (some x) { s with heap := h', toks := tk }) : wpAny (model prog w) A (pyNext (.ref it)) Q E s := by
  obtain ⟨o, ho, hc, hd⟩ := id hit
  unfold pyNext
  refine wpAny_bind (wpAny_attempt (wpAny_callSpecial?_slot (name := Str.ofString "__next__") hit.typeIs rev_slot_next
    (wpAny_call_entry rev_slot_next hit.typeIs rev_entry_next ?_ (rev_args_next _))))
  unfold Builtin.«reversed.__next__»
  refine wpAny_bind (wpAny_of_eq (a := (Value.ref it, [])) rfl ?_)
  try dsimp only
  refine wpAny_bind (wpAny_field ho hd (x := .ref l) rfl ?_)
  refine wpAny_bind (wpAny_field ho hd (x := rawInt (i : Int)) rfl ?_)
  show wpAny _ _ (if (i : Int) < 0 then _ else _) _ _ s
  rw [if_neg (by omega)]
  refine wpAny_bind (wpAny_specialOf hl.typeIs slot_tuple_getitem.lookup ?_)
  try dsimp only
  rw [if_neg (by decide)]
  refine wpAny_bind (wpAny_mkInt ?_)
  have hn := line63
  have hi : i < items.size := by
    rcases Nat.lt_or_ge i items.size with c | c
    · exact c
    · rw [Array.getElem?_eq_none c] at hx; cases hx
  refine wpAny_bind (wpAny_attempt (getItem_tuple (j := i) hl (by omega) (by omega) (by unfold seqIndex?; simp; omega) hx ?_))
  try dsimp only
  refine wpAny_bind (wpAny_field ho hd (x := rawInt (i : Int)) rfl ?_)
  show wpAny _ _ (setField (.ref it) 1 (rawInt ((i : Int) - 1)) >>= fun _ => ret x) _ _ _
  refine wpAny_bind (wpAny_setField ho hd (by simp) ?_)
  first
  | refine wpAny_pure ⟨x, rfl, wpAny_pure (hQ _ _ ?_ (Heap.SameBut.update ..))⟩
  | refine wpAny_bind (wpAny_pure (wpAny_pure ⟨x, rfl, wpAny_pure (hQ _ _ ?_ (Heap.SameBut.update ..))⟩))
  exact ⟨_, Heap.get?_update_self _ ho (Obj.isFreed_of_fields (Obj.data_mapFields hd _)), (Obj.cls_mapFields ..).trans hc, by
    rw [Obj.data_mapFields hd]; simp⟩
theorem revT_end {it l : Addr} {Q : Option Value -> Shared -> Prop} (hh : A.handled = none) (hit : IsRevT s.heap it l (-1))
    (hQ : ∀ h', Heap.ExtBut it s.heap h' -> Q none { s with heap := h' }) : wpAny (model prog w) A (pyNext (.ref it)) Q E s := by
  obtain ⟨o, ho, hc, hd⟩ := id hit
  unfold pyNext
  refine wpAny_bind (wpAny_attempt (wpAny_callSpecial?_slot (name := Str.ofString "__next__") hit.typeIs rev_slot_next
    (wpAny_call_entry rev_slot_next hit.typeIs rev_entry_next ?_ (rev_args_next _))))
  unfold Builtin.«reversed.__next__»
  refine wpAny_bind (wpAny_of_eq (a := (Value.ref it, [])) rfl ?_)
  try dsimp only
  refine wpAny_bind (wpAny_field ho hd (x := .ref l) rfl ?_)
  refine wpAny_bind (wpAny_field ho hd (x := rawInt (-1)) rfl ?_)
  show wpAny _ _ (if (-1 : Int) < 0 then _ else _) _ _ s
  rw [if_pos (by decide)]
  refine wpAny_bind (wpAny_rule ?_)
  refine wpAny_bind ?_
  wp_delta
  refine wpAny_bind (wpAny_setField ho hd (by simp) ?_)
  refine wpAny_setField (Heap.get?_update_self _ ho (Obj.isFreed_of_fields (Obj.data_mapFields hd _))) (Obj.data_mapFields hd _) (by simp) ?_
  show wpAny _ _ (Builtin.SmallTypes.stopIteration >>= _) _ _ _
  refine wpAny_bind ?_
  unfold Builtin.SmallTypes.stopIteration
  refine wpAny_bind ?_
  simp only [newExc, newTuple]
  refine wpAny_bind (wpAny_newObj_type ?_ (by size_fits))
  refine wpAny_bind (m := firstArgMember _ _) (wpAny_of_eq (a := Value.none) (by first | rfl | (simp only [firstArgMember]; rfl)) ?_)
  refine wpAny_newObj_type ?_ (by size_fits)
  simp only [raiseNew]
  refine wpAny_bind (wpAny_handled ?_)
  first | rw [show A.in1.handled = none from hh] | rw [hh]
  refine wpAny_bind (wpAny_pure (wpAny_throw ?_))
  refine wpAny_bind (wpAny_isInstance (T := "StopIteration") (b := true) ⟨_, Heap.get?_push_size _ rfl, rfl⟩ isSubtype_stop ?_)
  exact wpAny_pure (hQ _ fun b o hb e => Heap.get?_push_of_some _ (Heap.get?_push_of_some _ ((Heap.get?_update_other _ _ (Ne.symm hb)).trans ((Heap.get?_update_other _ _ (Ne.symm hb)).trans e))))
theorem rev_slot_iter : Slot "reversed" "__iter__" "reversed.__iter__" :=
  .of (owner := "reversed") (n := "__iter__") (by rw [typeLookup_type, builtinLookup_eq_fast]; kernel_rfl) (by decide +kernel) (by decide +kernel) (by decide +kernel)
    (by first | exact .inl (by decide +kernel) | exact .inr (by decide +kernel)) (by rw [isSubtype_type]; kernel_rfl)
theorem rev_args_iter (a : Value) : argsOk "reversed.__iter__" ⟨[a], []⟩ := by
  unfold argsOk; rw [signature?_of (id := "reversed.__iter__") (n := ['_', '_', 'r', 'e', 't', 'i', '_', '_']) (o := ['d', 'e', 's', 'r', 'e', 'v', 'e', 'r']) (by kernel_rfl) rev_owner]; kernel_rfl
theorem rev_entry_iter : entryFor table "reversed.__iter__" = some Builtin.«dict_keyiterator.__iter__» :=
  entryFor_alias (id' := "dict_keyiterator.__iter__") (by kernel_rfl) (by first | rfl | decide +kernel | (unfold String.splitOn; simp +decide [String.splitOnAux])) (by decide +kernel) (by kernel_rfl)
theorem revT_iter {it l : Addr} {i : Int} {Q : Value -> Shared -> Prop} (hit : IsRevT s.heap it l i) (h : Q (.ref it) s) : wpAny (model prog w) A (pyIter (.ref it)) Q E s := by
  refine wpAny_pyIter_slot hit.typeIs rev_slot_iter (wpAny_call_entry rev_slot_iter hit.typeIs rev_entry_iter ?_ (rev_args_iter _))
  show wpAny _ _ (ret (.ref it)) _ _ s
  exact wpAny_pure ⟨_, rfl, "reversed", _, hit.typeIs, rev_slot_next.lookup, h⟩
end
section
variable {X : Cx} {tg : Expr}
end
end L2
namespace L2
open PySem PySem.Spec PyProof.Rows
theorem rev_slot_hint : Slot "reversed" "__length_hint__" "reversed.__length_hint__" :=
  .of (owner := "reversed") (n := "__length_hint__") (by rw [typeLookup_type, builtinLookup_eq_fast]; kernel_rfl) (by decide +kernel) (by decide +kernel) (by decide +kernel)
    (by first | exact .inl (by decide +kernel) | exact .inr (by decide +kernel)) (by rw [isSubtype_type]; kernel_rfl)
theorem rev_entry_hint : entryFor table "reversed.__length_hint__" = some Builtin.«reversed.__length_hint__» := entryFor_of_tree (by kernel_rfl)
theorem rev_args_hint (a : Value) : argsOk "reversed.__length_hint__" ⟨[a], []⟩ := by
  unfold argsOk; rw [signature?_of (id := "reversed.__length_hint__") (n := ['_', '_', 't', 'n', 'i', 'h', '_', 'h', 't', 'g', 'n', 'e', 'l', '_', '_']) (o := ['d', 'e', 's', 'r', 'e', 'v', 'e', 'r']) (by kernel_rfl) rev_owner]; kernel_rfl
theorem rev_no_len : typeLookup (.type "reversed") "__len__" = pure none := by rw [typeLookup_type, builtinLookup_eq_fast]; kernel_rfl
section
variable {prog : Program} {w : World} {A : Around} {E : Value -> Shared -> Prop} {s : Shared}
theorem hint_revT {it l : Addr} {items : Array Value} {Q : Bool -> Shared -> Prop} (hit : IsRevT s.heap it l ((items.size : Int) - 1)) (hl : IsTup s.heap l items) (hz : items.size <= sizeLine) (h : ∀ tk b, Q b { s with toks := tk }) : wpAny (model prog w) A (Builtin.List.listLengthHint (.ref it)) Q E s := by
  obtain ⟨o, ho, hc, hd⟩ := id hit
  have hn := line63
  unfold Builtin.List.listLengthHint
  refine wpAny_bind (wpAny_specialOf hit.typeIs rev_no_len ?_)
  show wpAny _ _ (specialOf (Value.ref it) (Str.ofString "__length_hint__") >>= _) _ _ _
  refine wpAny_bind (wpAny_specialOf hit.typeIs rev_slot_hint.lookup ?_)
  generalize hid : ("reversed.__length_hint__" : String) = id0
  wp_delta
  rw [show splitId id0 = some ("reversed", "__length_hint__") from by subst hid; decide +kernel]
  subst hid
  refine wpAny_bind (wpAny_isInstance (T := "reversed") (b := true) hit.typeIs (by rw [isSubtype_type]; kernel_rfl) ?_)
  refine wpAny_ite_split (fun hab => absurd hab (by decide)) (fun _ => ?_)
  refine wpAny_ite_split (fun hab => absurd hab (by decide +kernel)) (fun _ => ?_)
  refine wpAny_bind (wpAny_rule ?_)
  refine wpAny_bind (wpAny_of_eq (rev_slot_hint.bind _) ?_)
  refine wpAny_bind (wpAny_attempt (wpAny_call_entry rev_slot_hint hit.typeIs rev_entry_hint ?_ (rev_args_hint _)))
  unfold Builtin.«reversed.__length_hint__»
  refine wpAny_bind (wpAny_of_eq (a := Value.ref it) rfl ?_)
  try dsimp only
  refine wpAny_bind (wpAny_field ho hd (x := .ref l) rfl ?_)
  rw [if_neg (show ¬ ((Value.ref l == Value.none) = true) from by intro z; cases (eq_of_beq z))]
  refine wpAny_bind (len_tuple hl (by omega) ?_)
  refine wpAny_bind (wpAny_of_eq (a := some ((items.size : Nat) : Int)) (by first | rfl | kernel_rfl) ?_)
  try dsimp only
  refine wpAny_bind (wpAny_field ho hd (x := rawInt ((items.size : Int) - 1)) rfl ?_)
  show wpAny _ _ (if ((items.size : Nat) : Int) < ((items.size : Int) - 1) + 1 then _ else retInt (((items.size : Int) - 1) + 1)) _ _ _
  rw [if_neg (by omega)]
  unfold retInt
  refine wpAny_bind (wpAny_mkInt ?_)
  refine wpAny_pure ⟨_, rfl, ?_⟩
  try dsimp only
  refine wpAny_bind (m := asInt? _) (wpAny_pure ?_)
  try dsimp only
  have en : ((items.size : Int) - 1 + 1) = ((items.size : Nat) : Int) := by omega
  have sl := sizeLine_eq
  rw [en]
  have hf : Builtin.List.listFitsIndex ((items.size : Nat) : Int) = true := by
    unfold Builtin.List.listFitsIndex
    rw [Bool.and_eq_true]
    exact ⟨decide_eq_true (by omega), decide_eq_true (by omega)⟩
  have ht : Builtin.List.listTooLong (((items.size : Nat) : Int).toNat) = false := by
    unfold Builtin.List.listTooLong
    exact decide_eq_false (by omega)
  have hg : ¬ ((items.size : Nat) : Int) < 0 := by omega
  simp only [hf, ht, hg, Bool.not_true, Bool.false_eq_true, if_false]
  exact wpAny_pure (h _ _)
theorem Walks.revT (hh : A.handled = none) (I l : Addr) (hne : l ≠ I) (items : Array Value) (hz : items.size <= sizeLine) :
    Walks prog w A I [I, l] [I] items.size (fun i v => items[items.size - 1 - i]? = some v) (fun i h => IsRevT h I l ((items.size : Int) - 1 - (i : Nat)) /\ IsTup h l items) where
  sub := fun b hb => by simp at hb; simp [hb]
  frame := fun _ _ _ st hk => ⟨st.1.at fun o e => hk I (by simp) o e, let ⟨o, ho, r⟩ := st.2; ⟨o, hk l (by simp) o ho, r⟩⟩
  item := fun i s Q E hi st hQ => by
    obtain ⟨st1, st2⟩ := st
    have e1 : (items.size : Int) - 1 - (i : Nat) = ((items.size - 1 - i : Nat) : Int) := by omega
    rw [e1] at st1
    refine revT_item st1 st2 hz (x := items[items.size - 1 - i]'(by omega)) (by simp) fun h' tk hit' hs' => ?_
    refine hQ _ h' tk (by simp) ⟨?_, st2.extBut hs'.extBut hne⟩ fun b o hb e => hs'.extBut b o (fun h => hb (by simp [h])) e
    have e2 : (items.size : Int) - 1 - ((i + 1 : Nat) : Int) = ((items.size - 1 - i : Nat) : Int) - 1 := by omega
    rw [e2]
    exact hit'
  done := fun s Q E st hQ => by
    obtain ⟨st1, st2⟩ := st
    have e1 : (items.size : Int) - 1 - (items.size : Nat) = -1 := by omega
    rw [e1] at st1
    exact revT_end hh st1 fun h' he' => hQ h' s.toks fun b o hb e => he' b o (fun h => hb (by simp [h])) e
  self := fun _ _ _ _ st hQ => revT_iter st.1 hQ
theorem extend_revT {R : Result -> Shared -> Prop} {r l : Addr} {items : Array Value} (hh : A.handled = none) (hr : IsRevT s.heap r l ((items.size : Int) - 1)) (hl : IsTup s.heap l items) (hz : items.size <= sizeLine) (hrl : l ≠ r) (S : Addr) (hSr : S ≠ r) (hSl : S ≠ l) (res : Value) (c₀ : Nat) (hS : s.heap.get? S = some { cls := .type "list", data := .seq #[] c₀ })
    (hR : ∀ h' tk acc' c', (∀ b o, b ≠ S -> b ≠ r -> s.heap.get? b = some o -> h'.get? b = some o) -> h'.get? S = some { cls := .type "list", dict := none, data := .seq acc' c', slots := #[] } ->
      ItemsOf (fun i v => items[items.size - 1 - i]? = some v) acc' items.size -> R (.ok (.ret res)) { s with heap := h', toks := tk }) :
    wpAny (model prog w) A.in1 (Builtin.List.listExtendWith (.ref S) (.ref r) res)
      (fun fin s' => match fin with | .done f => R (.ok f) s' | .again c' => c'.quiet = true /\ codeAny (model prog w) A c' R s') (fun e s' => R (.error e) s') s := by
  have hSf : S ∉ [r, l] := by simp only [List.mem_cons, List.not_mem_nil, or_false, not_or]; exact ⟨hSr, hSl⟩
  have W := (Walks.revT (prog := prog) (w := w) (A := A.in1) hh r l hrl items hz).toS
  have key : ∀ (h : Heap) (c₁ tk : Nat), IsRevT h r l ((items.size : Int) - 1 - ((0 : Nat) : Int)) -> IsTup h l items -> (∀ b o, b ≠ S -> s.heap.get? b = some o -> h.get? b = some o) ->
      h.get? S = some { cls := .type "list", data := .seq #[] c₁ } -> codeAny (model prog w) A (.builtin "list.extend.loop" ⟨[.ref S, .ref r, res], []⟩) R { s with heap := h, toks := tk } := by
    intro h c₁ tk hit hlt hk hS₁
    refine codeAny_extend_loopS W hz S hSf res items.size 0 _ #[] c₁ rfl (Nat.zero_le _) ⟨hit, hlt⟩ hS₁ (ItemsOf.nil _) fun s' acc' c' hm hS' hacc => ?_
    rw [Moved.eq_with hm]
    refine hR s'.heap s'.toks acc' c' (fun b o hb hbr e => hm.heap b o (fun hmem => ?_) (hk b o hb e)) hS' hacc
    rcases List.mem_cons.mp hmem with e' | hmem
    · exact hb e'
    · exact hbr (List.mem_singleton.mp hmem)
  unfold Builtin.List.listExtendWith
  refine wpAny_bind (wpAny_typeOf (T := "reversed") hr.typeIs ?_)
  have h1 : Builtin.List.listSameRef (.ref S) (.ref r) = false := by simp [Builtin.List.listSameRef, hSr]
  have h2 : (Value.type "reversed" == Value.type "list") = false := by decide
  have h3 : (Value.type "reversed" == Value.type "tuple") = false := by decide
  simp only [h1, h2, h3, Bool.or_false, Bool.false_eq_true, if_false]
  refine wpAny_bind (revT_iter hr ?_)
  refine wpAny_bind (wpAny_holding (hint_revT hr hl hz fun tk b => ?_))
  have e0 : (items.size : Int) - 1 - ((0 : Nat) : Int) = (items.size : Int) - 1 := by omega
  refine wpAny_ite_split (fun _ => ?_) (fun _ => wpAny_pure ⟨plainId_quiet PySem.F.plain_extend_loop _, key _ c₀ _ (by rw [e0]; exact hr) hl (fun b o _ e => e) hS⟩)
  refine wpAny_bind (wpAny_rule ?_)
  refine wpAny_bind ?_
  show wpAny _ _ (updateSeq S (·.push .none) >>= fun _ => updateSeq S (·.pop)) _ _ _
  refine wpAny_bind (wpAny_updateSeq hS rfl ?_)
  have hS₂ := Heap.get?_update_self (Obj.mapSeq (·.push Value.none)) hS rfl
  refine wpAny_updateSeq (hz := by seq_fits) hS₂ rfl ?_
  have hS₃ := Heap.get?_update_self (Obj.mapSeq (·.pop)) hS₂ rfl
  have oth : ∀ b o, b ≠ S -> s.heap.get? b = some o -> ((s.heap.update S (Obj.mapSeq (·.push Value.none))).update S (Obj.mapSeq (·.pop))).get? b = some o :=
    fun b o hb e => (Heap.get?_update_other _ _ (Ne.symm hb)).trans ((Heap.get?_update_other _ _ (Ne.symm hb)).trans e)
  refine wpAny_pure ⟨plainId_quiet PySem.F.plain_extend_loop _, key _ _ _ ?_ ?_ oth hS₃⟩
  · rw [e0]
    exact hr.at fun o e => oth r o (Ne.symm hSr) e
  · obtain ⟨o, ho, r'⟩ := hl
    exact ⟨o, oth l o (Ne.symm hSl) ho, r'⟩
theorem call_list_revT {Q : Value -> Shared -> Prop} {r l : Addr} {items : Array Value} (hh : A.handled = none) (hr : IsRevT s.heap r l ((items.size : Int) - 1)) (hl : IsTup s.heap l items) (hz : items.size <= sizeLine) (hrl : l ≠ r)
    (hQ : ∀ h' tk acc' c', (∀ b o, b ≠ r -> s.heap.get? b = some o -> h'.get? b = some o) -> h'.get? s.heap.objs.size = some { cls := .type "list", dict := none, data := .seq acc' c', slots := #[] } -> ItemsOf (fun i v => items[items.size - 1 - i]? = some v) acc' items.size -> Q (.ref s.heap.objs.size) { s with heap := h', toks := tk }) :
    wpAny (model prog w) A (call (.type "list") [.ref r]) Q E s := by
  have hr1 : r < s.heap.objs.size := let ⟨_, ho, _⟩ := hr; Heap.lt_size ho
  have hl1 := hl.lt
  refine callType_codes (Q₁ := fun obj s₁ => obj = .ref s.heap.objs.size /\ s₁ = { s with heap := s.heap.push { cls := .type "list", data := .seq #[] } }) PySem.F.called_list (PySem.F.typeCall_list_1 _) PySem.F.entry_list_init
    (code_list_new _ ⟨rfl, rfl⟩) fun obj s₁ h₁ => ?_
  obtain ⟨rfl, rfl⟩ := h₁
  have hS : (s.heap.push { cls := .type "list", data := .seq #[] }).get? s.heap.objs.size = some { cls := .type "list", data := .seq #[] } := Heap.get?_push_size _ rfl
  refine ⟨⟨_, hS, rfl⟩, PySem.F.args_list_init_2 _ _, ?_⟩
  show wpAny _ _ (do let old <- Builtin.List.listItems (.ref s.heap.objs.size); Builtin.List.listUpdate (.ref s.heap.objs.size) (fun _ => #[]); letGo old.toList.reverse; Builtin.List.listExtendWith (.ref s.heap.objs.size) (.ref r) .none) _ _ _
  refine wpAny_bind ?_
  unfold Builtin.List.listItems
  refine wpAny_bind (wpAny_seqItems hS rfl (wpAny_pure ?_))
  show wpAny _ _ (updateSeq s.heap.objs.size (fun _ => #[]) >>= fun _ => letGo (#[] : Array Value).toList.reverse >>= fun _ => Builtin.List.listExtendWith (.ref s.heap.objs.size) (.ref r) .none) _ _ _
  refine wpAny_bind (wpAny_updateSeq hS rfl ?_)
  have hS₂ := Heap.get?_update_self (Obj.mapSeq (fun _ => (#[] : Array Value))) hS rfl
  have oth : ∀ b o, b ≠ s.heap.objs.size -> s.heap.get? b = some o -> ((s.heap.push { cls := .type "list", data := .seq #[] }).update s.heap.objs.size (Obj.mapSeq (fun _ => (#[] : Array Value)))).get? b = some o :=
    fun b o hb e => (Heap.get?_update_other _ _ (Ne.symm hb)).trans (Heap.get?_push_of_some _ e)
  refine wpAny_bind (wpAny_letGo ?_)
  refine extend_revT (A := A.in1) (items := items) hh (hr.at fun o e => oth r o (Nat.ne_of_lt hr1) e) (let ⟨o, ho, r'⟩ := hl; ⟨o, oth l o (Nat.ne_of_lt hl1) ho, r'⟩) hz hrl _ (Nat.ne_of_gt hr1) (Nat.ne_of_gt hl1) .none _ hS₂ fun h' tk acc' c' hk hS' hacc => ?_
  exact ⟨rfl, hQ h' tk acc' c' (fun b o hb e => hk b o (Nat.ne_of_lt (Heap.lt_size e)) hb (oth b o (Nat.ne_of_lt (Heap.lt_size e)) e)) hS' hacc⟩
end
section
variable {X : Cx}
def tListR (K : PySem.W.Frag) (ta : TA) : TE := fun σ H Q => ta σ H fun vs H1 => ∃ l xs, vs = [.ref l] /\ SqT K H1 l xs /\ ∀ r, H1 r = none -> Q (.ref r) (upd H1 r (.lst xs.reverse))
theorem pe_listR {a : Expr} {ta : TA} {p p2 pos pos2 : Pos} (hc : X.calm = true) (hg1 : Gl X "list") (hm1 : X.mg "list" = none) (hg : Gl X "reversed") (hm : X.mg "reversed" = none) (ha : PA X [a] ta) (hs : isStar a = false) :
    PE X (.Call (.Name "list" p) [.Call (.Name "reversed" p2) [a] [] pos2] [] pos) (tListR X.K ta) := by
  intro pins s σ H Q I h
  refine wpAny_Call_Name_kw (ld_blt I hg1 hm1 boot_list ?_ (by decide) (by decide))
  refine PyProof.Rows.callWith_type1 ?_ (star_cons rfl) (star_any rfl)
  rw [star_cons rfl]
  show wpAny _ _ (spliced ((false, eval _ X.env) :: backTo pos (starEach [] X.env))) _ _ s
  refine Calls.spliced_cons ?_
  refine Call_ (ld_blt I hg hm boot_reversed (PyProof.Rows.callWith_type1 (thn (ha pos2 pins s σ H _ I h) fun us s1 ⟨vs, H1, I1, r1, q1⟩ => ?_) (star_cons hs) rfl))
  obtain ⟨l, xs, e, hq, q⟩ := q1
  subst e
  obtain ⟨u, rfl, rx⟩ := vals1 r1
  cases rx
  obtain ⟨its, rv, pl, hz⟩ := I1.tuple hq
  have hl := rv.length
  refine call_reversed_tuple pl (by rw [List.size_toArray]; omega) fun tk => ?_
  have hr : IsRevT (s1.heap.push { cls := .type "reversed", data := .fields #[.ref l, rawInt ((its.toArray.size : Int) - 1)] }) s1.heap.objs.size l ((its.toArray.size : Int) - 1) := ⟨_, Heap.get?_push_size _ rfl, rfl, rfl⟩
  have pl1 := pl.push { cls := .type "reversed", data := .fields #[.ref l, rawInt ((its.toArray.size : Int) - 1)] }
  refine Calls.spliced_nil ?_
  refine call_list_revT (s := { s1 with heap := s1.heap.push { cls := .type "reversed", data := .fields #[.ref l, rawInt ((its.toArray.size : Int) - 1)] }, toks := tk }) (I1.ok.hd hc) hr pl1 (by rw [List.size_toArray]; omega) (Nat.ne_of_lt pl.lt) fun h' tk' acc c hk hS hacc => ?_
  have hsz : (s1.heap.push { cls := .type "reversed", data := .fields #[.ref l, rawInt ((its.toArray.size : Int) - 1)] }).objs.size = s1.heap.objs.size + 1 := by simp [Heap.push]
  obtain ⟨a1, a2⟩ := hacc
  have al : acc.toList.length = acc.size := Array.length_toList
  have a1' : acc.size = its.length := a1
  rw [List.size_toArray] at a2
  refine ⟨.ref _, _, I1.laid (t' := tk') (fun b o e => hk b o (Nat.ne_of_lt (Heap.lt_size e)) (Heap.get?_push_of_some _ e)) (by show s1.heap.objs.size <= _; rw [hsz]; omega) (show ObjOk X.prog X.w _ h' _ (.lst xs.reverse) from ⟨by rw [List.length_reverse]; exact hz, acc.toList, c, ?_, by rw [Array.toArray_toList]; exact hS⟩), rfl, q _ (I1.hok.fresh (by show s1.heap.objs.size <= _; rw [hsz]; omega))⟩
  refine vals_all (by rw [List.length_reverse, al]; omega) fun j x v h1 h2 => ?_
  have hj : j < xs.length := by
    have := (List.getElem?_eq_some_iff.mp h1).1
    rwa [List.length_reverse] at this
  have e2 := a2 j v (by rw [<- Array.getElem?_toList]; exact h2)
  rw [List.getElem?_reverse hj] at h1
  obtain ⟨u, hu, ru⟩ := rv.get h1
  rw [List.getElem?_toArray, show its.length - 1 - j = xs.length - 1 - j by omega, hu] at e2
  cases e2
  exact ru
theorem je_listR {a : Expr} {ta : TA} {p p2 pos pos2 : Pos} (hc : X.calm = true) (hg1 : Gl X "list") (hm1 : X.mg "list" = none) (hg : Gl X "reversed") (hm : X.mg "reversed" = none) (ha : jA X [a] ta) (hs : isStar a = false := by rfl) :
    jE X (.Call (.Name "list" p) [.Call (.Name "reversed" p2) [a] [] pos2] [] pos) (tListR X.K ta) := ⟨pe_listR hc hg1 hm1 hg hm ha.out hs⟩
end
end L2
namespace KD
open PySem L2 K11
theorem KdsT.rev {H : Hp} {ks : List (List (Str × Int))} {ps : List Addr} (h : KdsT H ks ps) : KdsT H ks.reverse ps.reverse := by
  induction h with
  | nil => exact .nil
  | cons a _ ih =>
    rw [List.reverse_cons, List.reverse_cons]
    exact ih.app (.cons a .nil)
theorem Dfs.rev {H : Hp} {ds : List Dg} {ps : List Addr} (h : Dfs H ds ps) : Dfs H ds.reverse ps.reverse := by
  refine ⟨by rw [List.length_reverse, List.length_reverse, h.1], fun i d q h1 h2 => ?_⟩
  have hi : i < ds.length := by
    have := (List.getElem?_eq_some_iff.mp h1).1
    rwa [List.length_reverse] at this
  rw [List.getElem?_reverse hi] at h1
  rw [List.getElem?_reverse (by rw [<- h.1]; exact hi), <- h.1] at h2
  exact h.2 _ d q h1 h2
theorem Few24.rev {ks : List (List (Str × Int))} {ds : List Dg} (h : Few24 ks ds) : Few24 ks.reverse ds.reverse :=
  ⟨by rw [List.length_reverse]; exact h.n, by rw [(flat_perm ks.reverse_perm).length_eq]; exact h.k, by rw [List.length_reverse]; exact h.d, fun d hd => h.p d (List.mem_reverse.mp hd), fun d hd => h.f d (List.mem_reverse.mp hd)⟩
theorem few_nil {ks : List (List (Str × Int))} {ds : List Dg} (h : Few24 ks ds) : Few24 ks [] := ⟨h.n, h.k, Nat.zero_le _, fun d hd => (by cases hd), fun d hd => (by cases hd)⟩
section
variable {P : Program} {w : World} {K : PySem.W.Frag} {mg : Str -> Option Value} {base : Heap} {f R C : Addr} {fd : FuncData}
theorem scLaw : FnScope ["_law_script", "_law_program_here", "_law_due", "_law_kinds", "_law_defs", "_law_turned"] ["_law_script"] (defScope sLaw) := ⟨rfl, rfl, rfl, by decide +kernel, rfl, by decide +kernel, by decide +kernel⟩
theorem ok_law (F : Fun K "law" "law" sLaw f fd) (GW : Ca P w K mg base CX0 2 "_law_world" ["_law_script", "_law_wild"] (spWorld K)) (GP : Ca P w K mg base CX0 70 "_law_program" ["_law_script", "_law_world_here"] (spProgram K)) (GL : Ca P w K mg base CX0 9 "_law_let_by" ["_law_program_here"] spLetBy) (m_list : mg "list" = none) (m_reversed : mg "reversed" = none) (m_tuple : mg "tuple" = none) : FnOk P w K mg base CX0 71 f fd ["_law_script"] (spTop K) := by
  refine F.by scLaw (fun vs H Q E h => ?_) (fun cdv A outer s H vs Q E hr h => ?_)
  · obtain ⟨a, ns, rfl, _⟩ := h
    rfl
  obtain ⟨a, ns, rfl, hS, h63, q⟩ := h
  have r2 : Room 2 _ := hr.mono (by decide)
  have r9 : Room 9 _ := hr.mono (by decide)
  refine ⟨_,
    (jss_cons (js_asg (je_ca GP hr rfl pass0 (ja_c (jv 0) (ja_c (je_ca GW r2 rfl pass0 (ja_c (jv 0) (ja_c je_bl ja_nil))) ja_nil))) (jg_tup rfl (jgs_cons (jg_name (i := 1) scLaw.nd rfl (Or.inl rfl)) (jgs_cons (jg_name (i := 2) scLaw.nd rfl (Or.inl rfl)) jgs_nil))))
    (jss_cons (js_asg (jv 1) (jg_tup rfl (jgs_cons (jg_name (i := 3) scLaw.nd rfl (Or.inl rfl)) (jgs_cons (jg_name (i := 4) scLaw.nd rfl (Or.inl rfl)) jgs_nil))))
    (jss_cons (js_if (jW.pt (jw_or (jt_not (jt_val (je_ca GL r9 rfl pass0 (ja_c (jv 1) ja_nil)))) (jw_or (jt_not (jt_val (je_ca GL r9 rfl pass0 (ja_c (je_tup (ja_c (je_tup ja_nil) (ja_c (je_tup ja_nil) ja_nil))) ja_nil)))) (jw_or1 (jt_not (jt_val (je_ca GL r9 rfl pass0 (ja_c (je_tup (ja_c (jv 3) (ja_c (je_tup ja_nil) ja_nil))) ja_nil)))))))) 
      (jss_one (js_ret je_bl)) jss_nil)
    (jss_cons (js_set (i := 5) scLaw.nd rfl (Or.inl rfl) (je_tup (ja_c (je_fnTy jc_tuple_of rfl m_tuple PyProof.Rows.boot_tuple (ja_c (je_listR rfl rfl m_list rfl m_reversed (ja_c (jv 3) ja_nil)) ja_nil)) (ja_c (je_fnTy jc_tuple_of rfl m_tuple PyProof.Rows.boot_tuple (ja_c (je_listR rfl rfl m_list rfl m_reversed (ja_c (jv 4) ja_nil)) ja_nil)) ja_nil))))
    (jss_one (js_ret (je_and (je_ca GL r9 rfl pass0 (ja_c (jv 5) ja_nil)) (je_one (je_ca GL r9 rfl pass0 (ja_c (jv 1) ja_nil)))))))))), ?_⟩
  have sl := line0
  refine ⟨_, rfl, _, rfl, a, ns, false, rfl, hS, fun H1 wo st ks kp s1 hW hOk => ?_⟩
  refine ⟨a, wo, ns, st, ks, kp, false, rfl, s1.seq hS, h63, hW, hOk, fun H2 r p du ds s2 er hP hF hT hnd hcl => ?_⟩
  replace hcl := hcl rfl
  refine ⟨_, _, rfl, SqT.of er, rfl, _, _, rfl, _, _, rfl, rfl, ?_⟩
  obtain ⟨pk, pd, qs, rs, h1, h2, h3, h4, h5⟩ := id hP
  refine ⟨_, rfl, _, _, rfl, SqT.of h1, rfl, _, _, rfl, _, _, rfl, rfl, ?_⟩
  refine ⟨_, rfl, p, ks, ds, rfl, hP, hF, hcl ks ds (.refl _) (.refl _), fun H3 s3 => ⟨_, rfl, ?_⟩⟩
  refine iteF ?_
  refine ⟨by show 0 <= sizeLine; decide, fun t1 g1 => ⟨by show 0 <= sizeLine; decide, fun t2 g2 => ⟨by show 2 <= sizeLine; decide, fun t3 g3 => ?_⟩⟩⟩
  have n4 := (((same_new g1 (.tup [])).new (o := (.tup [])) g2).new (o := (.tup [.ref t1, .ref t2])) g3)
  have e1 := old (o := (.tup [.ref t1, .ref t2])) g3 (old (o := (.tup [])) g2 (upd_same (H := H3) (a := t1) (o := (.tup []))))
  have e2 := old (o := (.tup [.ref t1, .ref t2])) g3 (upd_same (H := upd H3 t1 (.tup [])) (a := t2) (o := (.tup [])))
  have e3 := upd_same (H := upd (upd H3 t1 (.tup [])) t2 (.tup [])) (a := t3) (o := (.tup [.ref t1, .ref t2]))
  generalize upd (upd (upd H3 t1 (.tup [])) t2 (.tup [])) t3 (.tup [.ref t1, .ref t2]) = H4 at *
  have s4 := s3.trans n4
  have dn : ∀ {Hz : Hp}, Dfs Hz [] [] := fun {Hz} => ⟨rfl, fun i d q h _ => by simp at h⟩
  refine ⟨t3, [], [], rfl, ⟨t1, t2, [], [], e3, e1, .nil, e2, dn⟩, ⟨Nat.zero_le _, Nat.zero_le _, Nat.zero_le _, (fun d hd => by cases hd), (fun d hd => by cases hd)⟩, rfl, fun H5 n5 => ⟨_, rfl, iteF ?_⟩⟩
  have s5 := s4.trans n5
  refine ⟨_, rfl, by show 0 <= sizeLine; decide, fun t4 g4 => ⟨by show 2 <= sizeLine; decide, fun t5 g5 => ?_⟩⟩
  have n6 := ((same_new g4 (.tup [])).new (o := (.tup [.ref pk, .ref t4])) g5)
  have f1 := old (o := (.tup [.ref pk, .ref t4])) g5 (upd_same (H := H5) (a := t4) (o := (.tup [])))
  have f2 := upd_same (H := upd H5 t4 (.tup [])) (a := t5) (o := (.tup [.ref pk, .ref t4]))
  generalize upd (upd H5 t4 (.tup [])) t5 (.tup [.ref pk, .ref t4]) = H6 at *
  have s6 := s5.trans n6
  refine ⟨t5, ks, [], rfl, ⟨pk, t4, qs, [], f2, s6 _ _ h2, h3.keep (.of s6), f1, dn⟩, few_nil hF, ?_, fun H7 n7 => ⟨_, rfl, iteF (nxt ?_)⟩⟩
  · rw [prog_due (ds := []) hnd List.nodup_nil]
    rfl
  have s7 := s6.trans n7
  refine ⟨_, rfl, pk, _, rfl, SqT.of (s7 _ _ h2), fun l1 k1 => ⟨l1, _, rfl, .inl ⟨SqL.of upd_same, fun u1 k2 => ?_⟩⟩⟩
  rw [<- List.map_reverse]
  have n8 := (same_new (H := H7) k1 (.lst (qs.reverse.map V.ref))).new (o := .tup (qs.reverse.map V.ref)) (by rw [List.map_reverse]; exact k2)
  have j1 := upd_same (H := upd H7 l1 (.lst (qs.reverse.map V.ref))) (a := u1) (o := .tup (qs.reverse.map V.ref))
  generalize upd (upd H7 l1 (.lst (qs.reverse.map V.ref))) u1 (.tup (qs.reverse.map V.ref)) = H8 at *
  have s8 := s7.trans n8
  refine ⟨_, rfl, pd, _, rfl, SqT.of (s8 _ _ h4), fun l2 k3 => ⟨l2, _, rfl, .inl ⟨SqL.of upd_same, fun u2 k4 => ?_⟩⟩⟩
  rw [<- List.map_reverse]
  have n9 := (same_new (H := H8) k3 (.lst (rs.reverse.map V.ref))).new (o := .tup (rs.reverse.map V.ref)) (by rw [List.map_reverse]; exact k4)
  have j2 := upd_same (H := upd H8 l2 (.lst (rs.reverse.map V.ref))) (a := u2) (o := .tup (rs.reverse.map V.ref))
  generalize upd (upd H8 l2 (.lst (rs.reverse.map V.ref))) u2 (.tup (rs.reverse.map V.ref)) = H9 at *
  have s9 := s8.trans n9
  refine ⟨by show 2 <= sizeLine; decide, fun t6 g6 => ?_⟩
  have na := same_new g6 (.tup [.ref u1, .ref u2])
  have sa := s9.trans na
  refine ⟨_, rfl, t6, ks.reverse, ds.reverse, rfl, ⟨u1, u2, qs.reverse, rs.reverse, upd_same, na _ _ (n9 _ _ j1), (h3.keep (.of sa)).rev, na _ _ j2, (h5.keep (.of sa)).rev⟩, hF.rev, hcl _ _ ks.reverse_perm ds.reverse_perm, fun Hb nb => ?_⟩
  have sb := sa.trans nb
  refine ⟨true, rfl, iteT ⟨_, rfl, p, ks, ds, rfl, hP.keep (.of sb), hF, hcl ks ds (.refl _) (.refl _), fun Hc nc => q _⟩⟩
end
end KD
namespace KD
open PySem L2 K11
structure TopK (K : PySem.W.Frag) (cK tw un mi la R : Addr) : Prop where
  c_Known : OwnIn K "Known" cK
  a_Known_kinds : PySem.W.findIn K (.ref cK) "kinds" = some none
  a_Known_tag_sizes : PySem.W.findIn K (.ref cK) "tag_sizes" = some none
  a_Known_param_counts : PySem.W.findIn K (.ref cK) "param_counts" = some none
  n_R : PySem.W.nsIn K mainGlobals "ReuseError" = some (some (.ref R))
  n_tw : PySem.W.nsIn K mainGlobals "Twice" = some (some (.ref tw))
  hd_tw : PySem.W.hasDictIn K tw = true
  ga_tw : PySem.W.findIn K (.ref tw) "__getattribute__" = some (some (.builtin "BaseException.__getattribute__"))
  ha_tw : PySem.W.findIn K (.ref tw) "__getattr__" = some none
  sb_tw : PySem.W.subIn K (.ref tw) (.type "BaseException") = some true
  kp_tw : PySem.W.keepIn K (.ref tw) = true
  in_tw : MeIn K tw "__init__" "Twice.__init__" iTwice
  ov_tw : overIn K tw = true
  sa_tw : PySem.W.findIn K (.ref tw) "__setattr__" = some (some (.builtin "object.__setattr__"))
  an_tw : (PySem.W.clsIn K tw).any (·.hasDict) = true
  cl_tw : ∃ f, PySem.W.findIn K (.ref tw) "__init__" = some (some (.ref f)) /\ xIn K tw f = true /\ PySem.W.typeIn K (.ref f) = some (.type "function")
  tname_tw : PySem.W.takerIn K tw "name" = some none
  n_un : PySem.W.nsIn K mainGlobals "Unknown" = some (some (.ref un))
  hd_un : PySem.W.hasDictIn K un = true
  ga_un : PySem.W.findIn K (.ref un) "__getattribute__" = some (some (.builtin "BaseException.__getattribute__"))
  ha_un : PySem.W.findIn K (.ref un) "__getattr__" = some none
  sb_un : PySem.W.subIn K (.ref un) (.type "BaseException") = some true
  kp_un : PySem.W.keepIn K (.ref un) = true
  in_un : MeIn K un "__init__" "Unknown.__init__" iUnknown
  ov_un : overIn K un = true
  sa_un : PySem.W.findIn K (.ref un) "__setattr__" = some (some (.builtin "object.__setattr__"))
  an_un : (PySem.W.clsIn K un).any (·.hasDict) = true
  cl_un : ∃ f, PySem.W.findIn K (.ref un) "__init__" = some (some (.ref f)) /\ xIn K un f = true /\ PySem.W.typeIn K (.ref f) = some (.type "function")
  tname_un : PySem.W.takerIn K un "name" = some none
  n_mi : PySem.W.nsIn K mainGlobals "Misfit" = some (some (.ref mi))
  hd_mi : PySem.W.hasDictIn K mi = true
  ga_mi : PySem.W.findIn K (.ref mi) "__getattribute__" = some (some (.builtin "BaseException.__getattribute__"))
  ha_mi : PySem.W.findIn K (.ref mi) "__getattr__" = some none
  sb_mi : PySem.W.subIn K (.ref mi) (.type "BaseException") = some true
  kp_mi : PySem.W.keepIn K (.ref mi) = true
  in_mi : MeIn K mi "__init__" "Misfit.__init__" iMisfit
  ov_mi : overIn K mi = true
  sa_mi : PySem.W.findIn K (.ref mi) "__setattr__" = some (some (.builtin "object.__setattr__"))
  an_mi : (PySem.W.clsIn K mi).any (·.hasDict) = true
  cl_mi : ∃ f, PySem.W.findIn K (.ref mi) "__init__" = some (some (.ref f)) /\ xIn K mi f = true /\ PySem.W.typeIn K (.ref f) = some (.type "function")
  tname_mi : PySem.W.takerIn K mi "name" = some none
  n_la : PySem.W.nsIn K mainGlobals "Lacking" = some (some (.ref la))
  hd_la : PySem.W.hasDictIn K la = true
  ga_la : PySem.W.findIn K (.ref la) "__getattribute__" = some (some (.builtin "BaseException.__getattribute__"))
  ha_la : PySem.W.findIn K (.ref la) "__getattr__" = some none
  sb_la : PySem.W.subIn K (.ref la) (.type "BaseException") = some true
  kp_la : PySem.W.keepIn K (.ref la) = true
  in_la : MeIn K la "__init__" "Lacking.__init__" iLacking
  ov_la : overIn K la = true
  sa_la : PySem.W.findIn K (.ref la) "__setattr__" = some (some (.builtin "object.__setattr__"))
  an_la : (PySem.W.clsIn K la).any (·.hasDict) = true
  cl_la : ∃ f, PySem.W.findIn K (.ref la) "__init__" = some (some (.ref f)) /\ xIn K la f = true /\ PySem.W.typeIn K (.ref f) = some (.type "function")
  tname_la : PySem.W.takerIn K la "name" = some none
  ttags_la : PySem.W.takerIn K la "tags" = some none
  r_sp : PySem.W.specialIn K (.ref R) "__getattribute__" = some (some (.builtin "type.__getattribute__"))
  r_rd : PySem.W.readsIn K R (.type "type") = true
  r_fi : PySem.W.findCls K (.ref R) (.type "type") "__init__" = some (.val (.builtin "ValueError.__init__"))
  d_sizes : DfIn K "sizes" sSizes
  m_Known___init__ : MeIn K cK "__init__" "Known.__init__" iKnown
  d_kin : DfIn K "kin" sKin
  d_lacking : DfIn K "lacking" sLacking
  d_with_bound : DfIn K "with_bound" sBound
  d_insist_known : DfIn K "insist_known" sInsist
  d_look_at_number : DfIn K "look_at_number" sNumb
  d_look_at_deed : DfIn K "look_at_deed" sDeed
  d_look_at_tag : DfIn K "look_at_tag" sTag
  d_looked_at_arms : DfIn K "looked_at_arms" sArms
  d_looked_at : DfIn K "looked_at" sLooked
  d_look_through : DfIn K "look_through" sThrough
  d_sound : DfIn K "sound" sSound
  d__law_cell_at : DfIn K "_law_cell_at" sCellAt
  d__law_stream : DfIn K "_law_stream" sStream
  d__law_stem : DfIn K "_law_stem" sStem
  d__law_name : DfIn K "_law_name" sNm
  d__law_world : DfIn K "_law_world" sWorld
  d__law_fault : DfIn K "_law_fault" sFault
  d__law_used : DfIn K "_law_used" sUsed
  d__law_bound : DfIn K "_law_bound" sBoundL
  d__law_target : DfIn K "_law_target" sTarget
  d__law_deed : DfIn K "_law_deed" sLDeed
  d__law_heads : DfIn K "_law_heads" sHeads
  d__law_heads_due : DfIn K "_law_heads_due" sHeadsDue
  d__law_words : DfIn K "_law_words" sWords
  d__law_body : DfIn K "_law_body" sBody
  d__law_program : DfIn K "_law_program" sProgram
  d__law_let_by : DfIn K "_law_let_by" sLetBy
  d_law : DfIn K "law" sLaw
  z_len : PySem.W.nsIn K mainGlobals "len" = some none
  z_range : PySem.W.nsIn K mainGlobals "range" = some none
  z_tuple : PySem.W.nsIn K mainGlobals "tuple" = some none
  z_list : PySem.W.nsIn K mainGlobals "list" = some none
  z_dict : PySem.W.nsIn K mainGlobals "dict" = some none
  z_reversed : PySem.W.nsIn K mainGlobals "reversed" = some none
  z_min : PySem.W.nsIn K mainGlobals "min" = some none
  z_enumerate : PySem.W.nsIn K mainGlobals "enumerate" = some none
  z_int : PySem.W.nsIn K mainGlobals "int" = some none
  z_sum : PySem.W.nsIn K mainGlobals "sum" = some none
theorem top_ok {l : PySem.W.OpenLaw} {w : World} {K : PySem.W.Frag} {h : Heap} {mg : Str -> Option Value} {fa cK tw un mi la R : Addr} (T : TopK K cK tw un mi la R) (X : K.In h) (G : h.Ns mainGlobals mg) (hfa : mg "law" = some (.ref fa)) :
    ∃ fd : FuncData, (∀ (s : Shared) (u : Value), BindsTo s fd ⟨[u], []⟩ [("_law_script", u)]) /\ ∀ base : Heap, K.In base -> base.Ns mainGlobals mg -> FnOk l.prog w K mg base CX0 71 fa fd ["_law_script"] (spTop K) := by
  refine law_in T.d_law X G hfa (fun _ _ _ _ _ _ s v => .of_eq rfl) fun base fd FL => ?_
  have z_len : mg "len" = none := PySem.W.mg_none_of X G T.z_len
  have z_range : mg "range" = none := PySem.W.mg_none_of X G T.z_range
  have z_tuple : mg "tuple" = none := PySem.W.mg_none_of X G T.z_tuple
  have z_list : mg "list" = none := PySem.W.mg_none_of X G T.z_list
  have z_dict : mg "dict" = none := PySem.W.mg_none_of X G T.z_dict
  have z_reversed : mg "reversed" = none := PySem.W.mg_none_of X G T.z_reversed
  have z_min : mg "min" = none := PySem.W.mg_none_of X G T.z_min
  have z_enumerate : mg "enumerate" = none := PySem.W.mg_none_of X G T.z_enumerate
  have z_int : mg "int" = none := PySem.W.mg_none_of X G T.z_int
  have z_sum : mg "sum" = none := PySem.W.mg_none_of X G T.z_sum
  have n_Known : mg "Known" = some (.ref cK) := PySem.W.mg_of X G T.c_Known.n
  have n_R := PySem.W.mg_of X G T.n_R
  have B : XBase K R := ⟨T.r_sp, T.r_rd, T.r_fi⟩
  have n_tw := PySem.W.mg_of X G T.n_tw
  obtain ⟨f_tw, a_tw, i_tw, y_tw⟩ := T.cl_tw
  have M_tw : XCl K tw f_tw := ⟨i_tw, y_tw, T.kp_tw, T.ov_tw, T.sa_tw, T.an_tw, T.ga_tw, T.ha_tw, T.sb_tw⟩
  have X_tw : Xa l.prog w K mg base 1 "Twice" tw ["self", "name"] (spX tw "name") := by
    obtain ⟨f, a, n, g⟩ := T.in_tw
    obtain ⟨fd, F, kp⟩ := g.fn
    have e : f = f_tw := by
      rw [a_tw] at a
      injection a with a
      injection a with a
      injection a with a
      exact a.symm
    subst e
    exact ⟨f, fd, M_tw, ok_twice F T.tname_tw M_tw B n_R, F.binds (ps := ["self", "name"]) fun _ _ _ _ _ _ us hl => match us, hl with | [_, _], _ => rfl, n_tw⟩
  have n_un := PySem.W.mg_of X G T.n_un
  obtain ⟨f_un, a_un, i_un, y_un⟩ := T.cl_un
  have M_un : XCl K un f_un := ⟨i_un, y_un, T.kp_un, T.ov_un, T.sa_un, T.an_un, T.ga_un, T.ha_un, T.sb_un⟩
  have X_un : Xa l.prog w K mg base 1 "Unknown" un ["self", "name"] (spX un "name") := by
    obtain ⟨f, a, n, g⟩ := T.in_un
    obtain ⟨fd, F, kp⟩ := g.fn
    have e : f = f_un := by
      rw [a_un] at a
      injection a with a
      injection a with a
      injection a with a
      exact a.symm
    subst e
    exact ⟨f, fd, M_un, ok_unknown F T.tname_un M_un B n_R, F.binds (ps := ["self", "name"]) fun _ _ _ _ _ _ us hl => match us, hl with | [_, _], _ => rfl, n_un⟩
  have n_mi := PySem.W.mg_of X G T.n_mi
  obtain ⟨f_mi, a_mi, i_mi, y_mi⟩ := T.cl_mi
  have M_mi : XCl K mi f_mi := ⟨i_mi, y_mi, T.kp_mi, T.ov_mi, T.sa_mi, T.an_mi, T.ga_mi, T.ha_mi, T.sb_mi⟩
  have X_mi : Xa l.prog w K mg base 1 "Misfit" mi ["self", "name"] (spX mi "name") := by
    obtain ⟨f, a, n, g⟩ := T.in_mi
    obtain ⟨fd, F, kp⟩ := g.fn
    have e : f = f_mi := by
      rw [a_mi] at a
      injection a with a
      injection a with a
      injection a with a
      exact a.symm
    subst e
    exact ⟨f, fd, M_mi, ok_misfit F T.tname_mi M_mi B n_R, F.binds (ps := ["self", "name"]) fun _ _ _ _ _ _ us hl => match us, hl with | [_, _], _ => rfl, n_mi⟩
  have n_la := PySem.W.mg_of X G T.n_la
  obtain ⟨f_la, a_la, i_la, y_la⟩ := T.cl_la
  have M_la : XCl K la f_la := ⟨i_la, y_la, T.kp_la, T.ov_la, T.sa_la, T.an_la, T.ga_la, T.ha_la, T.sb_la⟩
  have X_la : Xa l.prog w K mg base 1 "Lacking" la ["self", "name", "tags"] (spXL la) := by
    obtain ⟨f, a, n, g⟩ := T.in_la
    obtain ⟨fd, F, kp⟩ := g.fn
    have e : f = f_la := by
      rw [a_la] at a
      injection a with a
      injection a with a
      injection a with a
      exact a.symm
    subst e
    exact ⟨f, fd, M_la, ok_iLacking F T.tname_la T.ttags_la M_la B n_R z_list, F.binds (ps := ["self", "name", "tags"]) fun _ _ _ _ _ _ us hl => match us, hl with | [_, _, _], _ => rfl, n_la⟩
  have kn : Kn K cK := ⟨T.c_Known.cls, T.a_Known_kinds, T.a_Known_tag_sizes, T.a_Known_param_counts⟩
  have G1 := DfIn.ca (P := l.prog) (w := w) (base := base) X G T.d_sizes (ps := ["kinds"]) (fun _ _ _ _ _ _ us hl => match us, hl with | [_], _ => rfl) fun f fd F => ok_sizes F
  have MK := T.m_Known___init__.ma (P := l.prog) (w := w) (mg := mg) (base := base) (x := "Known") (ps := ["self", "program"]) (fun _ _ _ _ _ _ us hl => match us, hl with | [_, _], _ => rfl) T.c_Known.mks T.c_Known.kp n_Known fun f fd F => ok_kinit F kn G1 z_len
  have GK := DfIn.ca (P := l.prog) (w := w) (base := base) X G T.d_kin (ps := ["kinds", "tag"]) (fun _ _ _ _ _ _ us hl => match us, hl with | [_, _], _ => rfl) fun f fd F => ok_kin F
  have GL := DfIn.ca (P := l.prog) (w := w) (base := base) X G T.d_lacking (ps := ["kinds", "tags"]) (fun _ _ _ _ _ _ us hl => match us, hl with | [_, _], _ => rfl) fun f fd F => ok_lacking F GK
  have G2 := DfIn.ca (P := l.prog) (w := w) (base := base) X G T.d_with_bound (ps := ["names", "above"]) (fun _ _ _ _ _ _ us hl => match us, hl with | [_, _], _ => rfl) fun f fd F => ok_bound F X_tw z_dict
  have G3 := DfIn.ca (P := l.prog) (w := w) (base := base) X G T.d_insist_known (ps := ["names", "known_ones"]) (fun _ _ _ _ _ _ us hl => match us, hl with | [_, _], _ => rfl) fun f fd F => ok_knowG F X_un
  have G4 := DfIn.ca (P := l.prog) (w := w) (base := base) X G T.d_look_at_number (ps := ["known", "deed"]) (fun _ _ _ _ _ _ us hl => match us, hl with | [_, _], _ => rfl) fun f fd F => ok_numb F kn G3 X_mi z_len
  have G5 := DfIn.ca (P := l.prog) (w := w) (base := base) X G T.d_look_at_deed (ps := ["known", "deed", "above"]) (fun _ _ _ _ _ _ us hl => match us, hl with | [_, _, _], _ => rfl) fun f fd F => ok_deed F G3 G4
  have GT := DfIn.ca (P := l.prog) (w := w) (base := base) X G T.d_look_at_tag (ps := ["known", "arm", "tags_ahead"]) (fun _ _ _ _ _ _ us hl => match us, hl with | [_, _, _], _ => rfl) fun f fd F => ok_tag F kn G3 GK X_mi X_tw z_len
  have GA := DfIn.ca (P := l.prog) (w := w) (base := base) X G T.d_looked_at_arms (ps := ["known", "body", "above"]) (fun _ _ _ _ _ _ us hl => match us, hl with | [_, _, _], _ => rfl) fun f fd F => ok_arms F kn GT G2 GL X_la z_len
  have G6 := DfIn.ca (P := l.prog) (w := w) (base := base) X G T.d_looked_at (ps := ["known", "body", "above"]) (fun _ _ _ _ _ _ us hl => match us, hl with | [_, _, _], _ => rfl) fun f fd F => ok_looked F G3 G5 G2 GA
  have G7 := DfIn.ca (P := l.prog) (w := w) (base := base) X G T.d_look_through (ps := ["known", "one"]) (fun _ _ _ _ _ _ us hl => match us, hl with | [_, _], _ => rfl) fun f fd F => ok_through F G2 G6 z_len z_reversed
  have G8 := DfIn.ca (P := l.prog) (w := w) (base := base) X G T.d_sound (ps := ["program"]) (fun _ _ _ _ _ _ us hl => match us, hl with | [_], _ => rfl) fun f fd F => ok_sound F G2 MK G7
  have LC := DfIn.ca (P := l.prog) (w := w) (base := base) X G T.d__law_cell_at (ps := ["_law_script", "_law_k"]) (fun _ _ _ _ _ _ us hl => match us, hl with | [_, _], _ => rfl) fun f fd F => ok_celld F z_len
  have LX := DfIn.ca (P := l.prog) (w := w) (base := base) X G T.d__law_stream (ps := ["_law_cell", "_law_many"]) (fun _ _ _ _ _ _ us hl => match us, hl with | [_, _], _ => rfl) fun f fd F => ok_stream F z_range
  have LS := DfIn.ca (P := l.prog) (w := w) (base := base) X G T.d__law_stem (ps := ["_law_cell"]) (fun _ _ _ _ _ _ us hl => match us, hl with | [_], _ => rfl) fun f fd F => ok_stem F z_range
  have LN := DfIn.ca (P := l.prog) (w := w) (base := base) X G T.d__law_name (ps := ["_law_stem_here", "_law_k"]) (fun _ _ _ _ _ _ us hl => match us, hl with | [_, _], _ => rfl) fun f fd F => ok_nm F z_len
  have LW := DfIn.ca (P := l.prog) (w := w) (base := base) X G T.d__law_world (ps := ["_law_script", "_law_wild"]) (fun _ _ _ _ _ _ us hl => match us, hl with | [_, _], _ => rfl) fun f fd F => ok_world F LC LS LN z_range z_min z_int
  have LF := DfIn.ca (P := l.prog) (w := w) (base := base) X G T.d__law_fault (ps := ["_law_state", "_law_due"]) (fun _ _ _ _ _ _ us hl => match us, hl with | [_, _], _ => rfl) fun f fd F => ok_fault F
  have LU := DfIn.ca (P := l.prog) (w := w) (base := base) X G T.d__law_used (ps := ["_law_state", "_law_world_here", "_law_above", "_law_number"]) (fun _ _ _ _ _ _ us hl => match us, hl with | [_, _, _, _], _ => rfl) fun f fd F => ok_used F LN LF z_len
  have LO := DfIn.ca (P := l.prog) (w := w) (base := base) X G T.d__law_bound (ps := ["_law_state", "_law_world_here", "_law_above", "_law_number"]) (fun _ _ _ _ _ _ us hl => match us, hl with | [_, _, _, _], _ => rfl) fun f fd F => ok_boundL F LN LF z_len
  have LG := DfIn.ca (P := l.prog) (w := w) (base := base) X G T.d__law_target (ps := ["_law_state", "_law_world_here", "_law_above", "_law_some", "_law_xs", "_law_word"]) (fun _ _ _ _ _ _ us hl => match us, hl with | [_, _, _, _, _, _], _ => rfl) fun f fd F => ok_target F LN LF LU z_len z_tuple z_dict
  have LD := DfIn.ca (P := l.prog) (w := w) (base := base) X G T.d__law_deed (ps := ["_law_state", "_law_world_here", "_law_above", "_law_xs", "_law_way"]) (fun _ _ _ _ _ _ us hl => match us, hl with | [_, _, _, _, _], _ => rfl) fun f fd F => ok_ldeed F LU LG z_tuple
  have LH := DfIn.ca (P := l.prog) (w := w) (base := base) X G T.d__law_heads (ps := ["_law_world_here", "_law_above", "_law_xs"]) (fun _ _ _ _ _ _ us hl => match us, hl with | [_, _, _], _ => rfl) fun f fd F => ok_headsL F LN z_len z_range z_enumerate z_tuple
  have LE := DfIn.ca (P := l.prog) (w := w) (base := base) X G T.d__law_heads_due (ps := ["_law_heads_here", "_law_x", "_law_above", "_law_kinds"]) (fun _ _ _ _ _ _ us hl => match us, hl with | [_, _, _, _], _ => rfl) fun f fd F => ok_headsdue F z_len z_range
  have LWd := DfIn.ca (P := l.prog) (w := w) (base := base) X G T.d__law_words (ps := ["_law_deed_here"]) (fun _ _ _ _ _ _ us hl => match us, hl with | [_], _ => rfl) fun f fd F => ok_words F z_len
  have LB : ∀ n : Nat, Ca l.prog w K mg base CX0 (5 + n) "_law_body" ["_law_state", "_law_world_here", "_law_above"] (spBodyL n) := by
    intro n
    induction n with
    | zero => exact DfIn.ca (P := l.prog) (w := w) (base := base) X G T.d__law_body (ps := ["_law_state", "_law_world_here", "_law_above"]) (fun _ _ _ _ _ _ us hl => match us, hl with | [_, _, _], _ => rfl) fun f fd F => ok_bodyL0 F
    | succ n ih => exact DfIn.ca (P := l.prog) (w := w) (base := base) X G T.d__law_body (ps := ["_law_state", "_law_world_here", "_law_above"]) (fun _ _ _ _ _ _ us hl => match us, hl with | [_, _, _], _ => rfl) fun f fd F => ok_bodyL (n := n) F LC LX LU LO LD LWd LH LF LE ih z_len z_sum z_list z_tuple
  have LP := DfIn.ca (P := l.prog) (w := w) (base := base) X G T.d__law_program (ps := ["_law_script", "_law_world_here"]) (fun _ _ _ _ _ _ us hl => match us, hl with | [_, _], _ => rfl) fun f fd F => ok_program F LN (LB 64) z_len z_range z_enumerate z_tuple
  have LL := DfIn.ca (P := l.prog) (w := w) (base := base) X G T.d__law_let_by (ps := ["_law_program_here"]) (fun _ _ _ _ _ _ us hl => match us, hl with | [_], _ => rfl) fun f fd F => ok_letby F G8 n_R
  exact ok_law FL LW LP LL z_list z_reversed z_tuple
end KD
def PySem.W.Fast.tw16563510318398360761 : Unit := ()
def PySem.W.Fast.tw4693907909652450402 : Unit := ()
def PySem.W.Fast.tw11832384764949077364 : Unit := ()
def PySem.W.Fast.tw12892843947770991963 : Unit := ()
def PySem.W.Fast.tw9018207915865410558 : Unit := ()
def PySem.W.Fast.tw2762338490962135919 : Unit := ()
def PySem.W.Fast.tw4890893990706601391 : Unit := ()
def PySem.W.Fast.tw17948916937462591820 : Unit := ()
def PySem.W.Fast.tw5200655762939557394 : Unit := ()
def PySem.W.Fast.tw12743639034032521827 : Unit := ()
def PySem.W.Fast.tw3411703342386580998 : Unit := ()
def PySem.W.Fast.tw7364118021843122900 : Unit := ()
def PySem.W.Fast.tw14821904934255313322 : Unit := ()
def PySem.W.Fast.tw17353868095160496005 : Unit := ()
def PySem.W.Fast.tw2388508179888034095 : Unit := ()
def PySem.W.Fast.tw2235542287309726756 : Unit := ()
def PySem.W.Fast.tw15580336759466026862 : Unit := ()
def PySem.W.Fast.tw12789252887002301749 : Unit := ()
def PySem.W.Fast.tw15221115293291023066 : Unit := ()
def PySem.W.Fast.tw4306888943306236968 : Unit := ()
def PySem.W.Fast.tw6641212218738144208 : Unit := ()
def PySem.W.Fast.tw13543188923585340329 : Unit := ()
def PySem.W.Fast.tw8133799641680767698 : Unit := ()
def PySem.W.Fast.tw5187326216154605706 : Unit := ()
def PySem.W.Fast.tw17942741942444232476 : Unit := ()
def PySem.W.Fast.tw15287132210552880272 : Unit := ()
def PySem.W.Fast.tw11024718752055778307 : Unit := ()
def PySem.W.Fast.tw13986480342029182989 : Unit := ()
def PySem.W.Fast.tw4156327457817788153 : Unit := ()
def PySem.W.Fast.tw10825679160685673158 : Unit := ()
def PySem.W.Fast.tw3963503086064531611 : Unit := ()
def PySem.W.Fast.tw14456220330467879933 : Unit := ()
def PySem.W.Fast.tw4176193474407791872 : Unit := ()
def PySem.W.Fast.tw14077105972094801190 : Unit := ()
def PySem.W.Fast.tw5059756390534485799 : Unit := ()
def PySem.W.Fast.tw17904240958750705153 : Unit := ()
def PySem.W.Fast.tw14695082181043163290 : Unit := ()
def PySem.W.Fast.tw16343046689719104965 : Unit := ()
def PySem.W.Fast.tw4830240151016065243 : Unit := ()
def PySem.W.Fast.tw637844200375313639 : Unit := ()
def PySem.W.Fast.tw3368643796217504268 : Unit := ()
def PySem.W.Fast.tw2980323548971383897 : Unit := ()
def PySem.W.Fast.tw15863808084602235102 : Unit := ()
def PySem.W.Fast.tw17166660795425821228 : Unit := ()
def PySem.W.Fast.tw5954422359792975150 : Unit := ()
def PySem.W.Fast.tw1243675347079036068 : Unit := ()
def PySem.W.Fast.tw12458486003344115089 : Unit := ()
def PySem.W.Fast.tw15161766375556152080 : Unit := ()
def PySem.W.Fast.tw16243675637536407349 : Unit := ()
def PySem.W.Fast.tw10089737140978522748 : Unit := ()
def PySem.W.Fast.tw2041308404684956804 : Unit := ()
def PySem.W.Fast.tw11921471937235288208 : Unit := ()
def PySem.W.Fast.tw3152468957344229054 : Unit := ()
def PySem.W.Fast.tw8381425907339039277 : Unit := ()
def PySem.W.Fast.tw11206172153951968367 : Unit := ()
def PySem.W.Fast.tw8162533737602640269 : Unit := ()
def PySem.W.Fast.tw431992381063345232 : Unit := ()
def PySem.W.Fast.tw10876409656312751635 : Unit := ()
def PySem.W.Fast.tw4755399189966807149 : Unit := ()
def PySem.W.Fast.tw13241340970707817796 : Unit := ()
def PySem.W.Fast.tw7995740894074457723 : Unit := ()
def PySem.W.Fast.tw7104194278902546039 : Unit := ()
def PySem.W.Fast.tw15481916326582752296 : Unit := ()
def PySem.W.Fast.tw6925339359986450213 : Unit := ()
def PySem.W.Fast.tw16250577977572965292 : Unit := ()
def PySem.W.Fast.tw2107366757824397313 : Unit := ()
def PySem.W.Fast.tw2299454023254217834 : Unit := ()
open PySem PySem.W PyProof.Rows
set_option maxRecDepth 100000 in
set_option maxHeartbeats 0 in
theorem PySem.Challenge.cw_reusewise_k23_sound_programs_holds : PySem.Challenge.rw_reusewise_k23_sound_programs.Holds := by
  w_on; o_law; k_head; (case hw => w_witness2)
  k_fill
  refine L2.walk1 (l := PySem.Challenge.rw_reusewise_k23_sound_programs) (k := 71) rfl ⟨rfl, by decide, by decide⟩ rfl rfl (fun w h Y => PySem.W.kIn_of Y) ?F
  case F =>
    intro w mg fa h KX G hm
    refine' KD.top_ok (KD.TopK.mk ?c_Known ?a_Known_kinds ?a_Known_tag_sizes ?a_Known_param_counts ?n_R ?n_tw ?hd_tw ?ga_tw ?ha_tw ?sb_tw ?kp_tw ?in_tw ?ov_tw ?sa_tw ?an_tw ?cl_tw ?tname_tw ?n_un ?hd_un ?ga_un ?ha_un ?sb_un ?kp_un ?in_un ?ov_un ?sa_un ?an_un ?cl_un ?tname_un ?n_mi ?hd_mi ?ga_mi ?ha_mi ?sb_mi ?kp_mi ?in_mi ?ov_mi ?sa_mi ?an_mi ?cl_mi ?tname_mi ?n_la ?hd_la ?ga_la ?ha_la ?sb_la ?kp_la ?in_la ?ov_la ?sa_la ?an_la ?cl_la ?tname_la ?ttags_la ?r_sp ?r_rd ?r_fi ?d_sizes ?m_Known___init__ ?d_kin ?d_lacking ?d_with_bound ?d_insist_known ?d_look_at_number ?d_look_at_deed ?d_look_at_tag ?d_looked_at_arms ?d_looked_at ?d_look_through ?d_sound ?d__law_cell_at ?d__law_stream ?d__law_stem ?d__law_name ?d__law_world ?d__law_fault ?d__law_used ?d__law_bound ?d__law_target ?d__law_deed ?d__law_heads ?d__law_heads_due ?d__law_words ?d__law_body ?d__law_program ?d__law_let_by ?d_law ?z_len ?z_range ?z_tuple ?z_list ?z_dict ?z_reversed ?z_min ?z_enumerate ?z_int ?z_sum) KX G hm
    (case c_Known => (refine' L2.OwnIn.mk ?n ?pg ?hd ?po ?sa ?mks ?kp; (case n => k_is); (case pg => k_is); (case hd => k_is); (case po => k_is); (case sa => k_is); (case mks => k_is); (case kp => k_is)))
    (case a_Known_kinds => k_is)
    (case a_Known_tag_sizes => k_is)
    (case a_Known_param_counts => k_is)
    (case n_R => k_is)
    (case n_tw => k_is)
    (case hd_tw => k_is)
    (case ga_tw => k_is)
    (case ha_tw => k_is)
    (case sb_tw => k_is)
    (case kp_tw => k_is)
    (case in_tw => (refine' L2.MeIn.mk ?a ?l ?c ?k ?n; (case a => k_is); (case l => k_is); (case c => k_is); (case k => k_is); (case n => k_is)))
    (case ov_tw => (first | kernel_rfl | rfl | decide +kernel))
    (case sa_tw => k_is)
    (case an_tw => (first | kernel_rfl | rfl | decide +kernel))
    (case cl_tw => (refine' L2.XcIn.mk ?a ?b ?c; (case a => k_is); (case b => (first | kernel_rfl | rfl | decide +kernel)); (case c => k_is)))
    (case tname_tw => k_is)
    (case n_un => k_is)
    (case hd_un => k_is)
    (case ga_un => k_is)
    (case ha_un => k_is)
    (case sb_un => k_is)
    (case kp_un => k_is)
    (case in_un => (refine' L2.MeIn.mk ?a ?l ?c ?k ?n; (case a => k_is); (case l => k_is); (case c => k_is); (case k => k_is); (case n => k_is)))
    (case ov_un => (first | kernel_rfl | rfl | decide +kernel))
    (case sa_un => k_is)
    (case an_un => (first | kernel_rfl | rfl | decide +kernel))
    (case cl_un => (refine' L2.XcIn.mk ?a ?b ?c; (case a => k_is); (case b => (first | kernel_rfl | rfl | decide +kernel)); (case c => k_is)))
    (case tname_un => k_is)
    (case n_mi => k_is)
    (case hd_mi => k_is)
    (case ga_mi => k_is)
    (case ha_mi => k_is)
    (case sb_mi => k_is)
    (case kp_mi => k_is)
    (case in_mi => (refine' L2.MeIn.mk ?a ?l ?c ?k ?n; (case a => k_is); (case l => k_is); (case c => k_is); (case k => k_is); (case n => k_is)))
    (case ov_mi => (first | kernel_rfl | rfl | decide +kernel))
    (case sa_mi => k_is)
    (case an_mi => (first | kernel_rfl | rfl | decide +kernel))
    (case cl_mi => (refine' L2.XcIn.mk ?a ?b ?c; (case a => k_is); (case b => (first | kernel_rfl | rfl | decide +kernel)); (case c => k_is)))
    (case tname_mi => k_is)
    (case n_la => k_is)
    (case hd_la => k_is)
    (case ga_la => k_is)
    (case ha_la => k_is)
    (case sb_la => k_is)
    (case kp_la => k_is)
    (case in_la => (refine' L2.MeIn.mk ?a ?l ?c ?k ?n; (case a => k_is); (case l => k_is); (case c => k_is); (case k => k_is); (case n => k_is)))
    (case ov_la => (first | kernel_rfl | rfl | decide +kernel))
    (case sa_la => k_is)
    (case an_la => (first | kernel_rfl | rfl | decide +kernel))
    (case cl_la => (refine' L2.XcIn.mk ?a ?b ?c; (case a => k_is); (case b => (first | kernel_rfl | rfl | decide +kernel)); (case c => k_is)))
    (case tname_la => k_is)
    (case ttags_la => k_is)
    (case r_sp => k_is)
    (case r_rd => k_is)
    (case r_fi => k_is)
    (case d_sizes => (refine' L2.DfIn.mk ?a ?l ?c ?k; (case a => k_is); (case l => k_is); (case c => k_is); (case k => k_is)))
    (case m_Known___init__ => (refine' L2.MeIn.mk ?a ?l ?c ?k ?n; (case a => k_is); (case l => k_is); (case c => k_is); (case k => k_is); (case n => k_is)))
    (case d_kin => (refine' L2.DfIn.mk ?a ?l ?c ?k; (case a => k_is); (case l => k_is); (case c => k_is); (case k => k_is)))
    (case d_lacking => (refine' L2.DfIn.mk ?a ?l ?c ?k; (case a => k_is); (case l => k_is); (case c => k_is); (case k => k_is)))
    (case d_with_bound => (refine' L2.DfIn.mk ?a ?l ?c ?k; (case a => k_is); (case l => k_is); (case c => k_is); (case k => k_is)))
    (case d_insist_known => (refine' L2.DfIn.mk ?a ?l ?c ?k; (case a => k_is); (case l => k_is); (case c => k_is); (case k => k_is)))
    (case d_look_at_number => (refine' L2.DfIn.mk ?a ?l ?c ?k; (case a => k_is); (case l => k_is); (case c => k_is); (case k => k_is)))
    (case d_look_at_deed => (refine' L2.DfIn.mk ?a ?l ?c ?k; (case a => k_is); (case l => k_is); (case c => k_is); (case k => k_is)))
    (case d_look_at_tag => (refine' L2.DfIn.mk ?a ?l ?c ?k; (case a => k_is); (case l => k_is); (case c => k_is); (case k => k_is)))
    (case d_looked_at_arms => (refine' L2.DfIn.mk ?a ?l ?c ?k; (case a => k_is); (case l => k_is); (case c => k_is); (case k => k_is)))
    (case d_looked_at => (refine' L2.DfIn.mk ?a ?l ?c ?k; (case a => k_is); (case l => k_is); (case c => k_is); (case k => k_is)))
    (case d_look_through => (refine' L2.DfIn.mk ?a ?l ?c ?k; (case a => k_is); (case l => k_is); (case c => k_is); (case k => k_is)))
    (case d_sound => (refine' L2.DfIn.mk ?a ?l ?c ?k; (case a => k_is); (case l => k_is); (case c => k_is); (case k => k_is)))
    (case d__law_cell_at => (refine' L2.DfIn.mk ?a ?l ?c ?k; (case a => k_is); (case l => k_is); (case c => k_is); (case k => k_is)))
    (case d__law_stream => (refine' L2.DfIn.mk ?a ?l ?c ?k; (case a => k_is); (case l => k_is); (case c => k_is); (case k => k_is)))
    (case d__law_stem => (refine' L2.DfIn.mk ?a ?l ?c ?k; (case a => k_is); (case l => k_is); (case c => k_is); (case k => k_is)))
    (case d__law_name => (refine' L2.DfIn.mk ?a ?l ?c ?k; (case a => k_is); (case l => k_is); (case c => k_is); (case k => k_is)))
    (case d__law_world => (refine' L2.DfIn.mk ?a ?l ?c ?k; (case a => k_is); (case l => k_is); (case c => k_is); (case k => k_is)))
    (case d__law_fault => (refine' L2.DfIn.mk ?a ?l ?c ?k; (case a => k_is); (case l => k_is); (case c => k_is); (case k => k_is)))
    (case d__law_used => (refine' L2.DfIn.mk ?a ?l ?c ?k; (case a => k_is); (case l => k_is); (case c => k_is); (case k => k_is)))
    (case d__law_bound => (refine' L2.DfIn.mk ?a ?l ?c ?k; (case a => k_is); (case l => k_is); (case c => k_is); (case k => k_is)))
    (case d__law_target => (refine' L2.DfIn.mk ?a ?l ?c ?k; (case a => k_is); (case l => k_is); (case c => k_is); (case k => k_is)))
    (case d__law_deed => (refine' L2.DfIn.mk ?a ?l ?c ?k; (case a => k_is); (case l => k_is); (case c => k_is); (case k => k_is)))
    (case d__law_heads => (refine' L2.DfIn.mk ?a ?l ?c ?k; (case a => k_is); (case l => k_is); (case c => k_is); (case k => k_is)))
    (case d__law_heads_due => (refine' L2.DfIn.mk ?a ?l ?c ?k; (case a => k_is); (case l => k_is); (case c => k_is); (case k => k_is)))
    (case d__law_words => (refine' L2.DfIn.mk ?a ?l ?c ?k; (case a => k_is); (case l => k_is); (case c => k_is); (case k => k_is)))
    (case d__law_body => (refine' L2.DfIn.mk ?a ?l ?c ?k; (case a => k_is); (case l => k_is); (case c => k_is); (case k => k_is)))
    (case d__law_program => (refine' L2.DfIn.mk ?a ?l ?c ?k; (case a => k_is); (case l => k_is); (case c => k_is); (case k => k_is)))
    (case d__law_let_by => (refine' L2.DfIn.mk ?a ?l ?c ?k; (case a => k_is); (case l => k_is); (case c => k_is); (case k => k_is)))
    (case d_law => (refine' L2.DfIn.mk ?a ?l ?c ?k; (case a => k_is); (case l => k_is); (case c => k_is); (case k => k_is)))
    (case z_len => k_is)
    (case z_range => k_is)
    (case z_tuple => k_is)
    (case z_list => k_is)
    (case z_dict => k_is)
    (case z_reversed => k_is)
    (case z_min => k_is)
    (case z_enumerate => k_is)
    (case z_int => k_is)
    (case z_sum => k_is)
#print axioms PySem.Challenge.cw_reusewise_k23_sound_programs_holds
