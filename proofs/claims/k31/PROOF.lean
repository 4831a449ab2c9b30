import PyProof.Rows.All
import Wide.All
import OpenK.AllK
import Wide.FinOn
import Lean
import PyProof.EqAt
import PyProof.EqKinds
import PyProof.TupleCall
import PyProof.PassesOwn
import PyProof.StationsW
import OpenK.KCls
import PyProof.ExcAttrAll.ValueError
import PyProof.ExcClass3
import PyProof.WalksEnum
import PyProof.EnumMake
import PyProof.EnumFor
import PyProof.EnumStmt
import PyProof.MeetsStr
import PyProof.StrLawsTight
import PyProof.NeKinds
import PyProof.Rows.SumAny
import PyProof.SeqI3
import PyProof.ZipIter
import PyProof.WalksMore
import PyProof.ListNew
import KE.KRevIter
import PyProof.AutoSeq1
import PyProof.FactsAll.list
import PyProof.IsRules
import KE.KItemsList
import KE.KIntText
import PyProof.StrBlockL
import PyProof.StrBlockI
import PyProof.StrBlock2
import PyProof.StrLawsIn
import PyProof.StrLawsChain
import PyProof.Rows.StrLast
import PyProof.Rows.StrItems
import KE.IntTextText
import PySem.Challenge.RW_reusewise_k31_reckoned
set_option Elab.async false
set_option linter.all false
set_option maxRecDepth 100000
set_option maxHeartbeats 4000000
namespace L2
open PySem PySem.Spec PyProof.Rows
abbrev Key := Sum Int Str
def keyIs : Key -> Value -> Bool
  | .inl k, v => Value.isInt k v
  | .inr x, v => Value.isStrOf x v
def keyH (w : World) : Key -> Int
  | .inl k => hashInt k
  | .inr x => hashStr w x
theorem keyIs_shape : ∀ {k : Key} {v : Value}, keyIs k v = true -> (∃ i t, k = Sum.inl i /\ v = Value.int i t) \/ (∃ x t, k = Sum.inr x /\ v = Value.str x t)
  | .inl i, v, h => by
    obtain ⟨t, e⟩ := Value.isInt_shape (k := i) (v := v) h
    exact .inl ⟨i, t, rfl, e⟩
  | .inr x, v, h => by
    obtain ⟨t, e⟩ := Value.isStrOf_shape (x := x) (v := v) h
    exact .inr ⟨x, t, rfl, e⟩
theorem key_ll (a b : Int) : decide ((Sum.inl a : Key) = Sum.inl b) = (a == b) := by
  by_cases e : a = b
  · subst e; simp
  · have h : ¬ (Sum.inl a : Key) = Sum.inl b := fun q => e (Sum.inl.inj q)
    rw [decide_eq_false h]
    exact (beq_eq_false_iff_ne.mpr e).symm
theorem key_rr (a b : Str) : decide ((Sum.inr a : Key) = Sum.inr b) = decide (a = b) := by
  by_cases e : a = b
  · subst e; simp
  · have h : ¬ (Sum.inr a : Key) = Sum.inr b := fun q => e (Sum.inr.inj q)
    rw [decide_eq_false h, decide_eq_false e]
theorem key_lr (a : Int) (b : Str) : decide ((Sum.inl a : Key) = Sum.inr b) = false := decide_eq_false (fun q => nomatch q)
theorem key_rl (a : Str) (b : Int) : decide ((Sum.inr a : Key) = Sum.inl b) = false := decide_eq_false (fun q => nomatch q)
def mixKind (prog : Program) (w : World) : PySem.KeyKind prog w Key where
  is := keyIs
  hash := keyH w
  inj := fun v a b ha hb => by
    rcases keyIs_shape ha with ⟨i, t, rfl, rfl⟩ | ⟨x, t, rfl, rfl⟩
    · rcases keyIs_shape hb with ⟨j, u, rfl, e⟩ | ⟨y, u, rfl, e⟩
      · injection e with e1 _; rw [e1]
      · exact nomatch e
    · rcases keyIs_shape hb with ⟨j, u, rfl, e⟩ | ⟨y, u, rfl, e⟩
      · exact nomatch e
      · injection e with e1 _; rw [e1]
  byValue := fun k v h => by
    rcases keyIs_shape h with ⟨i, t, rfl, rfl⟩ | ⟨x, t, rfl, rfl⟩ <;> rfl
  pyHash := fun hv h => by
    rcases keyIs_shape hv with ⟨i, t, rfl, rfl⟩ | ⟨x, t, rfl, rfl⟩
    · exact wpAny_pyHash_int h
    · exact wpAny_pyHash_str h
  eqBool := fun hu hv h => by
    rcases keyIs_shape hu with ⟨i, t, rfl, rfl⟩ | ⟨x, t, rfl, rfl⟩
    · rcases keyIs_shape hv with ⟨j, u, rfl, rfl⟩ | ⟨y, u, rfl, rfl⟩
      · rw [key_ll] at h; exact wpAny_eqBool_int h
      · rw [key_lr] at h; exact SeqAt.EqAt.int_str i t y u _ _ _ _ h
    · rcases keyIs_shape hv with ⟨j, u, rfl, rfl⟩ | ⟨y, u, rfl, rfl⟩
      · rw [key_rl] at h; exact SeqAt.EqAt.str_int x t j u _ _ _ _ h
      · rw [key_rr] at h; exact wpAny_eqBool_str h
  «strs» := fun k x t v h => by
    rcases keyIs_shape h with ⟨i, u, rfl, e⟩ | ⟨y, u, rfl, e⟩
    · exact nomatch e
    · injection e with e1 _
      subst e1
      cases v <;> rfl
end L2
namespace L2
open PySem PySem.Spec PyProof.Rows
inductive V where
  | non | bl (b : Bool) | int (i : Int) | str (x : Str) | byt (b : Array UInt8) | flt (b : UInt64) | ref (a : Addr) | ty (n : String)
  deriving DecidableEq
def RelV : V -> Value -> Prop
  | .non, u => u = Value.none
  | .bl b, u => u = Value.bool b
  | .int i, u => ∃ t, u = Value.int i t
  | .str x, u => ∃ t, u = Value.str x t
  | .byt b, u => ∃ t, u = Value.bytes b t
  | .flt b, u => ∃ t, u = Value.float b t
  | .ref a, u => u = Value.ref a
  | .ty n, u => u = Value.type n
abbrev Vals : List V -> List Value -> Prop := Paired RelV
theorem Vals.length {xs : List V} {us : List Value} (r : Vals xs us) : xs.length = us.length := Paired.length r
theorem Vals.get : ∀ {xs : List V} {us : List Value} {i : Nat} {x : V}, Vals xs us -> xs[i]? = some x -> ∃ u, us[i]? = some u /\ RelV x u
  | _, _, _, _, .nil, e => by simp at e
  | _, _, 0, _, .cons r _, e => by simp at e; subst e; exact ⟨_, rfl, r⟩
  | _, _, i + 1, x, .cons _ t, e => by
    obtain ⟨u, h1, h2⟩ := Vals.get (i := i) (x := x) t (by simpa using e)
    exact ⟨u, by simpa using h1, h2⟩
theorem Vals.set {x : V} {u : Value} (r : RelV x u) : ∀ {xs : List V} {us : List Value} (i : Nat), Vals xs us -> Vals (xs.set i x) (us.set i u)
  | _, _, _, .nil => .nil
  | _, _, 0, .cons _ t => .cons r t
  | _, _, i + 1, .cons q t => .cons q (Vals.set r i t)
theorem Vals.append : ∀ {xs ys : List V} {us ws : List Value}, Vals xs us -> Vals ys ws -> Vals (xs ++ ys) (us ++ ws)
  | _, _, _, _, .nil, s => s
  | _, _, _, _, .cons r t, s => .cons r (Vals.append t s)
theorem Vals.take : ∀ {xs : List V} {us : List Value} (n : Nat), Vals xs us -> Vals (xs.take n) (us.take n)
  | _, _, 0, _ => .nil
  | _, _, _ + 1, .nil => .nil
  | _, _, n + 1, .cons r t => .cons r (Vals.take n t)
theorem Vals.drop : ∀ {xs : List V} {us : List Value} (n : Nat), Vals xs us -> Vals (xs.drop n) (us.drop n)
  | _, _, 0, r => r
  | _, _, _ + 1, .nil => .nil
  | _, _, n + 1, .cons _ t => Vals.drop n t
def RelO : Option V -> Option Value -> Prop
  | some v, some u => RelV v u
  | none, none => True
  | _, _ => False
def KV {κ : Type} : List (κ × V) -> List (κ × Value) -> Prop := Paired fun (p : κ × V) (q : κ × Value) => p.1 = q.1 /\ RelV p.2 q.2
def kV : Key -> V
  | .inl i => .int i
  | .inr x => .str x
inductive HO where
  | lst (xs : List V)
  | tup (xs : List V)
  | dK (kvs : List (Key × V)) | dT (kvs : List (List Key × V))
  | set (S : Int -> Bool) (n : Nat)
  | ins (C dx : Addr) (fs : List (Str × V))
  | own (x : Addr)
  | xd (fs : List (Str × V))
  | met (f x : Addr)
  | rng (lo hi : Int)
  | frz (o : Obj) (u : HO)
  | tbl (ps : Array Value)
  | ext (φ : Heap -> Prop)
abbrev Hp := Addr -> Option HO
def upd (H : Hp) (a : Addr) (o : HO) : Hp := fun b => if b = a then some o else H b
theorem upd_same {H : Hp} {a : Addr} {o : HO} : upd H a o a = some o := by unfold upd; rw [if_pos rfl]
theorem upd_ne {H : Hp} {a b : Addr} {o : HO} (h : b ≠ a) : upd H a o b = H b := by unfold upd; rw [if_neg h]
theorem ne_of_none {H : Hp} {a b : Addr} {o : HO} (h : H a = some o) (h' : H b = none) : a ≠ b := by
  intro e; subst e; rw [h] at h'; cases h'
section
variable (P : Program) (w : World)
def ObjOk (H : Hp) (h : Heap) (a : Addr) : HO -> Prop
  | .lst xs => xs.length <= sizeLine /\ ∃ (its : List Value) (n : Nat), Vals xs its /\ h.get? a = some { cls := .type "list", data := .seq its.toArray n }
  | .tup xs => xs.length <= sizeLine /\ ∃ its : List Value, Vals xs its /\ IsTup h a its.toArray
  | .dK kvs => kvs.length <= sizeLine /\ (a == sysModules) = false /\ ∃ vs, KV kvs vs /\ h.DictOf (mixKind P w) a vs
  | .dT kvs => kvs.length <= sizeLine /\ (a == sysModules) = false /\ ∃ xs : List (List Key × Addr × Value),
      Paired (fun (p : List Key × V) (q : List Key × Addr × Value) => p.1 = q.1 /\ H q.2.1 = some (.tup (p.1.map kV)) /\ RelV p.2 q.2.2) kvs xs /\
      ∃ o es ep, h.get? a = some o /\ o.ExactDict /\ o.data = .dict es ep /\ es.toList = xs.map (entryOfKey (tupleKind (mixKind P w))) /\ (xs.map (·.1)).Nodup
  | .set S n => h.SetOf (intKind P w) a S n
  | .ins C dx fs => H dx = some (.own a) /\ fs.length <= 1000 /\ dx ≠ a /\ h.get? a = some (PySem.W.instObj C dx) /\
      ∃ mA, h.Ns1 dx mA /\ (∀ f, RelO (fs.lookup f) (mA f)) /\ PySem.Within mA (fs.map (·.1))
  | .own _ => ∃ o, h.get? a = some o
  | .xd fs => ∃ mA, h.Ns1 a mA /\ ∀ f, RelO (fs.lookup f) (mA f)
  | .rng lo hi => ∃ t u v, h.get? a = some { cls := .type "range", data := .fields #[.int lo t, .int hi u, .int 1 v] }
  | .frz o u => h.get? a = some o /\ ObjOk H h a u
  | .tbl ps => h.get? a = some { cls := .none, data := .fields ps }
  | .met f x => h.get? a = some (PySem.W.methodObj (.ref f) (.ref x))
  | .ext φ => φ h /\ (∃ o, h.get? a = some o) /\ ∀ h1 h2 : Heap, φ h1 -> (∀ o, h1.get? a = some o -> h2.get? a = some o) -> φ h2
def HOk (H : Hp) (h : Heap) : Prop := ∀ a o, H a = some o -> ObjOk P w H h a o
end
section
variable {P : Program} {w : World} {H H' : Hp} {h h' : Heap} {a : Addr} {o : HO}
theorem ObjOk.lt (x : ObjOk P w H h a o) : a < h.objs.size := by
  cases o with
  | lst xs => obtain ⟨_, _, _, _, e⟩ := x; exact Heap.lt_size e
  | tup xs => obtain ⟨_, _, _, p⟩ := x; exact p.lt
  | dK kvs => obtain ⟨_, _, _, _, o, _, _, e, _⟩ := x; exact Heap.lt_size e
  | dT kvs => obtain ⟨_, _, _, _, o, _, _, e, _⟩ := x; exact Heap.lt_size e
  | set S n => obtain ⟨o, _, _, _, e, _⟩ := x; exact Heap.lt_size e
  | ins C dx fs => obtain ⟨_, _, _, e, _⟩ := x; exact Heap.lt_size e
  | own y => obtain ⟨_, e⟩ := x; exact Heap.lt_size e
  | xd fs => obtain ⟨_, ⟨_, _, _, e, _⟩, _⟩ := x; exact Heap.lt_size e
  | rng lo hi => obtain ⟨_, _, _, e⟩ := x; exact Heap.lt_size e
  | frz ob u => obtain ⟨e, _⟩ := x; exact Heap.lt_size e
  | tbl ps => exact Heap.lt_size (show h.get? a = some _ from x)
  | met f y => exact Heap.lt_size (show h.get? a = some _ from x)
  | ext φ => obtain ⟨_, ⟨_, e⟩, _⟩ := x; exact Heap.lt_size e
theorem Paired.mapP {α β : Type} {F G : α -> β -> Prop} : ∀ {l₁ : List α} {l₂ : List β}, Paired F l₁ l₂ -> (∀ a b, F a b -> G a b) -> Paired G l₁ l₂
  | _, _, .nil, _ => .nil
  | _, _, .cons r t, f => .cons (f _ _ r) (Paired.mapP t f)
theorem ObjOk.stay (x : ObjOk P w H h a o) (k : ∀ b u, (b = a \/ H b = some (.own a)) -> h.get? b = some u -> h'.get? b = some u)
    (ho : ∀ b, H b = some (.own a) -> H' b = some (.own a)) (ht : ∀ b xs, H b = some (.tup xs) -> H' b = some (.tup xs)) : ObjOk P w H' h' a o := by
  induction o with
  | lst xs => obtain ⟨z, its, n, r, e⟩ := x; exact ⟨z, its, n, r, k _ _ (.inl rfl) e⟩
  | tup xs => obtain ⟨z, its, r, ob, e, c⟩ := x; exact ⟨z, its, r, ob, k _ _ (.inl rfl) e, c⟩
  | dK kvs => obtain ⟨z, y, vs, r, ob, es, ep, e, c⟩ := x; exact ⟨z, y, vs, r, ob, es, ep, k _ _ (.inl rfl) e, c⟩
  | dT kvs =>
    obtain ⟨z, y, xs, r, ob, es, ep, e, c⟩ := x
    exact ⟨z, y, xs, Paired.mapP r fun p q z => ⟨z.1, ht _ _ z.2.1, z.2.2⟩, ob, es, ep, k _ _ (.inl rfl) e, c⟩
  | set S n => obtain ⟨ob, es, ep, t, e, c⟩ := x; exact ⟨ob, es, ep, t, k _ _ (.inl rfl) e, c⟩
  | ins C dx fs =>
    obtain ⟨d, z, ne, e, mA, ⟨od, es, ep, e2, c⟩, r⟩ := x
    exact ⟨ho _ d, z, ne, k _ _ (.inl rfl) e, mA, ⟨od, es, ep, k _ _ (.inr d) e2, c⟩, r⟩
  | own y => obtain ⟨ob, e⟩ := x; exact ⟨ob, k _ _ (.inl rfl) e⟩
  | xd fs => obtain ⟨mA, ⟨od, es, ep, e, c⟩, r⟩ := x; exact ⟨mA, ⟨od, es, ep, k _ _ (.inl rfl) e, c⟩, r⟩
  | rng lo hi => obtain ⟨t, u, v, e⟩ := x; exact ⟨t, u, v, k _ _ (.inl rfl) e⟩
  | frz ob u ih => obtain ⟨e, q⟩ := x; exact ⟨k _ _ (.inl rfl) e, ih q⟩
  | tbl ps =>
    have e : h.get? a = some { cls := .none, data := .fields ps } := x
    show h'.get? a = some { cls := .none, data := .fields ps }
    exact k a _ (.inl rfl) e
  | met f y =>
    have e : h.get? a = some (PySem.W.methodObj (.ref f) (.ref y)) := x
    show h'.get? a = some (PySem.W.methodObj (.ref f) (.ref y))
    exact k a _ (.inl rfl) e
  | ext φ => obtain ⟨p, ⟨o, e⟩, st⟩ := x; exact ⟨st _ _ p fun o q => k _ _ (.inl rfl) q, ⟨o, k _ _ (.inl rfl) e⟩, st⟩
theorem HOk.lt (x : HOk P w H h) (e : H a = some o) : a < h.objs.size := (x a o e).lt
theorem HOk.fresh (x : HOk P w H h) (e : h.objs.size <= a) : H a = none := by
  cases q : H a with
  | none => rfl
  | some u => exact absurd (Nat.lt_of_lt_of_le (x.lt q) e) (Nat.lt_irrefl _)
theorem HOk.kept (x : HOk P w H h) (k : ∀ b u, h.get? b = some u -> h'.get? b = some u) : HOk P w H h' := fun a o e =>
  (x a o e).stay (fun b u _ q => k b u q) (fun _ q => q) fun _ _ q => q
theorem HOk.laid (x : HOk P w H h) (k : ∀ b u, h.get? b = some u -> h'.get? b = some u) (hp : h.objs.size <= a) (new : ObjOk P w (upd H a o) h' a o) : HOk P w (upd H a o) h' := fun b u e => by
  have hn := x.fresh hp
  by_cases hb : b = a
  · subst hb; rw [upd_same] at e; cases e; exact new
  · rw [upd_ne hb] at e
    exact (x b u e).stay (fun c v _ q => k c v q) (fun c q => by rw [upd_ne (ne_of_none q hn)]; exact q) fun c xs q => by rw [upd_ne (ne_of_none q hn)]; exact q
end
def Rd (H : Hp) (a : Addr) (u : HO) : Prop := H a = some u \/ ∃ o, H a = some (.frz o u)
theorem Rd.of {H : Hp} {a : Addr} {u : HO} (h : H a = some u) : Rd H a u := .inl h
theorem Rd.ok {P : Program} {w : World} {H : Hp} {h : Heap} {a : Addr} {u : HO} (r : Rd H a u) (x : HOk P w H h) : ObjOk P w H h a u := by
  rcases r with r | ⟨o, r⟩
  · exact x a u r
  · obtain ⟨_, q⟩ := x a _ r
    exact q
def Mut : Option HO -> Prop
  | some (.lst _) => True
  | some (.dK _) => True
  | some (.dT _) => True
  | some (.set _ _) => True
  | some (.ins _ _ _) => True
  | some (.ext _) => True
  | _ => False
section
variable {P : Program} {w : World} {H : Hp} {h h' : Heap} {x e : Addr} {o' : HO}
theorem HOk.write (ok : HOk P w H h) (mu : Mut (H x)) (he : e = x \/ H e = some (.own x)) (k : ∀ b u, b ≠ e -> h.get? b = some u -> h'.get? b = some u) (heo : ∃ u, h'.get? e = some u)
    (new : ObjOk P w (upd H x o') h' x o') : HOk P w (upd H x o') h' := fun b u q => by
  have nown : ∀ c y, H c = some (.own y) -> c ≠ x := fun c y r z => by subst z; rw [r] at mu; exact mu
  have ntup : ∀ c xs, H c = some (.tup xs) -> c ≠ x := fun c xs r z => by subst z; rw [r] at mu; exact mu
  by_cases hb : b = x
  · subst hb; rw [upd_same] at q; cases q; exact new
  · rw [upd_ne hb] at q
    by_cases hbe : b = e
    · have q' : H b = some (.own x) := by
        rcases he with z | z
        · exact absurd (hbe.trans z) hb
        · rw [hbe]; exact z
      rw [q] at q'; cases q'
      obtain ⟨v, hv⟩ := heo
      exact ⟨v, by rw [hbe]; exact hv⟩
    · refine (ok b u q).stay (fun c v hc r => k c v ?_ r) (fun c r => by rw [upd_ne (nown c b r)]; exact r) fun c xs r => by rw [upd_ne (ntup c xs r)]; exact r
      rcases hc with rfl | hc
      · exact hbe
      · rintro rfl
        rcases he with z | z
        · exact nown c b hc z
        · rw [hc] at z; cases z; exact hb rfl
end
structure Un (fs ex : List Addr) (H H' : Hp) (h h' : Heap) : Prop where
  keep : ∀ b o, h.get? b = some o -> H b = none -> b ∉ fs -> b ∉ ex -> h'.get? b = some o
  slot : ∀ b o, h.get? b = some o -> H b = none -> b ∈ fs -> b ∉ ex -> ∃ sl, h'.get? b = some { o with slots := sl }
  free : ∀ b o, h.get? b = some o -> H b = none -> b ∉ ex -> H' b = none
  there : ∀ b o, h.get? b = some o -> b ∉ ex -> ∃ o', h'.get? b = some o'
  tups : ∀ b xs, H b = some (.tup xs) -> H' b = some (.tup xs)
  frzs : ∀ b o u, H b = some (.frz o u) -> H' b = some (.frz o u)
  tbls : ∀ b ps, H b = some (.tbl ps) -> ∃ more, H' b = some (.tbl (ps ++ more))
section
variable {fs fs' ex ex' : List Addr} {H H1 H2 : Hp} {h h1 h2 h' : Heap} {a x e : Addr} {o : HO}
theorem Un.any (u : Un fs ex H H1 h h1) {b : Addr} {ob : Obj} (q : h.get? b = some ob) (n : H b = none) (hx : b ∉ ex) : ∃ sl, h1.get? b = some { ob with slots := sl } := by
  by_cases hb : b ∈ fs
  · exact u.slot b ob q n hb hx
  · exact ⟨ob.slots, u.keep b ob q n hb hx⟩
theorem Un.trans (a : Un fs ex H H1 h h1) (b : Un fs ex H1 H2 h1 h2) : Un fs ex H H2 h h2 where
  keep := fun c ob q n hc hx => b.keep c ob (a.keep c ob q n hc hx) (a.free c ob q n hx) hc hx
  slot := fun c ob q n hc hx => by
    obtain ⟨sl, e1⟩ := a.slot c ob q n hc hx
    obtain ⟨sl', e2⟩ := b.slot c _ e1 (a.free c ob q n hx) hc hx
    exact ⟨sl', e2⟩
  free := fun c ob q n hx => by
    obtain ⟨o', e1⟩ := a.there c ob q hx
    exact b.free c o' e1 (a.free c ob q n hx) hx
  there := fun c ob q hx => by
    obtain ⟨o', e1⟩ := a.there c ob q hx
    exact b.there c o' e1 hx
  tups := fun c xs q => b.tups c xs (a.tups c xs q)
  frzs := fun c ob xs q => b.frzs c ob xs (a.frzs c ob xs q)
  tbls := fun c ps q => by
    obtain ⟨m1, e1⟩ := a.tbls c ps q
    obtain ⟨m2, e2⟩ := b.tbls c _ e1
    exact ⟨m1 ++ m2, by rw [e2, Array.append_assoc]⟩
theorem Un.kept (k : ∀ b u, h.get? b = some u -> h'.get? b = some u) : Un fs ex H H h h' :=
  ⟨fun b ob q _ _ _ => k b ob q, fun b ob q _ _ _ => ⟨ob.slots, k b ob q⟩, fun _ _ _ n _ => n, fun b ob q _ => ⟨ob, k b ob q⟩, fun _ _ q => q, fun _ _ _ q => q, fun _ ps q => ⟨#[], by rw [q]; simp⟩⟩
theorem Un.refl : Un fs ex H H h h := Un.kept fun _ _ q => q
theorem Un.laid (k : ∀ b u, h.get? b = some u -> h'.get? b = some u) (hp : h.objs.size <= a) (hn : H a = none) : Un fs ex H (upd H a o) h h' where
  keep := fun b u q _ _ _ => k b u q
  slot := fun b u q _ _ _ => ⟨u.slots, k b u q⟩
  free := fun b u q n _ => by rw [upd_ne (Nat.ne_of_lt (Nat.lt_of_lt_of_le (Heap.lt_size q) hp))]; exact n
  there := fun b u q _ => ⟨u, k b u q⟩
  tups := fun b xs q => by rw [upd_ne (ne_of_none q hn)]; exact q
  frzs := fun b u xs q => by rw [upd_ne (ne_of_none q hn)]; exact q
  tbls := fun b ps q => ⟨#[], by rw [upd_ne (ne_of_none q hn), q]; simp⟩
theorem Un.write (mu : Mut (H x)) (he : e = x \/ H e = some (.own x)) (k : ∀ b u, b ≠ e -> h.get? b = some u -> h'.get? b = some u) (heo : ∃ u, h'.get? e = some u) : Un fs ex H (upd H x o) h h' := by
  have hx : ∀ b, H b = none -> b ≠ x := fun b n z => by subst z; rw [n] at mu; exact mu
  have hb : ∀ b, H b = none -> b ≠ e := fun b n z => by
    subst z
    rcases he with r | r
    · exact hx b n r
    · rw [n] at r; cases r
  have hm : ∀ b u, H b = some u -> ¬ Mut (some u) -> b ≠ x := fun b u q nm z => by subst z; rw [q] at mu; exact nm mu
  refine ⟨fun b u q n _ _ => k b u (hb b n) q, fun b u q n _ _ => ⟨u.slots, k b u (hb b n) q⟩, fun b u q n _ => by rw [upd_ne (hx b n)]; exact n, fun b u q _ => ?_,
    fun b xs q => by rw [upd_ne (hm b _ q fun z => z)]; exact q, fun b u xs q => by rw [upd_ne (hm b _ q fun z => z)]; exact q, fun b ps q => ⟨#[], by rw [upd_ne (hm b _ q fun z => z), q]; simp⟩⟩
  by_cases hbe : b = e
  · subst hbe; exact heo
  · exact ⟨u, k b u hbe q⟩
theorem Un.mono (u : Un fs ex H H1 h h1) (hs : ∀ b ∈ fs, b ∈ fs') (hx : ∀ b ∈ ex, b ∈ ex') : Un fs' ex' H H1 h h1 :=
  ⟨fun b ob q n hb he => u.keep b ob q n (fun z => hb (hs b z)) fun z => he (hx b z), fun _ _ q n _ he => u.any q n fun z => he (hx _ z), fun b ob q n he => u.free b ob q n fun z => he (hx b z), fun b ob q he => u.there b ob q fun z => he (hx b z), u.tups, u.frzs, u.tbls⟩
end
def trk (h : Heap) (H : Hp) : List Addr := (List.range h.objs.size).filter fun a => (H a).isSome
def hidT (h : Heap) (H : Hp) : Heap := PySem.W.hideAll h (trk h H)
theorem hidT_size (h : Heap) (H : Hp) : (hidT h H).objs.size = h.objs.size := PySem.W.hideAll_size _ _
theorem hidT_get {h : Heap} {H : Hp} {b : Addr} {o : Obj} (e : h.get? b = some o) (n : H b = none) : (hidT h H).get? b = some o :=
  PySem.W.hideAll_get _ e fun hm => by
    have q : (H b).isSome = true := (List.mem_filter.mp hm).2
    rw [n] at q; simp at q
theorem of_hidT {h : Heap} {H : Hp} {b : Addr} {o : Obj} (e : (hidT h H).get? b = some o) : h.get? b = some o /\ H b = none := by
  have e' : h.get? b = some o := PySem.W.of_hideAll (trk h H) e
  refine ⟨e', ?_⟩
  cases q : H b with
  | none => rfl
  | some x =>
    have hm : b ∈ trk h H := List.mem_filter.mpr ⟨List.mem_range.mpr (Heap.lt_size e'), by simp [q]⟩
    have z : (hidT h H).get? b = none := PySem.W.hideAll_none (trk h H) hm
    rw [z] at e; cases e
def allNews (g h : Heap) (L : Addr) : List (Addr × Obj) := (List.range h.objs.size).filterMap fun a => if a = L \/ (g.get? a).isSome = true then none else (h.get? a).map fun o => (a, o)
def rest (g h : Heap) (L d : Addr) : List (Addr × Obj) := (allNews g h L).filter fun p => decide (p.1 ≠ d)
end L2
namespace L2
open PySem PySem.Spec PyProof.Rows
structure Mod (K : PySem.W.Frag) (mg : Str -> Option Value) (base : Heap) : Prop where
  kin : K.In base
  glob : base.Ns mainGlobals mg
  blt : ∃ mb, base.Ns builtinsNs mb /\ ∀ x : Str, x ≠ "__name__" -> mb x = bootBuiltins x
  nolimit : base.NoLimit
/-- the context: a def's body (or a comprehension's block) running. base: fixed through the whole law; s₀, H₀: the entry; outer: the frames whose slots others may change (a def's callers); stack: all frames that run;
   ex: iterators that were made ahead of the entry and are walked here (a comprehension's); fn: the names whose cells were made at the entry (a def: all; a comprehension's block: its own); calm: not within an except suite; pn: pins that every state bears; xe: what is wanted of an exception that leaves the code -/
structure Cx where
  prog : Program
  w : World
  K : PySem.W.Frag
  mg : Str -> Option Value
  base : Heap
  A : Around
  N : List Str
  s₀ : Shared
  H₀ : Hp
  env : Env
  outer : List Env
  stack : List Env
  ex : List Addr
  fn : Str -> Bool
  calm : Bool
  pn : List (Addr × Obj)
  xe : Value -> Shared -> Prop
def frs (l : List Env) : List Addr := l.filterMap (·.frame)
abbrev Cx.fs (X : Cx) : List Addr := frs X.outer
def Vis (sc : Scope) (x : Str) : Prop := sc.names.lookup x = some .local \/ sc.names.lookup x = some .cell \/ sc.names.lookup x = some .free
def Loc (sc : Scope) (x : Str) : Prop := sc.names.lookup x = some .local \/ sc.names.lookup x = some .cell
def Look (env : Env) (h : Heap) (m : Str -> Option Value) (x : Str) (u : Value) : Prop :=
  (env.kindOf x = some .local /\ m x = some u) \/ ((env.kindOf x = some .cell \/ env.kindOf x = some .free) /\ ∃ c, env.cells.lookup x = some c /\ h.IsCell c (some u))
structure Cx.Ok (X : Cx) : Prop where
  mod : Mod X.K X.mg X.base
  kind : X.env.scope.kind = .function
  glob : X.env.globals = mainGlobals
  blt : X.env.builtins = builtinsNs
  above : X.s₀.heap.objs.size <= X.env.locals
  inj : ∀ x y c, X.env.cells.lookup x = some c -> X.env.cells.lookup y = some c -> x = y
  has : ∀ x, (X.env.kindOf x = some .cell \/ X.env.kindOf x = some .free) -> ∃ c, X.env.cells.lookup x = some c
  cab : ∀ x c, X.fn x = true -> X.env.cells.lookup x = some c -> X.s₀.heap.objs.size <= c
  hd : X.calm = true -> X.A.handled = none
  frames : X.A.frames = some X.stack
  stk : X.stack = X.outer \/ (X.stack = X.env :: X.outer /\ X.env.frame = some X.env.locals)
  exf : ∀ b ∈ X.ex, b ≠ X.env.locals /\ ∀ x c, X.env.cells.lookup x = some c -> c ≠ b
  bs : ∀ b o, X.base.get? b = some o -> X.s₀.heap.get? b = some o /\ X.H₀ b = none
  bsz : X.base.objs.size <= X.s₀.heap.objs.size
  noex : ∀ b o, X.base.get? b = some o -> b ∉ X.ex
  exfs : ∀ b ∈ X.ex, b ∉ X.fs
  funs : X.s₀.heap.FunFrames X.base X.outer
  frf : ∀ b ∈ X.fs, X.H₀ b = none
structure Inv (X : Cx) (pins : List (Addr × Obj)) (σ : List (Option V)) (H : Hp) (s : Shared) : Prop where
  ok : X.Ok
  os : s.os = X.s₀.os
  bare : AllBare s.gens
  base : Un X.fs X.ex X.H₀ H X.s₀.heap s.heap
  loc : ∃ m, s.heap.Ns X.env.locals m /\ ∀ (i : Nat) (x : Str) (v : V), X.N[i]? = some x -> σ[i]? = some (some v) -> Vis X.env.scope x -> ∃ u, RelV v u /\ Look X.env s.heap m x u
  cell : ∀ x c, X.env.cells.lookup x = some c -> ∃ v, s.heap.IsCell c v
  free : H X.env.locals = none
  freeC : ∀ x c, X.env.cells.lookup x = some c -> H c = none
  pin : ∀ p ∈ X.pn ++ pins, s.heap.get? p.1 = some p.2 /\ H p.1 = none /\ p.1 ≠ X.env.locals /\ p.1 ∉ X.fs /\ ∀ v, p.2.data ≠ .cell v
  hok : HOk X.prog X.w H s.heap
  len : σ.length = X.N.length
section
variable {X : Cx} {pins : List (Addr × Obj)} {σ : List (Option V)} {H H' : Hp} {s : Shared} {h' : Heap}
theorem Cx.Ok.nofr (ok : X.Ok) {b : Addr} {o : Obj} (e : X.base.get? b = some o) : b ∉ X.fs := fun hb => by
  have := (ok.funs.mem hb).1
  rw [e] at this; cases this
theorem Inv.bs (I : Inv X pins σ H s) : ∀ b o, X.base.get? b = some o -> s.heap.get? b = some o /\ H b = none := fun b o e =>
  ⟨I.base.keep b o (I.ok.bs b o e).1 (I.ok.bs b o e).2 (I.ok.nofr e) (I.ok.noex b o e), I.base.free b o (I.ok.bs b o e).1 (I.ok.bs b o e).2 (I.ok.noex b o e)⟩
theorem Inv.bk (I : Inv X pins σ H s) : ∀ b o, X.base.get? b = some o -> s.heap.get? b = some o := fun b o e => (I.bs b o e).1
theorem Inv.mod (I : Inv X pins σ H s) : Mod X.K X.mg X.base := I.ok.mod
theorem Inv.kIn (I : Inv X pins σ H s) : X.K.In s.heap := I.ok.mod.kin.keeps I.bk
theorem Inv.nolimit (I : Inv X pins σ H s) : s.heap.NoLimit := I.ok.mod.nolimit.keeps I.bk
theorem Inv.fr (I : Inv X pins σ H s) : ∃ m, Fr X.base X.env.locals s.heap m :=
  let ⟨m, hn, _⟩ := I.loc
  ⟨m, hn, I.bk, Nat.le_trans I.ok.bsz I.ok.above⟩
theorem Inv.lt (I : Inv X pins σ H s) : X.env.locals < s.heap.objs.size := let ⟨_, hn, _⟩ := I.loc; hn.lt
theorem Inv.sz (I : Inv X pins σ H s) : X.s₀.heap.objs.size <= s.heap.objs.size := Nat.le_trans I.ok.above (Nat.le_of_lt I.lt)
theorem Inv.nofs (I : Inv X pins σ H s) {a : Addr} (h : s.heap.objs.size <= a) : a ∉ X.fs := fun hb => by
  obtain ⟨_, o, ho, _⟩ := I.ok.funs.mem hb
  exact absurd (Nat.lt_of_lt_of_le (Heap.lt_size ho) (Nat.le_trans I.sz h)) (Nat.lt_irrefl _)
theorem Inv.cne (I : Inv X pins σ H s) : ∀ x c, X.env.cells.lookup x = some c -> c ≠ X.env.locals := fun x c e z => by
  obtain ⟨v, o, ho, hd⟩ := I.cell x c e
  obtain ⟨m, ⟨o', es, ep, ho', hd', _⟩, _⟩ := I.loc
  rw [z, ho'] at ho; cases ho; rw [hd'] at hd; cases hd
theorem Inv.funs (I : Inv X pins σ H s) : s.heap.FunFrames X.base X.outer := by
  have all : ∀ (l : List Env), (∀ b ∈ frs l, b ∈ X.fs) -> X.s₀.heap.FunFrames X.base l -> s.heap.FunFrames X.base l := by
    intro l
    induction l with
    | nil => intro _ _; trivial
    | cons env r ih =>
      intro hs hl
      obtain ⟨hk, ⟨L, o, hf, hn, ho, hd⟩, hr⟩ := hl
      have hL : L ∈ X.fs := hs L (by unfold frs; rw [List.filterMap_cons, hf]; exact List.mem_cons_self)
      obtain ⟨sl, e⟩ := I.base.slot L o ho (I.ok.frf L hL) hL fun z => I.ok.exfs L z hL
      exact ⟨hk, ⟨L, _, hf, hn, e, hd⟩, ih (fun b hb => hs b (by unfold frs; rw [List.filterMap_cons, hf]; exact List.mem_cons_of_mem _ hb)) hr⟩
  exact all X.outer (fun _ hb => hb) I.ok.funs
theorem Inv.stack (I : Inv X pins σ H s) : s.heap.FunFrames X.base X.stack := by
  rcases I.ok.stk with e | ⟨e, hf⟩
  · rw [e]; exact I.funs
  · rw [e]
    obtain ⟨m, hn, _⟩ := I.loc
    refine .cons (by rw [I.ok.kind]; decide) hf hn ?_ I.funs
    exact Heap.get?_none_of_le (Nat.le_trans I.ok.bsz I.ok.above)
theorem Inv.stkSub (I : Inv X pins σ H s) : ∀ b ∈ frs X.stack, b ∈ X.env.locals :: X.fs := fun b hb => by
  rcases I.ok.stk with e | ⟨e, hf⟩
  · rw [e] at hb; exact List.mem_cons_of_mem _ hb
  · rw [e] at hb
    unfold frs at hb
    rw [List.filterMap_cons, hf] at hb
    exact hb
theorem Inv.stkFree (I : Inv X pins σ H s) : ∀ b ∈ frs X.stack, H b = none := fun b hb => by
  rcases List.mem_cons.mp (I.stkSub b hb) with e | hb
  · rw [e]; exact I.free
  · obtain ⟨_, o, ho, _⟩ := I.ok.funs.mem hb
    exact I.base.free b o ho (I.ok.frf b hb) fun z => I.ok.exfs b z hb
theorem Inv.step {g' : Array GenState} {t' : Nat} {d' : Drawn} {ch : List Addr} (I : Inv X pins σ H s)
    (hch : ∀ b ∈ ch, (b ∈ X.ex \/ X.s₀.heap.objs.size <= b) /\ b ≠ X.env.locals /\ (∀ x c, X.env.cells.lookup x = some c -> c ≠ b) /\ ∀ p ∈ X.pn ++ pins, p.1 ≠ b)
    (keep : ∀ b o, b ≠ X.env.locals -> b ∉ X.fs -> b ∉ ch -> s.heap.get? b = some o -> H b = none -> h'.get? b = some o)
    (slot : ∀ b o, b ≠ X.env.locals -> b ∈ X.fs -> b ∉ ch -> s.heap.get? b = some o -> H b = none -> ∃ sl, h'.get? b = some { o with slots := sl }) (free : ∀ b o, b ∉ ch -> s.heap.get? b = some o -> H b = none -> H' b = none)
    (there : ∀ b o, b ∉ ch -> s.heap.get? b = some o -> ∃ o', h'.get? b = some o')
    (tups : ∀ b xs, H b = some (.tup xs) -> H' b = some (.tup xs)) (frzs : ∀ b o u, H b = some (.frz o u) -> H' b = some (.frz o u)) (tbls : ∀ b ps, H b = some (.tbl ps) -> ∃ more, H' b = some (.tbl (ps ++ more)))
    (ns : ∀ m, s.heap.Ns X.env.locals m -> h'.Ns X.env.locals m) (hok : HOk X.prog X.w H' h') (hg : AllBare g') :
    Inv X pins σ H' { s with heap := h', gens := g', drawn := d', toks := t' } := by
  have neL : ∀ b o, X.s₀.heap.get? b = some o -> b ≠ X.env.locals := fun b o e => Nat.ne_of_lt (Nat.lt_of_lt_of_le (Heap.lt_size e) I.ok.above)
  have neC : ∀ b o, X.s₀.heap.get? b = some o -> b ∉ X.ex -> b ∉ ch := fun b o e hx hb => by
    rcases (hch b hb).1 with z | z
    · exact hx z
    · exact absurd (Nat.lt_of_lt_of_le (Heap.lt_size e) z) (Nat.lt_irrefl _)
  have cellK : ∀ x c, X.env.cells.lookup x = some c -> ∀ v, s.heap.IsCell c v -> h'.IsCell c v := fun x c e v ⟨o, ho, hd⟩ => by
    have nch : c ∉ ch := fun z => (hch c z).2.2.1 x c e rfl
    by_cases hc : c ∈ X.fs
    · obtain ⟨sl, q⟩ := slot c o (I.cne x c e) hc nch ho (I.freeC x c e)
      exact ⟨_, q, hd⟩
    · exact ⟨o, keep c o (I.cne x c e) hc nch ho (I.freeC x c e), hd⟩
  refine ⟨I.ok, I.os, hg, ⟨fun b o e n hb hx => ?_, fun b o e n hb hx => ?_, fun b o e n hx => ?_, fun b o e hx => ?_, fun b xs e => tups b xs (I.base.tups b xs e), fun b o xs e => frzs b o xs (I.base.frzs b o xs e), fun b ps e => ?_⟩, ?_, fun x c e => ?_, ?_, fun x c e => ?_, fun p hp => ?_, hok, I.len⟩
  · exact keep b o (neL b o e) hb (neC b o e hx) (I.base.keep b o e n hb hx) (I.base.free b o e n hx)
  · obtain ⟨sl, e1⟩ := I.base.slot b o e n hb hx
    obtain ⟨sl', e2⟩ := slot b _ (neL b o e) hb (neC b o e hx) e1 (I.base.free b o e n hx)
    exact ⟨sl', e2⟩
  · obtain ⟨o', e1⟩ := I.base.there b o e hx
    exact free b o' (neC b o e hx) e1 (I.base.free b o e n hx)
  · obtain ⟨o', e1⟩ := I.base.there b o e hx
    exact there b o' (neC b o e hx) e1
  · obtain ⟨m1, e1⟩ := I.base.tbls b ps e
    obtain ⟨m2, e2⟩ := tbls b _ e1
    exact ⟨m1 ++ m2, by rw [e2, Array.append_assoc]⟩
  · obtain ⟨m, hn, hl⟩ := I.loc
    refine ⟨m, ns m hn, fun i x v e1 e2 e3 => ?_⟩
    obtain ⟨u, r, l⟩ := hl i x v e1 e2 e3
    refine ⟨u, r, ?_⟩
    rcases l with l | ⟨k, c, e, z⟩
    · exact .inl l
    · exact .inr ⟨k, c, e, cellK x c e _ z⟩
  · obtain ⟨v, z⟩ := I.cell x c e
    exact ⟨v, cellK x c e v z⟩
  · obtain ⟨m, ⟨o, _, _, ho, _⟩, _⟩ := I.loc
    exact free _ o (fun z => (hch _ z).2.1 rfl) ho I.free
  · obtain ⟨v, o, ho, hd⟩ := I.cell x c e
    exact free c o (fun z => (hch c z).2.2.1 x c e rfl) ho (I.freeC x c e)
  · obtain ⟨e, n, ne, nf, d⟩ := I.pin p hp
    have nch : p.1 ∉ ch := fun z => (hch p.1 z).2.2.2 p hp rfl
    exact ⟨keep p.1 p.2 ne nf nch e n, free p.1 p.2 nch e n, ne, nf, d⟩
theorem Inv.un {t' : Nat} (I : Inv X pins σ H s) (u : Un X.fs [] H H' s.heap h') (hok : HOk X.prog X.w H' h') : Inv X pins σ H' { s with heap := h', toks := t' } := by
  obtain ⟨m, ⟨o, es, ep, ho, r⟩, _⟩ := id I.loc
  obtain ⟨sl, hL⟩ := u.any ho I.free (by simp)
  exact I.step (g' := s.gens) (d' := s.drawn) (ch := []) (fun _ z => nomatch z) (fun b o _ hb _ e n => u.keep b o e n hb (by simp)) (fun b o _ hb _ e n => u.slot b o e n hb (by simp)) (fun b o _ e n => u.free b o e n (by simp)) (fun b o _ e => u.there b o e (by simp)) u.tups u.frzs u.tbls (fun m' hm => by
    obtain ⟨o', es', ep', ho', r'⟩ := hm
    rw [ho] at ho'; cases ho'
    exact ⟨_, es', ep', hL, r'⟩) hok I.bare
theorem Inv.call {g' : Array GenState} {t' : Nat} {d' : Drawn} {ch : List Addr} (I : Inv X pins σ H s) (u : Un (frs X.stack) ch H H' s.heap h') (hok : HOk X.prog X.w H' h') (hg : AllBare g')
    (hch : ∀ b ∈ ch, (b ∈ X.ex \/ X.s₀.heap.objs.size <= b) /\ b ≠ X.env.locals /\ (∀ x c, X.env.cells.lookup x = some c -> c ≠ b) /\ ∀ p ∈ X.pn ++ pins, p.1 ≠ b) :
    Inv X pins σ H' { s with heap := h', gens := g', drawn := d', toks := t' } := by
  obtain ⟨m, ⟨o, es, ep, ho, r⟩, _⟩ := id I.loc
  obtain ⟨sl, hL⟩ := u.any ho I.free fun z => (hch _ z).2.1 rfl
  exact I.step (ch := ch) hch (fun b o hL hb hc e n => u.keep b o e n (fun z => (List.mem_cons.mp (I.stkSub b z)).elim hL hb) hc) (fun b o _ _ hc e n => u.any e n hc) (fun b o hc e n => u.free b o e n hc) (fun b o hc e => u.there b o e hc) u.tups u.frzs u.tbls (fun m' hm => by
    obtain ⟨o', es', ep', ho', r'⟩ := hm
    rw [ho] at ho'; cases ho'
    exact ⟨_, es', ep', hL, r'⟩) hok hg
theorem Inv.turned {t' : Nat} {it : Addr} (I : Inv X pins σ H s) (k : ∀ b o, b ≠ it -> s.heap.get? b = some o -> h'.get? b = some o) (hn : H it = none) (hL : it ≠ X.env.locals)
    (h1 : it ∈ X.ex \/ X.s₀.heap.objs.size <= it) (h2 : ∀ x c, X.env.cells.lookup x = some c -> c ≠ it) (h3 : ∀ p ∈ X.pn ++ pins, p.1 ≠ it) : Inv X pins σ H { s with heap := h', toks := t' } := by
  have nit : ∀ b u, H b = some u -> b ≠ it := fun b u e z => by rw [z, hn] at e; cases e
  refine I.step (g' := s.gens) (d' := s.drawn) (ch := [it]) (fun b hb => ?_) (fun b o _ _ hc e _ => k b o (fun z => hc (by simp [z])) e) (fun b o _ _ hc e _ => ⟨o.slots, k b o (fun z => hc (by simp [z])) e⟩) (fun _ _ _ _ n => n)
    (fun b o hc e => ⟨o, k b o (fun z => hc (by simp [z])) e⟩) (fun _ _ e => e) (fun _ _ _ e => e) (fun b ps e => ⟨#[], by rw [e]; simp⟩) (fun m hm => ?_) (fun b u e => ?_) I.bare
  · have e : b = it := by simpa using hb
    subst e
    exact ⟨h1, hL, h2, h3⟩
  · obtain ⟨o, es, ep, ho, r⟩ := hm
    exact ⟨o, es, ep, k _ o (Ne.symm hL) ho, r⟩
  · refine (I.hok b u e).stay (fun c v hc q => k c v ?_ q) (fun _ q => q) fun _ _ q => q
    rcases hc with z | z
    · rw [z]; exact nit b u e
    · exact nit c _ z
theorem Inv.tok (I : Inv X pins σ H s) (t : Nat) : Inv X pins σ H { s with toks := t } := I.un (h' := s.heap) (t' := t) Un.refl I.hok
theorem Inv.kept {t' : Nat} (I : Inv X pins σ H s) (k : ∀ b u, s.heap.get? b = some u -> h'.get? b = some u) : Inv X pins σ H { s with heap := h', toks := t' } := I.un (Un.kept k) (I.hok.kept k)
theorem Inv.laid {a : Addr} {o : HO} {t' : Nat} (I : Inv X pins σ H s) (k : ∀ b u, s.heap.get? b = some u -> h'.get? b = some u) (hp : s.heap.objs.size <= a) (new : ObjOk X.prog X.w (upd H a o) h' a o) :
    Inv X pins σ (upd H a o) { s with heap := h', toks := t' } := I.un (Un.laid k hp (I.hok.fresh hp)) (I.hok.laid k hp new)
theorem Inv.write {x e : Addr} {o : HO} {t' : Nat} (I : Inv X pins σ H s) (mu : Mut (H x)) (he : e = x \/ H e = some (.own x)) (k : ∀ b u, b ≠ e -> s.heap.get? b = some u -> h'.get? b = some u) (heo : ∃ u, h'.get? e = some u)
    (new : ObjOk X.prog X.w (upd H x o) h' x o) : Inv X pins σ (upd H x o) { s with heap := h', toks := t' } := I.un (Un.write mu he k heo) (I.hok.write mu he k heo new)
theorem Inv.pins_of {pins' : List (Addr × Obj)} (I : Inv X pins σ H s) (h : ∀ p ∈ pins', s.heap.get? p.1 = some p.2 /\ H p.1 = none /\ p.1 ≠ X.env.locals /\ p.1 ∉ X.fs /\ ∀ v, p.2.data ≠ .cell v) : Inv X pins' σ H s :=
  ⟨I.ok, I.os, I.bare, I.base, I.loc, I.cell, I.free, I.freeC, fun p hp => (List.mem_append.mp hp).elim (fun z => I.pin p (List.mem_append_left _ z)) (h p), I.hok, I.len⟩
theorem nodup_ix {N : List Str} (hN : N.Nodup) {i j : Nat} {x : Str} (a : N[i]? = some x) (b : N[j]? = some x) : i = j := by
  obtain ⟨h1, e1⟩ := List.getElem?_eq_some_iff.mp a
  obtain ⟨h2, e2⟩ := List.getElem?_eq_some_iff.mp b
  exact (List.getElem_inj hN).mp (e1.trans e2.symm)
theorem store_ok2 {M : Model} {A : Around} {E : Value -> Shared -> Prop} {i : Nat} {x : Str} {v : V} {u : Value} {Q : Unit -> Shared -> Prop} (I : Inv X pins σ H s) (hN : X.N.Nodup) (hi : X.N[i]? = some x) (hx : Loc X.env.scope x) (r : RelV v u)
    (h : ∀ s', Inv X pins (σ.set i (some v)) H s' -> (∃ a, Heap.SameBut a s.heap s'.heap /\ (a = X.env.locals \/ X.env.cells.lookup x = some a)) -> Q () s') (hf : X.fn x = true \/ X.env.scope.names.lookup x = some .local := by first | exact .inl rfl | exact .inr rfl | assumption) : wpAny M A (storeName X.env x u) Q E s := by
  obtain ⟨m, hn, hl⟩ := id I.loc
  have hcls : (X.env.scope.kind == .class || (X.env.scope.kind == .module && X.env.locals != X.env.globals)) = false := by rw [I.ok.kind]; rfl
  have hiσ : i < σ.length := by rw [I.len]; exact (List.getElem?_eq_some_iff.mp hi).1
  have cne := I.cne
  have tracked : ∀ {a : Addr} {h' : Heap}, (∃ o, s.heap.get? a = some o /\ H a = none) -> Heap.SameBut a s.heap h' -> HOk X.prog X.w H h' := fun {a h'} ha hs b ob e => by
    obtain ⟨_, _, hfree⟩ := ha
    refine (I.hok b ob e).stay (fun c w' hc q => (hs.2 c ?_).trans q) (fun _ q => q) fun _ _ q => q
    rintro rfl
    rcases hc with rfl | hc
    · rw [hfree] at e; cases e
    · rw [hfree] at hc; cases hc
  rcases hx with hk | hk
  · refine wpAny_storeName_local hk hn (fun h' hn' hs => ?_) hcls
    obtain ⟨oL, _, _, hoL, _⟩ := id hn
    refine h _ ⟨I.ok, I.os, I.bare, ⟨fun b o e n hb hx => ?_, fun b o e n hb hx => ?_, I.base.free, fun b o e hx => ?_, I.base.tups, I.base.frzs, I.base.tbls⟩, ⟨_, hn', fun j y v' e1 e2 e3 => ?_⟩, fun y c e => ?_, I.free, I.freeC, fun p hp => ?_, tracked ⟨oL, hoL, I.free⟩ hs, by simpa using I.len⟩ ⟨_, hs, .inl rfl⟩
    · exact (hs.2 b (Nat.ne_of_lt (Nat.lt_of_lt_of_le (Heap.lt_size e) I.ok.above))).trans (I.base.keep b o e n hb hx)
    · obtain ⟨sl, e1⟩ := I.base.slot b o e n hb hx
      exact ⟨sl, (hs.2 b (Nat.ne_of_lt (Nat.lt_of_lt_of_le (Heap.lt_size e) I.ok.above))).trans e1⟩
    · obtain ⟨o', e1⟩ := I.base.there b o e hx
      exact ⟨o', (hs.2 b (Nat.ne_of_lt (Nat.lt_of_lt_of_le (Heap.lt_size e) I.ok.above))).trans e1⟩
    · by_cases hj : j = i
      · subst hj
        rw [hi] at e1; cases e1
        rw [List.getElem?_set_self hiσ] at e2
        cases e2
        exact ⟨u, r, .inl ⟨hk, by simp⟩⟩
      · rw [List.getElem?_set_ne (Ne.symm hj)] at e2
        obtain ⟨u', r', q⟩ := hl j y v' e1 e2 e3
        refine ⟨u', r', ?_⟩
        rcases q with ⟨k, e⟩ | ⟨k, c, e, z⟩
        · refine .inl ⟨k, ?_⟩
          have : y ≠ x := fun e => hj (nodup_ix hN e1 (e ▸ hi))
          simp [this, e]
        · exact .inr ⟨k, c, e, z.sameBut hs (cne y c e)⟩
    · obtain ⟨w', z⟩ := I.cell y c e
      exact ⟨w', z.sameBut hs (cne y c e)⟩
    · obtain ⟨e, n, ne, nf, d⟩ := I.pin p hp
      exact ⟨(hs.2 p.1 ne).trans e, n, ne, nf, d⟩
  · have hfn : X.fn x = true := by
      rcases hf with z | z
      · exact z
      · rw [z] at hk; cases hk
    obtain ⟨c, hc⟩ := I.ok.has x (.inl hk)
    obtain ⟨w', z⟩ := I.cell x c hc
    refine wpAny_storeName_cell I.ok.kind hk hc z (fun h' hc' hs => ?_)
    obtain ⟨oc, hoc, hocd⟩ := id z
    refine h { s with heap := h' } ⟨I.ok, I.os, I.bare, ⟨fun b o e n hb hx => ?_, fun b o e n hb hx => ?_, I.base.free, fun b o e hx => ?_, I.base.tups, I.base.frzs, I.base.tbls⟩, ⟨m, hn.sameBut hs (Ne.symm (cne x c hc)), fun j y v' e1 e2 e3 => ?_⟩, fun y c' e => ?_, I.free, I.freeC, fun p hp => ?_, tracked ⟨oc, hoc, I.freeC x c hc⟩ hs, by simpa using I.len⟩ ⟨c, hs, .inr hc⟩
    · exact (hs.2 b (Nat.ne_of_lt (Nat.lt_of_lt_of_le (Heap.lt_size e) (I.ok.cab x c hfn hc)))).trans (I.base.keep b o e n hb hx)
    · obtain ⟨sl, e1⟩ := I.base.slot b o e n hb hx
      exact ⟨sl, (hs.2 b (Nat.ne_of_lt (Nat.lt_of_lt_of_le (Heap.lt_size e) (I.ok.cab x c hfn hc)))).trans e1⟩
    · obtain ⟨o', e1⟩ := I.base.there b o e hx
      exact ⟨o', (hs.2 b (Nat.ne_of_lt (Nat.lt_of_lt_of_le (Heap.lt_size e) (I.ok.cab x c hfn hc)))).trans e1⟩
    · by_cases hj : j = i
      · subst hj
        rw [hi] at e1; cases e1
        rw [List.getElem?_set_self hiσ] at e2
        cases e2
        exact ⟨u, r, .inr ⟨.inl hk, c, hc, hc'⟩⟩
      · rw [List.getElem?_set_ne (Ne.symm hj)] at e2
        obtain ⟨u', r', q⟩ := hl j y v' e1 e2 e3
        refine ⟨u', r', ?_⟩
        rcases q with q | ⟨k, c', e, z'⟩
        · exact .inl q
        · refine .inr ⟨k, c', e, z'.sameBut hs ?_⟩
          rintro rfl
          exact hj (nodup_ix hN e1 (I.ok.inj _ _ _ e hc ▸ hi))
    · by_cases hcc : c' = c
      · subst hcc; exact ⟨_, hc'⟩
      · obtain ⟨w2, z2⟩ := I.cell y c' e
        exact ⟨w2, z2.sameBut hs hcc⟩
    · obtain ⟨e, n, ne, nf, d⟩ := I.pin p hp
      refine ⟨(hs.2 p.1 ?_).trans e, n, ne, nf, d⟩
      intro q
      rw [q, hoc] at e
      have q' : oc = p.2 := Option.some.inj e
      exact d w' (by rw [<- q']; exact hocd)
theorem store_ok {M : Model} {A : Around} {E : Value -> Shared -> Prop} {i : Nat} {x : Str} {v : V} {u : Value} {Q : Unit -> Shared -> Prop} (I : Inv X pins σ H s) (hN : X.N.Nodup) (hi : X.N[i]? = some x) (hx : Loc X.env.scope x) (r : RelV v u)
    (h : ∀ s', Inv X pins (σ.set i (some v)) H s' -> Q () s') (hf : X.fn x = true \/ X.env.scope.names.lookup x = some .local := by first | exact .inl rfl | exact .inr rfl | assumption) : wpAny M A (storeName X.env x u) Q E s :=
  store_ok2 I hN hi hx r (fun s' I' _ => h s' I') hf
theorem Inv.call' {s' : Shared} {ch : List Addr} (I : Inv X pins σ H s) (ho : s'.os = s.os) (u : Un (frs X.stack) ch H H' s.heap s'.heap) (hok : HOk X.prog X.w H' s'.heap) (hg : AllBare s'.gens)
    (hch : ∀ b ∈ ch, (b ∈ X.ex \/ X.s₀.heap.objs.size <= b) /\ b ≠ X.env.locals /\ (∀ x c, X.env.cells.lookup x = some c -> c ≠ b) /\ ∀ p ∈ X.pn ++ pins, p.1 ≠ b) : Inv X pins σ H' s' := by
  obtain ⟨h', g', d', t', o'⟩ := s'
  have e : o' = s.os := ho
  subst e
  exact I.call (g' := g') (t' := t') (d' := d') u hok hg hch
end
abbrev XK := Value -> Option Addr -> Hp -> Prop
abbrev St := List (Option V)
abbrev VK := V -> Hp -> Prop
abbrev TE := St -> Hp -> VK -> Prop
abbrev TT := St -> Hp -> (Bool -> Hp -> Prop) -> Prop
abbrev TA := St -> Hp -> (List V -> Hp -> Prop) -> Prop
structure Ends where
  nx : St -> Hp -> Prop
  rt : VK
  bk : St -> Hp -> Prop := fun _ _ => False
  ct : St -> Hp -> Prop := fun _ _ => False
abbrev TS := Ends -> St -> Hp -> Prop
def EP (X : Cx) (pins : List (Addr × Obj)) (σ : St) (Q : VK) (u : Value) (s' : Shared) : Prop := ∃ v H', Inv X pins σ H' s' /\ RelV v u /\ Q v H'
def TP (X : Cx) (pins : List (Addr × Obj)) (σ : St) (Q : Bool -> Hp -> Prop) (b : Bool) (s' : Shared) : Prop := ∃ H', Inv X pins σ H' s' /\ Q b H'
def AP (X : Cx) (pins : List (Addr × Obj)) (σ : St) (Q : List V -> Hp -> Prop) (us : List Value) (s' : Shared) : Prop := ∃ vs H', Inv X pins σ H' s' /\ Vals vs us /\ Q vs H'
def SP (X : Cx) (pins : List (Addr × Obj)) (D : Ends) (f : Flow) (s' : Shared) : Prop :=
  match f with
  | .next => ∃ σ' H', Inv X pins σ' H' s' /\ D.nx σ' H'
  | .brk => ∃ σ' H', Inv X pins σ' H' s' /\ D.bk σ' H'
  | .cont => ∃ σ' H', Inv X pins σ' H' s' /\ D.ct σ' H'
  | .ret u => ∃ v σ' H', Inv X pins σ' H' s' /\ RelV v u /\ D.rt v H'
def PE (X : Cx) (e : Expr) (t : TE) : Prop :=
  ∀ (pins : List (Addr × Obj)) (s : Shared) (σ : St) (H : Hp) (Q : VK), Inv X pins σ H s -> t σ H Q -> wpAny (model X.prog X.w) X.A (eval e X.env) (EP X pins σ Q) X.xe s
def PT (X : Cx) (e : Expr) (t : TT) : Prop :=
  ∀ (pins : List (Addr × Obj)) (s : Shared) (σ : St) (H : Hp) (Q : Bool -> Hp -> Prop), Inv X pins σ H s -> t σ H Q -> wpAny (model X.prog X.w) X.A (isTrue e X.env (eval e X.env)) (TP X pins σ Q) X.xe s
def PW (X : Cx) (e : Expr) (t : TT) : Prop :=
  ∀ (whole : Sem Value) (pins : List (Addr × Obj)) (s : Shared) (σ : St) (H : Hp) (Q : Bool -> Hp -> Prop), Inv X pins σ H s -> t σ H Q -> wpAny (model X.prog X.w) X.A (isTrue e X.env whole) (TP X pins σ Q) X.xe s
theorem PW.pt {X : Cx} {e : Expr} {t : TT} (h : PW X e t) : PT X e t := h _
def PA (X : Cx) (es : List Expr) (t : TA) : Prop :=
  ∀ (pos : Pos) (pins : List (Addr × Obj)) (s : Shared) (σ : St) (H : Hp) (Q : List V -> Hp -> Prop), Inv X pins σ H s -> t σ H Q -> wpAny (model X.prog X.w) X.A (spliced (backTo pos (starEach es X.env))) (AP X pins σ Q) X.xe s
def PS (X : Cx) (st : Stmt) (t : TS) : Prop :=
  ∀ (pins : List (Addr × Obj)) (s : Shared) (σ : St) (H : Hp) (D : Ends), Inv X pins σ H s -> t D σ H -> wpAny (model X.prog X.w) X.A (exec st X.env) (SP X pins D) X.xe s
def PSs (X : Cx) (st : List Stmt) (t : TS) : Prop :=
  ∀ (pins : List (Addr × Obj)) (s : Shared) (σ : St) (H : Hp) (D : Ends), Inv X pins σ H s -> t D σ H -> wpAny (model X.prog X.w) X.A (execs st X.env) (SP X pins D) X.xe s
theorem thn {α : Type} {t : Sem α} {Q Q' : α -> Shared -> Prop} {M : Model} {A : Around} {E : Value -> Shared -> Prop} {s : Shared} (h : wpAny M A t Q E s) (hQ : ∀ a s, Q a s -> Q' a s) : wpAny M A t Q' E s := wpAny_mono h hQ fun _ _ x => x
end L2
namespace L2
open PySem PySem.Spec PyProof.Rows
section
variable {X : Cx}
def tVar (i : Nat) : TE := fun σ H Q => ∃ v, σ[i]? = some (some v) /\ Q v H
def tC (v : V) : TE := fun _ H Q => Q v H
theorem pe_var {i : Nat} {x : Str} {pos : Pos} (hN : X.N[i]? = some x) (hv : Vis X.env.scope x) (hd : (x == ("__debug__" : Str)) = false := by decide) (hcd : (x == ("__classdict__" : Str)) = false := by decide) : PE X (.Name x pos) (tVar i) := by
  intro pins s σ H Q I h
  obtain ⟨v, e, h⟩ := h
  obtain ⟨m, hn, hl⟩ := I.loc
  obtain ⟨u, r, l⟩ := hl i x v hN e hv
  have fin : EP X pins σ Q u s := ⟨v, H, I, r, h⟩
  rcases l with ⟨hk, hm⟩ | ⟨hk, c, hc, hcell⟩
  · exact wpAny_Name (wpAny_loadName_local I.ok.kind hk hn hm fin) hd
  · rcases hk with hk | hk
    · exact wpAny_Name (wpAny_loadName_cell I.ok.kind hk hc hcell fin) hd
    · exact wpAny_Name (wpAny_loadName_free I.ok.kind hk hc hcell fin hcd) hd
theorem pe_int {i j pos} : PE X (.Constant (.int i) j pos) (tC (.int i)) := fun _ _ _ H _ I h => wpAny_Constant_int ⟨.int i, H, I.tok _, ⟨_, rfl⟩, h⟩
theorem pe_bl {b j pos} : PE X (.Constant (.bool b) j pos) (tC (.bl b)) := fun _ _ _ H _ I h => Constant_bool ⟨.bl b, H, I, rfl, h⟩
theorem pe_non {j pos} : PE X (.Constant .none j pos) (tC .non) := fun _ _ _ H _ I h => Constant_none ⟨.non, H, I, rfl, h⟩
theorem pe_str {x j pos} : PE X (.Constant (.str x) j pos) (tC (.str x)) := fun _ _ _ H _ I h => Calls.Constant_str ⟨.str x, H, I.tok _, ⟨_, rfl⟩, h⟩
def Gl (X : Cx) (x : Str) : Prop := X.env.kindOf x = some .globalImplicit
theorem ld_glob {E : Value -> Shared -> Prop} {pins : List (Addr × Obj)} {s : Shared} {σ : St} {H : Hp} {x : Str} {u : Value} {pos : Pos} {Q : Value -> Shared -> Prop} (I : Inv X pins σ H s) (hg : Gl X x) (hm : X.mg x = some u) (h : Q u s)
    (hd : (x == ("__debug__" : Str)) = false := by decide) : wpAny (model X.prog X.w) X.A (eval (.Name x pos) X.env) Q E s :=
  Calls.Name_function_global I.ok.kind hg (Calls.loadGlobal_global (by rw [I.ok.glob]; exact I.mod.glob.keeps I.bk) hm h) hd
theorem ld_blt {E : Value -> Shared -> Prop} {pins : List (Addr × Obj)} {s : Shared} {σ : St} {H : Hp} {x : Str} {u : Value} {pos : Pos} {Q : Value -> Shared -> Prop} (I : Inv X pins σ H s) (hg : Gl X x) (hm : X.mg x = none) (hv : bootBuiltins x = some u) (h : Q u s)
    (hn : x ≠ "__name__" := by decide) (hd : (x == ("__debug__" : Str)) = false := by decide) : wpAny (model X.prog X.w) X.A (eval (.Name x pos) X.env) Q E s := by
  obtain ⟨mb, h1, h2⟩ := I.mod.blt
  exact Calls.Name_function_global I.ok.kind hg (Calls.loadGlobal_builtin (by rw [I.ok.glob]; exact I.mod.glob.keeps I.bk) hm (by rw [I.ok.blt]; exact h1.keeps I.bk) ((h2 x hn).trans hv) h) hd
theorem pe_glob {x : Str} {v : V} {u : Value} {pos : Pos} (hg : Gl X x) (hm : X.mg x = some u) (r : RelV v u) (hd : (x == ("__debug__" : Str)) = false := by decide) : PE X (.Name x pos) (tC v) :=
  fun _ _ _ H _ I h => ld_glob I hg hm ⟨v, H, I, r, h⟩ hd
theorem pe_bltn {x : Str} {v : V} {u : Value} {pos : Pos} (hg : Gl X x) (hm : X.mg x = none) (hv : bootBuiltins x = some u) (r : RelV v u) (hn : x ≠ "__name__" := by decide) (hd : (x == ("__debug__" : Str)) = false := by decide) : PE X (.Name x pos) (tC v) :=
  fun _ _ _ H _ I h => ld_blt I hg hm hv ⟨v, H, I, r, h⟩ hn hd
variable {a b : Expr} {ta tb : TE} {pos : Pos}
def tB (t : TE) : TT := fun σ H Q => t σ H fun x H1 => ∃ c, x = .bl c /\ Q c H1
theorem pt_val {e : Expr} {t : TE} (h : PE X e t) (he : ∀ whole, isTrue e X.env whole = (do let v <- whole; standAt e.pos; holding [v] (truthy v)) := by intro _; rfl) : PT X e (tB t) := by
  intro pins s σ H Q I hw
  refine isTrue_plain (thn (h pins s σ H _ I hw) fun v s1 ⟨x, H1, I1, r1, q1⟩ => ?_) (he _)
  obtain ⟨d, rfl, q⟩ := q1
  cases r1
  exact wpAny_truthy_bool ⟨H1, I1, q⟩
variable {tA tB' : TT} {rest : List Expr}
def tAnd (t u : TT) : TT := fun σ H Q => t σ H fun c H1 => if c = true then u σ H1 Q else Q false H1
def tOr (t u : TT) : TT := fun σ H Q => t σ H fun c H1 => if c = true then Q true H1 else u σ H1 Q
def tNot (t : TT) : TT := fun σ H Q => t σ H fun c H1 => Q (!c) H1
theorem pw_and1 (ha : PT X a tA) : PW X (.BoolOp .And [a] pos) tA := by
  intro wh pins s σ H Q I h
  refine isTrue_and (thn (ha pins s σ H Q I h) fun c s1 e => ?_)
  cases c with
  | true => exact isTrue_and_nil e
  | false => exact e
theorem pw_or1 (ha : PT X a tA) : PW X (.BoolOp .Or [a] pos) tA := by
  intro wh pins s σ H Q I h
  refine isTrue_or (thn (ha pins s σ H Q I h) fun c s1 e => ?_)
  cases c with
  | false => exact isTrue_or_nil e
  | true => exact e
theorem pw_and (ha : PT X a tA) (hb : PW X (.BoolOp .And (b :: rest) pos) tB') : PW X (.BoolOp .And (a :: b :: rest) pos) (tAnd tA tB') := by
  intro wh pins s σ H Q I h
  refine isTrue_and (thn (ha pins s σ H _ I h) fun c s1 ⟨H1, I1, q1⟩ => ?_)
  cases c with
  | true => exact hb wh pins s1 σ H1 Q I1 q1
  | false => exact ⟨H1, I1, q1⟩
theorem pw_or (ha : PT X a tA) (hb : PW X (.BoolOp .Or (b :: rest) pos) tB') : PW X (.BoolOp .Or (a :: b :: rest) pos) (tOr tA tB') := by
  intro wh pins s σ H Q I h
  refine isTrue_or (thn (ha pins s σ H _ I h) fun c s1 ⟨H1, I1, q1⟩ => ?_)
  cases c with
  | true => exact ⟨H1, I1, q1⟩
  | false => exact hb wh pins s1 σ H1 Q I1 q1
theorem pt_not (ha : PT X a tA) : PT X (.UnaryOp .Not a pos) (tNot tA) := by
  intro pins s σ H Q I h
  exact isTrue_not (ha pins s σ H (fun c H1 => Q (!c) H1) I h)
def tAndV (ta tb : TE) : TE := fun σ H Q => ta σ H fun x H1 => ∃ c, x = .bl c /\ if c = true then tb σ H1 Q else Q (.bl false) H1
def tNotV (ta : TE) : TE := fun σ H Q => ta σ H fun x H1 => ∃ c, x = .bl c /\ Q (.bl (!c)) H1
theorem pe_one {op} {t : TE} (h : PE X a t) : PE X (.BoolOp op [a] pos) t := fun pins s σ H Q I hw => BoolOp_one (h pins s σ H Q I hw)
theorem pe_and (ha : PE X a ta) (hb : PE X (.BoolOp .And (b :: rest) pos) tb) : PE X (.BoolOp .And (a :: b :: rest) pos) (tAndV ta tb) := by
  intro pins s σ H Q I h
  refine BoolOp_and (thn (ha pins s σ H _ I h) fun v s1 ⟨x, H1, I1, r1, q1⟩ => ?_)
  obtain ⟨c, rfl, q1⟩ := q1
  cases r1
  refine wpAny_truthy_bool ?_
  cases c with
  | true => exact hb pins s1 σ H1 Q I1 q1
  | false => exact ⟨.bl false, H1, I1, rfl, q1⟩
theorem pe_not (ha : PE X a ta) : PE X (.UnaryOp .Not a pos) (tNotV ta) := by
  intro pins s σ H Q I h
  refine UnaryOp_ (thn (ha pins s σ H _ I h) fun v s1 ⟨x, H1, I1, r1, q1⟩ => ?_)
  obtain ⟨c, rfl, q1⟩ := q1
  cases r1
  exact not_of (wpAny_truthy_bool ⟨.bl (!c), H1, I1, rfl, q1⟩)
def tIf (t : TT) (ta tb : TE) : TE := fun σ H Q => t σ H fun c H1 => if c = true then ta σ H1 Q else tb σ H1 Q
theorem pe_ifExp {c : Expr} (hc : PT X c tA) (ha : PE X a ta) (hb : PE X b tb) : PE X (.IfExp c a b pos) (tIf tA ta tb) := by
  intro pins s σ H Q I h
  refine wpAny_IfExp (thn (hc pins s σ H _ I h) fun d s1 ⟨H1, I1, q1⟩ => ?_)
  cases d with
  | true => exact ha pins s1 σ H1 Q I1 q1
  | false => exact hb pins s1 σ H1 Q I1 q1
end
end L2
namespace L2
open PySem PySem.Spec PyProof.Rows
def SqL (K : PySem.W.Frag) (H : Hp) (a : Addr) (xs : List V) : Prop :=
  Rd H a (.lst xs) \/
    ∃ (o : Obj) (its : Array Value) (n : Nat), K.lookup a = some o /\ o.cls = .type "list" /\ o.dict = none /\ o.data = .seq its n /\ its.size <= sizeLine /\ Vals xs its.toList
def SqT (K : PySem.W.Frag) (H : Hp) (a : Addr) (xs : List V) : Prop :=
  Rd H a (.tup xs) \/
    ∃ (o : Obj) (its : Array Value) (n : Nat), K.lookup a = some o /\ o.cls = .type "tuple" /\ o.data = .seq its n /\ its.size <= sizeLine /\ Vals xs its.toList
def absV : Value -> Option V
  | .none => some .non
  | .bool b => some (.bl b)
  | .int i _ => some (.int i)
  | .str x _ => some (.str x)
  | .bytes b _ => some (.byt b)
  | .float b _ => some (.flt b)
  | .ref a => some (.ref a)
  | .type n => some (.ty n)
  | _ => none
theorem RelV.abs {x : V} {u : Value} (r : RelV x u) : absV u = some x := by
  cases x with
  | non => cases r; rfl
  | bl _ => cases r; rfl
  | int _ => obtain ⟨t, rfl⟩ := r; rfl
  | str _ => obtain ⟨t, rfl⟩ := r; rfl
  | byt _ => obtain ⟨t, rfl⟩ := r; rfl
  | flt _ => obtain ⟨t, rfl⟩ := r; rfl
  | ref _ => cases r; rfl
  | ty _ => cases r; rfl
theorem RelV.inj {x y : V} {u : Value} (r : RelV x u) (q : RelV y u) : x = y := Option.some.inj (r.abs.symm.trans q.abs)
theorem Vals.inj : ∀ {xs ys : List V} {us : List Value}, Vals xs us -> Vals ys us -> xs = ys
  | _, _, _, .nil, .nil => rfl
  | _, _, _, .cons r t, .cons r' t' => by rw [r.inj r', Vals.inj t t']
section
variable {X : Cx} {pins : List (Addr × Obj)} {σ : St} {H : Hp} {s : Shared} {a : Addr} {xs ys : List V}
theorem SqL.of {K : PySem.W.Frag} (h : H a = some (.lst xs)) : SqL K H a xs := .inl (.inl h)
theorem SqT.of {K : PySem.W.Frag} (h : H a = some (.tup xs)) : SqT K H a xs := .inl (.inl h)
theorem Inv.list (I : Inv X pins σ H s) (h : SqL X.K H a xs) : ∃ its : List Value, Vals xs its /\ PlainL s.heap a its.toArray /\ xs.length <= sizeLine := by
  rcases h with h | ⟨o, its, n, hk, hc, hd, hs, hz, r⟩
  · obtain ⟨z, its, n, r, e⟩ := h.ok I.hok
    exact ⟨its, r, ⟨_, n, e, rfl, rfl, rfl⟩, z⟩
  · refine ⟨its.toList, r, ⟨o, n, I.kIn a o hk, hc, hd, by simpa using hs⟩, ?_⟩
    have e := r.length
    simp only [Array.length_toList] at e
    omega
theorem Inv.tuple (I : Inv X pins σ H s) (h : SqT X.K H a xs) : ∃ its : List Value, Vals xs its /\ IsTup s.heap a its.toArray /\ xs.length <= sizeLine := by
  rcases h with h | ⟨o, its, n, hk, hc, hs, hz, r⟩
  · obtain ⟨z, its, r, p⟩ := h.ok I.hok
    exact ⟨its, r, p, z⟩
  · refine ⟨its.toList, r, ⟨o, I.kIn a o hk, hc, n, by simpa using hs⟩, ?_⟩
    have e := r.length
    simp only [Array.length_toList] at e
    omega
theorem Inv.list_inj (I : Inv X pins σ H s) (h : SqL X.K H a xs) (h' : SqL X.K H a ys) : xs = ys := by
  obtain ⟨its, r, ⟨o, n, e, _, _, d⟩, _⟩ := I.list h
  obtain ⟨its', r', ⟨o', n', e', _, _, d'⟩, _⟩ := I.list h'
  rw [e] at e'; cases e'
  rw [d] at d'
  injection d' with d1 _
  have : its = its' := by simpa using congrArg Array.toList d1
  subst this
  exact r.inj r'
end
abbrev Cx.wish (X : Cx) (E : Value -> Shared -> Prop) : Cx := { X with xe := E }
abbrev Cx.nox (X : Cx) : Cx := X.wish fun _ _ => False
theorem Cx.Ok.wish {X : Cx} (ok : X.Ok) (E : Value -> Shared -> Prop) : (X.wish E).Ok :=
  ⟨ok.mod, ok.kind, ok.glob, ok.blt, ok.above, ok.inj, ok.has, ok.cab, ok.hd, ok.frames, ok.stk, ok.exf, ok.bs, ok.bsz, ok.noex, ok.exfs, ok.funs, ok.frf⟩
theorem Cx.Ok.unwish {X : Cx} {E : Value -> Shared -> Prop} (ok : (X.wish E).Ok) : X.Ok :=
  ⟨ok.mod, ok.kind, ok.glob, ok.blt, ok.above, ok.inj, ok.has, ok.cab, ok.hd, ok.frames, ok.stk, ok.exf, ok.bs, ok.bsz, ok.noex, ok.exfs, ok.funs, ok.frf⟩
section
variable {X : Cx} {pins : List (Addr × Obj)} {σ : St} {H : Hp} {s : Shared} {E : Value -> Shared -> Prop}
theorem Inv.wish (I : Inv X pins σ H s) (E : Value -> Shared -> Prop) : Inv (X.wish E) pins σ H s := ⟨I.ok.wish E, I.os, I.bare, I.base, I.loc, I.cell, I.free, I.freeC, I.pin, I.hok, I.len⟩
theorem Inv.unwish (I : Inv (X.wish E) pins σ H s) : Inv X pins σ H s := ⟨I.ok.unwish, I.os, I.bare, I.base, I.loc, I.cell, I.free, I.freeC, I.pin, I.hok, I.len⟩
theorem SP.unwish {D : Ends} {f : Flow} {s' : Shared} (h : SP (X.wish E) pins D f s') : SP X pins D f s' := by
  cases f with
  | next => obtain ⟨σ', H', I, q⟩ := h; exact ⟨σ', H', I.unwish, q⟩
  | brk => obtain ⟨σ', H', I, q⟩ := h; exact ⟨σ', H', I.unwish, q⟩
  | cont => obtain ⟨σ', H', I, q⟩ := h; exact ⟨σ', H', I.unwish, q⟩
  | ret u => obtain ⟨v, σ', H', I, r, q⟩ := h; exact ⟨v, σ', H', I.unwish, r, q⟩
theorem PE.nox {e : Expr} {t : TE} (h : PE X.nox e t) : PE X e t := fun pins s σ H Q I hw =>
  wpAny_mono (h pins s σ H Q (I.wish _) hw) (fun _ _ ⟨v, H', I', r, q⟩ => ⟨v, H', I'.unwish, r, q⟩) fun _ _ z => False.elim z
theorem PT.nox {e : Expr} {t : TT} (h : PT X.nox e t) : PT X e t := fun pins s σ H Q I hw =>
  wpAny_mono (h pins s σ H Q (I.wish _) hw) (fun _ _ ⟨H', I', q⟩ => ⟨H', I'.unwish, q⟩) fun _ _ z => False.elim z
theorem PSs.nox {st : List Stmt} {t : TS} (h : PSs X.nox st t) : PSs X st t := fun pins s σ H D I hw =>
  wpAny_mono (h pins s σ H D (I.wish _) hw) (fun _ _ q => q.unwish) fun _ _ z => False.elim z
end
section
variable {X : Cx} {st : Stmt} {rest : List Stmt} {t u : TS} {e : Expr} {te : TE} {pos : Pos}
def tNext : TS := fun D σ H => D.nx σ H
def tSeq (t u : TS) : TS := fun D σ H => t { D with nx := u D } σ H
theorem pss_nil : PSs X [] tNext := fun _ _ σ H _ I h => wpAny_execs_nil ⟨σ, H, I, h⟩
theorem pss_cons (h1 : PS X st t) (h2 : PSs X rest u) : PSs X (st :: rest) (tSeq t u) := by
  intro pins s σ H D I h
  refine wpAny_execs_cons (thn (h1 pins s σ H { D with nx := u D } I h) fun f s1 q => ?_)
  cases f with
  | next =>
    obtain ⟨σ', H', I', q⟩ := q
    exact h2 pins s1 σ' H' D I' q
  | ret v => exact q
  | brk => exact q
  | cont => exact q
theorem pss_one (h1 : PS X st t) : PSs X [st] t := by
  intro pins s σ H D I h
  refine wpAny_execs_cons (thn (h1 pins s σ H D I h) fun f s1 q => ?_)
  cases f with
  | next => exact wpAny_execs_nil q
  | ret v => exact q
  | brk => exact q
  | cont => exact q
theorem Inv.quiet {pins : List (Addr × Obj)} {σ : St} {H : Hp} {s : Shared} (I : Inv X pins σ H s) : interactive X.env = false := by simp [interactive, I.ok.kind]
def tDrop (te : TE) : TS := fun D σ H => te σ H fun _ H1 => D.nx σ H1
theorem ps_expr (he : PE X e te) (hs : swapsWith e none pos.line X.env = pure false := by rfl) : PS X (.Expr e pos) (tDrop te) := by
  intro pins s σ H D I h
  exact wpAny_Expr_any (thn (he pins s σ H _ I h) fun v s1 ⟨x, H1, I1, r1, q1⟩ => ⟨σ, H1, I1, q1⟩) I.quiet hs
def tRet (te : TE) : TS := fun D σ H => te σ H D.rt
theorem ps_ret (he : PE X e te) : PS X (.Return (some e) pos) (tRet te) := by
  intro pins s σ H D I h
  exact wpAny_Return_some (thn (he pins s σ H _ I h) fun v s1 ⟨x, H1, I1, r1, q1⟩ => ⟨x, σ, H1, I1, r1, q1⟩)
def tIfS (c : TT) (t u : TS) : TS := fun D σ H => c σ H fun b H1 => if b = true then t D σ H1 else u D σ H1
theorem ps_if {c : Expr} {a b : List Stmt} {tc : TT} (hc : PT X c tc) (ha : PSs X a t) (hb : PSs X b u) : PS X (.If c a b pos) (tIfS tc t u) := by
  intro pins s σ H D I h
  refine wpAny_If (thn (hc pins s σ H _ I h) fun d s1 ⟨H1, I1, q1⟩ => ?_)
  cases d with
  | true => exact ha pins s1 σ H1 D I1 q1
  | false => exact hb pins s1 σ H1 D I1 q1
end
abbrev TG := V -> St -> Hp -> (St -> Hp -> Prop) -> Prop
abbrev TGs := List V -> St -> Hp -> (St -> Hp -> Prop) -> Prop
def PG (X : Cx) (target : Expr) (t : TG) : Prop :=
  ∀ (pins : List (Addr × Obj)) (s : Shared) (σ : St) (H : Hp) (v : V) (u : Value) (Q : St -> Hp -> Prop), Inv X pins σ H s -> RelV v u -> t v σ H Q ->
    wpAny (model X.prog X.w) X.A (assign target X.env u) (fun _ s' => ∃ σ' H', Inv X pins σ' H' s' /\ Q σ' H') X.xe s
def PGs (X : Cx) (ts : List Expr) (t : TGs) : Prop :=
  ∀ (pins : List (Addr × Obj)) (s : Shared) (σ : St) (H : Hp) (vs : List V) (us : List Value) (Q : St -> Hp -> Prop), Inv X pins σ H s -> Vals vs us -> t vs σ H Q ->
    wpAny (model X.prog X.w) X.A (assignInOrder ((assignEach ts X.env).map (·.2)) us) (fun _ s' => ∃ σ' H', Inv X pins σ' H' s' /\ Q σ' H') X.xe s
section
variable {X : Cx} {pos : Pos}
def gName (i : Nat) : TG := fun v σ H Q => Q (σ.set i (some v)) H
theorem pg_name {i : Nat} {x : Str} (hN : X.N.Nodup) (hi : X.N[i]? = some x) (hx : Loc X.env.scope x) (hf : X.fn x = true \/ X.env.scope.names.lookup x = some .local := by first | exact .inl rfl | exact .inr rfl | assumption) : PG X (.Name x pos) (gName i) := by
  intro pins s σ H v u Q I r h
  exact wpAny_assign_Name (store_ok I hN hi hx r (fun s' I' => ⟨_, H, I', h⟩) hf)
def gNil : TGs := fun vs σ H Q => vs = [] /\ Q σ H
def gCons (t : TG) (u : TGs) : TGs := fun vs σ H Q => ∃ v r, vs = v :: r /\ t v σ H fun σ' H' => u r σ' H' Q
theorem pgs_nil : PGs X [] gNil := by
  intro pins s σ H vs us Q I r h
  obtain ⟨e, h⟩ := h
  subst e
  cases r
  exact assignInOrder_nil ⟨σ, H, I, h⟩
theorem pgs_cons {e : Expr} {es : List Expr} {t : TG} {u : TGs} (h1 : PG X e t) (h2 : PGs X es u)
    (hs : (assignEach (e :: es) X.env).map (·.2) = assign e X.env :: (assignEach es X.env).map (·.2) := by rfl) : PGs X (e :: es) (gCons t u) := by
  intro pins s σ H vs us Q I r h
  obtain ⟨v, vr, e1, h⟩ := h
  subst e1
  cases r with
  | cons r rr =>
    rw [hs]
    refine assignInOrder_cons (thn (h1 pins s σ H _ _ _ I r h) fun _ s1 ⟨σ1, H1, I1, q1⟩ => ?_)
    exact h2 pins s1 σ1 H1 _ _ Q I1 rr q1
def gTup (K : PySem.W.Frag) (n : Nat) (t : TGs) : TG := fun v σ H Q => ∃ a xs, v = .ref a /\ SqT K H a xs /\ xs.length = n /\ t xs σ H Q
theorem pg_tup {es : List Expr} {k : Nat} {t : TGs} {n : Nat} (hc : X.calm = true) (h : PGs X es t)
    (hn : (assignEach es X.env).length = n := by rfl) (hst : (assignEach es X.env).findIdx? (·.1) = none := by rfl) : PG X (.Tuple es k pos) (gTup X.K n t) := by
  intro pins s σ H v u Q I r hw
  obtain ⟨a, xs, e1, hq, hl, hw⟩ := hw
  subst e1
  cases r
  obtain ⟨its, rv, ht, hz⟩ := I.tuple hq
  refine assign_Tuple_tuple (I.ok.hd hc) ht (by simp [hn, <- hl, rv.length]) hst fun h' hx => ?_
  have I1 : Inv X pins σ H { s with heap := h' } := I.kept (t' := s.toks) fun b o e => hx b o (Nat.ne_of_lt (Heap.lt_size e)) e
  exact h pins _ σ H xs _ Q I1 (by simpa using rv) hw
def tAsg (te : TE) (g : TG) : TS := fun D σ H => te σ H fun x H1 => g x σ H1 D.nx
theorem ps_asg {tg e : Expr} {te : TE} {g : TG} (he : PE X e te) (hg : PG X tg g) (hs : swapsWithSole [tg] e pos.line X.env = pure false := by rfl) (hw : swappedStores [tg] e X.env = pure none := by rfl)
    (h1 : (assignEach [tg] X.env).map (·.2) = [assign tg X.env] := by rfl) : PS X (.Assign [tg] e pos) (tAsg te g) := by
  intro pins s σ H D I h
  refine wpAny_Assign_stores (thn (he pins s σ H _ I h) fun v s1 ⟨x, H1, I1, r1, q1⟩ => ?_) hs hw
  rw [h1]
  exact thn (hg pins s1 σ H1 x v _ I1 r1 q1) fun _ s2 q => q
theorem ps_set {i : Nat} {x : Str} {e : Expr} {te : TE} {pos' : Pos} (hN : X.N.Nodup) (hi : X.N[i]? = some x) (hx : Loc X.env.scope x) (he : PE X e te) (hs : swapsWith e (some (.Name x pos')) pos.line X.env = pure false := by rfl) (hf : X.fn x = true \/ X.env.scope.names.lookup x = some .local := by first | exact .inl rfl | exact .inr rfl | assumption) :
    PS X (.Assign [.Name x pos'] e pos) (tAsg te (gName i)) := by
  intro pins s σ H D I h
  refine wpAny_Assign_Name (thn (he pins s σ H _ I h) fun v s1 ⟨y, H1, I1, r1, q1⟩ => ?_) hs
  exact store_ok I1 hN hi hx r1 (fun s2 I2 => ⟨_, H1, I2, q1⟩) hf
end
section
variable {X : Cx} {pos : Pos}
end
structure It where
  go : Nat -> Hp -> Prop
  yld : Nat -> Hp -> V -> Hp -> Prop
  stop : Nat -> Hp -> Prop
def FpOk (X : Cx) (pins : List (Addr × Obj)) (H : Hp) (b : Addr) : Prop :=
  H b = none /\ b ≠ X.env.locals /\ b ∉ X.fs /\ (b ∈ X.ex \/ X.s₀.heap.objs.size <= b) /\ (∀ x c, X.env.cells.lookup x = some c -> c ≠ b) /\ ∀ p ∈ X.pn ++ pins, p.1 ≠ b
theorem Inv.fpOk {X : Cx} {pins : List (Addr × Obj)} {σ : St} {H H' : Hp} {s : Shared} {b : Addr} (I : Inv X pins σ H s) (hb : s.heap.objs.size <= b) (hn : H' b = none) : FpOk X pins H' b := by
  refine ⟨hn, Nat.ne_of_gt (Nat.lt_of_lt_of_le I.lt hb), I.nofs hb, .inr (Nat.le_trans I.sz hb), fun x c e z => ?_, fun p hp z => ?_⟩
  · obtain ⟨v, q⟩ := I.cell x c e
    exact absurd (Nat.lt_of_lt_of_le q.lt (by rw [z]; exact hb)) (Nat.lt_irrefl _)
  · exact absurd (Nat.lt_of_lt_of_le (Heap.lt_size (I.pin p hp).1) (by rw [z]; exact hb)) (Nat.lt_irrefl _)
structure Turn (P : Program) (w : World) (K : PySem.W.Frag) (tg : Expr) (J : It) (fp : List Addr) (it : Addr) (tn : Nat -> Heap -> Prop) : Prop where
  mem : it ∈ fp
  obj : ∀ i h, tn i h -> ∀ b ∈ fp, ∃ o, h.get? b = some o /\ ∀ v, o.data ≠ .cell v
  keep : ∀ i h h', tn i h -> (∀ b ∈ fp, ∀ o, h.get? b = some o -> h'.get? b = some o) -> tn i h'
  item : ∀ (X : Cx), X.prog = P -> X.w = w -> X.K = K -> X.calm = true -> ∀ (i : Nat) (pins : List (Addr × Obj)) (s : Shared) (σ : St) (H : Hp) (E : Value -> Shared -> Prop), Inv X pins σ H s -> (∀ b ∈ fp, FpOk X pins H b) -> tn i s.heap -> J.go i H ->
    wpAny (model P w) X.A (pyNext (.ref it)) (fun r s1 => ∃ u, r = some u /\
      wpAny (model P w) X.A (letOwnedTupleGo tg (.ref it) u) (fun _ s2 => ∃ x H', Inv X pins σ H' s2 /\ RelV x u /\ J.yld i H x H' /\ tn (i + 1) s2.heap /\ ∀ b ∈ fp, H' b = none) E s1) E s
  done : ∀ (X : Cx), X.prog = P -> X.w = w -> X.K = K -> X.calm = true -> ∀ (i : Nat) (pins : List (Addr × Obj)) (s : Shared) (σ : St) (H : Hp) (E : Value -> Shared -> Prop), Inv X pins σ H s -> (∀ b ∈ fp, FpOk X pins H b) -> tn i s.heap -> J.stop i H ->
    wpAny (model P w) X.A (pyNext (.ref it)) (fun r s1 => r = none /\ Inv X pins σ H s1) E s
  self : ∀ (A : Around) (i : Nat) (s : Shared) (Q : Value -> Shared -> Prop) (E : Value -> Shared -> Prop), tn i s.heap -> Q (.ref it) s -> wpAny (model P w) A (pyIter (.ref it)) Q E s
abbrev TI := St -> Hp -> (It -> Hp -> Prop) -> Prop
def PIE (X : Cx) (pins : List (Addr × Obj)) (σ : St) (tg : Expr) (R : It -> Hp -> Prop) (itv : Value) (s2 : Shared) : Prop :=
  ∃ (it : Addr) (fp : List Addr) (tn : Nat -> Heap -> Prop) (J : It) (H' : Hp), itv = .ref it /\ Inv X pins σ H' s2 /\ Turn X.prog X.w X.K tg J fp it tn /\ tn 0 s2.heap /\ (∀ b ∈ fp, FpOk X pins H' b) /\ R J H'
def PI (X : Cx) (tg iter : Expr) (wi : TI) : Prop :=
  ∀ (pins : List (Addr × Obj)) (s : Shared) (σ : St) (H : Hp) (R : It -> Hp -> Prop), Inv X pins σ H s -> wi σ H R ->
    wpAny (model X.prog X.w) X.A (eval iter X.env) (fun v s1 => wpAny (model X.prog X.w) X.A (pyIter v) (PIE X pins σ tg R) X.xe s1) X.xe s
theorem go_of {M : Model} {A : Around} {E : Value -> Shared -> Prop} {s : Shared} {tg : Expr} {it : Addr} {u : Value} {o : Obj} {n : String} {vs : Array Value} {Q : Unit -> Shared -> Prop} (ho : s.heap.get? it = some o) (hc : o.cls = .type n) (hd : o.data = .fields vs)
    (hn : ["enumerate", "zip", "dict_itemiterator", "dict_reverseitemiterator", "odict_iterator", "itertools.zip_longest", "itertools.pairwise"].contains n = false) (hQ : Q () s) : wpAny M A (letOwnedTupleGo tg (.ref it) u) Q E s := by
  unfold letOwnedTupleGo
  cases tg <;> first
    | exact wpAny_pure hQ
    | (cases u <;> first
        | exact wpAny_pure hQ
        | (refine wpAny_bind (wpAny_load ho ?_)
           rw [hc, hd]
           show wpAny M A (if (["enumerate", "zip", "dict_itemiterator", "dict_reverseitemiterator", "odict_iterator", "itertools.zip_longest", "itertools.pairwise"].contains n && vs[0]? == some (rawInt _)) = true then _ else _) Q E s
           rw [if_neg (by intro h; rw [hn, Bool.false_and] at h; cases h)]
           exact wpAny_pure hQ))
def Itl (K : PySem.W.Frag) (a : Addr) : It :=
  ⟨fun i H => ∃ xs x, SqL K H a xs /\ xs[i]? = some x, fun i H x H' => H' = H /\ ∀ xs, SqL K H a xs -> xs[i]? = some x, fun i H => ∃ xs, SqL K H a xs /\ xs.length <= i⟩
end L2
namespace L2
open PySem PySem.Spec PyProof.Rows
section
variable {X : Cx} {tg : Expr}
def iList (K : PySem.W.Frag) (tl : TE) : TI := fun σ H R => tl σ H fun x H1 => ∃ a, x = .ref a /\ (∃ xs, SqL K H1 a xs) /\ R (Itl K a) H1
def pinsAt (fp : List Addr) (h : Heap) : List (Addr × Obj) := fp.filterMap fun b => (h.get? b).map fun o => (b, o)
theorem mem_pinsAt {fp : List Addr} {h : Heap} {b : Addr} {o : Obj} (hb : b ∈ fp) (e : h.get? b = some o) : (b, o) ∈ pinsAt fp h := List.mem_filterMap.mpr ⟨b, hb, by rw [e]; rfl⟩
theorem of_pinsAt {fp : List Addr} {h : Heap} {p : Addr × Obj} (hp : p ∈ pinsAt fp h) : p.1 ∈ fp /\ h.get? p.1 = some p.2 := by
  obtain ⟨b, hb, e⟩ := List.mem_filterMap.mp hp
  cases q : h.get? b with
  | none => rw [q] at e; cases e
  | some o =>
    rw [q] at e
    have e' : (b, o) = p := Option.some.inj e
    subst e'
    exact ⟨hb, q⟩
theorem Inv.pinned {pins : List (Addr × Obj)} {σ : St} {H : Hp} {s : Shared} {fp : List Addr} (I : Inv X pins σ H s) (hf : ∀ b ∈ fp, FpOk X pins H b) (ho : ∀ b ∈ fp, ∃ o, s.heap.get? b = some o /\ ∀ v, o.data ≠ .cell v) : Inv X (pins ++ pinsAt fp s.heap) σ H s :=
  I.pins_of fun p hp => (List.mem_append.mp hp).elim (fun z => I.pin p (List.mem_append_right _ z)) fun z => by
    obtain ⟨hb, e⟩ := of_pinsAt z
    obtain ⟨f0, f1, f2, _⟩ := hf p.1 hb
    obtain ⟨o, e', d⟩ := ho p.1 hb
    rw [e] at e'; cases e'
    exact ⟨e, f0, f1, f2, d⟩
end
end L2
namespace L2
open PySem PySem.Spec PyProof.Rows
abbrev R2 := V -> V -> Hp -> VK -> Prop
def OpR (X : Cx) (f : Value -> Value -> Sem Value) (r : R2) : Prop :=
  ∀ (pins : List (Addr × Obj)) (s : Shared) (σ : St) (H : Hp) (x y : V) (v u : Value) (Q : VK), Inv X pins σ H s -> RelV x v -> RelV y u -> r x y H Q ->
    wpAny (model X.prog X.w) X.A (f v u) (EP X pins σ Q) X.xe s
def UnR (X : Cx) (f : Value -> Sem Value) (r : V -> Hp -> VK -> Prop) : Prop :=
  ∀ (pins : List (Addr × Obj)) (s : Shared) (σ : St) (H : Hp) (x : V) (v : Value) (Q : VK), Inv X pins σ H s -> RelV x v -> r x H Q ->
    wpAny (model X.prog X.w) X.A (f v) (EP X pins σ Q) X.xe s
def CallR (X : Cx) (f : Value) (r : List V -> Hp -> VK -> Prop) : Prop :=
  ∀ (pins : List (Addr × Obj)) (s : Shared) (σ : St) (H : Hp) (xs : List V) (us : List Value) (Q : VK), Inv X pins σ H s -> Vals xs us -> r xs H Q ->
    wpAny (model X.prog X.w) X.A (call f us) (EP X pins σ Q) X.xe s
def tOp (r : R2) (ta tb : TE) : TE := fun σ H Q => ta σ H fun x H1 => tb σ H1 fun y H2 => r x y H2 Q
def tUn (r : V -> Hp -> VK -> Prop) (ta : TE) : TE := fun σ H Q => ta σ H fun x H1 => r x H1 Q
def rI (C : Int -> Int -> Prop) (g : Int -> Int -> V) : R2 := fun x y H Q => ∃ i j, x = .int i /\ y = .int j /\ C i j /\ Q (g i j) H
def rI0 (g : Int -> Int -> V) : R2 := fun x y H Q => ∃ i j, x = .int i /\ y = .int j /\ Q (g i j) H
def rU (g : Int -> V) : V -> Hp -> VK -> Prop := fun x H Q => ∃ i, x = .int i /\ Q (g i) H
section
variable {X : Cx} {a b c : Expr} {ta tb tc : TE} {pos : Pos}
theorem binT (ha : PE X a ta) (hb : PE X b tb) {pins : List (Addr × Obj)} {s : Shared} {σ : St} {H : Hp} {R : V -> V -> Hp -> Prop} (I : Inv X pins σ H s)
    (h : ta σ H fun x H1 => tb σ H1 fun y H2 => R x y H2) {Q : Value -> Shared -> Prop} {f : Value -> Value -> Sem Value}
    (hf : ∀ v u s2 x y H2, Inv X pins σ H2 s2 -> RelV x v -> RelV y u -> R x y H2 -> wpAny (model X.prog X.w) X.A (f v u) Q X.xe s2) :
    wpAny (model X.prog X.w) X.A (eval a X.env) (fun v s₁ => wpAny (model X.prog X.w) X.A (eval b X.env) (fun u s₂ => wpAny (model X.prog X.w) X.A (f v u) Q X.xe s₂) X.xe s₁) X.xe s := by
  refine thn (ha pins s σ H _ I h) fun v s1 ⟨x, H1, I1, r1, q1⟩ => ?_
  refine thn (hb pins s1 σ H1 _ I1 q1) fun u s2 ⟨y, H2, I2, r2, q2⟩ => ?_
  exact hf v u s2 x y H2 I2 r1 r2 q2
theorem pe_op {op : Operator} {r : R2} (ho : OpR X (binaryOp op) r) (ha : PE X a ta) (hb : PE X b tb) : PE X (.BinOp a op b pos) (tOp r ta tb) := by
  intro pins s σ H Q I h
  exact wpAny_BinOp (binT ha hb I h fun v u s2 x y H2 I2 rx ry q => ho pins s2 σ H2 x y v u Q I2 rx ry q)
theorem pe_un {op : UnaryOp} {r : V -> Hp -> VK -> Prop} (ho : UnR X (unaryOp op) r) (ha : PE X a ta) : PE X (.UnaryOp op a pos) (tUn r ta) := by
  intro pins s σ H Q I h
  exact UnaryOp_ (thn (ha pins s σ H _ I h) fun v s1 ⟨x, H1, I1, r1, q1⟩ => ho pins s1 σ H1 x v Q I1 r1 q1)
theorem opI {f : Value -> Value -> Sem Value} {C : Int -> Int -> Prop} {g : Int -> Int -> Int}
    (rule : ∀ (i j : Int) (t u : Tok) (s : Shared) (Q : Value -> Shared -> Prop) (E : Value -> Shared -> Prop), C i j -> Q (.int (g i j) s.toks) { s with toks := s.toks + 1 } -> wpAny (model X.prog X.w) X.A (f (.int i t) (.int j u)) Q E s) :
    OpR X f (rI C fun i j => .int (g i j)) := by
  intro pins s σ H x y v u Q I rx ry h
  obtain ⟨i, j, rfl, rfl, hc, q⟩ := h
  obtain ⟨t, rfl⟩ := rx
  obtain ⟨t', rfl⟩ := ry
  exact rule i j t t' s _ _ hc ⟨.int (g i j), H, I.tok _, ⟨_, rfl⟩, q⟩
theorem opI0 {f : Value -> Value -> Sem Value} {g : Int -> Int -> Int}
    (rule : ∀ (i j : Int) (t u : Tok) (s : Shared) (Q : Value -> Shared -> Prop) (E : Value -> Shared -> Prop), Q (.int (g i j) s.toks) { s with toks := s.toks + 1 } -> wpAny (model X.prog X.w) X.A (f (.int i t) (.int j u)) Q E s) :
    OpR X f (rI0 fun i j => .int (g i j)) := by
  intro pins s σ H x y v u Q I rx ry h
  obtain ⟨i, j, rfl, rfl, q⟩ := h
  obtain ⟨t, rfl⟩ := rx
  obtain ⟨t', rfl⟩ := ry
  exact rule i j t t' s _ _ ⟨.int (g i j), H, I.tok _, ⟨_, rfl⟩, q⟩
theorem opB0 {f : Value -> Value -> Sem Value} {g : Int -> Int -> Bool}
    (rule : ∀ (i j : Int) (t u : Tok) (s : Shared) (Q : Value -> Shared -> Prop) (E : Value -> Shared -> Prop), Q (.bool (g i j)) s -> wpAny (model X.prog X.w) X.A (f (.int i t) (.int j u)) Q E s) :
    OpR X f (rI0 fun i j => .bl (g i j)) := by
  intro pins s σ H x y v u Q I rx ry h
  obtain ⟨i, j, rfl, rfl, q⟩ := h
  obtain ⟨t, rfl⟩ := rx
  obtain ⟨t', rfl⟩ := ry
  exact rule i j t t' s _ _ ⟨.bl (g i j), H, I, rfl, q⟩
def CDiv (i j : Int) : Prop := 0 < j /\ j < 1073741824
def CPow (i j : Int) : Prop := 0 <= j /\ j <= 1000000 /\ i.natAbs < 2 ^ 64
def CMul (i j : Int) : Prop := (-(2 ^ 64) < i /\ i < 2 ^ 64) \/ (-(2 ^ 64) < j /\ j < 2 ^ 64)
theorem CMul.ok {i j : Int} (h : CMul i j) : IntMulOk i j := by
  rcases h with ⟨h1, h2⟩ | ⟨h1, h2⟩
  · exact .of_left (intBits_le_64 h1 h2)
  · exact .of_right (intBits_le_64 h1 h2)
theorem op_add : OpR X (binaryOp .Add) (rI0 fun i j => .int (i + j)) := opI0 fun _ _ _ _ _ _ _ q => add_int q
theorem op_sub : OpR X (binaryOp .Sub) (rI0 fun i j => .int (i - j)) := opI0 fun _ _ _ _ _ _ _ q => sub_int q
theorem op_mul : OpR X (binaryOp .Mult) (rI CMul fun i j => .int (i * j)) := opI fun _ _ _ _ _ _ _ hc q => mul_int q hc.ok
theorem op_fdiv : OpR X (binaryOp .FloorDiv) (rI CDiv fun i j => .int (i / j)) := opI fun i j _ _ _ _ _ hc q => by
  have h1 : (0 : Int) < j := hc.1
  have h2 : j < 1073741824 := hc.2
  exact floordiv_int (by omega) (by rw [Int.fdiv_eq_ediv_of_nonneg i (by omega)]; exact q) (.inl (PyProof.noPylong_small (by omega)))
theorem op_mod : OpR X (binaryOp .Mod) (rI (fun _ j => 0 < j) fun i j => .int (i % j)) := opI fun i j _ _ _ _ _ hc q => by
  have h1 : (0 : Int) < j := hc
  exact mod_int' (by omega) (by rw [Int.fmod_eq_emod_of_nonneg i (by omega)]; exact q)
theorem op_modN : OpR X (binaryOp .Mod) (rI (fun _ j => j ≠ 0) fun i j => .int (i.fmod j)) := opI fun _ _ _ _ _ _ _ hc q => mod_int' hc q
theorem op_pow : OpR X (binaryOp .Pow) (rI CPow fun i j => .int (i ^ j.toNat)) := opI fun _ _ _ _ _ _ _ hc q => pow_int_small hc.1 hc.2.1 hc.2.2 q
theorem unI {f : Value -> Sem Value} {g : Int -> Int}
    (rule : ∀ (i : Int) (t : Tok) (s : Shared) (Q : Value -> Shared -> Prop) (E : Value -> Shared -> Prop), Q (.int (g i) s.toks) { s with toks := s.toks + 1 } -> wpAny (model X.prog X.w) X.A (f (.int i t)) Q E s) :
    UnR X f (rU fun i => .int (g i)) := by
  intro pins s σ H x v Q I rx h
  obtain ⟨i, rfl, q⟩ := h
  obtain ⟨t, rfl⟩ := rx
  exact rule i t s _ _ ⟨.int (g i), H, I.tok _, ⟨_, rfl⟩, q⟩
theorem un_neg : UnR X (unaryOp .USub) (rU fun i => .int (-i)) := unI fun _ _ _ _ _ q => neg_int q
end
def scal : V -> V -> Bool
  | .non, .non => true | .non, .int _ => true | .int _, .non => true | .non, .bl _ => true | .bl _, .non => true | .non, .str _ => true | .str _, .non => true
  | .int _, .int _ => true | .bl _, .bl _ => true | .str _, .str _ => true | .byt _, .byt _ => true
  | .int _, .str _ => true | .str _, .int _ => true | .bl _, .str _ => true | .str _, .bl _ => true
  | _, _ => false
def rEq : R2 := fun x y H Q => scal x y = true /\ Q (.bl (decide (x = y))) H
def rNe : R2 := fun x y H Q => scal x y = true /\ Q (.bl (!decide (x = y))) H
theorem dec_int {i j : Int} : decide (V.int i = V.int j) = (i == j) := by
  rw [Bool.eq_iff_iff]
  simp
theorem dec_bl {i j : Bool} : decide (V.bl i = V.bl j) = (i == j) := by
  rw [Bool.eq_iff_iff]
  simp
theorem dec_str {i j : Str} : decide (V.str i = V.str j) = (i == j) := by
  rw [Bool.eq_iff_iff]
  simp
theorem dec_byt {i j : Array UInt8} : decide (V.byt i = V.byt j) = (i.toList == j.toList) := by
  rw [Bool.eq_iff_iff]
  cases i
  cases j
  simp
section
variable {X : Cx} {a b c : Expr} {ta tb tc : TE} {pos : Pos}
theorem fin_bl {pins : List (Addr × Obj)} {σ : St} {H : Hp} {s : Shared} {Q : VK} {k k' : Bool} (I : Inv X pins σ H s) (q : Q (.bl k) H) (e : k = k') : EP X pins σ Q (.bool k') s := by
  subst e
  exact ⟨.bl k, H, I, rfl, q⟩
theorem op_eq : OpR X (compareOp .Eq) rEq := by
  intro pins s σ H x y v u Q I rx ry h
  obtain ⟨hs, q⟩ := h
  cases x with
  | non =>
    cases rx
    cases y with
    | non => cases ry; exact PySem.EqNone.eq_none_none (fin_bl I q (by simp))
    | bl j => cases ry; exact PySem.EqNone.eq_none_bool (fin_bl I q (by simp))
    | int j => obtain ⟨t', rfl⟩ := ry; exact PySem.EqNone.eq_none_int (fin_bl I q (by simp))
    | str j => obtain ⟨t', rfl⟩ := ry; exact PySem.EqNone.eq_none_str (fin_bl I q (by simp))
    | _ => exact absurd (show false = true from hs) Bool.false_ne_true
  | bl i =>
    cases rx
    cases y with
    | non => cases ry; exact PySem.EqNone.eq_bool_none (fin_bl I q (by simp))
    | bl j => cases ry; exact eq_bool (fin_bl I q dec_bl)
    | str j => obtain ⟨t', rfl⟩ := ry; exact PySem.EqMixed.eq_bool_str (fin_bl I q (by simp))
    | _ => exact absurd (show false = true from hs) Bool.false_ne_true
  | int i =>
    obtain ⟨t, rfl⟩ := rx
    cases y with
    | non => cases ry; exact PySem.EqNone.eq_int_none (fin_bl I q (by simp))
    | int j => obtain ⟨t', rfl⟩ := ry; exact eq_int (fin_bl I q dec_int)
    | str j => obtain ⟨t', rfl⟩ := ry; exact PySem.EqMixed.eq_int_str (fin_bl I q (by simp))
    | _ => exact absurd (show false = true from hs) Bool.false_ne_true
  | str i =>
    obtain ⟨t, rfl⟩ := rx
    cases y with
    | non => cases ry; exact PySem.EqNone.eq_str_none (fin_bl I q (by simp))
    | bl j => cases ry; exact PySem.EqMixed.eq_str_bool (fin_bl I q (by simp))
    | int j => obtain ⟨t', rfl⟩ := ry; exact PySem.EqMixed.eq_str_int (fin_bl I q (by simp))
    | str j => obtain ⟨t', rfl⟩ := ry; exact eq_str (fin_bl I q dec_str)
    | _ => exact absurd (show false = true from hs) Bool.false_ne_true
  | byt i =>
    obtain ⟨t, rfl⟩ := rx
    cases y with
    | byt j => obtain ⟨t', rfl⟩ := ry; exact PySem.W.eq_bytes (fin_bl I q dec_byt)
    | _ => exact absurd (show false = true from hs) Bool.false_ne_true
  | _ => cases y <;> exact absurd (show false = true from hs) Bool.false_ne_true
theorem op_ne : OpR X (compareOp .NotEq) rNe := by
  intro pins s σ H x y v u Q I rx ry h
  obtain ⟨hs, q⟩ := h
  cases x with
  | non =>
    cases rx
    cases y with
    | non => cases ry; exact PySem.EqNone.ne_none_none (fin_bl I q (by simp))
    | bl j => cases ry; exact PySem.EqNone.ne_none_bool (fin_bl I q (by simp))
    | int j => obtain ⟨t', rfl⟩ := ry; exact PySem.EqNone.ne_none_int (fin_bl I q (by simp))
    | str j => obtain ⟨t', rfl⟩ := ry; exact PySem.EqNone.ne_none_str (fin_bl I q (by simp))
    | _ => exact absurd (show false = true from hs) Bool.false_ne_true
  | bl i =>
    cases rx
    cases y with
    | non => cases ry; exact PySem.EqNone.ne_bool_none (fin_bl I q (by simp))
    | bl j => cases ry; exact ne_bool (fin_bl I q (congrArg not dec_bl))
    | str j => obtain ⟨t', rfl⟩ := ry; exact PySem.EqMixed.ne_bool_str (fin_bl I q (by simp))
    | _ => exact absurd (show false = true from hs) Bool.false_ne_true
  | int i =>
    obtain ⟨t, rfl⟩ := rx
    cases y with
    | non => cases ry; exact PySem.EqNone.ne_int_none (fin_bl I q (by simp))
    | int j => obtain ⟨t', rfl⟩ := ry; exact ne_int (fin_bl I q (congrArg not dec_int))
    | str j => obtain ⟨t', rfl⟩ := ry; exact PySem.EqMixed.ne_int_str (fin_bl I q (by simp))
    | _ => exact absurd (show false = true from hs) Bool.false_ne_true
  | str i =>
    obtain ⟨t, rfl⟩ := rx
    cases y with
    | non => cases ry; exact PySem.EqNone.ne_str_none (fin_bl I q (by simp))
    | bl j => cases ry; exact PySem.EqMixed.ne_str_bool (fin_bl I q (by simp))
    | int j => obtain ⟨t', rfl⟩ := ry; exact PySem.EqMixed.ne_str_int (fin_bl I q (by simp))
    | str j => obtain ⟨t', rfl⟩ := ry; exact ne_str (fin_bl I q (congrArg not dec_str))
    | _ => exact absurd (show false = true from hs) Bool.false_ne_true
  | byt i =>
    obtain ⟨t, rfl⟩ := rx
    cases y with
    | byt j => obtain ⟨t', rfl⟩ := ry; exact PySem.W.ne_bytes (fin_bl I q (congrArg not dec_byt))
    | _ => exact absurd (show false = true from hs) Bool.false_ne_true
  | _ => cases y <;> exact absurd (show false = true from hs) Bool.false_ne_true
theorem op_lt : OpR X (compareOp .Lt) (rI0 fun i j => .bl (decide (i < j))) := opB0 fun _ _ _ _ _ _ _ q => lt_int q
theorem op_le : OpR X (compareOp .LtE) (rI0 fun i j => .bl (decide (i <= j))) := opB0 fun _ _ _ _ _ _ _ q => le_int q
theorem op_ge : OpR X (compareOp .GtE) (rI0 fun i j => .bl (decide (j <= i))) := opB0 fun _ _ _ _ _ _ _ q => ge_int q
theorem OpR.or {f : Value -> Value -> Sem Value} {r r' : R2} (h : OpR X f r) (h' : OpR X f r') : OpR X f (fun x y H Q => r x y H Q \/ r' x y H Q) := by
  intro pins s σ H x y v u Q I rx ry q
  rcases q with q | q
  · exact h pins s σ H x y v u Q I rx ry q
  · exact h' pins s σ H x y v u Q I rx ry q
theorem nomark (b : Expr) {op : CmpOp} (h : op ≠ .In := by decide) (h2 : op ≠ .NotIn := by decide) : behindInMarks op b = false := by
  have e1 : (op == CmpOp.In) = false := by cases op <;> first | rfl | exact absurd rfl h
  have e2 : (op == CmpOp.NotIn) = false := by cases op <;> first | rfl | exact absurd rfl h2
  cases b <;> simp [behindInMarks, e1, e2]
theorem pe_cmpR {op : CmpOp} {r : R2} (ho : OpR X (compareOp op) r) (ha : PE X a ta) (hb : PE X b tb) (hm : behindInMarks op b = false) : PE X (.Compare a [op] [b] pos) (tOp r ta tb) := by
  intro pins s σ H Q I h
  exact wpAny_Compare1 (binT ha hb I h fun v u s2 x y H2 I2 rx ry q => ho pins s2 σ H2 x y v u Q I2 rx ry q) hm
def tTest (t : TE) : TT := fun σ H Q => t σ H fun x H' => ∃ k, x = .bl k /\ Q k H'
theorem pt_cmpR {op : CmpOp} {r : R2} (ho : OpR X (compareOp op) r) (ha : PE X a ta) (hb : PE X b tb) (hm : behindInMarks op b = false) : PT X (.Compare a [op] [b] pos) (tTest (tOp r ta tb)) := by
  intro pins s σ H Q I h
  refine wpAny_isTrue_Compare1 (thn (ha pins s σ H _ I h) fun v s1 ⟨x, H1, I1, r1, q1⟩ => thn (hb pins s1 σ H1 _ I1 q1) fun u s2 ⟨y, H2, I2, r2, q2⟩ =>
    thn (ho pins s2 σ H2 x y v u _ I2 r1 r2 q2) fun c s3 ⟨z, H3, I3, r3, k, e, q3⟩ => ?_) hm
  subst e
  cases r3
  exact wpAny_truthy_bool ⟨H3, I3, q3⟩
def tChain (r r' : R2) (ta tb tc : TE) : TE := fun σ H Q => ta σ H fun x H1 => tb σ H1 fun y H2 => r x y H2 fun z H3 => ∃ k, z = .bl k /\
  (if k = true then tc σ H3 fun w' H4 => r' y w' H4 Q else Q (.bl false) H3)
theorem pe_chain {op op' : CmpOp} {r r' : R2} (ho : OpR X (compareOp op) r) (ho' : OpR X (compareOp op') r') (ha : PE X a ta) (hb : PE X b tb) (hc : PE X c tc)
    (hm : lastMarks [op, op'] [b, c] = false := by with_unfolding_all rfl) : PE X (.Compare a [op, op'] [b, c] pos) (tChain r r' ta tb tc) := by
  intro pins s σ H Q I h
  refine Compare_chain (thn (ha pins s σ H _ I h) fun v s1 ⟨x, H1, I1, r1, q1⟩ => chain_link (thn (hb pins s1 σ H1 _ I1 q1) fun u s2 ⟨y, H2, I2, r2, q2⟩ =>
    thn (ho pins s2 σ H2 x y v u _ I2 r1 r2 q2) fun d s3 ⟨z, H3, I3, r3, k, e, q3⟩ => ?_)) hm
  subst e
  cases r3
  refine wpAny_truthy_bool ?_
  cases k with
  | false => exact ite_ff ⟨.bl false, H3, I3, rfl, q3⟩
  | true => exact ite_tt (chain_last (thn (hc pins s3 σ H3 _ I3 q3) fun w' s4 ⟨z', H4, I4, r4, q4⟩ => ho' pins s4 σ H4 y z' u w' Q I4 r2 r4 q4))
theorem line63 : (sizeLine : Nat) < 2 ^ 63 := by rw [sizeLine_eq]; decide
theorem op_add_str : OpR X (binaryOp .Add) (fun x y H Q => ∃ i j, x = .str i /\ y = .str j /\ i.length + j.length <= sizeLine /\ Q (.str (i ++ j)) H) := by
  intro pins s σ H x y v u Q I rx ry h
  obtain ⟨i, j, rfl, rfl, hz, q⟩ := h
  obtain ⟨t, rfl⟩ := rx
  obtain ⟨t', rfl⟩ := ry
  exact add_str (fun t' tk => ⟨.str (i ++ j), H, I.tok _, ⟨_, rfl⟩, q⟩) hz
theorem vals1 {x : V} {us : List Value} (r : Vals [x] us) : ∃ u, us = [u] /\ RelV x u := by
  cases r with
  | cons r1 r2 => cases r2; exact ⟨_, rfl, r1⟩
theorem vals2 {x y : V} {us : List Value} (r : Vals [x, y] us) : ∃ u w', us = [u, w'] /\ RelV x u /\ RelV y w' := by
  cases r with
  | cons r1 r2 =>
    cases r2 with
    | cons r3 r4 => cases r4; exact ⟨_, _, rfl, r1, r3⟩
theorem call_abs : CallR X (.builtin "abs") (fun xs H Q => ∃ i, xs = [.int i] /\ Q (.int (if i < 0 then -i else i)) H) := by
  intro pins s σ H xs us Q I r h
  obtain ⟨i, rfl, q⟩ := h
  obtain ⟨u, rfl, t, rfl⟩ := vals1 r
  exact call_abs_int fun u tk => ⟨.int (if i < 0 then -i else i), H, I.tok _, ⟨_, rfl⟩, q⟩
theorem call_int1 : CallR X (.type "int") (fun xs H Q => (∃ i, xs = [.int i] /\ Q (.int i) H) \/ ∃ k, xs = [.bl k] /\ Q (.int (if k then 1 else 0)) H) := by
  intro pins s σ H xs us Q I r h
  rcases h with ⟨i, rfl, q⟩ | ⟨k, rfl, q⟩
  · obtain ⟨u, rfl, t, rfl⟩ := vals1 r
    exact call_int_int ⟨.int i, H, I, ⟨_, rfl⟩, q⟩
  · obtain ⟨u, rfl, r1⟩ := vals1 r
    cases r1
    exact call_int_bool ⟨.int (if k then 1 else 0), H, I.tok _, ⟨_, rfl⟩, q⟩
end
end L2
namespace L2
open PySem PySem.Spec PyProof.Rows
structure ObjM (h : Heap) (x dx C : Addr) (mA : Str -> Option Value) : Prop where
  obj : h.get? x = some (PySem.W.instObj C dx)
  ns : h.Ns1 dx mA
  ne : dx ≠ x
theorem lookIn_ns {h : Heap} {dx : Addr} {mA : Str -> Option Value} (n : h.Ns1 dx mA) : ∃ od, h.get? dx = some od /\ ∀ name, PySem.W.lookIn name od = some (mA name) := by
  obtain ⟨o, es, ep, ho, hd, hk, _, hm⟩ := n
  refine ⟨o, ho, fun name => ?_⟩
  have e := hm name
  unfold nsFind findBy at e
  rw [<- Array.find?_toList] at e
  unfold PySem.W.lookIn
  rw [hd]
  dsimp only
  split
  · rename_i y q
    rw [q] at e
    exact congrArg some e
  · rename_i q
    rw [q] at e
    have a : es.toList.any (·.refKey) = false := by
      rw [List.any_eq_false]
      intro y hy
      obtain ⟨z, t, hkey⟩ := hk y (Array.mem_toList_iff.mp hy)
      simp [DictEntry.refKey, hkey]
    have a' : ¬ es.toList.any (·.refKey) = true := by rw [a]; exact Bool.false_ne_true
    rw [if_neg a']
    exact congrArg some e
theorem ObjM.look {h : Heap} {x dx C : Addr} {mA : Str -> Option Value} (I : ObjM h x dx C mA) : ∃ od, PySem.W.InstAt h x (PySem.W.instObj C dx) C (some od) /\ ∀ name, PySem.W.lookIn name od = some (mA name) :=
  let ⟨od, ho, hl⟩ := lookIn_ns I.ns
  ⟨od, ⟨I.obj, rfl, rfl, ho⟩, hl⟩
section
variable {prog : Program} {w : World} {A : Around} {E : Value -> Shared -> Prop} {s : Shared} {K : PySem.W.Frag} {x dx C f : Addr} {mA : Str -> Option Value} {name : Str} {v : Value}
end
theorem RelO.some_of {v : V} {o : Option Value} (r : RelO (some v) o) : ∃ u, o = some u /\ RelV v u := by
  cases o with
  | none => exact (show False from r).elim
  | some u => exact ⟨u, rfl, r⟩
theorem handed_of {v : V} {u : Value} (r : RelV v u) : PySem.W.handedIn u = true := by
  cases v with
  | non => cases (show u = Value.none from r); rfl
  | bl b => cases (show u = Value.bool b from r); rfl
  | int i => obtain ⟨t, e⟩ := (show ∃ t, u = Value.int i t from r); cases e; rfl
  | str x => obtain ⟨t, e⟩ := (show ∃ t, u = Value.str x t from r); cases e; rfl
  | byt b => obtain ⟨t, e⟩ := (show ∃ t, u = Value.bytes b t from r); cases e; rfl
  | flt b => obtain ⟨t, e⟩ := (show ∃ t, u = Value.float b t from r); cases e; rfl
  | ref a => cases (show u = Value.ref a from r); rfl
  | ty n => cases (show u = Value.type n from r); rfl
section
variable {P : Program} {w : World} {H H' : Hp} {h h' : Heap} {a C dx : Addr} {fs fs' : List (Str × V)}
theorem ins_get (hok : HOk P w H h) (e : H a = some (.ins C dx fs)) : ∃ mA, ObjM h a dx C mA /\ (∀ f, RelO (fs.lookup f) (mA f)) /\ PySem.Within mA (fs.map (·.1)) /\ fs.length <= 1000 /\ H dx = some (.own a) := by
  obtain ⟨d, z, ne, ob, mA, n, r, q⟩ := (show ObjOk P w H h a (.ins C dx fs) from hok a _ e)
  exact ⟨mA, ⟨ob, n, ne⟩, r, q, z, d⟩
end
structure Cls (K : PySem.W.Frag) (C : Addr) : Prop where
  pg : PySem.W.plainGet K C Str.empty = true
  hd : PySem.W.hasDictIn K C = true
  po : PySem.W.plainOver K C = true
  sa : PySem.W.findIn K (.ref C) "__setattr__" = some (some (.builtin "object.__setattr__"))
theorem Cls.get {K : PySem.W.Frag} {C : Addr} (c : Cls K C) (f : Str) : PySem.W.plainGet K C f = true := c.pg
structure Con (K : PySem.W.Frag) (C : Addr) (f : Str) (v : V) (u : Value) : Prop where
  at_ : PySem.W.findIn K (.ref C) f = some (some u)
  rel : RelV v u
  get : PySem.W.specialIn K u "__get__" = some none
  cp : PySem.W.copiedNames.contains f = false
structure Meth (K : PySem.W.Frag) (C : Addr) (m : Str) (f : Addr) : Prop where
  at_ : PySem.W.findIn K (.ref C) m = some (some (.ref f))
  fn : PySem.W.isFn K (.ref f) = true
  kp : PySem.W.keepIn K (.ref f) = true
section
variable {X : Cx} {pins : List (Addr × Obj)} {σ : St} {H : Hp} {s : Shared} {a C dx : Addr} {fs : List (Str × V)} {f : Str} {v : V} {A : Around} {E : Value -> Shared -> Prop}
theorem Inv.made (I : Inv X pins σ H s) : Inv X pins σ (upd (upd H s.heap.objs.size (.own (s.heap.objs.size + 1))) (s.heap.objs.size + 1) (.ins C s.heap.objs.size []))
    { s with heap := (s.heap.push PySem.W.emptyDict).push (PySem.W.instObj C s.heap.objs.size) } := by
  have e1 : (s.heap.push PySem.W.emptyDict).get? s.heap.objs.size = some PySem.W.emptyDict := Heap.get?_push_size s.heap rfl
  have e2 : ((s.heap.push PySem.W.emptyDict).push (PySem.W.instObj C s.heap.objs.size)).get? (s.heap.objs.size + 1) = some (PySem.W.instObj C s.heap.objs.size) := by
    have := Heap.get?_push_size (s.heap.push PySem.W.emptyDict) (o := PySem.W.instObj C s.heap.objs.size) rfl
    rwa [Heap.size_push] at this
  have e3 : (s.heap.push PySem.W.emptyDict).Ns s.heap.objs.size (fun _ => none) := ⟨PySem.W.emptyDict, #[], _, e1, rfl, (fun e he => absurd he (by simp)), fun _ => rfl⟩
  have I1 := I.laid (a := s.heap.objs.size) (o := .own (s.heap.objs.size + 1)) (h' := s.heap.push PySem.W.emptyDict) (t' := s.toks) (fun b u q => Heap.get?_push_of_some _ q) (Nat.le_refl _) ⟨_, e1⟩
  refine I1.laid (a := s.heap.objs.size + 1) (o := .ins C s.heap.objs.size []) (t' := s.toks) (fun b u q => Heap.get?_push_of_some _ q) (Nat.le_of_eq (Heap.size_push _ _)) ?_
  have ne : s.heap.objs.size ≠ s.heap.objs.size + 1 := Nat.ne_of_lt (Nat.lt_succ_self _)
  refine ⟨by rw [upd_ne ne, upd_same], Nat.zero_le _, ne, e2, fun _ => none, (Heap.Ns1.of_empty e3).at fun o q => Heap.get?_push_of_some _ q, fun _ => True.intro, fun y hy => absurd rfl hy⟩
theorem attr_of {prog : Program} {w : World} {env : Env} {e : Expr} {f : Str} {pos : Pos} {s : Shared} {Q : Value -> Shared -> Prop} (hb : attributeBase e f env (eval e env) = eval e env)
    (h : wpAny (model prog w) A (eval e env) (fun o s₁ => wpAny (model prog w) A (getAttr o f true) Q E s₁) E s) : wpAny (model prog w) A (eval (.Attribute e f pos) env) Q E s :=
  Attribute_any_ h (by rw [arm_eval_Attribute, hb])
end
section
variable {X : Cx} {o e value : Expr} {f : Str} {pos pos' tpos : Pos} {ta tv : TE}
end
section
variable {X : Cx} {pins : List (Addr × Obj)} {σ : St} {H : Hp} {s : Shared} {A : Around} {E : Value -> Shared -> Prop} {Q : Value -> Shared -> Prop} {c : Value} {b : Bool}
inductive TyOf (K : PySem.W.Frag) (H : Hp) : V -> Value -> Prop where
  | non : TyOf K H .non (.type "NoneType")
  | bl (x : Bool) : TyOf K H (.bl x) (.type "bool")
  | int (i : Int) : TyOf K H (.int i) (.type "int")
  | str (x : Str) : TyOf K H (.str x) (.type "str")
  | flt (x : UInt64) : TyOf K H (.flt x) (.type "float")
  | lst {a : Addr} {xs : List V} (e : H a = some (.lst xs)) : TyOf K H (.ref a) (.type "list")
  | frz {a : Addr} {o : Obj} {xs : List V} (e : H a = some (.frz o (.lst xs))) : TyOf K H (.ref a) (.type "list")
  | tup {a : Addr} {xs : List V} (e : H a = some (.tup xs)) : TyOf K H (.ref a) (.type "tuple")
  | dK {a : Addr} {kvs : List (Key × V)} (e : H a = some (.dK kvs)) : TyOf K H (.ref a) (.type "dict")
  | dT {a : Addr} {kvs : List (List Key × V)} (e : H a = some (.dT kvs)) : TyOf K H (.ref a) (.type "dict")
  | ins {a C dx : Addr} {fs : List (Str × V)} (e : H a = some (.ins C dx fs)) (cl : Cls K C) (ha : PySem.W.findIn K (.ref C) "__class__" = some (some (.builtin "object.__class__")))
      (hn : PySem.W.specialIn K (.builtin "object.__class__") "__get__" = some (some (.builtin "getset_descriptor.__get__"))) (htk : PySem.W.takesIn K (.builtin "object.__class__") = some true)
      (hm : PySem.W.mroIn K C (.type "object") = some true) : TyOf K H (.ref a) (.ref C)
theorem isinst_ok {x : V} {u t : Value} (I : Inv X pins σ H s) (rx : RelV x u) (ty : TyOf X.K H x t) (e : PySem.W.kitOne X.K t c = some b) (h : ∀ tk, Q (.bool b) { s with toks := tk }) :
    wpAny (model X.prog X.w) A (call (.builtin "isinstance") [u, c]) Q E s := by
  cases ty with
  | non => cases (show u = Value.none from rx); exact PySem.W.kia_one PySem.W.kitx_none I.kIn True.intro e (fun z => nomatch z) h
  | bl y => cases (show u = Value.bool y from rx); exact PySem.W.kia_one PySem.W.kitx_bool I.kIn True.intro e (fun z => nomatch z) h
  | int i => obtain ⟨t, q⟩ := (show ∃ t, u = Value.int i t from rx); cases q; exact PySem.W.kia_one PySem.W.kitx_int I.kIn True.intro e (fun z => nomatch z) h
  | str y => obtain ⟨t, q⟩ := (show ∃ t, u = Value.str y t from rx); cases q; exact PySem.W.kia_one PySem.W.kitx_str I.kIn True.intro e (fun z => nomatch z) h
  | flt y => obtain ⟨t, q⟩ := (show ∃ t, u = Value.float y t from rx); cases q; exact PySem.W.kia_one PySem.W.kitx_float I.kIn True.intro e (fun z => nomatch z) h
  | @lst a xs ea =>
    cases (show u = Value.ref a from rx)
    obtain ⟨_, _, n, _, h1⟩ := (show ObjOk X.prog X.w H s.heap a (.lst xs) from I.hok a _ ea)
    exact PySem.W.kia_one PySem.W.kitx_list I.kIn ⟨_, h1, rfl⟩ e (fun z => nomatch z) h
  | @frz a ob xs ea =>
    cases (show u = Value.ref a from rx)
    obtain ⟨_, _, _, n, _, h1⟩ := (show ObjOk X.prog X.w H s.heap a (.frz ob (.lst xs)) from I.hok a _ ea)
    exact PySem.W.kia_one PySem.W.kitx_list I.kIn ⟨_, h1, rfl⟩ e (fun z => nomatch z) h
  | @tup a xs ea =>
    cases (show u = Value.ref a from rx)
    obtain ⟨_, _, _, p⟩ := (show ObjOk X.prog X.w H s.heap a (.tup xs) from I.hok a _ ea)
    obtain ⟨o, h1, h2, _⟩ := p
    exact PySem.W.kia_one PySem.W.kitx_tuple I.kIn ⟨o, h1, h2⟩ e (fun z => nomatch z) h
  | @dK a kvs ea =>
    cases (show u = Value.ref a from rx)
    obtain ⟨_, _, vs, _, p⟩ := (show ObjOk X.prog X.w H s.heap a (.dK kvs) from I.hok a _ ea)
    obtain ⟨o, es, ep, h1, h2, _⟩ := p
    exact PySem.W.kia_one PySem.W.kitx_dict I.kIn ⟨o, h1, h2.1⟩ e (fun z => nomatch z) h
  | @dT a kvs ea =>
    cases (show u = Value.ref a from rx)
    obtain ⟨_, _, xs, _, o, es, ep, h1, h2, _⟩ := (show ObjOk X.prog X.w H s.heap a (.dT kvs) from I.hok a _ ea)
    exact PySem.W.kia_one PySem.W.kitx_dict I.kIn ⟨o, h1, h2.1⟩ e (fun z => nomatch z) h
  | @ins a C dx fs ea cl ha hn htk hm =>
    cases (show u = Value.ref a from rx)
    obtain ⟨mA, O, _⟩ := ins_get I.hok ea
    obtain ⟨od, J, _⟩ := O.look
    exact PySem.W.kia_one (PySem.W.kitx_own (cl.get _) cl.hd ha hn htk hm) I.kIn J e (fun z => nomatch z) h
end
end L2
namespace L2
open PySem PySem.Spec PyProof.Rows
structure Room (k : Nat) (A : Around) : Prop where
  hd : A.handled = none
  dp : A.depth + 3 * k + 5 < recursionLimit
  un : A.units + 16 * k + 200 < cLine
theorem Room.mono {j k : Nat} {A : Around} (r : Room k A) (h : j <= k) : Room j A := ⟨r.hd, by have := r.dp; omega, by have := r.un; omega⟩
theorem Room.deeper {k : Nat} {A : Around} (r : Room (k + 1) A) (env : Env) : Room k (A.deeper env) :=
  ⟨r.hd, by have := r.dp; show A.depth + 1 + 3 * k + 5 < _; omega, by have := r.un; show A.units + 3 + 16 * k + 200 < _; omega⟩
theorem Room.in1 {k : Nat} {A : Around} (r : Room (k + 1) A) : Room k A.in1 :=
  ⟨r.hd, by have := r.dp; show A.depth + 3 * k + 5 < _; omega, by have := r.un; show A.units + 1 + 16 * k + 200 < _; omega⟩
theorem make_depth {A : Around} {C : Addr} {us : List Value} {kw : List (Str × Value)} : (A.under (.builtin "type.__call__" ⟨.ref C :: us, kw⟩)).depth = A.depth + 1 := by
  first | rfl | simp [Around.under, Code.weight, Code.isCreation, Code.isGuard, Code.isCaller, Code.frames, Code.isFrame, guardIds]
theorem make_units {A : Around} {C : Addr} {us : List Value} {kw : List (Str × Value)} : (A.under (.builtin "type.__call__" ⟨.ref C :: us, kw⟩)).units = A.units + 1 := by
  first | rfl | simp [Around.under, Code.cUnits, Code.frames, Code.isFrame]
theorem Room.make {k : Nat} {A : Around} (r : Room (k + 1) A) (C : Addr) (us : List Value) (kw : List (Str × Value)) : Room k (A.under (.builtin "type.__call__" ⟨.ref C :: us, kw⟩)) :=
  ⟨r.hd, by have := r.dp; rw [make_depth]; omega, by have := r.un; rw [make_units]; omega⟩
theorem Room.depth {k : Nat} {A : Around} (r : Room k A) : A.depth < recursionLimit := by have := r.dp; omega
theorem Room.units {k : Nat} {A : Around} (r : Room k A) : A.units + 64 < cLine := by have := r.un; omega
theorem Room.units0 {k : Nat} {A : Around} (r : Room k A) : A.units < cLine := by have := r.un; omega
def tNil : TA := fun _ H Q => Q [] H
def tCons (ta : TE) (tr : TA) : TA := fun σ H Q => ta σ H fun x H1 => tr σ H1 fun xs H2 => Q (x :: xs) H2
section
variable {X : Cx} {e : Expr} {es : List Expr} {te : TE} {t : TA} {pos : Pos}
theorem pa_nil : PA X [] tNil := fun _ _ _ _ H Q I h => Calls.spliced_nil ⟨[], H, I, .nil, h⟩
theorem pa_cons (ha : PE X e te) (hr : PA X es t) (hs : starEach (e :: es) X.env = (false, eval e X.env) :: starEach es X.env := by rfl) : PA X (e :: es) (tCons te t) := by
  intro pos pins s σ H Q I h
  rw [hs]
  show wpAny _ _ (spliced ((false, eval e X.env) :: backTo pos (starEach es X.env))) _ _ s
  refine Calls.spliced_cons (thn (ha pins s σ H _ I h) fun u s1 ⟨x, H1, I1, r1, q1⟩ => ?_)
  exact thn (hr pos pins s1 σ H1 _ I1 q1) fun us s2 ⟨xs, H2, I2, r2, q2⟩ => ⟨x :: xs, H2, I2, .cons r1 r2, q2⟩
def tTup (t : TA) : TE := fun σ H Q => t σ H fun xs H1 => xs.length <= sizeLine /\ ∀ p, H1 p = none -> Q (.ref p) (upd H1 p (.tup xs))
def tLst (t : TA) : TE := fun σ H Q => t σ H fun xs H1 => xs.length <= sizeLine /\ ∀ p, H1 p = none -> Q (.ref p) (upd H1 p (.lst xs))
theorem pe_tup {x1} (h : PA X es t) : PE X (.Tuple es x1 pos) (tTup t) := by
  intro pins s σ H Q I hq
  refine wpAny_Tuple_spliced (thn (h pos pins s σ H _ I hq) fun us s1 ⟨xs, H1, I1, r, z, q⟩ => ⟨by rw [<- r.length]; exact z, ?_⟩)
  have hf : H1 s1.heap.objs.size = none := I1.hok.fresh (Nat.le_refl _)
  refine ⟨.ref s1.heap.objs.size, upd H1 s1.heap.objs.size (.tup xs), I1.laid (t' := s1.toks) (fun b u e => Heap.get?_push_of_some _ e) (Nat.le_refl _) ?_, rfl, q _ hf⟩
  exact ⟨z, us, r, ⟨_, Heap.get?_push_size _ rfl, rfl, _, rfl⟩⟩
theorem pe_lst (h : PA X es t) : PE X (.List es pos) (tLst t) := by
  intro pins s σ H Q I hq
  refine wpAny_List_spliced (thn (h pos pins s σ H _ I hq) fun us s1 ⟨xs, H1, I1, r, z, q⟩ => ⟨by rw [<- r.length]; exact z, ?_⟩)
  have hf : H1 s1.heap.objs.size = none := I1.hok.fresh (Nat.le_refl _)
  refine ⟨.ref s1.heap.objs.size, upd H1 s1.heap.objs.size (.lst xs), I1.laid (t' := s1.toks) (fun b u e => Heap.get?_push_of_some _ e) (Nat.le_refl _) ?_, rfl, q _ hf⟩
  exact ⟨z, us, 0, r, Heap.get?_push_size _ rfl⟩
end
abbrev Sp := List V -> Hp -> VK -> XK -> Prop
abbrev CXT := List Env -> Hp -> Shared -> XK -> Value -> Shared -> Prop
structure Env0 (P : Program) (w : World) (K : PySem.W.Frag) (mg : Str -> Option Value) (base : Heap) (A : Around) (outer : List Env) (s : Shared) (H : Hp) : Prop where
  frames : A.frames = some outer
  mod : Mod K mg base
  bs : ∀ b o, base.get? b = some o -> s.heap.get? b = some o /\ H b = none
  bsz : base.objs.size <= s.heap.objs.size
  funs : s.heap.FunFrames base outer
  frf : ∀ b ∈ frs outer, H b = none
  hok : HOk P w H s.heap
  bare : AllBare s.gens
def CE (outer : List Env) (P : Program) (w : World) (H : Hp) (s : Shared) (Q : VK) (u : Value) (s' : Shared) : Prop :=
  ∃ v H', s'.os = s.os /\ AllBare s'.gens /\ Un (frs outer) [] H H' s.heap s'.heap /\ HOk P w H' s'.heap /\ RelV v u /\ Q v H'
def CR (CX : CXT) (outer : List Env) (P : Program) (w : World) (H : Hp) (s : Shared) (Q : VK) (E : XK) (r : Result) (s' : Shared) : Prop :=
  match r with
  | .ok (.ret u) => CE outer P w H s Q u s'
  | .ok _ => False
  | .error e => CX outer H s E e s'
structure FnOk (P : Program) (w : World) (K : PySem.W.Frag) (mg : Str -> Option Value) (base : Heap) (CX : CXT) (k : Nat) (f : Addr) (fd : FuncData) (ps : List Str) (sp : Sp) : Prop where
  len : ∀ vs H Q E, sp vs H Q E -> vs.length = ps.length
  run : ∀ (A : Around) (outer : List Env) (s : Shared) (H : Hp) (args : Args) (us : List Value) (vs : List V) (Q : VK) (E : XK), Room k A -> Env0 P w K mg base A outer s H -> BindsTo s fd args (ps.zip us) -> Vals vs us -> sp vs H Q E ->
    codeAny (model P w) A (.call (.ref f) args) (CR CX outer P w H s Q E) s
theorem FnOk.mono {P : Program} {w : World} {K : PySem.W.Frag} {mg : Str -> Option Value} {base : Heap} {CX : CXT} {j k : Nat} {f : Addr} {fd : FuncData} {ps : List Str} {sp : Sp} (F : FnOk P w K mg base CX j f fd ps sp) (h : j <= k) :
    FnOk P w K mg base CX k f fd ps sp := ⟨F.len, fun A outer s H args us vs Q E hr => F.run A outer s H args us vs Q E (hr.mono h)⟩
theorem Env0.make {P : Program} {w : World} {K : PySem.W.Frag} {mg : Str -> Option Value} {base : Heap} {A : Around} {outer : List Env} {s : Shared} {H : Hp} (e : Env0 P w K mg base A outer s H) (C : Addr) (us : List Value) (kw : List (Str × Value)) :
    Env0 P w K mg base (A.under (.builtin "type.__call__" ⟨.ref C :: us, kw⟩)) outer s H := ⟨by first | exact e.frames | (simpa [Around.under, Code.envs, Code.isFrame, pushEnvs] using e.frames), e.mod, e.bs, e.bsz, e.funs, e.frf, e.hok, e.bare⟩
theorem Env0.in1 {P : Program} {w : World} {K : PySem.W.Frag} {mg : Str -> Option Value} {base : Heap} {A : Around} {outer : List Env} {s : Shared} {H : Hp} (e : Env0 P w K mg base A outer s H) :
    Env0 P w K mg base A.in1 outer s H := ⟨e.frames, e.mod, e.bs, e.bsz, e.funs, e.frf, e.hok, e.bare⟩
section
variable {X : Cx} {pins : List (Addr × Obj)} {σ : St} {H : Hp} {s s' : Shared}
theorem Inv.env0 (I : Inv X pins σ H s) : Env0 X.prog X.w X.K X.mg X.base X.A X.stack s H :=
  ⟨I.ok.frames, I.ok.mod, I.bs, Nat.le_trans I.ok.bsz I.sz, I.stack, I.stkFree, I.hok, I.bare⟩
theorem Inv.after {Q : VK} {u : Value} (I : Inv X pins σ H s) (h : CE X.stack X.prog X.w H s Q u s') : EP X pins σ Q u s' := by
  obtain ⟨v, H', os, bare, un, hok, r, q⟩ := h
  obtain ⟨hh, g, d, t, os'⟩ := s'
  obtain rfl : os' = s.os := os
  exact ⟨v, H', I.call (h' := hh) (g' := g) (d' := d) (t' := t) (ch := []) un hok bare (fun b z => absurd z (by simp)), r, q⟩
end
def tCall (sp : Sp) (dvs : List V) (E : XK) (t : TA) : TE := fun σ H Q => t σ H fun vs H1 => sp (vs ++ dvs) H1 Q E
def Binds (K : PySem.W.Frag) (fd : FuncData) (ps : List Str) (ds : List Value) : Prop :=
  ∀ (s : Shared) (us : List Value), K.In s.heap -> (us ++ ds).length = ps.length -> BindsTo s fd ⟨us, []⟩ (ps.zip (us ++ ds))
theorem Binds.all {K : PySem.W.Frag} {fd : FuncData} {ps : List Str} (h : ∀ us : List Value, us.length = ps.length -> bindArgs fd ⟨us, []⟩ = pure (ps.zip us)) : Binds K fd ps [] := fun s us _ hl => by
  rw [List.append_nil] at hl ⊢
  exact .of_eq (h us hl)
def Passes (CX : CXT) (X : Cx) (E : XK) : Prop := ∀ (pins : List (Addr × Obj)) (σ : St) (H : Hp) (s : Shared) (e : Value) (s' : Shared), Inv X pins σ H s -> CX X.stack H s E e s' -> X.xe e s'
section
variable {X : Cx} {CX : CXT} {k : Nat} {f C : Addr} {fd : FuncData} {ps : List Str} {sp : Sp} {dvs : List V} {ds : List Value} {E : XK} {x m : Str} {p pos apos : Pos} {e o : Expr} {es : List Expr} {ta : TE} {t : TA}
theorem run_fn {pins : List (Addr × Obj)} {σ : St} {H : Hp} {s : Shared} {Q : VK} {us : List Value} {vs : List V} (F : FnOk X.prog X.w X.K X.mg X.base CX k f fd ps sp) (hr : Room k X.A) (hb : Binds X.K fd ps ds) (hd : Vals dvs ds) (hx : Passes CX X E)
    (I : Inv X pins σ H s) (r : Vals vs us) (h : sp (vs ++ dvs) H Q E) : wpAny (model X.prog X.w) X.A (call (.ref f) us) (EP X pins σ Q) X.xe s := by
  have r2 : Vals (vs ++ dvs) (us ++ ds) := r.append hd
  have hl : (us ++ ds).length = ps.length := by rw [<- r2.length]; exact F.len _ _ _ _ h
  refine wpAny_call (codeAny_mono (F.run X.A X.stack s H ⟨us, []⟩ (us ++ ds) (vs ++ dvs) Q E hr I.env0 (hb s us I.kIn hl) r2 h) fun r s' hq => ?_)
  cases r with
  | error e => exact hx pins σ H s e s' I hq
  | ok fl =>
    cases fl with
    | ret u => exact I.after hq
    | next => exact False.elim hq
    | brk => exact False.elim hq
    | cont => exact False.elim hq
theorem pe_call (F : FnOk X.prog X.w X.K X.mg X.base CX k f fd ps sp) (hr : Room k X.A) (hg : Gl X x) (hm : X.mg x = some (.ref f)) (hk : PySem.W.keepIn X.K (.ref f) = true) (hb : Binds X.K fd ps ds) (hd : Vals dvs ds) (hx : Passes CX X E)
    (ha : PA X (e :: es) t) (hdb : (x == ("__debug__" : Str)) = false := by decide) (he : starEach (e :: es) X.env = (false, eval e X.env) :: starEach es X.env := by rfl) (hpl : (backTo pos (starEach es X.env)).any (·.1) = false := by rfl) :
    PE X (.Call (.Name x p) (e :: es) [] pos) (tCall sp dvs E t) := by
  intro pins s σ H Q I h
  refine wpAny_Call_Name_kw (ld_glob I hg hm ?_ hdb)
  refine PySem.W.callWith_K (h₀ := X.base) I.ok.mod.kin hk (thn (ha pos pins s σ H _ I h) fun us s1 ⟨vs, H1, I1, r, q⟩ => ⟨I1.kIn, ?_⟩) he hpl
  exact run_fn F hr hb hd hx I1 r q
structure Mk (K : PySem.W.Frag) (C f : Addr) : Prop where
  makes : PySem.W.makesIn K C = true
  init : PySem.W.findIn K (.ref C) "__init__" = some (some (.ref f))
  fn : PySem.W.isFn K (.ref f) = true
  kp : PySem.W.keepIn K (.ref C) = true
end
section
variable {X : Cx} {CX : CXT} {k : Nat} {f C : Addr} {fd : FuncData} {ps ks : List Str} {sp : Sp} {E : XK} {x m : Str} {p pos apos kpos : Pos} {e o : Expr} {es : List Expr} {kws : List Keyword} {te ta : TE} {t tk : TA} {nm : Option Str}
structure KBinds (K : PySem.W.Frag) (fd : FuncData) (ps ks : List Str) (g : List Value -> List Value -> List Value) (gV : List V -> List V -> List V) : Prop where
  to : ∀ (s : Shared) (us ws : List Value), K.In s.heap -> (g us ws).length = ps.length -> BindsTo s fd ⟨us, ks.zip ws⟩ (ps.zip (g us ws))
  rel : ∀ {vs : List V} {us : List Value} {zs : List V} {ws : List Value}, Vals vs us -> Vals zs ws -> Vals (gV vs zs) (g us ws)
variable {g : List Value -> List Value -> List Value} {gV : List V -> List V -> List V}
end
structure FnScope (N P : List Str) (sc : Scope) : Prop where
  kind : sc.kind = .function
  co : sc.isCoroutine = false
  gen : sc.isGenerator = false
  nd : N.Nodup
  pre : N.take P.length = P
  par : ∀ x ∈ P, sc.names.lookup x = some .local \/ sc.names.lookup x = some .cell
  nofree : ∀ y ∈ sc.names, y.2 ≠ .free
theorem bindL_out {kindOf : Str -> Option NameKind} {x : Str} : ∀ {binds : List (Str × Value)} {m : Str -> Option Value}, (∀ v, (x, v) ∉ binds) -> bindL kindOf binds m x = m x
  | [], _, _ => rfl
  | (n, v) :: r, m, h => by
    unfold bindL
    rw [bindL_out fun w hw => h w (List.mem_cons_of_mem _ hw)]
    split
    · have : x ≠ n := by rintro rfl; exact h v List.mem_cons_self
      simp [this]
    · rfl
theorem bindC_out {kindOf : Str -> Option NameKind} {x : Str} : ∀ {binds : List (Str × Value)} {m : Str -> Option Value}, (∀ v, (x, v) ∉ binds) -> bindC kindOf binds m x = m x
  | [], _, _ => rfl
  | (n, v) :: r, m, h => by
    unfold bindC
    rw [bindC_out fun w hw => h w (List.mem_cons_of_mem _ hw)]
    split
    · rfl
    · have : x ≠ n := by rintro rfl; exact h v List.mem_cons_self
      simp [this]
theorem bindL_get {kindOf : Str -> Option NameKind} {x : Str} {v : Value} : ∀ {P : List Str} {vs : List Value} {i : Nat} {m : Str -> Option Value}, P.Nodup -> P[i]? = some x -> vs[i]? = some v -> kindOf x = some .local ->
    bindL kindOf (P.zip vs) m x = some v
  | [], _, _, _, _, h, _, _ => by simp at h
  | _ :: _, [], _, _, _, _, h, _ => by simp at h
  | p :: P, w :: vs, 0, m, nd, h1, h2, hk => by
    simp at h1 h2; subst h1; subst h2
    show bindL kindOf ((p, w) :: P.zip vs) m p = _
    unfold bindL
    rw [bindL_out fun v hv => (List.nodup_cons.mp nd).1 (List.of_mem_zip hv).1, if_pos hk]
    simp
  | p :: P, w :: vs, i + 1, m, nd, h1, h2, hk => by
    show bindL kindOf ((p, w) :: P.zip vs) m x = _
    unfold bindL
    exact bindL_get (i := i) (List.nodup_cons.mp nd).2 (by simpa using h1) (by simpa using h2) hk
theorem bindC_get {kindOf : Str -> Option NameKind} {x : Str} {v : Value} : ∀ {P : List Str} {vs : List Value} {i : Nat} {m : Str -> Option Value}, P.Nodup -> P[i]? = some x -> vs[i]? = some v -> kindOf x ≠ some .local ->
    bindC kindOf (P.zip vs) m x = some v
  | [], _, _, _, _, h, _, _ => by simp at h
  | _ :: _, [], _, _, _, _, h, _ => by simp at h
  | p :: P, w :: vs, 0, m, nd, h1, h2, hk => by
    simp at h1 h2; subst h1; subst h2
    show bindC kindOf ((p, w) :: P.zip vs) m p = _
    unfold bindC
    rw [bindC_out fun v hv => (List.nodup_cons.mp nd).1 (List.of_mem_zip hv).1, if_neg hk]
    simp
  | p :: P, w :: vs, i + 1, m, nd, h1, h2, hk => by
    show bindC kindOf ((p, w) :: P.zip vs) m x = _
    unfold bindC
    exact bindC_get (i := i) (List.nodup_cons.mp nd).2 (by simpa using h1) (by simpa using h2) hk
def start (N : List Str) (vs : List V) : St := vs.map some ++ List.replicate (N.length - vs.length) none
def cxOf (CX : CXT) (P : Program) (w : World) (K : PySem.W.Frag) (mg : Str -> Option Value) (base : Heap) (N : List Str) (qual : Str) (scope : Scope) (f : Addr) (cd : Value) (A : Around) (outer : List Env) (s : Shared) (H : Hp) (E : XK) : Cx where
  prog := P
  w := w
  K := K
  mg := mg
  base := base
  A := A.deeper (envOfC qual scope s.heap.objs.size f cd)
  N := N
  s₀ := s
  H₀ := H
  env := envOfC qual scope s.heap.objs.size f cd
  outer := outer
  stack := envOfC qual scope s.heap.objs.size f cd :: outer
  ex := []
  calm := true
  fn := fun _ => true
  pn := []
  xe := fun e s' => wpAny (model P w) (A.deeper (envOfC qual scope s.heap.objs.size f cd)) (leaving (envOfC qual scope s.heap.objs.size f cd) e) (fun _ s'' => CX outer H s E e s'') (fun e' s'' => CX outer H s E e' s'') s'
theorem cell_has {sc : Scope} {n : Nat} {x : Str} (h : sc.names.lookup x = some .cell) : ∃ c, (cellsFrom n sc.names []).lookup x = some c := by
  have q := PySem.W.cellsFrom_some sc.names n [] (.inl h)
  exact Option.isSome_iff_exists.mp q
theorem inv_start {CX : CXT} {P : Program} {w : World} {K : PySem.W.Frag} {mg : Str -> Option Value} {base : Heap} {N ps : List Str} {qual : Str} {scope : Scope} {f : Addr} {cd : Value} {A : Around} {outer : List Env} {s s1 : Shared} {H : Hp} {E : XK} {us : List Value} {vs : List V}
    (S : FnScope N ps scope) (hd : A.handled = none) (e0 : Env0 P w K mg base A outer s H) (hl : vs.length = ps.length) (r : Vals vs us)
    (x : InCallC s s.heap.objs.size (bindL (envOfC qual scope s.heap.objs.size f cd).kindOf (ps.zip us) fun _ => none) (cellsFrom (s.heap.objs.size + 1) scope.names []) (bindC (envOfC qual scope s.heap.objs.size f cd).kindOf (ps.zip us) fun _ => none) s1) :
    Inv (cxOf CX P w K mg base N qual scope f cd A outer s H E) [] (start N vs) H s1 := by
  have hpl : ps.length <= N.length := by have := congrArg List.length S.pre; rw [List.length_take] at this; omega
  obtain ⟨h1, tk, rfl, hk⟩ := x.done
  have noA : ∀ b : Addr, b ∉ (cxOf CX P w K mg base N qual scope f cd A outer s H E).ex := fun b z => absurd (show b ∈ ([] : List Addr) from z) (by simp)
  refine ⟨⟨e0.mod, S.kind, rfl, rfl, Nat.le_refl _, fun y z c h1 h2 => ?_, fun y hy => ?_, fun y c _ h => ?_, fun _ => hd, Around.frames_deeper e0.frames, .inr ⟨rfl, rfl⟩, fun b z => absurd z (noA b), e0.bs, e0.bsz, fun b _ _ => noA b, fun b z => absurd z (noA b), e0.funs, e0.frf⟩,
    rfl, e0.bare, Un.kept hk, ⟨_, x.toInCall.ns, fun i y v h1 h2 h3 => ?_⟩, fun y c h => ⟨_, x.cell y c h⟩, e0.hok.fresh (Nat.le_refl _), fun y c h => ?_, fun p hp => absurd (show p ∈ ([] : List (Addr × Obj)) from hp) (by simp), e0.hok.kept hk, ?_⟩
  · exact name_of_addr x.apart (PySem.mem_of_lookup h1) (PySem.mem_of_lookup h2)
  · have hy : scope.names.lookup y = some .cell \/ scope.names.lookup y = some .free := hy
    rcases hy with hy | hy
    · exact cell_has hy
    · exact absurd rfl (S.nofree _ (PySem.mem_of_lookup hy))
  · exact Nat.le_of_lt (x.above y c (PySem.mem_of_lookup h))
  · have hi : i < vs.length := by
      unfold start at h2
      by_cases hi : i < vs.length
      · exact hi
      · rw [List.getElem?_append_right (by simpa using hi)] at h2
        rw [List.getElem?_replicate] at h2
        split at h2 <;> cases h2
    have ha : vs[i]? = some v := by
      unfold start at h2
      rw [List.getElem?_append_left (by simpa using hi), List.getElem?_map] at h2
      cases e : vs[i]? with
      | none => rw [e] at h2; cases h2
      | some a => rw [e] at h2; cases h2; rfl
    obtain ⟨u, hu, rv⟩ := r.get ha
    have hp : ps[i]? = some y := by
      rw [<- S.pre, List.getElem?_take_of_lt (by omega)]; exact h1
    have ndP : ps.Nodup := by rw [<- S.pre]; exact S.nd.sublist (List.take_sublist _ _)
    refine ⟨u, rv, ?_⟩
    rcases S.par y (List.mem_of_getElem? hp) with k | k
    · exact .inl ⟨k, bindL_get ndP hp hu k⟩
    · obtain ⟨c, e⟩ := cell_has (n := s.heap.objs.size + 1) k
      refine .inr ⟨.inl k, c, e, ?_⟩
      have q := x.cell y c e
      rw [bindC_get ndP hp hu (by show scope.names.lookup y ≠ _; rw [k]; decide)] at q
      exact q
  · exact e0.hok.fresh (Nat.le_of_lt (x.above y c (PySem.mem_of_lookup h)))
  · unfold start
    show _ = N.length
    rw [List.length_append, List.length_map, List.length_replicate]
    omega
theorem fn_of {CX : CXT} {P : Program} {w : World} {K : PySem.W.Frag} {mg : Str -> Option Value} {base : Heap} {k : Nat} {f : Addr} {name qual : Str} {params : Arguments} {body : List Stmt} {scope : Scope} {dV kV doc pm cdv ct oc : Value} {an od : Option Addr}
    {osl : Array (Option Value)} {N ps : List Str} {sp : Sp} (lk : K.lookup f = some ⟨oc, od, .func (PySem.W.fnOf name qual params body scope dV kV doc pm an cdv ct), osl⟩) (hcd : PySem.W.codeIn K cdv qual = true) (S : FnScope N ps scope)
    (len : ∀ vs H Q E, sp vs H Q E -> vs.length = ps.length)
    (hbody : ∀ (A : Around) (outer : List Env) (s : Shared) (H : Hp) (vs : List V) (Q : VK) (E : XK), Room k (A.deeper (envOfC qual scope s.heap.objs.size f cdv)) -> sp vs H Q E ->
      ∃ t, PSs (cxOf CX P w K mg base N qual scope f cdv A outer s H E) body t /\ t { nx := fun _ H' => Q .non H', rt := Q } (start N vs) H) :
    FnOk P w K mg base CX (k + 1) f (PySem.W.fnOf name qual params body scope dV kV doc pm an cdv ct) ps sp := by
  refine ⟨len, fun A outer s H args us vs Q E hr e0 hb r hsp => ?_⟩
  have hl := len _ _ _ _ hsp
  have KX : K.In s.heap := e0.mod.kin.keeps fun b o e => (e0.bs b o e).1
  have lim : s.heap.NoLimit := e0.mod.nolimit.keeps fun b o e => (e0.bs b o e).1
  have hkind : ∀ y ∈ ps.zip us, scope.names.lookup y.1 = some .local \/ (scope.names.lookup y.1 = some .cell /\ ((cellsFrom (s.heap.objs.size + 1) scope.names []).lookup y.1).isSome = true) := fun ⟨n, v⟩ hy => by
    rcases S.par n (List.of_mem_zip hy).1 with q | q
    · exact .inl q
    · exact .inr ⟨q, PySem.W.cellsFrom_some _ _ _ (.inl q)⟩
  refine codeAny_call_function hr.depth (KX _ _ lk) rfl S.co S.gen rfl (PySem.W.codeRec_of KX hcd) (hb _ _ _ _ ?_)
  refine wpAny_newFunctionEnv_cells S.kind hkind fun env he s1 x => ?_
  subst he
  refine ⟨lim.keeps x.toInCall.keep, codeAny_func ?_⟩
  obtain ⟨t, ht, hq⟩ := hbody A outer s H vs Q E (hr.deeper _) hsp
  have I : Inv (cxOf CX P w K mg base N qual scope f cdv A outer s H E) [] (start N vs) H s1 := inv_start S hr.hd e0 hl r x
  refine wpAny_mono (ht [] s1 (start N vs) H _ I hq) (fun fl s' hs => ?_) fun e s' hs => hs
  have fin : ∀ {σ' : St} {H' : Hp} {v : V} {u : Value}, Inv (cxOf CX P w K mg base N qual scope f cdv A outer s H E) [] σ' H' s' -> RelV v u -> Q v H' -> CE outer P w H s Q u s' :=
    fun {σ' H' v u} J rv q => ⟨v, H', J.os, J.bare, J.base, J.hok, rv, q⟩
  cases fl with
  | ret u =>
    obtain ⟨v, σ', H', J, rv, q⟩ := hs
    exact fin J rv q
  | next =>
    obtain ⟨σ', H', J, q⟩ := hs
    exact fin (v := V.non) (u := Value.none) J rfl q
  | brk =>
    obtain ⟨_, _, _, q⟩ := hs
    exact False.elim q
  | cont =>
    obtain ⟨_, _, _, q⟩ := hs
    exact False.elim q
end L2
namespace L2
open PySem PySem.Spec PyProof.Rows
section
variable {X : Cx} {x : Str} {p pos : Pos} {e : Expr} {es : List Expr} {t : TA} {id T : String} {r : List V -> Hp -> VK -> Prop}
def tCB (r : List V -> Hp -> VK -> Prop) (t : TA) : TE := fun σ H Q => t σ H fun vs H1 => r vs H1 Q
theorem pe_callB (hc : CallR X (.builtin id) r) (hg : Gl X x) (hm : X.mg x = none) (hv : bootBuiltins x = some (.builtin id)) (ha : PA X (e :: es) t) (hn : x ≠ "__name__" := by decide) (hdb : (x == ("__debug__" : Str)) = false := by decide)
    (he : starEach (e :: es) X.env = (false, eval e X.env) :: starEach es X.env := by rfl) (hpl : (backTo pos (starEach es X.env)).any (·.1) = false := by rfl) : PE X (.Call (.Name x p) (e :: es) [] pos) (tCB r t) := by
  intro pins s σ H Q I h
  refine wpAny_Call_Name_kw (ld_blt I hg hm hv ?_ hn hdb)
  exact PyProof.Rows.callWith_builtin1 (thn (ha pos pins s σ H _ I h) fun us s1 ⟨vs, H1, I1, r1, q1⟩ => hc pins s1 σ H1 vs us Q I1 r1 q1) he hpl
theorem pe_callTy (hc : CallR X (.type T) r) (hg : Gl X x) (hm : X.mg x = none) (hv : bootBuiltins x = some (.type T)) (ha : PA X (e :: es) t) (hn : x ≠ "__name__" := by decide) (hdb : (x == ("__debug__" : Str)) = false := by decide)
    (he : starEach (e :: es) X.env = (false, eval e X.env) :: starEach es X.env := by rfl) (hpl : (backTo pos (starEach es X.env)).any (·.1) = false := by rfl) : PE X (.Call (.Name x p) (e :: es) [] pos) (tCB r t) := by
  intro pins s σ H Q I h
  refine wpAny_Call_Name_kw (ld_blt I hg hm hv ?_ hn hdb)
  exact PyProof.Rows.callWith_type1 (thn (ha pos pins s σ H _ I h) fun us s1 ⟨vs, H1, I1, r1, q1⟩ => hc pins s1 σ H1 vs us Q I1 r1 q1) he hpl
end
end L2
namespace HT
open PySem PyProof.Rows
section
open PySem.SeqAt
open PySem.AutoSeq1 (wpAny_loadPart')
open PySem.MeetsSeq PySem.MeetsSeq2 PySem.MeetsSeq3
end
section
variable {prog : Program} {w : World} {A : Around} {E : Value -> Shared -> Prop} {s : Shared}
end
end HT
namespace L2
open PySem PySem.Spec PyProof.Rows
abbrev TO := St -> Hp -> (Option Int -> Hp -> Prop) -> Prop
def PO (X : Cx) (e : Option Expr) (t : TO) : Prop :=
  ∀ (pins : List (Addr × Obj)) (s : Shared) (σ : St) (H : Hp) (Q : Option Int -> Hp -> Prop), Inv X pins σ H s -> t σ H Q ->
    wpAny (model X.prog X.w) X.A (evalPart e X.env) (fun u s' => ∃ o H', Inv X pins σ H' s' /\ IsPart u o /\ Q o H') X.xe s
section
variable {X : Cx} {e : Expr} {te : TE} {lo hi : Option Expr} {tl th : TO} {pos p2 : Pos}
def SlR (X : Cx) (r : V -> Option Int -> Option Int -> Hp -> VK -> Prop) : Prop :=
  ∀ (pins : List (Addr × Obj)) (s : Shared) (σ : St) (H : Hp) (x : V) (v vl vu : Value) (lo hi : Option Int) (sl : Addr) (Q : VK), Inv X pins σ H s -> RelV x v -> s.heap.IsSliceOf sl vl vu .none -> IsPart vl lo -> IsPart vu hi -> r x lo hi H Q ->
    ∃ T id, typeLookup (.type T) "__getitem__" = pure (some (.builtin id)) /\ s.TypeIs v T /\ wpAny (model X.prog X.w) X.A (getItem v (.ref sl)) (EP X pins σ Q) X.xe s
theorem SlR.or {r r' : V -> Option Int -> Option Int -> Hp -> VK -> Prop} (h : SlR X r) (h' : SlR X r') : SlR X (fun x lo hi H Q => r x lo hi H Q \/ r' x lo hi H Q) := by
  intro pins s σ H x v vl vu lo hi sl Q I rx hs pl pu q
  rcases q with q | q
  · exact h pins s σ H x v vl vu lo hi sl Q I rx hs pl pu q
  · exact h' pins s σ H x v vl vu lo hi sl Q I rx hs pl pu q
end
end L2
namespace L2
open PySem PySem.Spec PyProof.Rows
def ixN (n : Nat) (i : Int) : Option Nat := if 0 <= i then (if i < n then some i.toNat else none) else if -(n : Int) <= i then some (i + n).toNat else none
def atI {α : Type} (xs : List α) (i : Int) : Option α := (ixN xs.length i).bind fun j => xs[j]?
theorem ixN_seq {n : Nat} {i : Int} {j : Nat} (h : ixN n i = some j) : seqIndex? i n = some j /\ j < n /\ -(n : Int) <= i /\ i < n := by
  unfold ixN at h
  by_cases h0 : 0 <= i
  · rw [if_pos h0] at h
    by_cases h1 : i < n
    · rw [if_pos h1] at h
      have e : i.toNat = j := Option.some.inj h
      exact ⟨by rw [seqIndex_of h0 h1, e], by omega, by omega, h1⟩
    · rw [if_neg h1] at h; cases h
  · rw [if_neg h0] at h
    by_cases h1 : -(n : Int) <= i
    · rw [if_pos h1] at h
      have e : (i + n).toNat = j := Option.some.inj h
      exact ⟨by rw [seqIndex_neg (by omega) h1, e], by omega, h1, by omega⟩
    · rw [if_neg h1] at h; cases h
theorem atI_get {α : Type} {xs : List α} {i : Int} {v : α} (h : atI xs i = some v) : ∃ j, seqIndex? i xs.length = some j /\ xs[j]? = some v /\ j < xs.length /\ -(xs.length : Int) <= i /\ i < xs.length := by
  unfold atI at h
  cases e : ixN xs.length i with
  | none => rw [e] at h; cases h
  | some j =>
    rw [e] at h
    obtain ⟨h1, h2, h3, h4⟩ := ixN_seq e
    exact ⟨j, h1, h, h2, h3, h4⟩
theorem atI_nat {α : Type} {xs : List α} {j : Nat} {v : α} (h : xs[j]? = some v) : atI xs (j : Int) = some v := by
  have hj : j < xs.length := (List.getElem?_eq_some_iff.mp h).1
  have e : ixN xs.length (j : Int) = some j := by
    unfold ixN
    rw [if_pos (by omega), if_pos (by omega)]; simp
  unfold atI; rw [e]; exact h
def PlainIx (b : Expr) : Prop := ∀ o i, subscripted b false o i = operate [o, i] (getItem o i)
def IxR (X : Cx) (r : R2) : Prop :=
  ∀ (value slice : Expr) (pins : List (Addr × Obj)) (s : Shared) (σ : St) (H : Hp) (x y : V) (v u : Value) (Q : VK), Inv X pins σ H s -> RelV x v -> RelV y u -> r x y H Q ->
    subscripted slice false v u = operate [v, u] (getItem v u) -> wpAny (model X.prog X.w) X.A (subscriptTail value slice v u) (EP X pins σ Q) X.xe s
def MtR (X : Cx) (id : String) (r : V -> List V -> Hp -> VK -> Prop) : Prop :=
  ∀ (pins : List (Addr × Obj)) (s : Shared) (σ : St) (H : Hp) (x : V) (xs : List V) (v : Value) (us : List Value) (Q : VK), Inv X pins σ H s -> RelV x v -> Vals xs us -> r x xs H Q ->
    wpAny (model X.prog X.w) X.A (call (.builtin id) (v :: us)) (EP X pins σ Q) X.xe s
section
variable {X : Cx} {a b : Expr} {ta tb : TE} {pos : Pos}
theorem IxR.or {r r' : R2} (h : IxR X r) (h' : IxR X r') : IxR X (fun x y H Q => r x y H Q \/ r' x y H Q) := by
  intro value slice pins s σ H x y v u Q I rx ry q hs
  rcases q with q | q
  · exact h value slice pins s σ H x y v u Q I rx ry q hs
  · exact h' value slice pins s σ H x y v u Q I rx ry q hs
theorem MtR.or {id : String} {r r' : V -> List V -> Hp -> VK -> Prop} (h : MtR X id r) (h' : MtR X id r') : MtR X id (fun x xs H Q => r x xs H Q \/ r' x xs H Q) := by
  intro pins s σ H x xs v us Q I rx rs q
  rcases q with q | q
  · exact h pins s σ H x xs v us Q I rx rs q
  · exact h' pins s σ H x xs v us Q I rx rs q
theorem pe_ix {r : R2} (hr : IxR X r) (ha : PE X a ta) (hb : PE X b tb) (hs : PlainIx b) : PE X (.Subscript a b pos) (tOp r ta tb) := by
  intro pins s σ H Q I h
  exact Subscript_ (binT ha hb I h fun v u s2 x y H2 I2 rx ry q => hr a b pins s2 σ H2 x y v u Q I2 rx ry q (hs _ _))
def rIxL (K : PySem.W.Frag) : R2 := fun x y H Q => ∃ p xs i v, x = .ref p /\ y = .int i /\ SqL K H p xs /\ atI xs i = some v /\ Q v H
def rIxT (K : PySem.W.Frag) : R2 := fun x y H Q => ∃ p xs i v, x = .ref p /\ y = .int i /\ SqT K H p xs /\ atI xs i = some v /\ Q v H
theorem ix_list : IxR X (rIxL X.K) := by
  intro value slice pins s σ H x y v u Q I rx ry h hs
  obtain ⟨p, xs, i, z, rfl, rfl, hq, he, q⟩ := h
  cases rx
  obtain ⟨t, rfl⟩ := ry
  obtain ⟨its, r, pl, hz⟩ := I.list hq
  obtain ⟨j, h1, h2, h3, h4, h5⟩ := atI_get he
  obtain ⟨w, ew, rw'⟩ := r.get h2
  have hl := r.length
  have hn := line63
  have fin : EP X pins σ Q w s := ⟨z, H, I, rw', q⟩
  by_cases h0 : 0 <= i
  · have hj : i.toNat = j := by
      rw [seqIndex_of h0 h5] at h1
      exact Option.some.inj h1
    exact item_listR pl.isList h0 (by omega) (by rw [hj]; simpa using ew) fin hs
  · have hj : (i + (its.toArray.size : Int)).toNat = j := by
      rw [seqIndex_neg (by omega) h4] at h1
      rw [List.size_toArray, <- hl]
      exact Option.some.inj h1
    exact subscriptTail_builtinR (x := w) pl.isList.typeIs slot_list_getitem.lookup
      (wpAny_getItem_list_neg (Q := fun r s' => r = w /\ EP X pins σ Q r s') pl.isList (by omega) (by rw [List.size_toArray] <;> omega) (by omega) (by rw [hj]; simpa using ew) ⟨rfl, fin⟩) hs
theorem ix_tup : IxR X (rIxT X.K) := by
  intro value slice pins s σ H x y v u Q I rx ry h hs
  obtain ⟨p, xs, i, z, rfl, rfl, hq, he, q⟩ := h
  cases rx
  obtain ⟨t, rfl⟩ := ry
  obtain ⟨its, r, pl, hz⟩ := I.tuple hq
  obtain ⟨j, h1, h2, h3, h4, h5⟩ := atI_get he
  obtain ⟨w, ew, rw'⟩ := r.get h2
  have hl := r.length
  have hn := line63
  have fin : EP X pins σ Q w s := ⟨z, H, I, rw', q⟩
  exact subscriptTail_builtinR (x := w) pl.typeIs slot_tuple_getitem.lookup
    (getItem_tuple (j := j) (Q := fun r s' => r = w /\ EP X pins σ Q r s') pl (by omega) (by omega) (by rw [List.size_toArray, <- hl]; exact h1) (by simpa using ew) ⟨rfl, fin⟩) hs
theorem Inv.lst {pins : List (Addr × Obj)} {σ : St} {H : Hp} {s : Shared} {p : Addr} {xs : List V} (I : Inv X pins σ H s) (h : H p = some (.lst xs)) :
    ∃ (its : List Value) (n : Nat), Vals xs its /\ s.heap.get? p = some { cls := .type "list", data := .seq its.toArray n } /\ xs.length <= sizeLine := by
  obtain ⟨z, its, n, r, e⟩ := I.hok p _ h
  exact ⟨its, n, r, e, z⟩
def flatV : V -> Bool
  | .non => true
  | .bl _ => true
  | .int _ => true
  | .str _ => true
  | _ => false
def eqV : V -> V -> Bool
  | .non, .non => true
  | .bl a, .bl b => a == b
  | .bl a, .int b => (if a then 1 else 0) == b
  | .int a, .bl b => a == (if b then 1 else 0)
  | .int a, .int b => a == b
  | .str a, .str b => a == b
  | _, _ => false
theorem eqAt_V {A : Around} {s : Shared} {y x : V} {u v : Value} (ry : RelV y u) (rx : RelV x v) (fy : flatV y = true) (fx : flatV x = true) : SeqAt.EqAt A s u v (eqV y x) := by
  cases y with
  | non =>
    cases ry
    cases x with
    | non => cases rx; exact SeqAt.EqAt.same _
    | bl b => cases rx; exact SeqAt.EqAt.none_bool b
    | int b => obtain ⟨t, rfl⟩ := rx; exact SeqAt.EqAt.none_int b t
    | str b => obtain ⟨t, rfl⟩ := rx; exact SeqAt.EqAt.none_str b t
    | _ => exact absurd (show false = true from fx) Bool.false_ne_true
  | bl a =>
    cases ry
    cases x with
    | non => cases rx; exact SeqAt.EqAt.bool_none a
    | bl b => cases rx; exact SeqAt.EqAt.bool_bool a b
    | int b => obtain ⟨t, rfl⟩ := rx; exact SeqAt.EqAt.bool_int a b t
    | str b => obtain ⟨t, rfl⟩ := rx; exact SeqAt.EqAt.bool_str a b t
    | _ => exact absurd (show false = true from fx) Bool.false_ne_true
  | int a =>
    obtain ⟨t', rfl⟩ := ry
    cases x with
    | non => cases rx; exact SeqAt.EqAt.int_none a t'
    | bl b => cases rx; exact SeqAt.EqAt.int_bool a t' b
    | int b => obtain ⟨t, rfl⟩ := rx; exact SeqAt.EqAt.int_int a t' b t
    | str b => obtain ⟨t, rfl⟩ := rx; exact SeqAt.EqAt.int_str a t' b t
    | _ => exact absurd (show false = true from fx) Bool.false_ne_true
  | str a =>
    obtain ⟨t', rfl⟩ := ry
    cases x with
    | non => cases rx; exact SeqAt.EqAt.str_none a t'
    | bl b => cases rx; exact SeqAt.EqAt.str_bool a t' b
    | int b => obtain ⟨t, rfl⟩ := rx; exact SeqAt.EqAt.str_int a t' b t
    | str b => obtain ⟨t, rfl⟩ := rx; exact SeqAt.EqAt.str_str a t' b t
    | _ => exact absurd (show false = true from fx) Bool.false_ne_true
  | _ => exact absurd (show false = true from fy) Bool.false_ne_true
def eqU (x : V) (u : Value) : Bool := match u with
  | .none => eqV .non x
  | .bool b => eqV (.bl b) x
  | .int i _ => eqV (.int i) x
  | .str z _ => eqV (.str z) x
  | _ => false
theorem eqU_of {x y : V} {u : Value} (r : RelV y u) (f : flatV y = true) : eqU x u = eqV y x := by
  cases y with
  | non => cases r; rfl
  | bl b => cases r; rfl
  | int i => obtain ⟨t, rfl⟩ := r; rfl
  | str z => obtain ⟨t, rfl⟩ := r; rfl
  | _ => exact absurd (show false = true from f) Bool.false_ne_true
theorem any_eqU {x : V} : ∀ {xs : List V} {us : List Value}, Vals xs us -> xs.all flatV = true -> us.any (eqU x) = xs.any fun y => eqV y x
  | _, _, .nil, _ => rfl
  | y :: xs, u :: us, .cons r t, f => by
    rw [List.all_cons, Bool.and_eq_true] at f
    rw [List.any_cons, List.any_cons, eqU_of r f.1, any_eqU t f.2]
theorem mem_eqAt {A : Around} {s : Shared} {x : V} {v : Value} (rx : RelV x v) (fx : flatV x = true) : ∀ {xs : List V} {us : List Value}, Vals xs us -> xs.all flatV = true -> ∀ u ∈ us, SeqAt.EqAt A s u v (eqU x u)
  | _, _, .nil, _ => fun u hu => by cases hu
  | y :: xs, u :: us, .cons r t, f => fun u' hu => by
    rw [List.all_cons, Bool.and_eq_true] at f
    rcases List.mem_cons.mp hu with rfl | hu
    · rw [eqU_of r f.1]; exact eqAt_V r rx f.1 fx
    · exact mem_eqAt rx fx t f.2 u' hu
def inV (x : V) (xs : List V) : Bool := xs.any fun y => eqV y x
def rIn (K : PySem.W.Frag) (neg : Bool) : R2 := fun x y H Q => ∃ p xs, y = .ref p /\ (SqL K H p xs \/ SqT K H p xs) /\ flatV x = true /\ xs.all flatV = true /\ Q (.bl (if neg then !inV x xs else inV x xs)) H
theorem op_in_seq : OpR X (compareOp .In) (rIn X.K false) := by
  intro pins s σ H x y v u Q I rx ry h
  obtain ⟨p, xs, rfl, hq, fx, fs, q⟩ := h
  cases ry
  rcases hq with hq | hq
  · obtain ⟨its, r, pl, hz⟩ := I.list hq
    refine SeqAt.in_listAt (eqU x) pl.isList (fun w hw => mem_eqAt rx fx r fs w (by simpa using hw)) ⟨.bl _, H, I, rfl, ?_⟩
    rw [show its.toArray.any (eqU x) = its.any (eqU x) by simp, any_eqU r fs]
    exact q
  · obtain ⟨its, r, pl, hz⟩ := I.tuple hq
    refine SeqAt.in_tupleAt (eqU x) pl (fun w hw => mem_eqAt rx fx r fs w (by simpa using hw)) ⟨.bl _, H, I, rfl, ?_⟩
    rw [show its.toArray.any (eqU x) = its.any (eqU x) by simp, any_eqU r fs]
    exact q
theorem call_len_seq : CallR X (.builtin "len") (fun xs H Q => ∃ p ys, xs = [.ref p] /\ (SqL X.K H p ys \/ SqT X.K H p ys) /\ Q (.int ys.length) H) := by
  intro pins s σ H xs us Q I r h
  obtain ⟨p, ys, rfl, hq, q⟩ := h
  obtain ⟨u, rfl, rx⟩ := vals1 r
  cases rx
  have hn := line63
  rcases hq with hq | hq
  · obtain ⟨its, r', pl, hz⟩ := I.list hq
    have hlen := r'.length
    exact Calls.call_len_list pl.isList (by simp only [List.size_toArray] <;> omega) ⟨.int ys.length, H, I.tok _, ⟨s.toks + 1, by rw [List.size_toArray, hlen]⟩, q⟩
  · obtain ⟨its, r', pl, hz⟩ := I.tuple hq
    have hlen := r'.length
    exact len_tuple pl (by simp only [List.size_toArray] <;> omega) ⟨.int ys.length, H, I.tok _, ⟨s.toks + 1, by rw [List.size_toArray, hlen]⟩, q⟩
theorem CallR.or {f : Value} {r r' : List V -> Hp -> VK -> Prop} (h : CallR X f r) (h' : CallR X f r') : CallR X f (fun xs H Q => r xs H Q \/ r' xs H Q) := by
  intro pins s σ H xs us Q I rs q
  rcases q with q | q
  · exact h pins s σ H xs us Q I rs q
  · exact h' pins s σ H xs us Q I rs q
variable {o e : Expr} {es : List Expr} {to : TE} {t : TA} {name : Str} {apos cpos : Pos} {T id : String} {r : V -> List V -> Hp -> VK -> Prop}
end
end L2
namespace L2
open PySem PySem.Spec PyProof.Rows
theorem Vals.one : ∀ {x : V} {us : List Value}, Vals [x] us -> ∃ u, us = [u] /\ RelV x u
  | _, _, .cons r .nil => ⟨_, rfl, r⟩
theorem Vals.two : ∀ {x y : V} {us : List Value}, Vals [x, y] us -> ∃ u v, us = [u, v] /\ RelV x u /\ RelV y v
  | _, _, _, .cons r (.cons q .nil) => ⟨_, _, rfl, r, q⟩
theorem Vals.zero : ∀ {us : List Value}, Vals [] us -> us = []
  | _, .nil => rfl
section
variable {X : Cx} {pins : List (Addr × Obj)} {σ : St} {H : Hp} {s : Shared} {l b : Addr} {xs ys zs : List V}
theorem Inv.lnew {its : List Value} {t' : Nat} (I : Inv X pins σ H s) (hv : Vals ys its) (hz : ys.length <= sizeLine) :
    Inv X pins σ (upd H s.heap.objs.size (.lst ys)) { s with heap := s.heap.push { cls := .type "list", data := .seq its.toArray }, toks := t' } :=
  I.laid (fun _ _ q => Heap.get?_push_of_some _ q) (Nat.le_refl _) ⟨hz, its, 0, hv, Heap.get?_push_size _ rfl⟩
theorem Inv.fresh (I : Inv X pins σ H s) : H s.heap.objs.size = none := I.hok.fresh (Nat.le_refl _)
theorem Inv.lstM (I : Inv X pins σ H s) (hH : H l = some (.lst xs)) : xs.length <= sizeLine /\ ∃ (its : List Value) (n : Nat), Vals xs its /\ xs.length = its.length /\ s.heap.get? l = some { cls := .type "list", data := .seq its.toArray n } := by
  obtain ⟨z, its, n, r, e⟩ := I.hok l _ hH
  exact ⟨z, its, n, r, r.length, e⟩
end
section
variable {X : Cx}
def rCat : R2 := fun x y H Q => ∃ l b xs zs, x = .ref l /\ y = .ref b /\ H l = some (.lst xs) /\ H b = some (.lst zs) /\ xs.length + zs.length <= sizeLine /\ ∀ p, H p = none -> Q (.ref p) (upd H p (.lst (xs ++ zs)))
theorem op_cat : OpR X (binaryOp .Add) rCat := by
  intro pins s σ H x y v u Q I rx ry h
  obtain ⟨l, b, xs, zs, rfl, rfl, hH, hB, hz, q⟩ := h
  cases rx
  cases ry
  obtain ⟨z, its, n, r, hl, e⟩ := I.lstM hH
  obtain ⟨z2, its2, n2, r2, hl2, e2⟩ := I.lstM hB
  refine PySem.P.add_list e e2 ?_ (by rw [List.size_toArray, List.size_toArray]; omega)
  have ea : its.toArray ++ its2.toArray = (its ++ its2).toArray := by simp
  rw [ea]
  exact ⟨.ref _, _, I.lnew (t' := s.toks) (r.append r2) (by rw [List.length_append]; omega), rfl, q _ I.fresh⟩
end
section
variable {prog : Program} {w : World} {A : Around} {E : Value -> Shared -> Prop} {s : Shared}
end
section
variable {X : Cx}
end
end L2
namespace Att
open PySem PySem.W PySem.Calls PyProof.Rows
theorem ints_of_wellAll {P : Params} {h : Heap} : ∀ (ns : List Int) (vs : List Value), WellAll P h vs (ns.map WData.int) -> IntsAre vs ns := by
  intro ns
  induction ns with
  | nil =>
    intro vs w
    rw [List.map_nil] at w
    cases w
    exact .nil
  | cons n ns ih =>
    intro vs w
    rw [List.map_cons] at w
    cases w with
    | cons a b =>
      cases a
      exact .cons _ _ (ih _ b)
theorem script_of {l : OpenLaw} {n : Nat} (hn : l.most = some n) {P : Params} {h : Heap} {args : List WData} {vals : List Value}
    (hpre : l.row.toRowW.claim.pre args = true) (hwl : WellAll P h vals args) :
    ∃ a vs ns, vals = [Value.ref a] /\ args = [WData.list (ns.map WData.int)] /\ h.get? a = some { cls := .type "list", data := .seq vs.toArray } /\ IntsAre vs ns /\ ns.length <= n := by
  have hsh : WShape.hasAll [] args [.list .int] = true := (pre_splitW hpre).1
  have hc : l.pre.holds [] { args := args } = true := (pre_splitW hpre).2
  obtain ⟨d, r, rfl, h1, h2⟩ := hasAllW_cons hsh
  obtain rfl := hasAllW_nil h2
  obtain ⟨xs, rfl, h3⟩ := hasW_list h1
  obtain ⟨ns, rfl⟩ := items_int h3
  have hlen : ns.length <= n := by
    unfold OpenLaw.pre at hc
    have h4 : (WTm.not (.lt (.lit (.int (n : Int))) (.len (.arg 0)))).holds [] { args := [.list (ns.map .int)] } = true := by
      have h4 := (holds_andW hc).1
      rw [hn] at h4
      exact h4
    have h5 := condW_of h4 (w_not (w_lt w_lit (w_len_list (w_arg rfl))))
    rw [List.length_map] at h5
    refine Nat.le_of_not_lt fun q => ?_
    have q' : (n : Int) < ((ns.length : Nat) : Int) := by omega
    first
      | (rw [decide_eq_true q'] at h5; exact absurd h5 (by decide))
      | (simp at h5; omega)
  cases hwl with
  | cons w1 w2 =>
    cases w2
    cases w1 with
    | list ho hall => exact ⟨_, _, ns, rfl, rfl, ho, ints_of_wellAll ns _ hall, hlen⟩
theorem post_true (l : OpenLaw) (args : List WData) : l.row.toRowW.claim.post args (.bool true) args = true :=
  postW_of (r := l.row.toRowW) (X := (true == true))
    (show WShape.has [] (.bool true) .bool = true by first | rfl | decide | simp [WShape.has, WShape.arms, WShape.armsAll])
    (show (WTm.eq .res (.lit (.bool true))).value [] { args := args, res := some (.bool true), after := args } = some (.bool (true == true)) from w_eq_bool (w_res rfl) w_lit) rfl
theorem attach_call {l : OpenLaw} {n : Nat} {q : Program} {loose : List Str} {XP : (Str -> Option Value) -> Heap -> Prop} {YP : World -> Heap -> Prop} {d : DefRec}
    (hn : l.most = some n) (hdf : d.params.defaults = [])
    (call : ∀ (w : World) (s₀ s₁ : Shared) (mg mb : Str -> Option Value) (fa : Addr) (o : Obj) (pm cd doc : Value) (a : Addr) (vs : List Value) (ns : List Int),
      Ground q loose [] XP w s₀ mg mb s₁.heap -> YP w s₁.heap ->
      s₁.heap.get? fa = some o -> o.data = .func (docDef d.name d.params d.body d.scope pm cd doc) -> s₁.heap.CodeRec cd d.name -> mg d.name = some (.ref fa) ->
      s₁.heap.get? a = some { cls := .type "list", data := .seq vs.toArray } -> IntsAre vs ns -> ns.length <= n -> s₁.gens = #[] ->
      codeAny (model l.prog w) callerA (.call (.ref fa) ⟨[.ref a], []⟩) (fun r s' => r = .ok (.ret (.bool true)) /\ OldK s₁.heap s'.heap /\ s'.os = s₁.os /\ AllBare s'.gens) s₁) :
    WalkO q loose XP YP l.row.toRowW d [] (fun f vs => PySem.call f vs) := by
  intro w s₀ s₁ mg mb G Y fa o pm cd doc dV kV ho hd hcd hD hmg hg args vals as hpre hlay hrd hwl hlo
  obtain rfl : dV = .none := Dflts.none hD hdf
  obtain rfl : kV = .none := Dflts.noKw hD
  obtain ⟨a, vs, ns, rfl, rfl, hobj, hints, hlen⟩ := script_of hn hpre hwl
  refine enter_call (codeAny_mono (call w s₀ s₁ mg mb fa o pm cd doc a vs ns G Y ho (fd_plain hd) hcd hmg hobj hints hlen hg) fun r s' hq => ?_)
  obtain ⟨rfl, h2, h3, h4⟩ := hq
  exact ⟨.inl ⟨.bool true, .bool true, [], rfl, fun _ => rfl, .bool true, post_true l _, fun _ => ⟨List.Pairwise.nil, fun _ hm => (nomatch hm)⟩⟩, h2, h3, h4⟩
section
variable {prog : Program} {w : World} {A : Around} {E : Value -> Shared -> Prop} {s : Shared} {K : Frag}
def ledger (h : Heap) (L d : Addr) : List (Addr × Obj) := (List.range h.objs.size).filterMap fun a => if a = L \/ a = d then none else (h.get? a).map fun o => (a, o)
end
end Att
namespace L2
open PySem PySem.Spec PyProof.Rows
theorem vals_ints : ∀ {vs : List Value} {ns : List Int}, IntsAre vs ns -> Vals (ns.map V.int) vs
  | _, _, .nil => .nil
  | _, _, .cons n t h => .cons ⟨t, rfl⟩ (vals_ints h)
def Only (H : Hp) : Prop := ∀ b, H b = none \/ ∃ o xs, H b = some (.frz o (.lst xs))
theorem law_call {P : Program} {w : World} {K : PySem.W.Frag} {mg mb : Str -> Option Value} {CX : CXT} {k : Nat} {fa a : Addr} {fd : FuncData} {x : Str} {sp : Sp} {s₁ : Shared} {vs : List Value} {ns : List Int}
    (KX : K.In s₁.heap) (hns : s₁.heap.Ns mainGlobals mg) (hb : s₁.heap.Ns builtinsNs mb) (hbb : ∀ x : Str, x ≠ "__name__" -> mb x = bootBuiltins x) (hlim : s₁.heap.NoLimit) (hg : s₁.gens = #[])
    (ha : s₁.heap.get? a = some { cls := .type "list", data := .seq vs.toArray }) (hi : IntsAre vs ns) (hl : ns.length <= sizeLine) (hr : Room k callerA)
    (F : ∀ base : Heap, K.In base -> base.Ns mainGlobals mg -> FnOk P w K mg base CX k fa fd [x] sp) (hbind : ∀ (s : Shared) (u : Value), BindsTo s fd ⟨[u], []⟩ [(x, u)])
    (hsp : ∀ H : Hp, Only H -> SqL K H a (ns.map V.int) -> sp [.ref a] H (fun v _ => v = .bl true) fun _ _ _ => False)
    (hCX : ∀ H e s', CX [] H s₁ (fun _ _ _ => False) e s' -> False) :
    codeAny (model P w) callerA (.call (.ref fa) ⟨[.ref a], []⟩) (fun r s' => r = .ok (.ret (.bool true)) /\ OldK s₁.heap s'.heap /\ s'.os = s₁.os /\ AllBare s'.gens) s₁ := by
  have rv := vals_ints hi
  have lenV := hi.length
  -- from an abstract heap in which nothing but the script may be tracked
  have core : ∀ H : Hp, Only H -> SqL K H a (ns.map V.int) -> HOk P w H s₁.heap -> (∀ b, H b ≠ none -> b = a) -> (H a ≠ none -> K.lookup a = none) ->
      codeAny (model P w) callerA (.call (.ref fa) ⟨[.ref a], []⟩) (fun r s' => r = .ok (.ret (.bool true)) /\ OldK s₁.heap s'.heap /\ s'.os = s₁.os /\ AllBare s'.gens) s₁ := by
    intro H hO hS hok hA hK
    have base_of : ∀ {b : Addr} {o : Obj}, s₁.heap.get? b = some o -> H b = none -> (hidT s₁.heap H).get? b = some o := fun e n => hidT_get e n
    have noA : ∀ {b : Addr} {o : Obj} {es : Array DictEntry} {ep : Nat}, s₁.heap.get? b = some o -> o.data = .dict es ep -> H b = none := fun {b o es ep} e d => by
      cases q : H b with
      | none => rfl
      | some u =>
        have e' : b = a := hA b (by rw [q]; simp)
        subst e'
        rw [ha] at e; cases e
        have d' : Data.seq vs.toArray _ = Data.dict es ep := d
        cases d'
    have nsK : ∀ {b : Addr} {m : Str -> Option Value}, s₁.heap.Ns b m -> (hidT s₁.heap H).Ns b m := fun {b m} ⟨o, es, ep, e, d, r⟩ => ⟨o, es, ep, base_of e (noA e d), d, r⟩
    have hKb : K.In (hidT s₁.heap H) := fun b o e => base_of (KX b o e) (by
      cases q : H b with
      | none => rfl
      | some u =>
        have e' : b = a := hA b (by rw [q]; simp)
        subst e'
        rw [hK (by rw [q]; simp)] at e; cases e)
    have hM : Mod K mg (hidT s₁.heap H) := ⟨hKb, nsK hns, ⟨mb, nsK hb, hbb⟩, let ⟨mc, h1, h2⟩ := hlim; ⟨mc, nsK h1, h2⟩⟩
    have e0 : Env0 P w K mg (hidT s₁.heap H) callerA [] s₁ H := ⟨rfl, hM, fun b o e => of_hidT e, Nat.le_of_eq (hidT_size _ _), trivial, fun b hb => absurd (show b ∈ ([] : List Addr) from hb) (by simp), hok, .of_eq hg⟩
    refine codeAny_mono ((F _ hKb (nsK hns)).run callerA [] s₁ H ⟨[.ref a], []⟩ [.ref a] [.ref a] _ _ hr e0 (hbind s₁ (.ref a)) (.cons rfl .nil) (hsp H hO hS)) fun r s' h => ?_
    cases r with
    | error e => exact (hCX H e s' h).elim
    | ok fl =>
      cases fl with
      | next => exact False.elim h
      | brk => exact False.elim h
      | cont => exact False.elim h
      | ret u =>
        obtain ⟨v, H', os, bare, un, hok', r', q⟩ := h
        have q' : v = .bl true := q
        subst q'
        obtain rfl : u = Value.bool true := r'
        refine ⟨rfl, OldK.of_keep fun b o e => ?_, os, bare⟩
        cases q : H b with
        | none => exact un.keep b o e q (by intro z; exact absurd (show b ∈ ([] : List Addr) from z) (by simp)) (by simp)
        | some u =>
          rcases hO b with z | ⟨ob, xs, z⟩
          · rw [q] at z; cases z
          · have z2 := un.frzs b ob _ z
            obtain ⟨e1, _⟩ := hok b _ z
            obtain ⟨e2, _⟩ := hok' b _ z2
            rw [e] at e1; cases e1
            exact e2
  cases hk : K.lookup a with
  | some o =>
    -- the script is one of the module's own objects
    have e := KX a o hk
    rw [ha] at e
    cases e
    refine core (fun _ => none) (fun _ => .inl rfl) (.inr ⟨_, vs.toArray, _, hk, rfl, rfl, rfl, by rw [List.size_toArray, lenV]; exact hl, by simpa using rv⟩) (fun b u z => by have z' : (none : Option HO) = some u := z; cases z') (fun b z => absurd rfl z) fun z => absurd rfl z
  | none =>
    refine core (fun b => if b = a then some (.frz { cls := .type "list", data := .seq vs.toArray } (.lst (ns.map V.int))) else none) (fun b => ?_) (.inl (.inr ⟨{ cls := .type "list", data := .seq vs.toArray }, if_pos rfl⟩)) (fun b u z => ?_) (fun b z => ?_) fun _ => hk
    · by_cases hb : b = a
      · exact .inr ⟨_, _, if_pos hb⟩
      · exact .inl (if_neg hb)
    · by_cases hb : b = a
      · have z' := (if_pos hb).symm.trans z
        cases z'
        subst hb
        exact ⟨ha, by rw [List.length_map]; exact hl, vs, _, rv, ha⟩
      · have z' := (if_neg hb).symm.trans z
        cases z'
    · by_cases hb : b = a
      · exact hb
      · exact absurd (if_neg hb) z
end L2
namespace L2
open PySem PySem.Spec PyProof.Rows
theorem walk_of {l : PySem.W.OpenLaw} {n k : Nat} {q : Program} {loose : List Str} {XP : (Str -> Option Value) -> Heap -> Prop} {YP : World -> Heap -> Prop} {d : DefRec} {K : Params -> PySem.W.Frag} {CX : World -> CXT} {sp : World -> Sp} {x : Str}
    (hn : l.most = some n) (hn2 : n <= sizeLine) (hdf : d.params.defaults = []) (hr : Room k callerA)
    (hY : ∀ (w : World) (h : Heap), YP w h -> (K w.params).In h)
    (F : ∀ (w : World) (mg : Str -> Option Value) (fa : Addr) (h : Heap), (K w.params).In h -> h.Ns mainGlobals mg -> mg d.name = some (.ref fa) ->
      ∃ fd : FuncData, (∀ (s : Shared) (u : Value), BindsTo s fd ⟨[u], []⟩ [(x, u)]) /\
        ∀ base : Heap, (K w.params).In base -> base.Ns mainGlobals mg -> FnOk l.prog w (K w.params) mg base (CX w) k fa fd [x] (sp w))
    (hsp : ∀ (w : World) (H : Hp) (a : Addr) (ns : List Int), ns.length <= n -> Only H -> SqL (K w.params) H a (ns.map V.int) -> sp w [.ref a] H (fun v _ => v = .bl true) fun _ _ _ => False)
    (hCX : ∀ (w : World) (H : Hp) (s : Shared) (e : Value) (s' : Shared), CX w [] H s (fun _ _ _ => False) e s' -> False) :
    PySem.W.WalkO q loose XP YP l.row.toRowW d [] (fun f vs => PySem.call f vs) := by
  refine Att.attach_call hn hdf fun w s₀ s₁ mg mb fa o pm cd doc a vs ns G Y ho hd hcd hmg hobj hints hlen hg => ?_
  have KX := hY w _ Y
  obtain ⟨fd, hb, hF⟩ := F w mg fa _ KX G.T.g hmg
  exact law_call KX G.T.g G.T.b G.T.builtins G.T.nolimit hg hobj hints (Nat.le_trans hlen hn2) hr hF hb (fun H hO hS => hsp w H a ns hlen hO hS) fun H e s' => hCX w H s₁ e s'
end L2
/- THE LAST THEOREM (shape; LID, My.* are yours):
   My.Adr: a structure of the addresses that your layer names (classes, functions); My.Txt K t: a structure (Prop) of the equations over K;
   My.txt_mk : {K} {implicit addresses ..} (e1 : nsIn K mainGlobals "law" = some (some (.ref f))) (e2 : K.lookup f = some ⟨oc, od, .func (fnOf "law" "law" params body scope dV kV doc pm an cdv ct), sl⟩) (e3 : codeIn K cdv "law" = true) .. : ∃ t, My.Txt K t
set_option maxRecDepth 100000 in
set_option maxHeartbeats 0 in
theorem PySem.Challenge.cw_LID_holds : PySem.Challenge.rw_LID.Holds := by
  w_on; o_law; k_head; (case hw => w_witness2)
  k_fill
  refine L2.walk_of (l := PySem.Challenge.rw_LID) (n := 63) (k := 40) (x := "script") (CX := fun w => ..) (sp := fun _ => My.sp_law) rfl (by decide) rfl ⟨rfl, by decide, by decide⟩ (fun w h Y => PySem.W.kIn_of Y) ?F ?S ?C
  case F =>
    intro w mg fa h KX G hmg
    have T : ∃ t, My.Txt (L2.KOf KX) t := by
      dsimp only [L2.KOf]                          -- K must stand as «<heap const> w.params» for k_is
      refine' My.txt_mk ?e1 ?e2 ?e3 ..
      (case e1 => PySem.W.k_is)                    -- in the order: a name -> its address -> its object -> its parts
      (case e2 => PySem.W.k_is)
      ..
    obtain ⟨t, T⟩ := T
    have e0 := hmg.symm.trans (PySem.W.mg_of KX G T.law)
    cases e0                                       -- fa is the law's own address
    exact ⟨_, fun s u => .of_eq rfl, fun base kb nb => My.law_fn T kb nb⟩     -- if «.of_eq rfl» comes too early: refine' ⟨_, ?b, fun base kb nb => My.law_fn T kb nb⟩; exact fun s u => .of_eq rfl
  case S => exact fun w H a ns hl hO hS => ..
  case C => exact ..
(the tactic k_is has no namespace: write k_is) -/
namespace L2
open PySem PySem.Spec PyProof.Rows
def inClass (s : Stmt) (j : Nat) : Stmt := match s with
  | .ClassDef _ _ _ body _ _ _ _ _ _ _ => body.getD j (.Pass ⟨0, 0, 0, 0⟩)
  | _ => .Pass ⟨0, 0, 0, 0⟩
def defArgs (s : Stmt) : Arguments := match s with
  | .FunctionDef _ a _ _ _ _ _ _ _ _ => a
  | _ => { posonlyargs := [], args := [], vararg := none, kwonlyargs := [], kw_defaults := [], kwarg := none, defaults := [] }
def defBody (s : Stmt) : List Stmt := match s with
  | .FunctionDef _ _ b _ _ _ _ _ _ _ => b
  | _ => []
def defScope (s : Stmt) : Scope := match s with
  | .FunctionDef _ _ _ _ _ _ sc _ _ _ => sc
  | _ => { kind := .function, names := [], isGenerator := false, isCoroutine := false }
abbrev CX0 : CXT := fun _ _ _ _ _ _ => False
abbrev E0 : XK := fun _ _ _ => False
theorem pass0 {X : Cx} : Passes CX0 X E0 := fun _ _ _ _ _ _ _ h => h.elim
structure Fun (K : PySem.W.Frag) (x qual : Str) (st : Stmt) (f : Addr) (fd : FuncData) : Prop where
  ex : ∃ (oc : Value) (od : Option Addr) (kV doc pm : Value) (an : Option Addr) (cdv ct : Value) (osl : Array (Option Value)),
    fd = PySem.W.fnOf x qual (defArgs st) (defBody st) (defScope st) .none kV doc pm an cdv ct /\ K.lookup f = some ⟨oc, od, .func fd, osl⟩ /\ PySem.W.codeIn K cdv qual = true
  kp : PySem.W.keepIn K (.ref f) = true
section
variable {P : Program} {w : World} {K : PySem.W.Frag} {mg : Str -> Option Value} {base : Heap}
theorem Fun.ok {x qual : Str} {st : Stmt} {f : Addr} {fd : FuncData} {N ps : List Str} {k : Nat} {sp : Sp} (F : Fun K x qual st f fd) (S : FnScope N ps (defScope st)) (len : ∀ vs H Q E, sp vs H Q E -> vs.length = ps.length)
    (hbody : ∀ (cdv : Value) (A : Around) (outer : List Env) (s : Shared) (H : Hp) (vs : List V) (Q : VK) (E : XK), Room k (A.deeper (envOfC qual (defScope st) s.heap.objs.size f cdv)) -> sp vs H Q E ->
      ∃ t, PSs (cxOf CX0 P w K mg base N qual (defScope st) f cdv A outer s H E).nox (defBody st) t /\ t { nx := fun _ H' => Q .non H', rt := Q } (start N vs) H) : FnOk P w K mg base CX0 (k + 1) f fd ps sp := by
  obtain ⟨oc, od, kV, doc, pm, an, cdv, ct, osl, rfl, lk, hcd⟩ := F.ex
  refine fn_of lk hcd S len fun A outer s H vs Q E hr hsp => ?_
  obtain ⟨t, h, q⟩ := hbody cdv A outer s H vs Q E hr hsp
  exact ⟨t, h.nox, q⟩
theorem Fun.binds {x qual : Str} {st : Stmt} {f : Addr} {fd : FuncData} {ps : List Str} (F : Fun K x qual st f fd)
    (h : ∀ (kV doc pm : Value) (an : Option Addr) (cdv ct : Value) (us : List Value), us.length = ps.length -> bindArgs (PySem.W.fnOf x qual (defArgs st) (defBody st) (defScope st) .none kV doc pm an cdv ct) ⟨us, []⟩ = pure (ps.zip us)) : Binds K fd ps [] := by
  obtain ⟨oc, od, kV, doc, pm, an, cdv, ct, osl, rfl, lk, hcd⟩ := F.ex
  exact .all (h kV doc pm an cdv ct)
theorem fun_mk {x qual : Str} {st : Stmt} {f : Addr} {oc : Value} {od an : Option Addr} {osl : Array (Option Value)} {kV doc pm cdv ct : Value} (l : K.lookup f = some ⟨oc, od, .func (PySem.W.fnOf x qual (defArgs st) (defBody st) (defScope st) .none kV doc pm an cdv ct), osl⟩)
    (c : PySem.W.codeIn K cdv qual = true) (k : PySem.W.keepIn K (.ref f) = true) : Fun K x qual st f (PySem.W.fnOf x qual (defArgs st) (defBody st) (defScope st) .none kV doc pm an cdv ct) := ⟨⟨oc, od, kV, doc, pm, an, cdv, ct, osl, rfl, l, c⟩, k⟩
end
section
variable {X : Cx}
theorem pv (i : Nat) {x : Str} {pos : Pos} (hN : X.N[i]? = some x := by rfl) (hv : Vis X.env.scope x := by first | exact Or.inl rfl | exact Or.inr (Or.inl rfl) | exact Or.inr (Or.inr rfl)) (hd : (x == ("__debug__" : Str)) = false := by decide)
    (hcd : (x == ("__classdict__" : Str)) = false := by decide) : PE X (.Name x pos) (tVar i) := pe_var hN hv hd hcd
end
theorem iteF {A B : Prop} (h : B) : if false = true then A else B := by
  rw [if_neg Bool.false_ne_true]
  exact h
theorem iteT {A B : Prop} (h : A) : if true = true then A else B := by
  rw [if_pos rfl]
  exact h
theorem ite2 {c A B : Prop} [Decidable c] (h1 : c -> A) (h2 : ¬ c -> B) : if c then A else B := by
  by_cases h : c
  · rw [if_pos h]
    exact h1 h
  · rw [if_neg h]
    exact h2 h
def Same (H H' : Hp) : Prop := ∀ b o, H b = some o -> H' b = some o
theorem Same.refl (H : Hp) : Same H H := fun _ _ h => h
theorem Same.trans {H H1 H2 : Hp} (a : Same H H1) (b : Same H1 H2) : Same H H2 := fun c o h => b c o (a c o h)
theorem Same.free {H H' : Hp} (e : Same H H') {l : Addr} (h : H' l = Option.none) : H l = Option.none := by
  cases q : H l with
  | none => rfl
  | some o =>
    rw [e l o q] at h
    cases h
theorem Same.seq {K : PySem.W.Frag} {H H' : Hp} {a : Addr} {xs : List V} (e : Same H H') (h : SqL K H a xs) : SqL K H' a xs := by
  rcases h with (h | ⟨o, h⟩) | h
  · exact .inl (.inl (e _ _ h))
  · exact .inl (.inr ⟨o, e _ _ h⟩)
  · exact .inr h
end L2
namespace L2
open PySem PySem.Spec PyProof.Rows
def AllIn (env : Env) : List (Str × Addr) -> Prop
  | [] => True
  | p :: r => env.cells.lookup p.1 = some p.2 /\ AllIn env r
theorem AllIn.get {env : Env} : ∀ {cl : List (Str × Addr)} {y : Str} {c : Addr}, AllIn env cl -> cl.lookup y = some c -> env.cells.lookup y = some c
  | [], _, _, _, h => by simp at h
  | (n, a) :: r, y, c, ⟨e, t⟩, h => by
    rw [List.lookup_cons] at h
    by_cases q : y = n
    · subst q
      rw [beq_self_eq_true] at h
      cases h
      exact e
    · have q' : (y == n) = false := beq_eq_false_iff_ne.mpr q
      rw [q'] at h
      exact AllIn.get t h
def blank : List Nat -> St -> St
  | [], σ => σ
  | i :: S, σ => blank S (σ.set i none)
theorem blank_len : ∀ (S : List Nat) (σ : St), (blank S σ).length = σ.length
  | [], _ => rfl
  | i :: S, σ => by rw [blank, blank_len S, List.length_set]
theorem blank_get : ∀ (S : List Nat) (σ : St) {j : Nat} {v : V}, (blank S σ)[j]? = some (some v) -> σ[j]? = some (some v) /\ j ∉ S
  | [], _, _, _, h => ⟨h, by simp⟩
  | i :: S, σ, j, v, h => by
    obtain ⟨h1, h2⟩ := blank_get S (σ.set i none) h
    rw [List.getElem?_set] at h1
    by_cases e : i = j
    · rw [if_pos e] at h1
      split at h1 <;> cases h1
    · rw [if_neg e] at h1
      exact ⟨h1, fun z => (List.mem_cons.mp z).elim (fun z => e z.symm) h2⟩
structure LcOk (X : Cx) (scope : Scope) (cl : List (Str × Addr)) (S : List Nat) : Prop where
  clos : closureFor scope X.env = pure cl
  kind : scope.kind = .function
  noC : scope.names.all (fun y => y.2 != .cell) = true
  loc : scope.names.all (fun y => y.2 != .local || scope.names.lookup y.1 == some .local) = true
  own : X.N.zipIdx.all (fun y => S.contains y.2 || scope.names.lookup y.1 != some .local) = true
  sub : AllIn X.env cl
  has : scope.names.all (fun p => p.2 != .free || ((cl.lookup p.1).isSome && (X.env.kindOf p.1 == some .cell || X.env.kindOf p.1 == some .free))) = true
section
variable {X : Cx} {scope : Scope} {cl : List (Str × Addr)} {S : List Nat}
theorem LcOk.nocell (L : LcOk X scope cl S) : ∀ y ∈ scope.names, y.2 ≠ .cell := fun y hy => by
  have h := List.all_eq_true.mp L.noC y hy
  exact bne_iff_ne.mp h
theorem LcOk.locs (L : LcOk X scope cl S) : ∀ y ∈ scope.names, y.2 = .local -> scope.names.lookup y.1 = some .local := fun y hy e => by
  have h := List.all_eq_true.mp L.loc y hy
  rw [e] at h
  simpa using h
theorem LcOk.apart (L : LcOk X scope cl S) : ∀ (i : Nat) (y : Str), X.N[i]? = some y -> i ∉ S -> scope.names.lookup y ≠ some .local := fun i y hy hi => by
  have h := List.all_eq_true.mp L.own (y, i) (List.mem_zipIdx_iff_getElem?.mpr hy)
  have hc : S.contains i = false := by simpa using hi
  rw [hc, Bool.false_or] at h
  exact bne_iff_ne.mp h
theorem LcOk.free (L : LcOk X scope cl S) {y : Str} (h : scope.names.lookup y = some .free) : (∃ c, cl.lookup y = some c) /\ (X.env.kindOf y = some .cell \/ X.env.kindOf y = some .free) := by
  have h1 := List.all_eq_true.mp L.has _ (PySem.mem_of_lookup h)
  simp only [bne_self_eq_false, Bool.false_or, Bool.and_eq_true, Bool.or_eq_true, beq_iff_eq] at h1
  exact ⟨Option.isSome_iff_exists.mp h1.1, h1.2⟩
theorem lookup_relabel (names : List (Str × NameKind)) (env : Env) (y : Str) :
    (names.map fun (n, k) => if (k == NameKind.free && env.scope.kind == .function && env.kindOf n == some .cell) then (n, NameKind.cell) else (n, k)).lookup y =
      (names.lookup y).map fun k => if (k == NameKind.free && env.scope.kind == .function && env.kindOf y == some .cell) then NameKind.cell else k := by
  induction names with
  | nil => rfl
  | cons p r ih =>
    obtain ⟨n, k⟩ := p
    rw [List.map_cons]
    by_cases q : y = n
    · subst q
      by_cases hc : (k == NameKind.free && env.scope.kind == .function && env.kindOf y == some .cell) = true
      · show List.lookup y ((if (k == NameKind.free && env.scope.kind == .function && env.kindOf y == some .cell) = true then (y, NameKind.cell) else (y, k)) :: _) = _
        rw [if_pos hc, List.lookup_cons, List.lookup_cons, beq_self_eq_true]
        show some NameKind.cell = some (if _ then _ else _)
        rw [if_pos hc]
      · show List.lookup y ((if (k == NameKind.free && env.scope.kind == .function && env.kindOf y == some .cell) = true then (y, NameKind.cell) else (y, k)) :: _) = _
        rw [if_neg hc, List.lookup_cons, List.lookup_cons, beq_self_eq_true]
        show some k = some (if _ then _ else _)
        rw [if_neg hc]
    · have q' : (y == n) = false := beq_eq_false_iff_ne.mpr q
      by_cases hc : (k == NameKind.free && env.scope.kind == .function && env.kindOf n == some .cell) = true
      · show List.lookup y ((if (k == NameKind.free && env.scope.kind == .function && env.kindOf n == some .cell) = true then (n, NameKind.cell) else (n, k)) :: _) = _
        rw [if_pos hc, List.lookup_cons, List.lookup_cons, q']
        exact ih
      · show List.lookup y ((if (k == NameKind.free && env.scope.kind == .function && env.kindOf n == some .cell) = true then (n, NameKind.cell) else (n, k)) :: _) = _
        rw [if_neg hc, List.lookup_cons, List.lookup_cons, q']
        exact ih
theorem LcOk.kinds (L : LcOk X scope cl S) {y : Str} (h : (relabel scope X.env).names.lookup y = some .cell \/ (relabel scope X.env).names.lookup y = some .free) : scope.names.lookup y = some .free := by
  have e : (relabel scope X.env).names.lookup y = (scope.names.lookup y).map fun k => if (k == NameKind.free && X.env.scope.kind == .function && X.env.kindOf y == some .cell) then NameKind.cell else k := lookup_relabel scope.names X.env y
  rw [e] at h
  cases q : scope.names.lookup y with
  | none => rw [q] at h; rcases h with h | h <;> cases h
  | some k =>
    have hk : k ≠ .cell := L.nocell _ (PySem.mem_of_lookup q)
    rw [q] at h
    by_cases hf : k = .free
    · rw [hf]
    · have z : (k == NameKind.free) = false := beq_eq_false_iff_ne.mpr hf
      rw [Option.map_some, z, Bool.false_and, Bool.false_and, if_neg Bool.false_ne_true] at h
      rcases h with h | h
      · exact absurd (Option.some.inj h) hk
      · exact absurd (Option.some.inj h) hf
def cxLC (X : Cx) (scope : Scope) (cl : List (Str × Addr)) (M : List Str) (C : Addr) (s₀ : Shared) (H₀ : Hp) (ex : List Addr) (E : Value -> Shared -> Prop) : Cx where
  prog := X.prog
  w := X.w
  K := X.K
  mg := X.mg
  base := X.base
  A := X.A
  N := X.N ++ M
  s₀ := s₀
  H₀ := H₀
  env := compEnvC scope cl C X.env
  outer := X.stack
  stack := X.stack
  ex := ex
  fn := fun _ => false
  calm := X.calm
  pn := []
  xe := E
variable {pins : List (Addr × Obj)} {σ : St} {H : Hp} {s : Shared} {ex : List Addr} {M : List Str} {C : Addr}
theorem lc_start {E : Value -> Shared -> Prop} {h1 : Heap} {tk : Nat} {m : Str -> Option Value} (I : Inv X pins σ H s) (L : LcOk X scope cl S) (hf : ∀ b ∈ ex, FpOk X pins H b) (hlt : ∀ b ∈ ex, b < s.heap.objs.size)
    (hk : ∀ b o, s.heap.get? b = some o -> h1.get? b = some o) (hC : s.heap.objs.size <= C) (hns : h1.Ns C m) :
    Inv (cxLC X scope cl M C s H ex E) [] (blank S σ ++ List.replicate M.length none) H { s with heap := h1, toks := tk } := by
  refine ⟨⟨I.ok.mod, L.kind, I.ok.glob, I.ok.blt, hC, fun x y c a b => I.ok.inj x y c (L.sub.get a) (L.sub.get b), fun y hy => (L.free (L.kinds hy)).1, (fun x c z => nomatch z), I.ok.hd, I.ok.frames, .inl rfl, fun b hb => ⟨?_, fun x c e => ?_⟩,
      I.bs, Nat.le_trans I.ok.bsz I.sz, fun b o e hb => ?_, fun b hb z => ?_, I.stack, I.stkFree⟩,
    rfl, I.bare, Un.kept hk, ⟨m, hns, fun i y v e1 e2 e3 => ?_⟩, fun y c e => ?_, I.hok.fresh hC, fun y c e => I.freeC y c (L.sub.get e), fun p hp => absurd (show p ∈ ([] : List (Addr × Obj)) from hp) (by simp), I.hok.kept hk, ?_⟩
  · exact Nat.ne_of_lt (Nat.lt_of_lt_of_le (hlt b hb) hC)
  · exact (hf b hb).2.2.2.2.1 x c (L.sub.get e)
  · rcases (hf b hb).2.2.2.1 with z | z
    · exact I.ok.noex b o e z
    · exact absurd (Nat.lt_of_lt_of_le (Heap.lt_size e) (Nat.le_trans I.ok.bsz z)) (Nat.lt_irrefl _)
  · rcases List.mem_cons.mp (I.stkSub b z) with q | q
    · exact (hf b hb).2.1 q
    · exact (hf b hb).2.2.1 q
  · have e1' : (X.N ++ M)[i]? = some y := e1
    by_cases hi : i < σ.length
    · rw [List.getElem?_append_left (by rw [blank_len]; exact hi)] at e2
      obtain ⟨e2, hiS⟩ := blank_get S σ e2
      rw [List.getElem?_append_left (by rw [<- I.len]; exact hi)] at e1'
      obtain ⟨m0, hn0, hl⟩ := I.loc
      have hy : scope.names.lookup y = some .free := by
        rcases e3 with e3 | e3
        · have q := lookup_relabel scope.names X.env y
          have e3' : (relabel scope X.env).names.lookup y = some .local := e3
          cases z : scope.names.lookup y with
          | none =>
            rw [z] at q
            have q' : (relabel scope X.env).names.lookup y = none := q
            rw [e3'] at q'; cases q'
          | some k =>
            have hk1 : k ≠ .local := fun w => L.apart i y e1' hiS (w ▸ z)
            rw [z, Option.map_some] at q
            have q' : some NameKind.local = some (if (k == NameKind.free && X.env.scope.kind == .function && X.env.kindOf y == some .cell) = true then NameKind.cell else k) := e3'.symm.trans q
            have q2 := Option.some.inj q'
            by_cases hc : (k == NameKind.free && X.env.scope.kind == .function && X.env.kindOf y == some .cell) = true
            · rw [if_pos hc] at q2; cases q2
            · rw [if_neg hc] at q2; exact absurd q2.symm hk1
        · exact L.kinds e3
      obtain ⟨⟨c, hc⟩, hk2⟩ := L.free hy
      obtain ⟨u, r, l⟩ := hl i y v e1' e2 (.inr hk2)
      refine ⟨u, r, .inr ⟨?_, c, hc, ?_⟩⟩
      · have q := lookup_relabel scope.names X.env y
        rw [hy, Option.map_some] at q
        have q' : (relabel scope X.env).names.lookup y = some (if (NameKind.free == NameKind.free && X.env.scope.kind == .function && X.env.kindOf y == some .cell) = true then NameKind.cell else NameKind.free) := q
        by_cases hc : (NameKind.free == NameKind.free && X.env.scope.kind == .function && X.env.kindOf y == some .cell) = true
        · rw [if_pos hc] at q'; exact .inl q'
        · rw [if_neg hc] at q'; exact .inr q'
      · rcases l with ⟨l1, _⟩ | ⟨_, c', e', z⟩
        · rcases hk2 with w | w <;> (rw [l1] at w; cases w)
        · have ec : c' = c := by
            have w := L.sub.get hc
            rw [e'] at w
            exact Option.some.inj w
          subst ec
          obtain ⟨o, ho, hd⟩ := z
          exact ⟨o, hk _ _ ho, hd⟩
    · rw [List.getElem?_append_right (by rw [blank_len]; exact Nat.not_lt.mp hi), List.getElem?_replicate] at e2
      split at e2 <;> cases e2
  · obtain ⟨v, o, ho, hd⟩ := I.cell y c (L.sub.get e)
    exact ⟨v, o, hk _ _ ho, hd⟩
  · show (blank S σ ++ List.replicate M.length none).length = (X.N ++ M).length
    rw [List.length_append, List.length_append, List.length_replicate, blank_len, I.len]
def PTs (X : Cx) (ifs : List Expr) (t : TT) : Prop :=
  ∀ (pins : List (Addr × Obj)) (s : Shared) (σ : St) (H : Hp) (Q : Bool -> Hp -> Prop), Inv X pins σ H s -> t σ H Q ->
    wpAny (model X.prog X.w) X.A (forIn ifs true fun c r => if r = true then do let ok <- isTrue c X.env (eval c X.env); pure (ForInStep.yield ok) else pure (ForInStep.yield r)) (TP X pins σ Q) X.xe s
theorem pts_one {X : Cx} {c : Expr} {t : TT} (h : PT X c t) : PTs X [c] t := fun pins s σ H Q I q => wpAny_tests_one (h pins s σ H Q I q)
def lcBy (J : It) (g : TG) (tt : TT) (te : TE) (Q : VK) (W : Nat -> Nat -> St -> List V -> Hp -> Prop) : Prop := ∀ i m τ ys H, W i m τ ys H ->
  (J.stop i H /\ ∀ p, H p = none -> Q (.ref p) (upd H p (.lst ys))) \/
  (J.go i H /\ ∃ N : St -> List V -> Hp -> Prop, (∀ τ' ys' H', N τ' ys' H' -> ∃ m', m' < m /\ W (i + 1) m' τ' ys' H') /\ ∀ x H', J.yld i H x H' -> g x τ H' fun τ2 H2 => tt τ2 H2 fun b H3 =>
    if b = true then te τ2 H3 fun y H4 => ys.length < sizeLine /\ N τ2 (ys ++ [y]) H4 else N τ2 ys H3)
def tLC (wi : TI) (g : TG) (tt : TT) (te : TE) (n : Nat) : TE := fun σ H Q => wi σ H fun J H1 => ∃ W, (∃ m, W 0 m (σ ++ List.replicate n none) [] H1) /\ lcBy J g tt te Q W
def tLCS (S : List Nat) (wi : TI) (g : TG) (tt : TT) (te : TE) (n : Nat) : TE := fun σ H Q => wi σ H fun J H1 => ∃ W, (∃ m, W 0 m (blank S σ ++ List.replicate n none) [] H1) /\ lcBy J g tt te Q W
variable {tg elt iter : Expr} {ifs : List Expr} {pos : Pos} {wi : TI} {g : TG} {tt : TT} {te : TE}
end
def clOf (scope : Scope) (env : Env) : List (Str × Addr) := scope.names.foldl (fun cs p => if p.2 == .free then (match env.cells.lookup p.1 with | some a => (p.1, a) :: cs | none => cs) else cs) []
theorem clOf_in (env : Env) : ∀ (names : List (Str × NameKind)) (acc : List (Str × Addr)), AllIn env acc -> AllIn env (names.foldl (fun cs p => if p.2 == .free then (match env.cells.lookup p.1 with | some a => (p.1, a) :: cs | none => cs) else cs) acc)
  | [], _, h => h
  | (n, k) :: r, acc, h => by
    rw [List.foldl_cons]
    refine clOf_in env r _ ?_
    by_cases hk : (k == NameKind.free) = true
    · rw [if_pos hk]
      cases e : env.cells.lookup n with
      | none => exact h
      | some a => exact ⟨e, h⟩
    · rw [if_neg hk]
      exact h
section
variable {X : Cx} {scope : Scope} {M : List Str} {tg elt iter : Expr} {ifs : List Expr} {pos : Pos} {wi : TI} {g : TG} {tt : TT} {te : TE}
theorem lcOkS {S : List Nat} (h1 : closureFor scope X.env = pure (clOf scope X.env)) (h2 : scope.kind = .function) (h3 : scope.names.all (fun y => y.2 != .cell) = true) (h4 : scope.names.all (fun y => y.2 != .local || scope.names.lookup y.1 == some .local) = true)
    (h5 : X.N.zipIdx.all (fun y => S.contains y.2 || scope.names.lookup y.1 != some .local) = true) (h6 : scope.names.all (fun p => p.2 != .free || (((clOf scope X.env).lookup p.1).isSome && (X.env.kindOf p.1 == some .cell || X.env.kindOf p.1 == some .free))) = true) :
    LcOk X scope (clOf scope X.env) S := ⟨h1, h2, h3, h4, h5, clOf_in X.env scope.names [] trivial, h6⟩
theorem lcOk (h1 : closureFor scope X.env = pure (clOf scope X.env)) (h2 : scope.kind = .function) (h3 : scope.names.all (fun y => y.2 != .cell) = true) (h4 : scope.names.all (fun y => y.2 != .local || scope.names.lookup y.1 == some .local) = true)
    (h5 : X.N.all (fun y => scope.names.lookup y != some .local) = true) (h6 : scope.names.all (fun p => p.2 != .free || (((clOf scope X.env).lookup p.1).isSome && (X.env.kindOf p.1 == some .cell || X.env.kindOf p.1 == some .free))) = true) :
    LcOk X scope (clOf scope X.env) [] := lcOkS h1 h2 h3 h4 (List.all_eq_true.mpr fun y hy => by
      have hm : y.1 ∈ X.N := List.mem_of_getElem? (List.mem_zipIdx_iff_getElem?.mp hy)
      rw [List.all_eq_true.mp h5 y.1 hm, Bool.or_true]) h6
end
section
variable {g : TG} {tt : TT} {te : TE} {Q : VK} {σ : St} {H : Hp}
theorem lc_list {K : PySem.W.Frag} {a : Addr} {xs : List V} (Pv : Nat -> St -> List V -> Hp -> Prop) (h0 : Pv 0 σ [] H) (hl : ∀ i τ ys H, i <= xs.length -> Pv i τ ys H -> SqL K H a xs)
    (hs : ∀ i x τ ys H, xs[i]? = some x -> Pv i τ ys H -> g x τ H fun τ2 H2 => tt τ2 H2 fun b H3 => if b = true then te τ2 H3 fun y H4 => ys.length < sizeLine /\ Pv (i + 1) τ2 (ys ++ [y]) H4 else Pv (i + 1) τ2 ys H3)
    (hd : ∀ τ ys H, Pv xs.length τ ys H -> ∀ p, H p = none -> Q (.ref p) (upd H p (.lst ys))) : ∃ W, (∃ m, W 0 m σ [] H) /\ lcBy (Itl K a) g tt te Q W := by
  refine ⟨fun i m τ ys H => m = xs.length - i /\ i <= xs.length /\ Pv i τ ys H, ⟨xs.length, by simp, Nat.zero_le _, h0⟩, ?_⟩
  rintro i m τ ys H ⟨rfl, hi, p⟩
  have q := hl i τ ys H hi p
  by_cases hlt : i < xs.length
  · refine .inr ⟨⟨xs, xs[i], q, by simp [hlt]⟩, Pv (i + 1), fun τ' ys' H' p' => ⟨xs.length - (i + 1), by omega, rfl, hlt, p'⟩, fun x H' y => ?_⟩
    obtain ⟨e, y⟩ := y
    subst e
    exact hs i x τ ys _ (y xs q) p
  · have e : i = xs.length := by omega
    subst e
    exact .inl ⟨⟨xs, q, Nat.le_refl _⟩, hd τ ys H p⟩
end
end L2
namespace L2
open PySem PySem.Spec PyProof.Rows Builtin Builtin.Str
section
variable {X : Cx} {tg : Expr}
theorem op_mul_str : OpR X (binaryOp .Mult) (fun x y H Q => ∃ z n, x = .str z /\ y = .int n /\ MulOk z n /\ Q (.str (Txt.mul z n)) H) := by
  intro pins s σ H x y v u Q I rx ry h
  obtain ⟨z, n, rfl, rfl, ok, q⟩ := h
  obtain ⟨t, rfl⟩ := rx
  obtain ⟨t', rfl⟩ := ry
  exact SB.mul ok fun t'' k => ⟨.str (Txt.mul z n), H, I.tok k, ⟨t'', rfl⟩, q⟩
theorem call_isinst : CallR X (.builtin "isinstance") (fun xs H Q => ∃ x t T b, xs = [x, .ty T] /\ TyOf X.K H x t /\ PySem.W.kitOne X.K t (.type T) = some b /\ Q (.bl b) H) := by
  intro pins s σ H xs us Q I r h
  obtain ⟨x, t, T, b, rfl, ty, e, q⟩ := h
  obtain ⟨u, u', rfl, rx, ru⟩ := vals2 r
  cases ru
  exact isinst_ok I rx ty e fun tk => ⟨.bl b, H, I.tok tk, rfl, q⟩
end
end L2
namespace L2
open PySem PySem.Spec PyProof.Rows
def isStar : Expr -> Bool
  | .Starred .. => true
  | _ => false
theorem star_cons {e : Expr} {es : List Expr} {env : Env} (h : isStar e = false) : starEach (e :: es) env = (false, eval e env) :: starEach es env := by
  cases e <;> first
    | rfl
    | exact absurd (show true = false from h) (by decide)
theorem star_any {env : Env} {pos : Pos} : ∀ {es : List Expr}, es.all (fun e => !isStar e) = true -> (backTo pos (starEach es env)).any (·.1) = false
  | [], _ => rfl
  | e :: es, h => by
    rw [List.all_cons, Bool.and_eq_true] at h
    have h1 : isStar e = false := by simpa using h.1
    rw [star_cons h1]
    show (false || (backTo pos (starEach es env)).any (·.1)) = false
    rw [star_any h.2]
    rfl
section
variable {X : Cx} {CX : CXT} {k : Nat} {f C : Addr} {fd : FuncData} {ps : List Str} {sp : Sp} {dvs : List V} {ds : List Value} {E : XK} {x m : Str} {p pos apos : Pos} {e o : Expr} {es : List Expr} {te ta : TE} {t : TA} {id T : String} {r : List V -> Hp -> VK -> Prop}
theorem pa_c (ha : PE X e te) (hr : PA X es t) (h : isStar e = false := by rfl) : PA X (e :: es) (tCons te t) := pa_cons ha hr (star_cons h)
theorem pe_fn (F : FnOk X.prog X.w X.K X.mg X.base CX k f fd ps sp) (hr : Room k X.A) (hg : Gl X x) (hm : X.mg x = some (.ref f)) (hk : PySem.W.keepIn X.K (.ref f) = true) (hb : Binds X.K fd ps ds) (hd : Vals dvs ds) (hx : Passes CX X E)
    (ha : PA X (e :: es) t) (hdb : (x == ("__debug__" : Str)) = false := by decide) (h1 : isStar e = false := by rfl) (h2 : es.all (fun e => !isStar e) = true := by rfl) :
    PE X (.Call (.Name x p) (e :: es) [] pos) (tCall sp dvs E t) := pe_call F hr hg hm hk hb hd hx ha hdb (star_cons h1) (star_any h2)
theorem pe_fnB (hc : CallR X (.builtin id) r) (hg : Gl X x) (hm : X.mg x = none) (hv : bootBuiltins x = some (.builtin id)) (ha : PA X (e :: es) t) (hn : x ≠ "__name__" := by decide) (hdb : (x == ("__debug__" : Str)) = false := by decide)
    (h1 : isStar e = false := by rfl) (h2 : es.all (fun e => !isStar e) = true := by rfl) : PE X (.Call (.Name x p) (e :: es) [] pos) (tCB r t) := pe_callB hc hg hm hv ha hn hdb (star_cons h1) (star_any h2)
theorem pe_fnTy (hc : CallR X (.type T) r) (hg : Gl X x) (hm : X.mg x = none) (hv : bootBuiltins x = some (.type T)) (ha : PA X (e :: es) t) (hn : x ≠ "__name__" := by decide) (hdb : (x == ("__debug__" : Str)) = false := by decide)
    (h1 : isStar e = false := by rfl) (h2 : es.all (fun e => !isStar e) = true := by rfl) : PE X (.Call (.Name x p) (e :: es) [] pos) (tCB r t) := pe_callTy hc hg hm hv ha hn hdb (star_cons h1) (star_any h2)
end
end L2
namespace L2
open PySem PySem.Spec PyProof.Rows
structure jE (X : Cx) (e : Expr) (t : TE) : Prop where
  out : PE X e t
structure jT (X : Cx) (e : Expr) (t : TT) : Prop where
  out : PT X e t
structure jW (X : Cx) (e : Expr) (t : TT) : Prop where
  out : PW X e t
structure jA (X : Cx) (es : List Expr) (t : TA) : Prop where
  out : PA X es t
structure jS (X : Cx) (st : Stmt) (t : TS) : Prop where
  out : PS X st t
structure jSs (X : Cx) (sts : List Stmt) (t : TS) : Prop where
  out : PSs X sts t
structure jG (X : Cx) (tg : Expr) (t : TG) : Prop where
  out : PG X tg t
structure jGs (X : Cx) (tg : List Expr) (t : TGs) : Prop where
  out : PGs X tg t
structure jI (X : Cx) (tg iter : Expr) (t : TI) : Prop where
  out : PI X tg iter t
structure jO (X : Cx) (e : Option Expr) (t : TO) : Prop where
  out : PO X e t
structure jTs (X : Cx) (ifs : List Expr) (t : TT) : Prop where
  out : PTs X ifs t
structure jOp (X : Cx) (f : Value -> Value -> Sem Value) (r : R2) : Prop where
  out : OpR X f r
structure jIx (X : Cx) (r : R2) : Prop where
  out : IxR X r
structure jSl (X : Cx) (r : V -> Option Int -> Option Int -> Hp -> VK -> Prop) : Prop where
  out : SlR X r
structure jMt (X : Cx) (id : String) (r : V -> List V -> Hp -> VK -> Prop) : Prop where
  out : MtR X id r
structure jCa (X : Cx) (f : Value) (r : List V -> Hp -> VK -> Prop) : Prop where
  out : CallR X f r
section
variable {X : Cx} {a b c e o : Expr} {es rest : List Expr} {ta tb tc te to : TE} {t u : TA} {tA tB' : TT} {pos p p2 apos cpos px : Pos} {x y m : Str} {op op' : CmpOp} {bop : Operator} {r r' : R2}
theorem jv (i : Nat) (hN : X.N[i]? = some x := by rfl) (hv : Vis X.env.scope x := by first | exact Or.inl rfl | exact Or.inr (Or.inl rfl) | exact Or.inr (Or.inr rfl)) (hd : (x == ("__debug__" : Str)) = false := by decide)
    (hcd : (x == ("__classdict__" : Str)) = false := by decide) : jE X (.Name x pos) (tVar i) := ⟨pv i hN hv hd hcd⟩
theorem je_int {i j} : jE X (.Constant (.int i) j pos) (tC (.int i)) := ⟨pe_int⟩
theorem je_bl {b j} : jE X (.Constant (.bool b) j pos) (tC (.bl b)) := ⟨pe_bl⟩
theorem je_non {j} : jE X (.Constant .none j pos) (tC .non) := ⟨pe_non⟩
theorem je_str {x j} : jE X (.Constant (.str x) j pos) (tC (.str x)) := ⟨pe_str⟩
theorem je_glob {v : V} {w : Value} (hg : Gl X x) (hm : X.mg x = some w) (r : RelV v w) (hd : (x == ("__debug__" : Str)) = false := by decide) : jE X (.Name x pos) (tC v) := ⟨pe_glob hg hm r hd⟩
theorem je_bltn {v : V} {w : Value} (hg : Gl X x) (hm : X.mg x = none) (hv : bootBuiltins x = some w) (r : RelV v w) (hn : x ≠ "__name__" := by decide) (hd : (x == ("__debug__" : Str)) = false := by decide) : jE X (.Name x pos) (tC v) := ⟨pe_bltn hg hm hv r hn hd⟩
theorem je_op (ho : jOp X (binaryOp bop) r) (ha : jE X a ta) (hb : jE X b tb) : jE X (.BinOp a bop b pos) (tOp r ta tb) := ⟨pe_op ho.out ha.out hb.out⟩
theorem je_neg (ha : jE X a ta) : jE X (.UnaryOp .USub a pos) (tUn (rU fun i => .int (-i)) ta) := ⟨pe_un un_neg ha.out⟩
theorem je_cmpR (ho : jOp X (compareOp op) r) (ha : jE X a ta) (hb : jE X b tb) (hm : behindInMarks op b = false) : jE X (.Compare a [op] [b] pos) (tOp r ta tb) := ⟨pe_cmpR ho.out ha.out hb.out hm⟩
theorem jt_cmpR (ho : jOp X (compareOp op) r) (ha : jE X a ta) (hb : jE X b tb) (hm : behindInMarks op b = false) : jT X (.Compare a [op] [b] pos) (tTest (tOp r ta tb)) := ⟨pt_cmpR ho.out ha.out hb.out hm⟩
theorem je_chain (ho : jOp X (compareOp op) r) (ho' : jOp X (compareOp op') r') (ha : jE X a ta) (hb : jE X b tb) (hc : jE X c tc) (hm : lastMarks [op, op'] [b, c] = false := by with_unfolding_all rfl) : jE X (.Compare a [op, op'] [b, c] pos) (tChain r r' ta tb tc) := ⟨pe_chain ho.out ho'.out ha.out hb.out hc.out hm⟩
theorem jt_val (h : jE X e te) (he : ∀ whole, isTrue e X.env whole = (do let v <- whole; standAt e.pos; holding [v] (truthy v)) := by intro _; rfl) : jT X e (tB te) := ⟨pt_val h.out he⟩
theorem jw_and1 (ha : jT X a tA) : jW X (.BoolOp .And [a] pos) tA := ⟨pw_and1 ha.out⟩
theorem jw_or1 (ha : jT X a tA) : jW X (.BoolOp .Or [a] pos) tA := ⟨pw_or1 ha.out⟩
theorem jw_and (ha : jT X a tA) (hb : jW X (.BoolOp .And (b :: rest) pos) tB') : jW X (.BoolOp .And (a :: b :: rest) pos) (tAnd tA tB') := ⟨pw_and ha.out hb.out⟩
theorem jw_or (ha : jT X a tA) (hb : jW X (.BoolOp .Or (b :: rest) pos) tB') : jW X (.BoolOp .Or (a :: b :: rest) pos) (tOr tA tB') := ⟨pw_or ha.out hb.out⟩
theorem jW.pt (h : jW X e tA) : jT X e tA := ⟨PW.pt h.out⟩
theorem jt_not (ha : jT X a tA) : jT X (.UnaryOp .Not a pos) (tNot tA) := ⟨pt_not ha.out⟩
theorem je_one {op} (h : jE X a te) : jE X (.BoolOp op [a] pos) te := ⟨pe_one h.out⟩
theorem je_and (ha : jE X a ta) (hb : jE X (.BoolOp .And (b :: rest) pos) tb) : jE X (.BoolOp .And (a :: b :: rest) pos) (tAndV ta tb) := ⟨pe_and ha.out hb.out⟩
theorem je_not (ha : jE X a ta) : jE X (.UnaryOp .Not a pos) (tNotV ta) := ⟨pe_not ha.out⟩
theorem je_ifExp (hc : jT X c tA) (ha : jE X a ta) (hb : jE X b tb) : jE X (.IfExp c a b pos) (tIf tA ta tb) := ⟨pe_ifExp hc.out ha.out hb.out⟩
theorem ja_nil : jA X [] tNil := ⟨pa_nil⟩
theorem ja_c (ha : jE X e te) (hr : jA X es t) (h : isStar e = false := by rfl) : jA X (e :: es) (tCons te t) := ⟨pa_c ha.out hr.out h⟩
theorem je_lst (h : jA X es t) : jE X (.List es pos) (tLst t) := ⟨pe_lst h.out⟩
theorem je_tup {x1} (h : jA X es t) : jE X (.Tuple es x1 pos) (tTup t) := ⟨pe_tup h.out⟩
theorem je_ix (hr : jIx X r) (ha : jE X a ta) (hb : jE X b tb) (hs : PlainIx b) : jE X (.Subscript a b pos) (tOp r ta tb) := ⟨pe_ix hr.out ha.out hb.out hs⟩
variable {CX : CXT} {k : Nat} {f C : Addr} {fd : FuncData} {ps : List Str} {sp : Sp} {dvs : List V} {ds : List Value} {E : XK} {id T : String} {rc : List V -> Hp -> VK -> Prop} {rm : V -> List V -> Hp -> VK -> Prop}
theorem je_fn (F : FnOk X.prog X.w X.K X.mg X.base CX k f fd ps sp) (hr : Room k X.A) (hg : Gl X x) (hm : X.mg x = some (.ref f)) (hk : PySem.W.keepIn X.K (.ref f) = true) (hb : Binds X.K fd ps ds) (hd : Vals dvs ds) (hx : Passes CX X E)
    (ha : jA X (e :: es) t) (hdb : (x == ("__debug__" : Str)) = false := by decide) (h1 : isStar e = false := by rfl) (h2 : es.all (fun e => !isStar e) = true := by rfl) :
    jE X (.Call (.Name x p) (e :: es) [] pos) (tCall sp dvs E t) := ⟨pe_fn F hr hg hm hk hb hd hx ha.out hdb h1 h2⟩
theorem je_fnB (hc : jCa X (.builtin id) rc) (hg : Gl X x) (hm : X.mg x = none) (hv : bootBuiltins x = some (.builtin id)) (ha : jA X (e :: es) t) (hn : x ≠ "__name__" := by decide) (hdb : (x == ("__debug__" : Str)) = false := by decide)
    (h1 : isStar e = false := by rfl) (h2 : es.all (fun e => !isStar e) = true := by rfl) : jE X (.Call (.Name x p) (e :: es) [] pos) (tCB rc t) := ⟨pe_fnB hc.out hg hm hv ha.out hn hdb h1 h2⟩
theorem je_fnTy (hc : jCa X (.type T) rc) (hg : Gl X x) (hm : X.mg x = none) (hv : bootBuiltins x = some (.type T)) (ha : jA X (e :: es) t) (hn : x ≠ "__name__" := by decide) (hdb : (x == ("__debug__" : Str)) = false := by decide)
    (h1 : isStar e = false := by rfl) (h2 : es.all (fun e => !isStar e) = true := by rfl) : jE X (.Call (.Name x p) (e :: es) [] pos) (tCB rc t) := ⟨pe_fnTy hc.out hg hm hv ha.out hn hdb h1 h2⟩
variable {st : Stmt} {sts : List Stmt} {s1 s2 : TS} {tg iter elt : Expr} {g : TG} {wi : TI} {tb1 : TS} {ifs : List Expr} {tt : TT}
theorem jss_nil : jSs X [] tNext := ⟨pss_nil⟩
theorem jss_cons (h1 : jS X st s1) (h2 : jSs X sts s2) : jSs X (st :: sts) (tSeq s1 s2) := ⟨pss_cons h1.out h2.out⟩
theorem jss_one (h1 : jS X st s1) : jSs X [st] s1 := ⟨pss_one h1.out⟩
theorem js_expr (he : jE X e te) (hs : swapsWith e none pos.line X.env = pure false := by rfl) : jS X (.Expr e pos) (tDrop te) := ⟨ps_expr he.out hs⟩
theorem js_ret (he : jE X e te) : jS X (.Return (some e) pos) (tRet te) := ⟨ps_ret he.out⟩
theorem js_if {A B : List Stmt} (hc : jT X c tA) (ha : jSs X A s1) (hb : jSs X B s2) : jS X (.If c A B pos) (tIfS tA s1 s2) := ⟨ps_if hc.out ha.out hb.out⟩
theorem js_set {i : Nat} {pos' : Pos} (hN : X.N.Nodup) (hi : X.N[i]? = some x) (hx : Loc X.env.scope x) (he : jE X e te) (hs : swapsWith e (some (.Name x pos')) pos.line X.env = pure false := by rfl)
    (hf : X.fn x = true \/ X.env.scope.names.lookup x = some .local := by first | exact .inl rfl | exact .inr rfl | assumption) : jS X (.Assign [.Name x pos'] e pos) (tAsg te (gName i)) := ⟨ps_set hN hi hx he.out hs hf⟩
theorem js_asg (he : jE X e te) (hg : jG X tg g) (hs : swapsWithSole [tg] e pos.line X.env = pure false := by rfl) (hw : swappedStores [tg] e X.env = pure none := by rfl) (h1 : (assignEach [tg] X.env).map (·.2) = [assign tg X.env] := by rfl) : jS X (.Assign [tg] e pos) (tAsg te g) := ⟨ps_asg he.out hg.out hs hw h1⟩
theorem jg_name {i : Nat} (hN : X.N.Nodup) (hi : X.N[i]? = some x) (hx : Loc X.env.scope x) (hf : X.fn x = true \/ X.env.scope.names.lookup x = some .local := by first | exact .inl rfl | exact .inr rfl | assumption) : jG X (.Name x pos) (gName i) := ⟨pg_name hN hi hx hf⟩
theorem jgs_nil : jGs X [] gNil := ⟨pgs_nil⟩
theorem jgs_cons {g : TG} {gs : TGs} (h1 : jG X e g) (h2 : jGs X es gs) (hs : (assignEach (e :: es) X.env).map (·.2) = assign e X.env :: (assignEach es X.env).map (·.2) := by rfl) : jGs X (e :: es) (gCons g gs) := ⟨pgs_cons h1.out h2.out hs⟩
theorem jg_tup {k : Nat} {gs : TGs} {n : Nat} (hc : X.calm = true) (h : jGs X es gs) (hn : (assignEach es X.env).length = n := by rfl) (hst : (assignEach es X.env).findIdx? (·.1) = none := by rfl) : jG X (.Tuple es k pos) (gTup X.K n gs) := ⟨pg_tup hc h.out hn hst⟩
theorem jts_one (h : jT X c tA) : jTs X [c] tA := ⟨pts_one h.out⟩
theorem jo_add : jOp X (binaryOp .Add) (rI0 fun i j => .int (i + j)) := ⟨op_add⟩
theorem jo_sub : jOp X (binaryOp .Sub) (rI0 fun i j => .int (i - j)) := ⟨op_sub⟩
theorem jo_mul : jOp X (binaryOp .Mult) (rI CMul fun i j => .int (i * j)) := ⟨op_mul⟩
theorem jo_fdiv : jOp X (binaryOp .FloorDiv) (rI CDiv fun i j => .int (i / j)) := ⟨op_fdiv⟩
theorem jo_mod : jOp X (binaryOp .Mod) (rI (fun _ j => 0 < j) fun i j => .int (i % j)) := ⟨op_mod⟩
theorem jo_pow : jOp X (binaryOp .Pow) (rI CPow fun i j => .int (i ^ j.toNat)) := ⟨op_pow⟩
theorem jo_eq : jOp X (compareOp .Eq) rEq := ⟨op_eq⟩
theorem jo_ne : jOp X (compareOp .NotEq) rNe := ⟨op_ne⟩
theorem jo_lt : jOp X (compareOp .Lt) (rI0 fun i j => .bl (decide (i < j))) := ⟨op_lt⟩
theorem jo_le : jOp X (compareOp .LtE) (rI0 fun i j => .bl (decide (i <= j))) := ⟨op_le⟩
theorem jo_ge : jOp X (compareOp .GtE) (rI0 fun i j => .bl (decide (j <= i))) := ⟨op_ge⟩
theorem jo_in_seq : jOp X (compareOp .In) (rIn X.K false) := ⟨op_in_seq⟩
theorem jo_add_str : jOp X (binaryOp .Add) (fun x y H Q => ∃ i j, x = .str i /\ y = .str j /\ i.length + j.length <= sizeLine /\ Q (.str (i ++ j)) H) := ⟨op_add_str⟩
theorem jo_mul_str : jOp X (binaryOp .Mult) (fun x y H Q => ∃ z n, x = .str z /\ y = .int n /\ MulOk z n /\ Q (.str (Txt.mul z n)) H) := ⟨op_mul_str⟩
theorem jo_cat : jOp X (binaryOp .Add) rCat := ⟨op_cat⟩
theorem jx_list : jIx X (rIxL X.K) := ⟨ix_list⟩
theorem jx_tup : jIx X (rIxT X.K) := ⟨ix_tup⟩
theorem jc_len_seq : jCa X (.builtin "len") (fun xs H Q => ∃ p ys, xs = [.ref p] /\ (SqL X.K H p ys \/ SqT X.K H p ys) /\ Q (.int ys.length) H) := ⟨call_len_seq⟩
theorem jc_isinst : jCa X (.builtin "isinstance") (fun xs H Q => ∃ x t T b, xs = [x, .ty T] /\ TyOf X.K H x t /\ PySem.W.kitOne X.K t (.type T) = some b /\ Q (.bl b) H) := ⟨call_isinst⟩
end
section
variable {P : Program} {w : World} {K : PySem.W.Frag} {mg : Str -> Option Value} {base : Heap}
theorem Fun.by {x qual : Str} {st : Stmt} {f : Addr} {fd : FuncData} {N ps : List Str} {k : Nat} {sp : Sp} (F : Fun K x qual st f fd) (S : FnScope N ps (defScope st)) (len : ∀ vs H Q E, sp vs H Q E -> vs.length = ps.length)
    (hbody : ∀ (cdv : Value) (A : Around) (outer : List Env) (s : Shared) (H : Hp) (vs : List V) (Q : VK) (E : XK), Room k (A.deeper (envOfC qual (defScope st) s.heap.objs.size f cdv)) -> sp vs H Q E ->
      ∃ t, jSs (cxOf CX0 P w K mg base N qual (defScope st) f cdv A outer s H E).nox (defBody st) t /\ t { nx := fun _ H' => Q .non H', rt := Q } (start N vs) H) : FnOk P w K mg base CX0 (k + 1) f fd ps sp :=
  F.ok S len fun cdv A outer s H vs Q E hr h => let ⟨t, b, q⟩ := hbody cdv A outer s H vs Q E hr h; ⟨t, b.out, q⟩
end
end L2
namespace L2
open PySem
structure Mv (fs xs : List Addr) (h h' : Heap) : Prop where
  keep : ∀ b o, h.get? b = some o -> b ∉ fs -> b ∉ xs -> h'.get? b = some o
  slot : ∀ b o, h.get? b = some o -> b ∉ xs -> ∃ sl, h'.get? b = some { o with slots := sl }
  there : ∀ b o, h.get? b = some o -> ∃ o', h'.get? b = some o'
theorem Mv.refl {fs xs : List Addr} {h : Heap} : Mv fs xs h h := ⟨fun _ _ e _ _ => e, fun _ o e _ => ⟨o.slots, e⟩, fun _ o e => ⟨o, e⟩⟩
theorem Mv.trans {fs xs : List Addr} {h h1 h2 : Heap} (a : Mv fs xs h h1) (b : Mv fs xs h1 h2) : Mv fs xs h h2 :=
  ⟨fun c o e f x => b.keep c o (a.keep c o e f x) f x, fun c o e x => let ⟨_, e1⟩ := a.slot c o e x; let ⟨sl, e2⟩ := b.slot c _ e1 x; ⟨sl, e2⟩, fun c o e => let ⟨o1, e1⟩ := a.there c o e; b.there c o1 e1⟩
theorem Mv.mono {fs fs' xs xs' : List Addr} {h h1 : Heap} (a : Mv fs xs h h1) (hf : ∀ b ∈ fs, b ∈ fs') (hx : ∀ b ∈ xs, b ∈ xs') : Mv fs' xs' h h1 :=
  ⟨fun c o e f x => a.keep c o e (fun z => f (hf c z)) fun z => x (hx c z), fun c o e x => a.slot c o e fun z => x (hx c z), a.there⟩
theorem Mv.of_keeps {fs xs : List Addr} {h h' : Heap} (k : ∀ b o, h.get? b = some o -> h'.get? b = some o) : Mv fs xs h h' := ⟨fun b o e _ _ => k b o e, fun b o e _ => ⟨o.slots, k b o e⟩, fun b o e => ⟨o, k b o e⟩⟩
structure Tr (h : Heap) (e : Addr) (C : Value) (dx : Option Addr) (T : Addr) (fl : Value) : Prop where
  ex : ∃ oe vs, h.get? e = some oe /\ oe.cls = C /\ oe.dict = dx /\ oe.data = .fields vs /\ vs[1]? = some (.ref T) /\ vs[2]? = some .none
  tb : ∃ ot ts, h.get? T = some ot /\ ot.data = .fields ts /\ ts[3]? = some fl
  ne : T ≠ e
theorem dict_mapFields (f : Array Value -> Array Value) (o : Obj) : (Obj.mapFields f o).dict = o.dict := by
  unfold Obj.mapFields
  split <;> rfl
theorem frames_mem {h base : Heap} {l : List Env} (hl : h.FunFrames base l) {e : Addr} {oe : Obj} {vs : Array Value} (he : h.get? e = some oe) (hd : oe.data = .fields vs) : e ∉ l.filterMap (·.frame) := fun z => by
  obtain ⟨_, o, ho, nf⟩ := hl.mem z
  rw [he] at ho
  cases ho
  exact nf vs hd
section
variable {M : Model} {A : Around} {E : Value -> Shared -> Prop} {s : Shared} {base : Heap} {env : Env} {outer : List Env} {L e T : Addr} {C : Value} {dx : Option Addr} {Q : Unit -> Shared -> Prop}
theorem fly_entry {oe : Obj} {vs : Array Value} {head : Value} {had : Bool} (hfr : A.frames = some (env :: outer)) (hl : s.heap.FunFrames base (env :: outer)) (hf : env.frame = some L)
    (he : s.heap.get? e = some oe) (hd : oe.data = .fields vs) (hsz : 1 < vs.size) (hz2 : vs[2]? = some .none)
    (hq : ∀ h' T, s.heap.objs.size <= T -> Tr h' e oe.cls oe.dict T (rawInt L) -> Mv ((env :: outer).filterMap (·.frame)) [e] s.heap h' -> Q () { s with heap := h' }) :
    wpAny M A (do let a <- frameOf env; let pl <- entryPlaceOf L had; let b <- EntryCells.newEntry head a .none (rawInt L) .none pl; setField (.ref e) 1 b) Q E s := by
  have nf := frames_mem hl he hd
  refine wpAny_bind (wpAny_frameOf_fun hfr hl hf fun h1 s1 => wpAny_bind (wpAny_entryPlaceOf fun pl hp => ?_))
  unfold EntryCells.newEntry newFields
  refine wpAny_bind (wpAny_newObj_type ?_ (by exact hp.sizeOk5 _ _ _ _ _))
  have e1 : h1.get? e = some oe := (s1.2.1 e nf).trans he
  have ne : h1.objs.size ≠ e := Nat.ne_of_gt (Heap.lt_size e1)
  generalize ho : ({ cls := .type "traceback", dict := none, data := .fields ([head, .ref L, .none, rawInt L, .none] ++ (if pl.isEmpty then List.replicate 6 Value.none else pl)).toArray } : Obj) = ob
  have t3 : ∃ ts, ob.data = .fields ts /\ ts[3]? = some (rawInt L) := by
    subst ho
    refine ⟨_, rfl, ?_⟩
    simp
  have fr : ob.isFreed = false := by
    obtain ⟨ts, q, _⟩ := t3
    exact Obj.isFreed_of_fields q
  have e2 := Heap.get?_push_of_some (h := h1) ob e1
  refine wpAny_setField e2 hd hsz (hq _ h1.objs.size (Nat.le_of_eq s1.1.symm) ⟨?_, ?_, ne⟩ ⟨fun b o q f x => ?_, fun b o q x => ?_, fun b o q => ?_⟩)
  · exact ⟨_, _, Heap.get?_update_self _ e2 (Obj.isFreed_of_fields (Obj.data_mapFields hd _)), Obj.cls_mapFields _ _, dict_mapFields _ _, Obj.data_mapFields hd _, by simp [hsz], by simp [hz2]⟩
  · obtain ⟨ts, q1, q2⟩ := t3
    exact ⟨ob, ts, (Heap.get?_update_other _ _ (Ne.symm ne)).trans (Heap.get?_push_size _ fr), q1, q2⟩
  · rw [Heap.get?_update_other _ _ (fun z => x (by simp [z]))]
    exact Heap.get?_push_of_some _ ((s1.2.1 b f).trans q)
  · obtain ⟨sl, q1⟩ := s1.2.2 b o q
    exact ⟨sl, by rw [Heap.get?_update_other _ _ (fun z => x (by simp [z]))]; exact Heap.get?_push_of_some _ q1⟩
  · obtain ⟨sl, q1⟩ := s1.2.2 b o q
    by_cases z : b = e
    · subst z
      exact ⟨_, Heap.get?_update_self _ e2 (Obj.isFreed_of_fields (Obj.data_mapFields hd _))⟩
    · exact ⟨_, by rw [Heap.get?_update_other _ _ (Ne.symm z)]; exact Heap.get?_push_of_some _ q1⟩
theorem fly_first {oe : Obj} {vs : Array Value} (hfr : A.frames = some (env :: outer)) (hl : s.heap.FunFrames base (env :: outer)) (hf : env.frame = some L)
    (he : s.heap.get? e = some oe) (hd : oe.data = .fields vs) (h1 : vs[1]? = some .none) (hz2 : vs[2]? = some .none)
    (hq : ∀ h' T, s.heap.objs.size <= T -> Tr h' e oe.cls oe.dict T (rawInt L) -> Mv ((env :: outer).filterMap (·.frame)) [e] s.heap h' -> Q () { s with heap := h' }) :
    wpAny M A (noteFrame (.ref e) env) Q E s := by
  unfold noteFrame
  simp only [hf]
  refine wpAny_bind (wpAny_field he hd h1 ?_)
  rw [if_neg (by decide : ¬ ((Value.none != Value.none) = true))]
  exact fly_entry hfr hl hf he hd (Array.getElem?_eq_some_iff.mp h1).1 hz2 hq
theorem fly_set {fl : Value} {v : Option Addr} (t : Tr s.heap e C dx T fl) (hq : ∀ h', Tr h' e C dx T (v.elim .none fun f => rawInt f) -> Mv [] [T] s.heap h' -> Q () { s with heap := h' }) :
    wpAny M A (setFlight (.ref e) v) Q E s := by
  obtain ⟨⟨oe, vs, he, hc, hx, hd, h1, hz2⟩, ⟨ot, ts, ht, hdt, h3⟩, ne⟩ := t
  unfold setFlight
  refine wpAny_bind (wpAny_field he hd h1 ?_)
  rw [if_pos (by simp : (Value.ref T != Value.none) = true)]
  have up := Heap.get?_update_self (Obj.mapFields (·.setIfInBounds 3 (v.elim .none fun f => rawInt f))) ht (Obj.isFreed_of_fields (Obj.data_mapFields hdt _))
  refine wpAny_setField ht hdt (Array.getElem?_eq_some_iff.mp h3).1 (hq _ ⟨⟨oe, vs, (Heap.get?_update_other _ _ ne).trans he, hc, hx, hd, h1, hz2⟩, ⟨_, _, up, Obj.data_mapFields hdt _, ?_⟩, ne⟩ ⟨fun b o q _ x => ?_, fun b o q x => ⟨o.slots, ?_⟩, fun b o q => ?_⟩)
  · simp [(Array.getElem?_eq_some_iff.mp h3).1]
  · exact (Heap.get?_update_other _ _ (fun z => x (by simp [z]))).trans q
  · exact (Heap.get?_update_other _ _ (fun z => x (by simp [z]))).trans q
  · by_cases z : b = T
    · subst z
      exact ⟨_, up⟩
    · exact ⟨o, (Heap.get?_update_other _ _ (Ne.symm z)).trans q⟩
theorem fly_next (hfr : A.frames = some (env :: outer)) (hl : s.heap.FunFrames base (env :: outer)) (hf : env.frame = some L) (t : Tr s.heap e C dx T .none)
    (hq : ∀ h' T', s.heap.objs.size <= T' -> Tr h' e C dx T' (rawInt L) -> Mv ((env :: outer).filterMap (·.frame)) [e, T] s.heap h' -> Q () { s with heap := h' }) :
    wpAny M A (noteFrame (.ref e) env) Q E s := by
  obtain ⟨⟨oe, vs, he, hc, hx, hd, h1, hz2⟩, ⟨ot, ts, ht, hdt, h3⟩, ne⟩ := t
  subst hc
  subst hx
  unfold noteFrame
  simp only [hf]
  refine wpAny_bind (wpAny_field he hd h1 ?_)
  rw [if_pos (by simp : (Value.ref T != Value.none) = true)]
  refine wpAny_bind (wpAny_field ht hdt h3 ?_)
  rw [if_neg (by simp [rawInt] : ¬ ((Value.none == rawInt L) = true))]
  have up := Heap.get?_update_self (Obj.mapFields (·.setIfInBounds 3 .none)) ht (Obj.isFreed_of_fields (Obj.data_mapFields hdt _))
  have k : ∀ b o, b ≠ T -> s.heap.get? b = some o -> (s.heap.update T (Obj.mapFields (·.setIfInBounds 3 .none))).get? b = some o := fun b o z q => (Heap.get?_update_other _ _ (Ne.symm z)).trans q
  refine wpAny_bind (wpAny_setField ht hdt (Array.getElem?_eq_some_iff.mp h3).1 ?_)
  refine fly_entry (base := base) hfr (hl.of_keeps fun b o q nf => ⟨o, k b o (fun z => ?_) q, rfl⟩) hf (k e oe (Ne.symm ne) he) hd (Array.getElem?_eq_some_iff.mp h1).1 hz2 fun h' T' hs t m => hq h' T' ?_ t ⟨fun b o q f x => ?_, fun b o q x => ?_, fun b o q => ?_⟩
  · rw [z, ht] at q
    cases q
    exact nf ts hdt
  · rw [Heap.size_after_update] at hs
    exact hs
  · exact m.keep b o (k b o (fun z => x (by simp [z])) q) f fun z => x (by simp at z; simp [z])
  · exact m.slot b o (k b o (fun z => x (by simp [z])) q) fun z => x (by simp at z; simp [z])
  · by_cases z : b = T
    · subst z
      exact m.there b _ up
    · exact m.there b o (k b o z q)
end
end L2
namespace L2
open PySem PySem.Spec PyProof.Rows
theorem HOk.moved {P : Program} {w : World} {H : Hp} {h h' : Heap} {fs xs : List Addr} (x : HOk P w H h) (m : Mv fs xs h h') (hf : ∀ b ∈ fs, H b = none) (hx : ∀ b ∈ xs, H b = none) : HOk P w H h' := fun a o e =>
  (x a o e).stay (fun b u hb q => m.keep b u q (fun z => by
      have n := hf b z
      rcases hb with r | r
      · rw [r, e] at n
        cases n
      · rw [r] at n
        cases n) fun z => by
      have n := hx b z
      rcases hb with r | r
      · rw [r, e] at n
        cases n
      · rw [r] at n
        cases n) (fun _ q => q) fun _ _ q => q
def CXf (P : Program) (w : World) : CXT := fun outer H s E u s' => ∃ (e T : Addr) (C : Value) (dx : Option Addr) (H' : Hp), u = .ref e /\ s'.os = s.os /\ AllBare s'.gens /\ Un (frs outer) [] H H' s.heap s'.heap /\ HOk P w H' s'.heap /\
  Tr s'.heap e C dx T .none /\ (s.heap.objs.size <= e /\ s.heap.objs.size <= T) /\ (H' e = none /\ H' T = none) /\ E C dx H'
def Fl (h : Heap) (H : Hp) (n : Nat) (e : Addr) (C : Value) (dx : Option Addr) : Prop :=
  (∃ oe vs, h.get? e = some oe /\ oe.cls = C /\ oe.dict = dx /\ oe.data = .fields vs /\ vs[1]? = some .none /\ vs[2]? = some .none) \/ ∃ T, Tr h e C dx T .none /\ H T = none /\ n <= T
def Air (X : Cx) (pins : List (Addr × Obj)) (σ : St) (E : XK) (u : Value) (s' : Shared) : Prop := ∃ (e : Addr) (C : Value) (dx : Option Addr) (H' : Hp) (n : Nat), u = .ref e /\ Inv X pins σ H' s' /\ H' e = none /\ X.s₀.heap.objs.size <= n /\ n <= e /\ (∀ p ∈ X.pn ++ pins, p.1 < n) /\ Fl s'.heap H' n e C dx /\ E C dx H'
section
variable {P : Program} {w : World} {K : PySem.W.Frag} {mg : Str -> Option Value} {base : Heap} {N : List Str} {qual : Str} {scope : Scope} {f : Addr} {cd : Value} {A : Around} {outer : List Env} {s : Shared} {H : Hp} {E : XK}
theorem leave_air {pins : List (Addr × Obj)} {σ : St} {u : Value} {s' : Shared} (h : Air (cxOf (CXf P w) P w K mg base N qual scope f cd A outer s H E) pins σ E u s') : (cxOf (CXf P w) P w K mg base N qual scope f cd A outer s H E).xe u s' := by
  obtain ⟨e, C, dx, H', n, rfl, I, ne, hn, he, hp, st, hE⟩ := h
  have fin : ∀ (h2 : Heap) (T : Addr) (xs : List Addr), Tr h2 e C dx T .none -> Mv (frs (cxOf (CXf P w) P w K mg base N qual scope f cd A outer s H E).stack) xs s'.heap h2 -> (∀ b ∈ xs, H' b = none /\ s.heap.objs.size <= b) -> H' T = none -> s.heap.objs.size <= T ->
      CXf P w outer H s E (.ref e) { s' with heap := h2 } := by
    intro h2 T xs t m hx nT sT
    have nst : ∀ (b : Addr) (o : Obj), s.heap.get? b = some o -> b ∉ frs outer -> b ∉ frs (cxOf (CXf P w) P w K mg base N qual scope f cd A outer s H E).stack := fun b o q nb z => by
      rcases List.mem_cons.mp (I.stkSub b z) with r | r
      · exact absurd (show b = (cxOf (CXf P w) P w K mg base N qual scope f cd A outer s H E).env.locals from r) (Nat.ne_of_lt (Nat.lt_of_lt_of_le (Heap.lt_size q) I.ok.above))
      · exact nb r
    have nx : ∀ (b : Addr) (o : Obj), s.heap.get? b = some o -> b ∉ xs := fun b o q z => absurd (Nat.lt_of_lt_of_le (Heap.lt_size q) (hx b z).2) (Nat.lt_irrefl _)
    have B : Un (frs outer) [] H H' s.heap s'.heap := I.base
    refine ⟨e, T, C, dx, H', rfl, I.os, I.bare, ⟨fun b o q n hb hx => ?_, fun b o q n hb hx => ?_, B.free, fun b o q hx => ?_, B.tups, B.frzs, B.tbls⟩, I.hok.moved m I.stkFree fun b hb => (hx b hb).1, t, ⟨Nat.le_trans hn he, sT⟩, ⟨ne, nT⟩, hE⟩
    · exact m.keep b o (B.keep b o q n hb hx) (nst b o q hb) (nx b o q)
    · obtain ⟨sl, q1⟩ := B.slot b o q n hb hx
      obtain ⟨sl2, q2⟩ := m.slot b _ q1 (nx b o q)
      exact ⟨sl2, q2⟩
    · obtain ⟨o1, q1⟩ := B.there b o q hx
      exact m.there b o1 q1
  show wpAny (model P w) _ (leaving _ (.ref e)) _ _ s'
  unfold leaving
  rcases st with ⟨oe, vs, h1, rfl, rfl, h4, h5, h6⟩ | ⟨T0, t0, n0, s0⟩
  · refine wpAny_bind (fly_first I.ok.frames I.stack rfl h1 h4 h5 h6 fun h' T hs t m => fly_set t fun h2 t2 m2 => ?_)
    refine fin h2 T [e, T] t2 ((m.mono (fun _ z => z) fun b z => ?_).trans (m2.mono (fun b z => nomatch z) fun b z => ?_)) (fun b hb => ?_) (I.hok.fresh hs) (Nat.le_trans I.sz hs)
    · simp at z
      simp [z]
    · simp at z
      simp [z]
    · rcases List.mem_cons.mp hb with r | hb
      · rw [r]
        exact ⟨ne, Nat.le_trans hn he⟩
      · rw [List.mem_singleton.mp hb]
        exact ⟨I.hok.fresh hs, Nat.le_trans I.sz hs⟩
  · refine wpAny_bind (fly_next I.ok.frames I.stack rfl t0 fun h' T hs t m => fly_set t fun h2 t2 m2 => ?_)
    refine fin h2 T [e, T0, T] t2 ((m.mono (fun _ z => z) fun b z => ?_).trans (m2.mono (fun b z => nomatch z) fun b z => ?_)) (fun b hb => ?_) (I.hok.fresh hs) (Nat.le_trans I.sz hs)
    · simp at z
      rcases z with z | z <;> simp [z]
    · simp at z
      simp [z]
    · rcases List.mem_cons.mp hb with r | hb
      · rw [r]
        exact ⟨ne, Nat.le_trans hn he⟩
      · rcases List.mem_cons.mp hb with r | hb
        · rw [r]
          exact ⟨n0, Nat.le_trans hn s0⟩
        · rw [List.mem_singleton.mp hb]
          exact ⟨I.hok.fresh hs, Nat.le_trans I.sz hs⟩
theorem air_of {X : Cx} {pins : List (Addr × Obj)} {σ : St} {H1 : Hp} {s1 s2 : Shared} {u : Value} {E' : XK} (hP : X.prog = P) (hw : X.w = w) (I : Inv X pins σ H1 s1) (h : CXf P w X.stack H1 s1 E' u s2) : Air X pins σ E' u s2 := by
  obtain ⟨e, T, C, dx, H', rfl, os, bare, un, hok, t, ⟨se, sT⟩, ⟨ne, nT⟩, hE⟩ := h
  have I2 : Inv X pins σ H' s2 := I.call' (ch := []) os un (by rw [hP, hw]; exact hok) bare (fun b z => absurd z (by simp))
  exact ⟨e, C, dx, H', s1.heap.objs.size, rfl, I2, ne, I.sz, se, fun p hp => Heap.lt_size (I.pin p hp).1, .inr ⟨T, t, nT, sT⟩, hE⟩
theorem passx : Passes (CXf P w) (cxOf (CXf P w) P w K mg base N qual scope f cd A outer s H E) E := fun pins σ H1 s1 u s2 I h => leave_air (air_of rfl rfl I h)
theorem FnOk.upx {k : Nat} {fd : FuncData} {ps : List Str} {sp : Sp} {CX : CXT} (F : FnOk P w K mg base CX0 k f fd ps sp) : FnOk P w K mg base CX k f fd ps sp :=
  ⟨F.len, fun A outer s H args us vs Q E hr he hb hv hs => codeAny_mono (F.run A outer s H args us vs Q E hr he hb hv hs) fun r s' q => by
    cases r with
    | error e => exact False.elim q
    | ok fl =>
      cases fl with
      | ret u => exact q
      | next => exact False.elim q
      | brk => exact False.elim q
      | cont => exact False.elim q⟩
theorem Fun.byx {x : Str} {st : Stmt} {fd : FuncData} {ps : List Str} {k : Nat} {sp : Sp} (F : Fun K x qual st f fd) (S : FnScope N ps (defScope st)) (len : ∀ vs H Q E, sp vs H Q E -> vs.length = ps.length)
    (hbody : ∀ (cdv : Value) (A : Around) (outer : List Env) (s : Shared) (H : Hp) (vs : List V) (Q : VK) (E : XK), Room k (A.deeper (envOfC qual (defScope st) s.heap.objs.size f cdv)) -> sp vs H Q E ->
      ∃ t, jSs (cxOf (CXf P w) P w K mg base N qual (defScope st) f cdv A outer s H E) (defBody st) t /\ t { nx := fun _ H' => Q .non H', rt := Q } (start N vs) H) : FnOk P w K mg base (CXf P w) (k + 1) f fd ps sp := by
  obtain ⟨oc, od, kV, doc, pm, an, cdv, ct, osl, rfl, lk, hcd⟩ := F.ex
  refine fn_of lk hcd S len fun A outer s H vs Q E hr hsp => ?_
  obtain ⟨t, h, q⟩ := hbody cdv A outer s H vs Q E hr hsp
  exact ⟨t, h.out, q⟩
end
end L2
namespace L2
open PySem
section
variable {M : Model} {A : Around} {E : Value -> Shared -> Prop} {env : Env} {nm q : Str} {C N : Addr} {bs bm : List Value} {hdct : Bool} {sn : List Str} {sub : List Value} {ab : Bool} {col : Option Bool} {dd : Option Addr} {k0 k1 k2 k3 k5 : Option Value} {newId : String}
theorem rs_stmt {s : Shared} {x : Sem Value} {Q : Flow -> Shared -> Prop} (hb : bm.contains (.type "BaseException") = true) (hh : A.handled = none)
    (h : wpAny M A x (fun v s1 => ∃ e oe vs, v = .ref e /\ s1.heap.get? C = some (excClassObj nm q C N bs bm hdct sn sub ab col dd k0 k1 k2 k3 k5 newId) /\ s1.heap.get? e = some oe /\ oe.cls = .ref C /\ oe.data = .fields vs /\ vs[1]? = some .none /\ E (.ref e) s1) E s) :
    wpAny M A (raiseStmt env (some x) none) Q E s := by
  have cB : (Value.ref C :: bm).contains (.type "BaseException") = true := by rw [List.contains_cons, hb, Bool.or_true]
  unfold raiseStmt
  refine wpAny_bind (wpAny_mono h (fun v s1 h1 => ?_) fun _ _ x => x)
  obtain ⟨e, ⟨c, d0, dt, sl⟩, vs, rfl, hC, he, hc, hd, hv, hE⟩ := h1
  dsimp only at hc hd
  subst hc hd
  obtain ⟨hp, g, d, tk, os⟩ := s1
  repeat (first | (with_reducible refine wpAny_field he rfl hv ?_) | with_reducible refine wpAny_loadPart_at he ?_ | with_reducible refine wpAny_loadPart_at hC ?_ | (with_reducible refine wpAny_isSubtype_exc hC ?_; rw [cB]) | wp_step)
  exact wpAny_raiseNew_none hh hE
end
theorem fn_bind {M : Model} {A : Around} {E : Value -> Shared -> Prop} {s : Shared} {f : Addr} {ob : Obj} {self : Value} {Q : Value × List Value -> Shared -> Prop} (h1 : s.heap.get? f = some ob) (h2 : ob.cls = .type "function") (q : Q (.ref f, [self]) s) : wpAny M A (bindSpecial (.ref f) self) Q E s := by
  unfold bindSpecial
  refine wpAny_bind (wpAny_typeOf (T := "function") ⟨ob, h1, h2⟩ ?_)
  exact wpAny_pure q
abbrev tupOf (rest : List Value) : Obj := { cls := .type "tuple", data := .seq rest.toArray }
abbrev excOf (C t : Addr) : Obj := { cls := .ref C, data := .fields #[.ref t, .none, .none, .none, .bool false, .none] }
section
variable {prog : Program} {w : World} {A : Around} {E : Value -> Shared -> Prop} {h : Heap} {g : Array GenState} {d : Drawn} {t : Nat} {os : OsState}
variable {nm q : Str} {C N f : Addr} {bs bm bmB : List Value} {hdct : Bool} {sn : List Str} {sub : List Value} {ab : Bool} {col : Option Bool} {dd : Option Addr} {k0 k1 k2 k3 k5 : Option Value} {B Bn newId nid initId inN : String} {bmN : List Value}
theorem ex_typeCall (Fn : ExcBaseFacts Bn newId inN bmN) (hBn : bmB.contains (.type Bn) = true) (F : ExcBaseFacts B nid initId bmB) (T : OwnTail h bmB bm) {mN : Str -> Option Value} {rest : List Value} {Q : Fin -> Shared -> Prop} {ob : Obj}
    (hC : h.get? C = some (excClassObj nm q C N bs bm hdct sn sub ab col dd k0 k1 k2 k3 k5 newId)) (hn : h.Ns N mN) (hi : mN "__init__" = some (.ref f)) (hf : h.get? f = some ob) (hfc : ob.cls = .type "function") (hrest : rest.length <= sizeLine)
    (hq : wpAny (model prog w) A (call (.ref f) (.ref (h.objs.size + 1) :: rest)) (fun v s' => v = .none /\ Q (.done (.ret (.ref (h.objs.size + 1)))) s') E ⟨(h.push (tupOf rest)).push (excOf C h.objs.size), g, d, t, os⟩) :
    wpAny (model prog w) A (Builtin.«type.__call__» ⟨.ref C :: rest, []⟩) Q E ⟨h, g, d, t, os⟩ := by
  repeat (first | with_reducible refine wpAny_madeBy_exc hC ?_ | with_reducible refine wpAny_loadPart_at hC ?_ | wp_step)
  refine codeAny_call_builtin_code (Code.quiet_builtin _ Fn.quiet) (wpAny_check_new_subU Fn hBn T hC (codeAny_exc_new_subU Fn hBn F T hC ?_ hrest))
  show wpAny _ _ _ _ _ _
  have k : ∀ b o, h.get? b = some o -> ((h.push (tupOf rest)).push (excOf C h.objs.size)).get? b = some o := fun b o e => Heap.get?_push_of_some _ (Heap.get?_push_of_some _ e)
  have C1 := k _ _ hC
  have e1 : ((h.push (tupOf rest)).push (excOf C h.objs.size)).get? (h.objs.size + 1) = some (excOf C h.objs.size) := Heap.get?_push_at (by simp only [Heap.size_push]) rfl
  have cC : (Value.ref C :: bm).contains (.ref C) = true := by simp
  unfold isInstance
  repeat (first | with_reducible refine wpAny_loadPart_at e1 ?_ | (with_reducible refine wpAny_isSubtype_exc C1 ?_; rw [cC]) | wp_step)
  show wpAny _ _ (typeLookup (.ref C) _) _ _ _
  refine wpAny_typeLookup_tail C1 (hn.keeps k) (T.keeps k) F.mroIs F.init.lookup ?_
  rw [hi]
  refine wpAny_holding (wpAny_bind (fn_bind (k _ _ hf) hfc ?_))
  refine wpAny_bind (wpAny_mono hq (fun v s' hv => ?_) fun _ _ x => x)
  obtain ⟨rfl, hv⟩ := hv
  exact wpAny_pure (wpAny_pure hv)
theorem ex_call (Fn : ExcBaseFacts Bn newId inN bmN) (hBn : bmB.contains (.type Bn) = true) (F : ExcBaseFacts B nid initId bmB) (T : OwnTail h bmB bm) {mN : Str -> Option Value} {rest : List Value} {Q : Value -> Shared -> Prop} {ob : Obj}
    (hC : h.get? C = some (excClassObj nm q C N bs bm hdct sn sub ab col dd k0 k1 k2 k3 k5 newId)) (hn : h.Ns N mN) (hi : mN "__init__" = some (.ref f)) (hf : h.get? f = some ob) (hfc : ob.cls = .type "function") (hrest : rest.length <= sizeLine)
    (hq : wpAny (model prog w) (A.under (.builtin "type.__call__" ⟨.ref C :: rest, []⟩)) (call (.ref f) (.ref (h.objs.size + 1) :: rest)) (fun v s' => v = .none /\ Q (.ref (h.objs.size + 1)) s') E ⟨(h.push (tupOf rest)).push (excOf C h.objs.size), g, d, t, os⟩) :
    wpAny (model prog w) A (call (.ref C) rest) Q E ⟨h, g, d, t, os⟩ := by
  have f1 := tc_lookup
  have f2 := tc_bind (.ref C)
  have hT : (⟨h, g, d, t, os⟩ : Shared).TypeIs (.ref C) "type" := ⟨_, hC, rfl⟩
  refine wpAny_call (codeAny_of_tree ?_)
  show wpAny _ _ (callAny (.ref C) ⟨rest, []⟩) _ _ _
  repeat (any_goals (first | assumption | (with_reducible refine wpAny_loadPart_at hC ?_) | wp_step))
  refine ⟨rfl, codeAny_call_builtin_at (Code.quiet_builtin _ (by decide +kernel)) entry_typeCall (wpAny_check_type_call_sub hC ?_)⟩
  exact ex_typeCall Fn hBn F T hC hn hi hf hfc hrest hq
theorem ex_init (F : ExcBaseFacts B nid initId bmB) (T : OwnTail h bmB bm) {e t0 : Addr} {oe : Obj} {vs : Array Value} {rest : List Value} {Q : Value -> Shared -> Prop}
    (hC : h.get? C = some (excClassObj nm q C N bs bm hdct sn sub ab col dd k0 k1 k2 k3 k5 newId)) (he : h.get? e = some oe) (hc : oe.cls = .ref C) (hd : oe.data = .fields vs) (h0 : vs[0]? = some (.ref t0)) (hrest : rest.length <= sizeLine)
    (hq : Q .none ⟨(h.push (tupOf rest)).update e (Obj.mapFields (·.setIfInBounds 0 (.ref h.objs.size))), g, d, t, os⟩) :
    wpAny (model prog w) A (call (.builtin initId) (.ref e :: rest)) Q E ⟨h, g, d, t, os⟩ := by
  refine wpAny_call (codeAny_call_builtin F.init.plain F.initEntry (wpAny_check_init_subU F T hC he hc ?_))
  unfold Builtin.«BaseException.__init__»
  dsimp only
  rw [if_neg (by simp : ¬ ((!List.isEmpty ([] : List (Str × Value))) = true))]
  unfold newTuple Builtin.BaseException.bexcPut
  have e1 := Heap.get?_push_of_some (h := h) (tupOf rest) he
  refine wpAny_bind (wpAny_newObj_type ?_ (by show rest.toArray.size <= sizeLine; rw [List.size_toArray]; exact hrest))
  refine wpAny_bind (wpAny_bind (wpAny_field e1 hd h0 (wpAny_bind (wpAny_setField e1 hd (Array.getElem?_eq_some_iff.mp h0).1 ?_))))
  exact wpAny_letGo (wpAny_pure hq)
end
end L2
namespace L2
open PySem PySem.W PySem.Calls PyProof.Rows Builtin Builtin.ObjectAttr
def bmV : List Value := [.type "ValueError", .type "Exception", .type "BaseException", .type "object"]
theorem refuse_V (self : Value) : refuseLoop self "__setattr__" bmV = pure () := by kernel_rfl
def overV : List Value -> Bool
  | [] => false
  | v :: r => (v :: r) == bmV || (match v with
    | .ref _ => overV r
    | _ => false)
theorem refuse_over (self : Value) : ∀ {l : List Value}, overV l = true -> refuseLoop self "__setattr__" l = pure ()
  | [], e => by cases e
  | v :: r, e => by
    unfold overV at e
    rcases Bool.or_eq_true_iff.mp e with q | q
    · rw [beq_iff_eq.mp q]
      exact refuse_V self
    · split at q
      · rw [refuseLoop_ref]
        exact refuse_over self q
      · cases q
theorem over_has : ∀ {l : List Value}, overV l = true -> l.contains (.type "object") = true /\ l.isEmpty = false
  | [], e => by cases e
  | v :: r, e => by
    unfold overV at e
    rcases Bool.or_eq_true_iff.mp e with q | q
    · rw [beq_iff_eq.mp q]
      exact ⟨by decide, rfl⟩
    · split at q
      · exact ⟨by rw [List.contains_cons, (over_has q).1, Bool.or_true], rfl⟩
      · cases q
def overIn (K : Frag) (C : Addr) : Bool := (clsIn K C).any fun cd => overV cd.mro
section
variable {prog : Program} {w : World} {A : Around} {E : Value -> Shared -> Prop} {K : Frag} {C e : Addr} {s : Shared} {ox : Obj} {od : Option Obj} {name : Str} {R : Result -> Shared -> Prop}
theorem xa_open {tk : Tok} {v : Value} (X : K.In s.heap) (I : InstAt s.heap e ox C od) (hp : overIn K C = true) (ht : takerIn K C name = some none)
    (h : ∀ b, wpAny (model prog w) A.in1 (storeInOwnDict (.ref e) (.ref C) (.str name tk) name v b) (fun fin s' => match fin with | .done f => R (.ok f) s' | .again c' => c'.quiet = true /\ codeAny (model prog w) A c' R s') (fun u s' => R (.error u) s') s) :
    codeAny (model prog w) A (.call (.builtin "object.__setattr__") ⟨[.ref e, .str name tk, v], []⟩) R s := by
  have SF := PySem.F.store_object
  obtain ⟨cd, hc, ho⟩ := any_some hp
  have hm : Looks (model prog w) s.heap (mroOf (.ref C)) cd.mro := (looks_clsIn X hc).andThen .now
  have sub : Looks (model prog w) s.heap (isInstance (.ref e) (.type "object")) true := I.type.andThen (looks_mroIn X (by unfold mroIn; rw [hc, Option.bind_some, if_neg (by rw [(over_has ho).2]; decide), (over_has ho).1]))
  obtain ⟨attr, ha, hr⟩ := Option.bind_eq_some_iff.mp ht
  have tk3 : Looks (model prog w) s.heap (storeTaker? attr) none := by
    cases attr with
    | none => exact .now
    | some a =>
      obtain ⟨b, hb, hn⟩ := Option.map_eq_some_iff.mp hr
      refine (looks_takesIn X hb).andThen ?_
      cases b
      · exact .now
      · cases hn
  refine codeAny_call_builtin SF.slot.plain SF.entry (@check_slot (model prog w) _ _ s "object.__setattr__" "object" "__setattr__" (.ref e) [.str name tk, v] [] _ SF.kind SF.split sub (SF.args (.ref e) (.str name tk) v) ?_)
  rw [osa_eq, refuse_eq]
  refine wpAny_bind (wpAny_bind (I.type.here (wpAny_bind (hm.here ?_))))
  rw [refuse_over _ ho]
  exact wpAny_pure (wpAny_bind (I.type.here (wpAny_bind ((looks_findIn X ha).here (wpAny_bind (tk3.here (h _)))))))
theorem xs_new {oe : Obj} {vs : Array Value} {v : Value} {Q : Unit -> Shared -> Prop} (X : K.In s.heap) (he : s.heap.get? e = some oe) (hc : oe.cls = .ref C) (hx : oe.dict = none) (hd : oe.data = .fields vs)
    (hs : findIn K (.ref C) "__setattr__" = some (some (.builtin "object.__setattr__"))) (hp : overIn K C = true) (ht : takerIn K C name = some none) (hh : (clsIn K C).any (·.hasDict) = true)
    (h : ∀ h', h'.Ns1 s.heap.objs.size (fun y => if y = name then some v else none) -> h'.get? e = some { oe with dict := some s.heap.objs.size } -> (∀ b o, b ≠ e -> s.heap.get? b = some o -> h'.get? b = some o) -> Q () { s with heap := h', toks := s.toks + 2 }) :
    wpAny (model prog w) A (setAttr (.ref e) name v) Q E s := by
  have J : InstAt s.heap e oe C none := ⟨he, hc, by unfold notCls; rw [hd], by rw [hx]; trivial⟩
  refine set_plain X J hs (xa_open (s := { s with toks := s.toks + 1 }) X J hp ht fun b => ?_)
  obtain ⟨cd, hcd, hdd⟩ := any_some hh
  obtain ⟨oc, odi, oda, osl⟩ := oe
  dsimp only at hc hx hd
  subst hc hx hd
  refine wpAny_bind (wpAny_pure (wpAny_bind (wpAny_bind (wpAny_loadPart he (wpAny_bind (Looks.here (s := { s with toks := s.toks + 1 }) (looks_clsIn X hcd) ?_))))))
  rw [hdd]
  have e1 := Heap.get?_push_of_some (h := s.heap) PySem.W.emptyDict he
  have ne : s.heap.objs.size ≠ e := Nat.ne_of_gt (Heap.lt_size he)
  have d1 : (s.heap.push PySem.W.emptyDict).get? s.heap.objs.size = some PySem.W.emptyDict := Heap.get?_push_size _ rfl
  have d2 : ((s.heap.push PySem.W.emptyDict).update e fun o => { o with dict := some s.heap.objs.size }).get? s.heap.objs.size = some PySem.W.emptyDict := (Heap.get?_update_other _ _ (Ne.symm ne)).trans d1
  have e2 := Heap.get?_update_self (fun o => { o with dict := some s.heap.objs.size }) e1 rfl
  have n2 : ((s.heap.push PySem.W.emptyDict).update e fun o => { o with dict := some s.heap.objs.size }).Ns s.heap.objs.size (fun _ => none) := ⟨PySem.W.emptyDict, #[], _, d2, rfl, (fun z hz => absurd hz (by simp)), fun _ => rfl⟩
  show wpAny _ _ (alloc PySem.W.emptyDict >>= _) _ _ _
  refine wpAny_bind (wpAny_alloc (wpAny_bind (wpAny_update e1 ?_)))
  refine wpAny_pure (a := some s.heap.objs.size) (wpAny_bind (wpAny_pure (wpAny_bind ?_)))
  refine wpAny_nsSet1 (Heap.Ns1.of_empty n2) fun h' hn hsb => ?_
  obtain ⟨oD, esD, epD, hoD, hdD, hcD⟩ := hn.count (PySem.Within.cons name v PySem.Within.nil)
  refine wpAny_bind (wpAny_lookBehind hoD (by rw [hdD]; exact pastItsLine_dict (Nat.le_trans hcD (by show 1 <= sizeLine + 1; omega))) (wpAny_pure ?_))
  refine h h' hn ((hsb.2 _ (Ne.symm ne)).trans e2) fun b o nb q => ?_
  rw [hsb.2 b (Nat.ne_of_lt (Heap.lt_size q)), Heap.get?_update_other _ _ (Ne.symm nb)]
  exact Heap.get?_push_of_some _ q
theorem xg_slot : Slot "ValueError" "__getattribute__" "BaseException.__getattribute__" := PySem.F.attr_ValueError.ga
theorem xg_get {v : Value} {expr : Bool} {Q : Value -> Shared -> Prop} (X : K.In s.heap) (I : InstAt s.heap e ox C od) (hga : findIn K (.ref C) "__getattribute__" = some (some (.builtin "BaseException.__getattribute__"))) (hk : findIn K (.ref C) "__getattr__" = some none)
    (hb : subIn K (.ref C) (.type "BaseException") = some true) (hf : findObj K C od name = some (.value v)) (hh : handedIn v = true) (h : Q v { s with toks := s.toks + 1 }) : wpAny (model prog w) A (getAttr (.ref e) name expr) Q E s := by
  have ty := I.type (M := model prog w)
  have fd := looks_find (M := model prog w) X I hf
  refine wpAny_bind (wpAny_mkText (wpAny_holding (wpAny_bind (ty _ _ _ _ (fun _ _ q => q) (wpAny_bind (looks_findIn X hga _ _ _ _ (fun _ _ q => q) ?_))))))
  dsimp only
  rw [show (onTheHeap (Value.ref C) && Value.builtin "BaseException.__getattribute__" == Value.builtin "object.__getattribute__") = false from by rw [show (Value.builtin "BaseException.__getattribute__" == Value.builtin "object.__getattribute__") = false from by decide +kernel, Bool.and_false], if_neg (by decide : ¬ (false = true))]
  refine wpAny_bind ((looks_hook (mc := .ref C) X (by rw [if_pos (show onTheHeap (.ref C) = true from rfl)]; exact hk)) _ _ _ _ (fun _ _ q => q) (wpAny_bind (wpAny_attempt (wpAny_holding ?_))))
  unfold callGetattribute
  rw [show (expr && onTheHeap (Value.builtin "BaseException.__getattribute__")) = false from Bool.and_false _, if_neg (by decide : ¬ (false = true))]
  unfold boundAndCalled
  rw [xg_slot.bind]
  refine wpAny_bind (wpAny_pure (wpAny_call (codeAny_call_builtin xg_slot.plain PySem.F.entry_bexc_ga ?_)))
  refine @check_slot (model prog w) _ _ { s with toks := s.toks + 1 } "BaseException.__getattribute__" "BaseException" "__getattribute__" (.ref e) [.str name s.toks] [] _ (by decide +kernel) (by decide +kernel) (ty.andThen (looks_subIn X hb)) (PySem.F.args_bexc_ga (.ref e) (.str name s.toks)) ?_
  refine wpAny_bind (wpAny_pure (wpAny_bind (wpAny_pure (wpAny_bind (ty _ _ _ _ (fun _ _ q => q) (wpAny_bind (fd _ _ _ _ (fun _ _ q => q) ?_)))))))
  refine wpAny_pure ?_
  show wpAny _ _ (handedOut v) _ _ _
  rw [handedOut_of hh]
  exact wpAny_pure h
end
end L2
namespace L2
open PySem PySem.Spec PyProof.Rows
def XO (e C : Addr) (dx : Option Addr) : HO := .ext fun h => ∃ oe vs t0, h.get? e = some oe /\ oe.cls = .ref C /\ oe.dict = dx /\ oe.data = .fields vs /\ vs[0]? = some (.ref t0) /\ vs[1]? = some .none /\ vs[2]? = some .none
theorem XO.ok {P : Program} {w : World} {H : Hp} {h : Heap} {e C : Addr} {dx : Option Addr} (p : ∃ oe vs t0, h.get? e = some oe /\ oe.cls = .ref C /\ oe.dict = dx /\ oe.data = .fields vs /\ vs[0]? = some (.ref t0) /\ vs[1]? = some .none /\ vs[2]? = some .none) : ObjOk P w H h e (XO e C dx) :=
  ⟨p, let ⟨oe, _, _, q, _⟩ := p; ⟨oe, q⟩, fun _ _ ⟨oe, vs, t0, a, r⟩ k => ⟨oe, vs, t0, k oe a, r⟩⟩
theorem XO.get {P : Program} {w : World} {H : Hp} {h : Heap} {e C : Addr} {dx : Option Addr} (x : HOk P w H h) (q : H e = some (XO e C dx)) : ∃ oe vs t0, h.get? e = some oe /\ oe.cls = .ref C /\ oe.dict = dx /\ oe.data = .fields vs /\ vs[0]? = some (.ref t0) /\ vs[1]? = some .none /\ vs[2]? = some .none :=
  (show ObjOk P w H h e (.ext _) from x e _ q).1
def XD (d : Addr) (fs : List (Str × V)) : HO := .ext fun h => ∃ mA, h.Ns1 d mA /\ (∀ f, RelO (fs.lookup f) (mA f)) /\ PySem.Within mA (fs.map (·.1)) /\ fs.length <= 1000
theorem XD.ok {P : Program} {w : World} {H : Hp} {h : Heap} {d : Addr} {fs : List (Str × V)} (p : ∃ mA, h.Ns1 d mA /\ (∀ f, RelO (fs.lookup f) (mA f)) /\ PySem.Within mA (fs.map (·.1)) /\ fs.length <= 1000) : ObjOk P w H h d (XD d fs) :=
  ⟨p, let ⟨_, ⟨o, _, _, q, _⟩, _⟩ := p; ⟨o, q⟩, fun _ _ ⟨mA, n, r⟩ k => ⟨mA, n.at k, r⟩⟩
theorem XD.get {P : Program} {w : World} {H : Hp} {h : Heap} {d : Addr} {fs : List (Str × V)} (x : HOk P w H h) (q : H d = some (XD d fs)) : ∃ mA, h.Ns1 d mA /\ (∀ f, RelO (fs.lookup f) (mA f)) /\ PySem.Within mA (fs.map (·.1)) /\ fs.length <= 1000 :=
  (show ObjOk P w H h d (.ext _) from x d _ q).1
def xIn (K : PySem.W.Frag) (C f : Addr) : Bool := match K.lookup C with
  | some ⟨.type "type", _, .cls cd, sl⟩ => (match cd.mro, sl.toList with
    | .ref C' :: bm, [_, _, _, _, some (.builtin n), _] => C' == C && n == "ValueError.__new__" && !cd.hasDel && PySem.W.tailIn K bmV bm && PySem.W.nsOkIn K cd.ns && PySem.W.nsIn K cd.ns "__init__" == some (some (.ref f)) && bm.contains (.type "BaseException")
    | _, _ => false)
  | _ => false
structure XCl (K : PySem.W.Frag) (C f : Addr) : Prop where
  cls : xIn K C f = true
  fn : PySem.W.typeIn K (.ref f) = some (.type "function")
  kp : PySem.W.keepIn K (.ref C) = true
  over : overIn K C = true
  sa : PySem.W.findIn K (.ref C) "__setattr__" = some (some (.builtin "object.__setattr__"))
  hd : (PySem.W.clsIn K C).any (·.hasDict) = true
  ga : PySem.W.findIn K (.ref C) "__getattribute__" = some (some (.builtin "BaseException.__getattribute__"))
  ha : PySem.W.findIn K (.ref C) "__getattr__" = some none
  sb : PySem.W.subIn K (.ref C) (.type "BaseException") = some true
theorem ns_some {K : PySem.W.Frag} {h : Heap} {N : Addr} {mg : Str -> Option Value} {n : Str} {v : Value} (X : K.In h) (G : h.Ns N mg) (e : PySem.W.nsIn K N n = some (some v)) : mg n = some v := by
  obtain ⟨o, es, ep, ho, hd, _, hf⟩ := G
  unfold PySem.W.nsIn at e
  split at e
  · rename_i c d es' n' sl q
    have := X _ _ q
    rw [ho] at this
    cases this
    cases hd
    split at e
    · rename_i en he
      cases e
      rw [<- hf]
      unfold nsFind findBy
      rw [<- Array.find?_toList, he]
      rfl
    · split at e <;> cases e
  · cases e
theorem XCl.at {K : PySem.W.Frag} {C f : Addr} (c : XCl K C f) {h : Heap} (X : K.In h) : ∃ nm q N bs bm hdct sn sub ab col dd k0 k1 k2 k3 k5 mN, h.get? C = some (excClassObj nm q C N bs bm hdct sn sub ab col dd k0 k1 k2 k3 k5 "ValueError.__new__") /\
    OwnTail h bmV bm /\ h.Ns N mN /\ mN "__init__" = some (.ref f) /\ bm.contains (.type "BaseException") = true := by
  have q := c.cls
  unfold xIn at q
  split at q
  · rename_i dd cd sl ho
    split at q
    · rename_i C' bm k0 k1 k2 k3 n k5 hm hs
      simp only [Bool.and_eq_true, beq_iff_eq, Bool.not_eq_true'] at q
      obtain ⟨⟨⟨⟨⟨⟨rfl, rfl⟩, hdel⟩, ht⟩, hok⟩, hi⟩, hb⟩ := q
      obtain ⟨nm, bs, mro, ns, qn, hd, sn, sub, ab, col, del⟩ := cd
      dsimp only at hm hdel hok hi
      subst hm hdel
      have es : sl = #[k0, k1, k2, k3, some (.builtin "ValueError.__new__"), k5] := by
        obtain ⟨l⟩ := sl
        simp only at hs
        rw [hs]
      subst es
      have nN := PySem.Heap.Ns.of_isNs (PySem.W.isNs_of_in X hok)
      exact ⟨nm, qn, ns, bs, bm, hd, sn, sub, ab, col, dd, k0, k1, k2, k3, k5, _, X _ _ ho, PySem.W.tail_of_in X ht, nN, ns_some X nN hi, hb⟩
    · cases q
  · cases q
def drp (H : Hp) (e : Addr) : Hp := fun b => if b = e then none else H b
theorem drp_same {H : Hp} {e : Addr} : drp H e e = none := if_pos rfl
theorem drp_ne {H : Hp} {e b : Addr} (h : b ≠ e) : drp H e b = H b := if_neg h
theorem Inv.drop {X : Cx} {pins : List (Addr × Obj)} {σ : St} {H : Hp} {s : Shared} {e : Addr} {φ : Heap -> Prop} (I : Inv X pins σ H s) (he : H e = some (.ext φ)) : Inv X pins σ (drp H e) s := by
  have no : ∀ b, H b = none -> drp H e b = none := fun b h => by
    by_cases q : b = e
    · rw [q]
      exact drp_same
    · rw [drp_ne q]
      exact h
  have nx : ∀ (b : Addr) (o : HO), H b = some o -> (∀ ψ, o ≠ .ext ψ) -> drp H e b = some o := fun b o h n => by
    have q : b ≠ e := fun z => by
      rw [z, he] at h
      cases h
      exact n _ rfl
    rw [drp_ne q]
    exact h
  refine ⟨I.ok, I.os, I.bare, ⟨I.base.keep, I.base.slot, fun b o q n x => no b (I.base.free b o q n x), I.base.there, fun b xs q => nx _ _ (I.base.tups b xs q) (by intro ψ z; cases z), fun b o u q => nx _ _ (I.base.frzs b o u q) (by intro ψ z; cases z), fun b ps q => ?_⟩, I.loc, I.cell, no _ I.free, fun x c q => no _ (I.freeC x c q), fun p hp => ?_, fun a o q => ?_, I.len⟩
  · obtain ⟨m, r⟩ := I.base.tbls b ps q
    exact ⟨m, nx _ _ r (by intro ψ z; cases z)⟩
  · obtain ⟨a, b, c⟩ := I.pin p hp
    exact ⟨a, no _ b, c⟩
  · have na : a ≠ e := fun z => by
      rw [z, drp_same] at q
      cases q
    rw [drp_ne na] at q
    exact (I.hok a o q).stay (fun _ _ _ z => z) (fun b z => nx b _ z (by intro ψ y; cases y)) fun b xs z => nx b _ z (by intro ψ y; cases y)
def Throws (X : Cx) (E : XK) : Prop := ∀ (pins : List (Addr × Obj)) (σ : St) (u : Value) (s' : Shared), Air X pins σ E u s' -> X.xe u s'
theorem throwx {P : Program} {w : World} {K : PySem.W.Frag} {mg : Str -> Option Value} {base : Heap} {N : List Str} {qual : Str} {scope : Scope} {f : Addr} {cd : Value} {A : Around} {outer : List Env} {s : Shared} {H : Hp} {E : XK} :
    Throws (cxOf (CXf P w) P w K mg base N qual scope f cd A outer s H E) E := fun _ _ _ _ h => leave_air h
def tRaise (C : Addr) (sp : Sp) (E : XK) (t : TA) : TS := fun _ σ H => t σ H fun vs H1 => vs.length <= sizeLine /\ ∀ e, H1 e = none -> sp (.ref e :: vs) (upd H1 e (XO e C none)) (fun v H2 => v = .non /\ ∃ dx, H2 e = some (XO e C dx) /\ E (.ref C) dx (drp H2 e)) E0
section
variable {X : Cx} {k : Nat} {f C : Addr} {fd : FuncData} {ps : List Str} {sp : Sp} {E : XK} {x : Str} {np cpos pos : Pos} {a : Expr} {as : List Expr} {t : TA}
theorem ps_raise (M : XCl X.K C f) (F : FnOk X.prog X.w X.K X.mg X.base CX0 k f fd ps sp) (hr : Room (k + 1) X.A) (hg : Gl X x) (hm : X.mg x = some (.ref C)) (hb : Binds X.K fd ps []) (hx : Throws X E)
    (ha : PA X (a :: as) t) (hdb : (x == ("__debug__" : Str)) = false := by decide) (h1 : isStar a = false := by rfl) (h2 : as.all (fun e => !isStar e) = true := by rfl) :
    PS X (.Raise (some (.Call (.Name x np) (a :: as) [] cpos)) none pos) (tRaise C sp E t) := by
  intro pins s σ H D I h
  obtain ⟨nm, q, N, bs, bm, hdct, sn, sub, ab, col, dd, k0, k1, k2, k3, k5, mN, hC0, T0, n0, i0, hB⟩ := M.at I.mod.kin
  rw [arm_exec_Raise]
  simp only [evalOpt, Option.map]
  refine wpAny_bind (wpAny_standAt (rs_stmt (C := C) (nm := nm) (q := q) (N := N) (bs := bs) (hdct := hdct) (sn := sn) (sub := sub) (ab := ab) (col := col) (dd := dd) (k0 := k0) (k1 := k1) (k2 := k2) (k3 := k3) (k5 := k5) (newId := "ValueError.__new__") hB hr.hd (wpAny_bind ?_)))
  refine wpAny_Call_Name_kw (ld_glob I hg hm ?_ hdb)
  refine PySem.W.callWith_K (h₀ := X.base) I.ok.mod.kin M.kp (thn (ha cpos pins s σ H _ I h) fun us s1 ⟨vs, H1, I1, r, hl, q1⟩ => ⟨I1.kIn, ?_⟩) (star_cons h1) (star_any h2)
  obtain ⟨hh, g, d, tk, os⟩ := s1
  have kb : ∀ b o, X.base.get? b = some o -> hh.get? b = some o := I1.bk
  have e0 : H1 (hh.objs.size + 1) = none := I1.hok.fresh (Nat.le_succ _)
  obtain ⟨of, hof, hofc⟩ := Option.map_eq_some_iff.mp M.fn
  have hof' : hh.get? f = some of := I1.kIn _ _ hof
  refine ex_call PySem.F.excBase_ValueError (by decide +kernel) PySem.F.excBase_ValueError (T0.keeps kb) (kb _ _ hC0) (n0.keeps kb) i0 hof' hofc (show us.length <= sizeLine by rw [<- r.length]; exact hl) ?_
  have ex : ((hh.push (tupOf us)).push (excOf C hh.objs.size)).get? (hh.objs.size + 1) = some (excOf C hh.objs.size) := Heap.get?_push_at (by simp only [Heap.size_push]) rfl
  have I2 : Inv X pins σ (upd H1 (hh.objs.size + 1) (XO (hh.objs.size + 1) C none)) ⟨(hh.push (tupOf us)).push (excOf C hh.objs.size), g, d, tk, os⟩ :=
    I1.laid (a := hh.objs.size + 1) (o := XO (hh.objs.size + 1) C none) (t' := tk) (fun b u q => Heap.get?_push_of_some _ (Heap.get?_push_of_some _ q)) (Nat.le_succ _) (XO.ok ⟨excOf C hh.objs.size, _, hh.objs.size, ex, rfl, rfl, rfl, rfl, rfl, rfl⟩)
  have hq := q1 _ e0
  have r2 : Vals (V.ref (hh.objs.size + 1) :: vs) (Value.ref (hh.objs.size + 1) :: us) := .cons rfl r
  have hlen : (Value.ref (hh.objs.size + 1) :: us).length = ps.length := by rw [<- r2.length]; exact F.len _ _ _ _ hq
  have bd := hb ⟨(hh.push (tupOf us)).push (excOf C hh.objs.size), g, d, tk, os⟩ (Value.ref (hh.objs.size + 1) :: us) I2.kIn (by rw [List.append_nil]; exact hlen)
  rw [List.append_nil] at bd
  refine wpAny_call (codeAny_mono (F.run _ X.stack _ _ ⟨Value.ref (hh.objs.size + 1) :: us, []⟩ (Value.ref (hh.objs.size + 1) :: us) _ _ E0 (hr.make C us []) (I2.env0.make C us []) bd r2 hq) fun r s' hq' => ?_)
  cases r with
  | error u => exact False.elim hq'
  | ok fl =>
    cases fl with
    | ret u =>
      obtain ⟨v, H', I3, rv, ev, dx, hH, hE⟩ := I2.after hq'
      subst ev
      obtain ⟨oe, ws, t0, g1, g2, g3, g4, g5, g6⟩ := XO.get I3.hok hH
      exact ⟨rv, wpAny_bind (wpAny_standAt (wpAny_pure ⟨_, oe, ws, rfl, I3.bk _ _ hC0, g1, g2, g4, g6.1, hx pins σ _ s' ⟨_, .ref C, dx, drp H' (hh.objs.size + 1), hh.objs.size, rfl, I3.drop hH, drp_same, I1.sz, Nat.le_succ _, fun p hp => Heap.lt_size (I1.pin p hp).1, .inl ⟨oe, ws, g1, g2, g3, g4, g6⟩, hE⟩⟩))⟩
    | next => exact False.elim hq'
    | brk => exact False.elim hq'
    | cont => exact False.elim hq'
end
structure XBase (K : PySem.W.Frag) (R : Addr) : Prop where
  sp : PySem.W.specialIn K (.ref R) "__getattribute__" = some (some (.builtin "type.__getattribute__"))
  rd : PySem.W.readsIn K R (.type "type") = true
  fi : PySem.W.findCls K (.ref R) (.type "type") "__init__" = some (.val (.builtin "ValueError.__init__"))
def tXInit (C : Addr) (t : TA) : TE := fun σ H Q => t σ H fun vs H1 => ∃ e rest dx, vs = .ref e :: rest /\ rest.length <= sizeLine /\ H1 e = some (XO e C dx) /\ Q .non H1
theorem upd_id {H : Hp} {e : Addr} {o : HO} (h : H e = some o) : upd H e o = H := by
  funext b
  unfold upd
  split
  · rename_i q
    rw [q, h]
  · rfl
section
variable {X : Cx} {f C R : Addr} {x m : Str} {np apos pos pos' : Pos} {a o e value : Expr} {as : List Expr} {t : TA} {ta tv te : TE}
theorem pe_xinit {pl : Sem Bool} (M : XCl X.K C f) (B : XBase X.K R) (hg : Gl X x) (hm : X.mg x = some (.ref R)) (ha : PA X (a :: as) t) (hdb : (x == ("__debug__" : Str)) = false := by decide) (h1 : isStar a = false := by rfl) (h2 : as.all (fun e => !isStar e) = true := by rfl)
    (ht : eval (.Call (.Attribute (.Name x np) "__init__" apos) (a :: as) [] pos) X.env = (do
      let ov <- eval (.Name x np) X.env
      standAt apos.atName
      let (f, first) <- holding [ov] (getMethod ov "__init__" pl)
      callWith pos f first (backTo pos (starEach (a :: as) X.env)) (backToKw pos (keywordEach [] X.env))) := by rfl) :
    PE X (.Call (.Attribute (.Name x np) "__init__" apos) (a :: as) [] pos) (tXInit C t) := by
  intro pins s σ H Q I h
  refine PySem.W.methodCall_KW (pl := pl) (ld_glob I hg hm ?_ hdb) ht
  refine PySem.W.method_cls I.kIn B.sp (PySem.W.cls_value I.kIn B.rd B.fi (by decide +kernel) ?_)
  have I0 : Inv X pins σ H { s with toks := s.toks + 1 } := I.tok _
  refine PyProof.Rows.callWith_builtin1 (thn (ha pos pins _ σ H _ I0 h) fun us s1 ⟨vs, H1, I1, r, e, rest, dx, ev, hl, hH, q⟩ => ?_) (star_cons h1) (star_any h2)
  subst ev
  obtain ⟨ue, ur, rfl, re, rr⟩ : ∃ ue ur, us = ue :: ur /\ RelV (.ref e) ue /\ Vals rest ur := by
    cases r with
    | cons p q => exact ⟨_, _, rfl, p, q⟩
  obtain rfl : ue = Value.ref e := re
  obtain ⟨oe, ws, t0, g1, g2, g3, g4, g5, g6⟩ := XO.get I1.hok hH
  obtain ⟨nm, q', N, bs, bm, hdct, sn, sub, ab, col, dd, k0, k1, k2, k3, k5, mN, hC, T, _, _, _⟩ := M.at I1.kIn
  obtain ⟨hh, g, d, tk, os⟩ := s1
  refine ex_init PySem.F.excBase_ValueError T hC g1 g2 g4 g5 (by rw [<- rr.length]; exact hl) ?_
  have e1 := Heap.get?_push_of_some (h := hh) (tupOf ur) g1
  have up := Heap.get?_update_self (Obj.mapFields (·.setIfInBounds 0 (.ref hh.objs.size))) e1 (Obj.isFreed_of_fields (Obj.data_mapFields g4 _))
  have sz : 0 < ws.size := (Array.getElem?_eq_some_iff.mp g5).1
  have I2 := I1.write (x := e) (e := e) (o := XO e C dx) (h' := (hh.push (tupOf ur)).update e (Obj.mapFields (·.setIfInBounds 0 (.ref hh.objs.size)))) (t' := tk) (by rw [hH]; exact True.intro) (.inl rfl)
    (fun b u nb q => (Heap.get?_update_other _ _ (Ne.symm nb)).trans (Heap.get?_push_of_some _ q)) ⟨_, up⟩
    (XO.ok ⟨_, _, hh.objs.size, up, (Obj.cls_mapFields _ _).trans g2, (dict_mapFields _ _).trans g3, Obj.data_mapFields g4 _, by simp [sz], by rw [Array.getElem?_setIfInBounds_ne (by decide)]; exact g6.1, by rw [Array.getElem?_setIfInBounds_ne (by decide)]; exact g6.2⟩)
  rw [upd_id hH] at I2
  exact ⟨.non, H1, I2, rfl, q⟩
def sXNew (K : PySem.W.Frag) (C : Addr) (ta tv : TE) (m : Str) : TS := fun D σ H => tv σ H fun y H1 => ta σ H1 fun x H2 => ∃ e, x = .ref e /\ H2 e = some (XO e C none) /\ PySem.W.takerIn K C m = some none /\ ∀ d, H2 d = none -> d ≠ e -> D.nx σ (upd (upd H2 d (XD d [(m, y)])) e (XO e C (some d)))
theorem ps_xnew (M : XCl X.K C f) (ha : PE X o ta) (hv : PE X value tv) (hs : swapsWith value (some (.Attribute o m pos')) pos.line X.env = pure false := by rfl) : PS X (.Assign [.Attribute o m pos'] value pos) (sXNew X.K C ta tv m) := by
  intro pins s σ H D I h
  refine plainObj_wpAny_Assign_Attribute (thn (hv pins s σ H _ I h) fun u s1 ⟨y, H1, I1, ry, q⟩ => thn (ha pins s1 σ H1 _ I1 q) fun ov s2 ⟨x, H2, I2, rx, e, ex, hH, hk, q2⟩ => ?_) hs
  subst ex
  obtain rfl : ov = Value.ref e := rx
  obtain ⟨oe, ws, t0, g1, g2, g3, g4, g5, g6⟩ := XO.get I2.hok hH
  refine xs_new I2.kIn g1 g2 g3 g4 M.sa M.over hk M.hd fun h' hn he kp => ?_
  have nd : s2.heap.objs.size ≠ e := Nat.ne_of_gt (Heap.lt_size g1)
  have fd : H2 s2.heap.objs.size = none := I2.hok.fresh (Nat.le_refl _)
  have ns : ∀ (b : Addr) (u : HO), H2 b = some u -> (∀ ψ, u ≠ .ext ψ) -> upd (upd H2 s2.heap.objs.size (XD s2.heap.objs.size [(m, y)])) e (XO e C (some s2.heap.objs.size)) b = some u := fun b u q nx => by
    have n1 : b ≠ e := fun z => by
      rw [z, hH] at q
      cases q
      exact nx _ rfl
    rw [upd_ne n1, upd_ne (ne_of_none q fd)]
    exact q
  have ne' : ∀ b, H2 b = none -> b ≠ e := fun b q z => by
    rw [z, hH] at q
    cases q
  refine ⟨σ, _, I2.un (H' := upd (upd H2 s2.heap.objs.size (XD s2.heap.objs.size [(m, y)])) e (XO e C (some s2.heap.objs.size))) (h' := h') (t' := s2.toks + 2) ⟨fun b o q n _ _ => kp b o (ne' b n) q, fun b o q n _ _ => ⟨o.slots, kp b o (ne' b n) q⟩, fun b o q n _ => ?_, fun b o q _ => ?_, fun b xs q => ns b _ q (by intro ψ z; cases z), fun b o u q => ns b _ q (by intro ψ z; cases z), fun b ps q => ⟨#[], by rw [ns b _ q (by intro ψ z; cases z)]; simp⟩⟩ fun b u q => ?_, q2 _ fd nd⟩
  · rw [upd_ne (ne' b n), upd_ne (Nat.ne_of_lt (Heap.lt_size q))]
    exact n
  · by_cases z : b = e
    · rw [z]
      exact ⟨_, he⟩
    · exact ⟨o, kp b o z q⟩
  · by_cases z : b = e
    · subst z
      rw [upd_same] at q
      cases q
      exact XO.ok ⟨_, ws, t0, he, g2, rfl, g4, g5, g6⟩
    · rw [upd_ne z] at q
      by_cases z2 : b = s2.heap.objs.size
      · subst z2
        rw [upd_same] at q
        cases q
        refine XD.ok ⟨_, hn, fun f => ?_, fun f hf => ?_, show 1 <= 1000 by decide⟩
        · rw [List.lookup_cons]
          by_cases w : f = m
          · rw [if_pos w, w, beq_self_eq_true]
            exact ry
          · rw [if_neg w, beq_eq_false_iff_ne.mpr w]
            exact True.intro
        · by_cases w : f = m
          · rw [w]
            exact List.mem_cons_self
          · exact absurd (if_neg w) hf
      · rw [upd_ne z2] at q
        refine (I2.hok b u q).stay (fun c v hc r => kp c v (fun w => ?_) r) (fun c r => ns c _ r (by intro ψ z; cases z)) fun c xs r => ns c _ r (by intro ψ z; cases z)
        rcases hc with hc | hc
        · exact z (hc.symm.trans w)
        · rw [w, hH] at hc
          cases hc
end
end L2
namespace L2
open PySem PySem.Spec PyProof.Rows
section
variable {X : Cx} {pins : List (Addr × Obj)} {σ : St} {H : Hp} {s : Shared} {h' : Heap} {xs : List Addr}
theorem Inv.moved (I : Inv X pins σ H s) (m : Mv (frs X.stack) xs s.heap h')
    (hx : ∀ b ∈ xs, H b = none /\ (b ∈ X.ex \/ X.s₀.heap.objs.size <= b) /\ b ≠ X.env.locals /\ (∀ x c, X.env.cells.lookup x = some c -> c ≠ b) /\ ∀ p ∈ X.pn ++ pins, p.1 ≠ b) : Inv X pins σ H { s with heap := h' } :=
  I.call (g' := s.gens) (d' := s.drawn) (t' := s.toks) (ch := xs) ⟨fun b o q _ f x => m.keep b o q f x, fun b o q _ _ x => m.slot b o q x, fun _ _ _ n _ => n, fun b o q _ => m.there b o q, fun _ _ q => q, fun _ _ _ q => q, fun _ ps q => ⟨#[], by rw [q]; simp⟩⟩
    (I.hok.moved m I.stkFree fun b hb => (hx b hb).1) I.bare fun b hb => (hx b hb).2
theorem Inv.apart (I : Inv X pins σ H s) {b : Addr} {o : Obj} {vs : Array Value} (q : s.heap.get? b = some o) (d : o.data = .fields vs) : b ≠ X.env.locals /\ ∀ x c, X.env.cells.lookup x = some c -> c ≠ b := by
  refine ⟨fun z => ?_, fun x c e z => ?_⟩
  · obtain ⟨m, ⟨o', es, ep, ho, hd, _⟩, _⟩ := I.loc
    rw [z, ho] at q
    cases q
    rw [hd] at d
    cases d
  · obtain ⟨v, o', ho, hd⟩ := I.cell x c e
    rw [z, q] at ho
    cases ho
    rw [d] at hd
    cases hd
abbrev Cx.inEx (X : Cx) (u : Value) (p : List (Addr × Obj)) : Cx := { X with A := X.A.mark (some u), calm := false, pn := p ++ X.pn, xe := fun _ _ => False }
theorem Inv.inEx (I : Inv X pins σ H s) (u : Value) {p : List (Addr × Obj)} (hp : ∀ q ∈ p, s.heap.get? q.1 = some q.2 /\ H q.1 = none /\ q.1 ≠ X.env.locals /\ q.1 ∉ X.fs /\ ∀ v, q.2.data ≠ .cell v) : Inv (X.inEx u p) pins σ H s :=
  ⟨⟨I.ok.mod, I.ok.kind, I.ok.glob, I.ok.blt, I.ok.above, I.ok.inj, I.ok.has, I.ok.cab, (fun z => nomatch z), I.ok.frames, I.ok.stk, I.ok.exf, I.ok.bs, I.ok.bsz, I.ok.noex, I.ok.exfs, I.ok.funs, I.ok.frf⟩, I.os, I.bare, I.base, I.loc, I.cell, I.free, I.freeC, fun q hq => by
    have hq' : q ∈ (p ++ X.pn) ++ pins := hq
    rw [List.append_assoc] at hq'
    rcases List.mem_append.mp hq' with z | z
    · exact hp q z
    · exact I.pin q z, I.hok, I.len⟩
theorem Inv.outEx {u : Value} {p : List (Addr × Obj)} (ok : X.Ok) (I : Inv (X.inEx u p) pins σ H s) : Inv X pins σ H s :=
  ⟨ok, I.os, I.bare, I.base, I.loc, I.cell, I.free, I.freeC, fun q hq => I.pin q (by
    show q ∈ (p ++ X.pn) ++ pins
    rw [List.append_assoc]
    exact List.mem_append_right _ hq), I.hok, I.len⟩
theorem unbind_ok {A : Around} {E : Value -> Shared -> Prop} {i : Nat} {n : Str} {pos : Pos} {Q : Unit -> Shared -> Prop} (I : Inv X pins σ H s) (hN : X.N.Nodup) (hi : X.N[i]? = some n) (hl : X.env.scope.names.lookup n = some .local)
    (h : ∀ s', Inv X pins (σ.set i none) H s' -> Q () s') : wpAny (model X.prog X.w) A (do bindName X.env n .none; unbindBehindTheSuite X.env n pos) Q E s := by
  obtain ⟨m, hn, hlk⟩ := id I.loc
  have iσ : i < σ.length := by rw [I.len]; exact (List.getElem?_eq_some_iff.mp hi).1
  refine wpAny_nameGoes_keeps (env := X.env) hl hn (by rw [I.ok.kind]; rfl) fun h' v hn' hs => h _ ?_
  have nl : ∀ (b : Addr) (o : Obj), X.s₀.heap.get? b = some o -> b ≠ X.env.locals := fun b o q => Nat.ne_of_lt (Nat.lt_of_lt_of_le (Heap.lt_size q) I.ok.above)
  refine ⟨I.ok, I.os, I.bare, ⟨fun b o q n hb hx => (hs.2 b (nl b o q)).trans (I.base.keep b o q n hb hx), fun b o q n hb hx => ?_, I.base.free, fun b o q hx => ?_, I.base.tups, I.base.frzs, I.base.tbls⟩, ⟨_, hn', fun j y v' e1 e2 e3 => ?_⟩, fun y c q => ?_, I.free, I.freeC, fun p hp => ?_, fun b u q => ?_, by rw [List.length_set]; exact I.len⟩
  · obtain ⟨sl, q1⟩ := I.base.slot b o q n hb hx
    exact ⟨sl, (hs.2 b (nl b o q)).trans q1⟩
  · obtain ⟨o1, q1⟩ := I.base.there b o q hx
    exact ⟨o1, (hs.2 b (nl b o q)).trans q1⟩
  · have hj : j ≠ i := fun z => by
      rw [z, List.getElem?_set_self iσ] at e2
      cases e2
    rw [List.getElem?_set_ne (Ne.symm hj)] at e2
    obtain ⟨u, r, q⟩ := hlk j y v' e1 e2 e3
    refine ⟨u, r, ?_⟩
    rcases q with ⟨k, e⟩ | ⟨k, c, e, z⟩
    · have ny : y ≠ n := fun z => hj (nodup_ix hN e1 (z ▸ hi))
      exact .inl ⟨k, by simp [ny, e]⟩
    · exact .inr ⟨k, c, e, z.sameBut hs (I.cne y c e)⟩
  · obtain ⟨w, z⟩ := I.cell y c q
    exact ⟨w, z.sameBut hs (I.cne y c q)⟩
  · obtain ⟨a, b, c, d⟩ := I.pin p hp
    exact ⟨(hs.2 p.1 c).trans a, b, c, d⟩
  · refine (I.hok b u q).stay (fun c v hc r => (hs.2 c fun z => ?_).trans r) (fun _ r => r) fun _ _ r => r
    rcases hc with hc | hc
    · rw [<- hc, z, I.free] at q
      cases q
    · rw [z, I.free] at hc
      cases hc
end
abbrev Ends.behind (D : Ends) (i : Nat) : Ends := { nx := fun σ H => D.nx (σ.set i none) H, rt := D.rt, bk := fun σ H => D.bk (σ.set i none) H, ct := fun σ H => D.ct (σ.set i none) H }
def xTakeH (K : PySem.W.Frag) (Ch : Addr) (i : Nat) (th : Addr -> Obj -> TS) (D : Ends) (σ : St) : XK := fun C dx H => PySem.W.exmOne K C (.ref Ch) = some true /\ ∀ (e : Addr) (oe : Obj) (vs : Array Value), oe.cls = C -> oe.dict = dx -> oe.data = .fields vs -> vs[2]? = some .none -> H e = none -> th e oe (D.behind i) (σ.set i (some (.ref e))) H
section
variable {X : Cx} {Ch : Addr} {x n : Str} {i : Nat} {np hpos tpos : Pos} {b0 : Stmt} {suite : List Stmt} {th : Addr -> Obj -> TS}
theorem catch_okH {pins : List (Addr × Obj)} {σ : St} {D : Ends} {u : Value} {s' : Shared} (hN : X.N.Nodup) (hi : X.N[i]? = some n) (hl : X.env.scope.names.lookup n = some .local) (hst : X.stack = X.env :: X.outer) (hf : X.env.frame = some X.env.locals) (hg : Gl X x) (hm : X.mg x = some (.ref Ch))
    (hS : ∀ e oe, PSs (X.inEx (.ref e) [(e, oe)]) (b0 :: suite) (th e oe)) (hdb : (x == ("__debug__" : Str)) = false)
    (h : Air X pins σ (xTakeH X.K Ch i th D σ) u s') :
    wpAny (model X.prog X.w) X.A (noteFrame u X.env) (fun _ s2 => wpAny (model X.prog X.w) X.A (setFlight u none) (fun _ s3 => wpAny (model X.prog X.w) X.A (handleBy u X.env [.ExceptHandler (some (.Name x np)) (some n) (b0 :: suite) hpos]) (SP X pins D) X.xe s3) X.xe s2) X.xe s' := by
  obtain ⟨e, C, dx, H', k, rfl, I, ne, hk, he, hp, st, hex, hth⟩ := h
  have fr : X.A.frames = some (X.env :: X.outer) := hst ▸ I.ok.frames
  have fs : s'.heap.FunFrames X.base (X.env :: X.outer) := hst ▸ I.stack
  have pk : ∀ b, k <= b -> ∀ p ∈ X.pn ++ pins, p.1 ≠ b := fun b hb p q z => absurd (Nat.lt_of_lt_of_le (hp p q) hb) (by rw [z]; exact Nat.lt_irrefl _)
  -- from the landed state on
  have fin : ∀ (h2 : Heap) (T : Addr), Tr h2 e C dx T .none -> Inv X pins σ H' { s' with heap := h2 } -> H' T = none -> X.s₀.heap.objs.size <= T -> (∀ p ∈ X.pn ++ pins, p.1 ≠ T) ->
      wpAny (model X.prog X.w) X.A (handleBy (.ref e) X.env [.ExceptHandler (some (.Name x np)) (some n) (b0 :: suite) hpos]) (SP X pins D) X.xe { s' with heap := h2 } := by
    intro h2 T t J nT sT pT
    obtain ⟨oe, vs, g1, g2, g3, g4, g5⟩ := t.ex
    have Jm : Inv (X.inEx (.ref e) []) pins σ H' { s' with heap := h2 } := J.inEx (.ref e) fun q hq => nomatch hq
    have LT : PySem.W.Looks (model X.prog X.w) h2 (typeOf (.ref e)) C := g2 ▸ (PySem.W.Looks.ld g1).andThen .now
    refine wpAny_handleBy_cons (codeAny_handlers_test (ld_glob Jm hg hm ?_ hdb)) (by intro q; cases q)
    refine PySem.W.Looks.here (s := { s' with heap := h2 }) (PySem.W.exm_one (K := X.K) J.kIn LT hex) ?_
    refine codeAny_handlers_suite_as (fly_set (v := none) t fun h3 t3 m3 => ?_)
    have J3 : Inv X pins σ H' { s' with heap := h3 } := Inv.moved (s := { s' with heap := h2 }) J (m3.mono (fun b z => nomatch z) fun _ z => z) fun b hb => by
      rw [List.mem_singleton.mp hb]
      obtain ⟨ot, ts, q1, q2, _⟩ := t.tb
      exact ⟨nT, .inr sT, (J.apart q1 q2).1, (J.apart q1 q2).2, pT⟩
    obtain ⟨oe3, vs3, a1, a2, a3, a4, a5⟩ := t3.ex
    have ap := Inv.apart (s := { s' with heap := h3 }) J3 a1 a4
    have J4 : Inv (X.inEx (.ref e) [(e, oe3)]) pins σ H' { s' with heap := h3 } := J3.inEx (.ref e) fun q hq => by
      rw [List.mem_singleton.mp hq]
      exact ⟨a1, ne, ap.1, fun z => by
        obtain ⟨_, o, ho, nf⟩ := J3.funs.mem z
        have ho' : h3.get? e = some o := ho
        rw [a1] at ho'
        cases ho'
        exact nf vs3 a4, fun v z => by rw [a4] at z; cases z⟩
    refine store_ok (X := X.inEx (.ref e) [(e, oe3)]) (v := .ref e) J4 hN hi (.inl hl) rfl (fun s4 J5 => ?_) (.inr hl)
    refine wpAny_mono (hS e oe3 pins s4 _ H' (D.behind i) J5 (hth e oe3 vs3 a2 a3 a4 a5.2 ne)) (fun f s5 q => ?_) fun _ _ z => False.elim z
    cases f with
    | next =>
      obtain ⟨σ', H5, I5, q⟩ := q
      exact unbind_ok (I5.outEx I.ok) hN hi hl fun s6 I6 => ⟨_, _, I6, q⟩
    | brk =>
      obtain ⟨σ', H5, I5, q⟩ := q
      exact unbind_ok (I5.outEx I.ok) hN hi hl fun s6 I6 => ⟨_, _, I6, q⟩
    | cont =>
      obtain ⟨σ', H5, I5, q⟩ := q
      exact unbind_ok (I5.outEx I.ok) hN hi hl fun s6 I6 => ⟨_, _, I6, q⟩
    | ret w =>
      obtain ⟨v, σ', H5, I5, r, q⟩ := q
      exact unbind_ok (I5.outEx I.ok) hN hi hl fun s6 I6 => ⟨v, _, _, I6, r, q⟩
  have two : ∀ (h1 : Heap) (T : Addr) (xs : List Addr), Tr h1 e C dx T (rawInt X.env.locals) -> Mv ((X.env :: X.outer).filterMap (·.frame)) xs s'.heap h1 -> (∀ b ∈ xs, H' b = none /\ X.s₀.heap.objs.size <= b /\ (∀ p ∈ X.pn ++ pins, p.1 ≠ b) /\ ∃ o vs, s'.heap.get? b = some o /\ o.data = .fields vs) -> s'.heap.objs.size <= T ->
      wpAny (model X.prog X.w) X.A (setFlight (.ref e) none) (fun _ s3 => wpAny (model X.prog X.w) X.A (handleBy (.ref e) X.env [.ExceptHandler (some (.Name x np)) (some n) (b0 :: suite) hpos]) (SP X pins D) X.xe s3) X.xe { s' with heap := h1 } := by
    intro h1 T xs t m hxs hT
    have J1 : Inv X pins σ H' { s' with heap := h1 } := I.moved (hst ▸ m) fun b hb => by
      obtain ⟨r1, r2, r3, o, vs, r4, r5⟩ := hxs b hb
      exact ⟨r1, .inr r2, (I.apart r4 r5).1, (I.apart r4 r5).2, r3⟩
    have nT : H' T = none := I.hok.fresh hT
    have sT : X.s₀.heap.objs.size <= T := Nat.le_trans I.sz hT
    have pT : ∀ p ∈ X.pn ++ pins, p.1 ≠ T := fun p q z => absurd (Nat.lt_of_lt_of_le (Heap.lt_size (I.pin p q).1) hT) (by rw [z]; exact Nat.lt_irrefl _)
    refine fly_set (s := { s' with heap := h1 }) (v := none) t fun h2 t2 m2 => fin h2 T t2 (Inv.moved (s := { s' with heap := h1 }) J1 (m2.mono (fun b z => nomatch z) fun _ z => z) fun b hb => ?_) nT sT pT
    rw [List.mem_singleton.mp hb]
    obtain ⟨ot, ts, q1, q2, _⟩ := t.tb
    exact ⟨nT, .inr sT, (J1.apart q1 q2).1, (J1.apart q1 q2).2, pT⟩
  rcases st with ⟨oe, vs, h1, rfl, rfl, h4, h5, h6⟩ | ⟨T0, t0, n0, s0⟩
  · refine fly_first fr fs hf h1 h4 h5 h6 fun h' T hs t m => two h' T [e] t m (fun b hb => ?_) hs
    rw [List.mem_singleton.mp hb]
    exact ⟨ne, Nat.le_trans hk he, pk e he, oe, vs, h1, h4⟩
  · refine fly_next fr fs hf t0 fun h' T hs t m => two h' T [e, T0] t m (fun b hb => ?_) hs
    rcases List.mem_cons.mp hb with r | hb
    · rw [r]
      obtain ⟨oe, vs, q1, _, _, q4, _⟩ := t0.ex
      exact ⟨ne, Nat.le_trans hk he, pk e he, oe, vs, q1, q4⟩
    · rw [List.mem_singleton.mp hb]
      obtain ⟨ot, ts, q1, q2, _⟩ := t0.tb
      exact ⟨n0, Nat.le_trans hk s0, pk T0 s0, ot, ts, q1, q2⟩
variable {k : Nat} {f : Addr} {fd : FuncData} {ps : List Str} {sp : Sp} {y : Str} {p cpos epos : Pos} {a : Expr} {as : List Expr} {t : TA}
end
end L2
namespace L2
open PySem PySem.Spec PyProof.Rows
structure Ca (P : Program) (w : World) (K : PySem.W.Frag) (mg : Str -> Option Value) (base : Heap) (CX : CXT) (k : Nat) (x : Str) (ps : List Str) (sp : Sp) : Prop where
  ex : ∃ f fd, FnOk P w K mg base CX k f fd ps sp /\ Binds K fd ps [] /\ PySem.W.keepIn K (.ref f) = true /\ mg x = some (.ref f)
structure Me (P : Program) (w : World) (K : PySem.W.Frag) (mg : Str -> Option Value) (base : Heap) (CX : CXT) (k : Nat) (C : Addr) (m : Str) (ps : List Str) (sp : Sp) : Prop where
  ex : ∃ f fd, FnOk P w K mg base CX k f fd ps sp /\ Binds K fd ps [] /\ Meth K C m f
structure Ma (P : Program) (w : World) (K : PySem.W.Frag) (mg : Str -> Option Value) (base : Heap) (CX : CXT) (k : Nat) (x : Str) (C : Addr) (ps : List Str) (sp : Sp) : Prop where
  ex : ∃ f fd, Mk K C f /\ FnOk P w K mg base CX k f fd ps sp /\ Binds K fd ps [] /\ mg x = some (.ref C)
structure Xa (P : Program) (w : World) (K : PySem.W.Frag) (mg : Str -> Option Value) (base : Heap) (k : Nat) (x : Str) (C : Addr) (ps : List Str) (sp : Sp) : Prop where
  ex : ∃ f fd, XCl K C f /\ FnOk P w K mg base CX0 k f fd ps sp /\ Binds K fd ps [] /\ mg x = some (.ref C)
section
variable {P : Program} {w : World} {K : PySem.W.Frag} {mg : Str -> Option Value} {base : Heap} {CX : CXT} {k j : Nat} {x m : Str} {C : Addr} {ps : List Str} {sp sp' : Sp}
theorem Ca.mono (h : Ca P w K mg base CX j x ps sp) (l : j <= k) : Ca P w K mg base CX k x ps sp := let ⟨f, fd, a, r⟩ := h.ex; ⟨f, fd, a.mono l, r⟩
theorem Me.mono (h : Me P w K mg base CX j C m ps sp) (l : j <= k) : Me P w K mg base CX k C m ps sp := let ⟨f, fd, a, r⟩ := h.ex; ⟨f, fd, a.mono l, r⟩
theorem Ca.upx (h : Ca P w K mg base CX0 k x ps sp) : Ca P w K mg base CX k x ps sp := let ⟨f, fd, a, r⟩ := h.ex; ⟨f, fd, a.upx, r⟩
theorem Me.upx (h : Me P w K mg base CX0 k C m ps sp) : Me P w K mg base CX k C m ps sp := let ⟨f, fd, a, r⟩ := h.ex; ⟨f, fd, a.upx, r⟩
end
section
variable {X : Cx} {CX : CXT} {k i : Nat} {C : Addr} {ps : List Str} {sp : Sp} {E : XK} {x m n f : Str} {p pos apos cpos np pos' epos hpos tpos : Pos} {e o a value : Expr} {es as : List Expr} {ta te tv to t1 t2 : TE} {t : TA}
theorem je_ca (F : Ca X.prog X.w X.K X.mg X.base CX k x ps sp) (hr : Room k X.A) (hg : Gl X x) (hx : Passes CX X E) (ha : jA X (e :: es) t) (hdb : (x == ("__debug__" : Str)) = false := by decide) (h1 : isStar e = false := by rfl) (h2 : es.all (fun e => !isStar e) = true := by rfl) :
    jE X (.Call (.Name x p) (e :: es) [] pos) (tCall sp [] E t) := let ⟨_, _, G, b, kp, mg⟩ := F.ex; je_fn G hr hg mg kp b .nil hx ha hdb h1 h2
theorem js_raise (F : Xa X.prog X.w X.K X.mg X.base k x C ps sp) (hr : Room (k + 1) X.A) (hg : Gl X x) (hx : Throws X E) (ha : jA X (a :: as) t) (hdb : (x == ("__debug__" : Str)) = false := by decide) (h1 : isStar a = false := by rfl) (h2 : as.all (fun e => !isStar e) = true := by rfl) :
    jS X (.Raise (some (.Call (.Name x np) (a :: as) [] cpos)) none pos) (tRaise C sp E t) := let ⟨_, _, M, G, b, mg⟩ := F.ex; ⟨ps_raise M G hr hg mg b hx ha.out hdb h1 h2⟩
end
theorem FnOk.no {P : Program} {w : World} {K : PySem.W.Frag} {mg : Str -> Option Value} {base : Heap} {CX : CXT} {k : Nat} {f : Addr} {fd : FuncData} {ps : List Str} : FnOk P w K mg base CX k f fd ps (fun _ _ _ _ => False) :=
  ⟨fun _ _ _ _ h => h.elim, fun _ _ _ _ _ _ _ _ _ _ _ _ _ h => h.elim⟩
end L2
namespace L2
open PySem PySem.Spec PyProof.Rows
theorem entry_unchain : entryFor table "proto.unchain" = some Builtin.«proto.unchain» := entryFor_of_fast (by kernel_rfl)
theorem ref_bne {a b : Addr} (h : a ≠ b) : (Value.ref a != Value.ref b) = true := by
  rw [bne_iff_ne]
  intro e
  injection e with e
  exact h e
section
variable {prog : Program} {w : World} {A : Around} {s : Shared} {E : Value -> Shared -> Prop}
theorem list_endH {it l eh : Addr} {i : Nat} {items} {oe : Obj} {ve : Array Value} {Q : Option Value -> Shared -> Prop} (hh : A.handled = some (.ref eh)) (he : s.heap.get? eh = some oe) (hde : oe.data = .fields ve) (h2 : ve[2]? = some .none) (hne : eh ≠ it)
    (hit : s.heap.IsListIter it l i) (hl : s.heap.IsList l items) (hx : items[i]? = none)
    (hQ : ∀ h', Heap.ExtBut it s.heap h' -> Q none { s with heap := h' }) : wpAny (model prog w) A (pyNext (.ref it)) Q E s := by
  obtain ⟨o, ho, hc, hd⟩ := id hit
  obtain ⟨ol, hol, _, nl, hdl⟩ := hl
  unfold pyNext
  refine wpAny_bind (wpAny_attempt (wpAny_callSpecial?_slot (name := Str.ofString "__next__") hit.typeIs slot_listiter_next
    (wpAny_call_entry slot_listiter_next hit.typeIs entry_listiter_next ?_ (args_listiter_next _))))
  show wpAny _ _ (field (.ref it) 0 >>= _) _ _ s
  refine wpAny_bind (wpAny_field ho hd (x := .ref l) rfl ?_)
  show wpAny _ _ (if (Value.ref l == Value.none) = true then _ else _) _ _ s
  rw [if_neg (show ¬ ((Value.ref l == Value.none) = true) from Bool.false_ne_true)]
  show wpAny _ _ (field (.ref it) 1 >>= _) _ _ s
  refine wpAny_bind (wpAny_field ho hd (x := .int i 0) rfl ?_)
  show wpAny _ _ (seqItems? (.ref l) >>= _) _ _ s
  refine wpAny_bind (wpAny_seqItems hol hdl ?_)
  simp only [Int.toNat_natCast, hx]
  refine wpAny_bind (wpAny_rule (wpAny_bind (wpAny_setField ho hd (by simp) ?_)))
  show wpAny _ _ (newExc (.type "StopIteration") [] >>= _) _ _ _
  refine wpAny_bind ?_
  simp only [newExc, newTuple]
  refine wpAny_bind (wpAny_newObj_type ?_ (by size_fits))
  refine wpAny_bind (m := firstArgMember _ _) (wpAny_of_eq (a := Value.none) (by first | rfl | (simp only [firstArgMember]; rfl)) ?_)
  refine wpAny_newObj_type ?_ (by size_fits)
  simp only [raiseNew]
  refine wpAny_bind (wpAny_handled ?_)
  rw [show A.in1.handled = some (.ref eh) from hh]
  generalize hG : (s.heap.update it (Obj.mapFields fun x => x.setIfInBounds 0 Value.none)).push { cls := .type "tuple", data := .seq #[] } = G
  have kG : ∀ b o, b ≠ it -> s.heap.get? b = some o -> G.get? b = some o := fun b o n e => by
    rw [<- hG]
    exact Heap.get?_push_of_some _ ((Heap.SameBut.update ..).extBut b o n e)
  have eG := kG eh oe hne he
  have la : eh ≠ G.objs.size := Nat.ne_of_lt (Heap.lt_size eG)
  show wpAny _ _ (if (Value.ref eh != Value.ref G.objs.size) = true then _ else _) _ _ _
  rw [if_pos (ref_bne la)]
  refine wpAny_bind (wpAny_holding (wpAny_runValue (codeAny_builtin entry_unchain ?_)))
  show wpAny _ _ (field (.ref eh) 2 >>= _) _ _ _
  refine wpAny_bind (wpAny_field (Heap.get?_push_of_some _ eG) hde (x := .none) h2 ?_)
  show wpAny _ _ (if (Value.none == Value.none) = true then _ else _) _ _ _
  rw [if_pos (show (Value.none == Value.none) = true from rfl)]
  refine wpAny_bind (wpAny_pure (wpAny_pure ?_))
  show wpAny (model prog w) A.in1 (updateField G.objs.size 2 (.ref eh) >>= fun _ => throw (.ref G.objs.size)) _ _ _
  refine wpAny_bind ?_
  simp only [updateField]
  refine wpAny_bind (wpAny_load (Heap.get?_push_size _ rfl) ?_)
  show wpAny _ _ (if 2 < _ then _ else _) _ _ _
  rw [if_pos (by rw [Array.size_append]; show 2 < 6 + _; omega)]
  refine wpAny_update (Heap.get?_push_size _ rfl) (wpAny_throw ?_)
  refine wpAny_bind (wpAny_isInstance (T := "StopIteration") (b := true) ⟨_, Heap.get?_update_self _ (Heap.get?_push_size _ rfl) rfl, rfl⟩ isSubtype_stop ?_)
  exact wpAny_pure (hQ _ fun b o n e => (Heap.SameBut.update ..).extBut b o (Nat.ne_of_lt (Heap.lt_size (kG b o n e))) (Heap.get?_push_of_some _ (kG b o n e)))
end
def HandP (X : Cx) : Prop := ∃ (eh : Addr) (oe : Obj) (ve : Array Value), X.A.handled = some (.ref eh) /\ X.s₀.heap.get? eh = some oe /\ X.H₀ eh = none /\ eh ∉ X.fs /\ eh ∉ X.ex /\ oe.data = .fields ve /\ ve[2]? = some .none
theorem HandP.now {X : Cx} {pins : List (Addr × Obj)} {σ : St} {H : Hp} {s : Shared} (h : HandP X) (I : Inv X pins σ H s) : ∃ (eh : Addr) (oe : Obj) (ve : Array Value), X.A.handled = some (.ref eh) /\ s.heap.get? eh = some oe /\ H eh = none /\ eh ∉ X.fs /\ eh < X.s₀.heap.objs.size /\ eh ∉ X.ex /\ oe.data = .fields ve /\ ve[2]? = some .none := by
  obtain ⟨eh, oe, ve, a1, a2, a3, a4, a5, a6, a7⟩ := h
  exact ⟨eh, oe, ve, a1, I.base.keep eh oe a2 a3 a4 a5, I.base.free eh oe a2 a3 a5, a4, Heap.lt_size a2, a5, a6, a7⟩
theorem HandP.lc {X : Cx} {pins : List (Addr × Obj)} {σ : St} {H : Hp} {s : Shared} {scope : Scope} {cl : List (Str × Addr)} {M : List Str} {C : Addr} {fp : List Addr} {E : Value -> Shared -> Prop} (h : HandP X) (I : Inv X pins σ H s) (hf : ∀ b ∈ fp, FpOk X pins H b) : HandP (cxLC X scope cl M C s H fp E) := by
  obtain ⟨eh, oe, ve, a1, a2, a3, a4, a5, a6, a7, a8⟩ := h.now I
  refine ⟨eh, oe, ve, a1, a2, a3, fun z => ?_, fun z => ?_, a7, a8⟩
  · rcases List.mem_cons.mp (I.stkSub eh z) with q | q
    · exact (I.apart a2 a7).1 q
    · exact a4 q
  · rcases (hf eh z).2.2.2.1 with q | q
    · exact a6 q
    · exact absurd (Nat.lt_of_lt_of_le a5 q) (Nat.lt_irrefl _)
structure TurnC (Cn : Cx -> Prop) (P : Program) (w : World) (K : PySem.W.Frag) (tg : Expr) (J : It) (fp : List Addr) (it : Addr) (tn : Nat -> Heap -> Prop) : Prop where
  mem : it ∈ fp
  obj : ∀ i h, tn i h -> ∀ b ∈ fp, ∃ o, h.get? b = some o /\ ∀ v, o.data ≠ .cell v
  keep : ∀ i h h', tn i h -> (∀ b ∈ fp, ∀ o, h.get? b = some o -> h'.get? b = some o) -> tn i h'
  item : ∀ (X : Cx), X.prog = P -> X.w = w -> X.K = K -> Cn X -> ∀ (i : Nat) (pins : List (Addr × Obj)) (s : Shared) (σ : St) (H : Hp) (E : Value -> Shared -> Prop), Inv X pins σ H s -> (∀ b ∈ fp, FpOk X pins H b) -> tn i s.heap -> J.go i H ->
    wpAny (model P w) X.A (pyNext (.ref it)) (fun r s1 => ∃ u, r = some u /\
      wpAny (model P w) X.A (letOwnedTupleGo tg (.ref it) u) (fun _ s2 => ∃ x H', Inv X pins σ H' s2 /\ RelV x u /\ J.yld i H x H' /\ tn (i + 1) s2.heap /\ ∀ b ∈ fp, H' b = none) E s1) E s
  done : ∀ (X : Cx), X.prog = P -> X.w = w -> X.K = K -> Cn X -> ∀ (i : Nat) (pins : List (Addr × Obj)) (s : Shared) (σ : St) (H : Hp) (E : Value -> Shared -> Prop), Inv X pins σ H s -> (∀ b ∈ fp, FpOk X pins H b) -> tn i s.heap -> J.stop i H ->
    wpAny (model P w) X.A (pyNext (.ref it)) (fun r s1 => r = none /\ Inv X pins σ H s1) E s
  self : ∀ (A : Around) (i : Nat) (s : Shared) (Q : Value -> Shared -> Prop) (E : Value -> Shared -> Prop), tn i s.heap -> Q (.ref it) s -> wpAny (model P w) A (pyIter (.ref it)) Q E s
theorem turn_listH {P : Program} {w : World} {K : PySem.W.Frag} {tg : Expr} (a it : Addr) : TurnC HandP P w K tg (Itl K a) [it] it (fun i h => h.IsListIter it a i) where
  mem := by simp
  obj := fun i h st b hb => by
    have e : b = it := by simpa using hb
    subst e
    obtain ⟨o, e, c, d⟩ := st
    exact ⟨o, e, fun v z => by rw [d] at z; cases z⟩
  keep := fun i h h' st k => st.at fun o e => k it (by simp) o e
  item := by
    intro X hP hw hK hc i pins s σ H E I hf st hg
    subst hP hw hK
    obtain ⟨xs, x, hq, hx⟩ := hg
    obtain ⟨its, rv, p, hz⟩ := I.list hq
    obtain ⟨u, hu, ru⟩ := rv.get hx
    obtain ⟨f0, f1, f2, f3, f4, f5⟩ := hf it (by simp)
    refine wpAny_pyNext_list_item st p.isList (x := u) (by simpa using hu) fun h' st' sb => ?_
    have I1 : Inv X pins σ H { s with heap := h' } := I.turned (t' := s.toks) (fun b o hb e => (sb.2 b hb).trans e) f0 f1 f3 f4 f5
    obtain ⟨o, e, c, d⟩ := id st'
    exact ⟨u, rfl, go_of (s := { s with heap := h' }) e c d (by decide) ⟨x, H, I1, ru, ⟨rfl, fun ys hy => by rw [I.list_inj hy hq]; exact hx⟩, st', fun b hb => (hf b hb).1⟩⟩
  done := by
    intro X hP hw hK hc i pins s σ H E I hf st hg
    subst hP hw hK
    obtain ⟨xs, hq, hx⟩ := hg
    obtain ⟨its, rv, p, hz⟩ := I.list hq
    obtain ⟨f0, f1, f2, f3, f4, f5⟩ := hf it (by simp)
    have hl := rv.length
    obtain ⟨eh, oe, ve, a1, a2, a3, a4, a5, a6, a7, a8⟩ := hc.now I
    have hne : eh ≠ it := fun z => by
      rcases f3 with q | q
      · exact a6 (z ▸ q)
      · exact absurd (Nat.lt_of_lt_of_le a5 (z ▸ q)) (Nat.lt_irrefl _)
    exact list_endH a1 a2 a7 a8 hne st p.isList (by simp; omega) fun h' eb => ⟨rfl, I.turned (t' := s.toks) (fun b o hb e => eb b o hb e) f0 f1 f3 f4 f5⟩
  self := fun _ _ _ _ _ st h => wpAny_pyIter_listiter st h
end L2
namespace L2
open PySem PySem.Spec PyProof.Rows
section
variable {X : Cx} {pins : List (Addr × Obj)} {σ : St} {H : Hp} {s : Shared} {h' : Heap}
theorem Inv.turns {t' : Nat} {ch : List Addr} (I : Inv X pins σ H s) (k : ∀ b o, b ∉ ch -> s.heap.get? b = some o -> h'.get? b = some o) (hf : ∀ b ∈ ch, FpOk X pins H b) : Inv X pins σ H { s with heap := h', toks := t' } := by
  have nit : ∀ b u, H b = some u -> b ∉ ch := fun b u e z => by rw [(hf b z).1] at e; cases e
  refine I.call (g' := s.gens) (d' := s.drawn) (t' := t') (ch := ch) ⟨fun b o q _ _ x => k b o x q, fun b o q _ _ x => ⟨o.slots, k b o x q⟩, fun _ _ _ n _ => n, fun b o q x => ⟨o, k b o x q⟩, fun _ _ q => q, fun _ _ _ q => q, fun _ ps q => ⟨#[], by rw [q]; simp⟩⟩
    (fun b u e => (I.hok b u e).stay (fun c v hc q => k c v ?_ q) (fun _ q => q) fun _ _ q => q) I.bare fun b hb => ?_
  · rcases hc with z | z
    · rw [z]; exact nit b u e
    · exact nit c _ z
  · obtain ⟨f0, f1, f2, f3, f4, f5⟩ := hf b hb
    exact ⟨f3, f1, f4, f5⟩
end
section
variable {X : Cx} {elts : List Expr} {k : Nat} {tpos : Pos}
end
end L2
namespace L2
open PySem PySem.Spec PyProof.Rows Builtin Builtin.Str
section
variable {X : Cx}
def rEqE (K : PySem.W.Frag) (neg : Bool) : R2 := fun x y H Q => ∃ p p' xs, x = .ref p /\ y = .ref p' /\ SqL K H p xs /\ SqL K H p' [] /\ Q (.bl (if neg then !xs.isEmpty else xs.isEmpty)) H
theorem op_eqE (hu : X.A.units < cLine) : OpR X (compareOp .Eq) (rEqE X.K false) := by
  intro pins s σ H x y v u Q I rx ry h
  obtain ⟨p, p', xs, rfl, rfl, h1, h2, q⟩ := h
  cases rx
  cases ry
  obtain ⟨its, r, pl, _⟩ := I.list h1
  obtain ⟨its', r', pl', _⟩ := I.list h2
  cases r'
  cases r with
  | nil => exact SeqAt.eq_listAt (e := fun _ => true) pl.isList pl'.isList rfl hu (fun j h => absurd h (Nat.not_lt_zero _)) ⟨.bl true, H, I, rfl, q⟩
  | cons a b => exact SeqAt.eq_list_lengthsAt pl.isList pl'.isList rfl hu ⟨.bl false, H, I, rfl, q⟩
theorem jo_eqE {k : Nat} (hr : Room k X.A) : jOp X (compareOp .Eq) (rEqE X.K false) := ⟨op_eqE hr.units0⟩
end
end L2
namespace L2
open PySem PySem.Spec PyProof.Rows
def Sq (k : Bool) (h : Heap) (l : Addr) (xs : Array Value) : Prop := match k with
  | true => h.IsList l xs
  | false => h.IsTuple l xs
def SqI (k : Bool) (h : Heap) (j l : Addr) (n : Nat) : Prop := match k with
  | true => h.IsListIter j l n
  | false => h.IsTupleIter j l n
def SqN (k : Bool) : String := if k then "list_iterator" else "tuple_iterator"
theorem Sq.at {k : Bool} {h h' : Heap} {l : Addr} {xs : Array Value} (x : Sq k h l xs) (e : ∀ o, h.get? l = some o -> h'.get? l = some o) : Sq k h' l xs := by
  cases k <;> obtain ⟨o, ho, r⟩ := x <;> exact ⟨o, e _ ho, r⟩
theorem SqI.at {k : Bool} {h h' : Heap} {j l : Addr} {n : Nat} (x : SqI k h j l n) (e : ∀ o, h.get? j = some o -> h'.get? j = some o) : SqI k h' j l n := by
  cases k <;> obtain ⟨o, ho, r⟩ := x <;> exact ⟨o, e _ ho, r⟩
theorem SqI.ex {k : Bool} {h : Heap} {j l : Addr} {n : Nat} (x : SqI k h j l n) : ∃ o, h.get? j = some o /\ o.cls = .type (SqN k) /\ o.data = .fields #[.ref l, .int n 0] := by
  cases k <;> exact x
theorem SqI.of {k : Bool} {h : Heap} {j l : Addr} {n : Nat} (x : ∃ o, h.get? j = some o /\ o.cls = .type (SqN k) /\ o.data = .fields #[.ref l, .int n 0]) : SqI k h j l n := by
  cases k <;> exact x
section
variable {P : Program} {w : World} {A : Around} {E : Value -> Shared -> Prop} {s : Shared}
end
structure ZS (k m : Bool) (h : Heap) (B l r : Nat) (n : Nat) (f g : Value) : Prop where
  z : h.get? (B + 4) = some { cls := .type "zip", data := .fields #[f, g, .bool false, .ref (B + 2), .ref (B + 3)] }
  ti : IsPair h (B + 2) (.ref B) (.ref (B + 1))
  to : ∃ a b, IsPair h (B + 3) a b
  i : SqI k h B l n
  j : SqI m h (B + 1) r n
theorem ZS.at {k m : Bool} {h h' : Heap} {B l r : Nat} {n : Nat} {f g : Value} (x : ZS k m h B l r n f g) (e : ∀ (b : Nat) o, B <= b -> b <= B + 4 -> h.get? b = some o -> h'.get? b = some o) : ZS k m h' B l r n f g where
  z := e _ _ (by omega) (by omega) x.z
  ti := e _ _ (by omega) (by omega) x.ti
  to := let ⟨a, b, y⟩ := x.to; ⟨a, b, e _ _ (by omega) (by omega) y⟩
  i := x.i.at fun o => e _ o (by omega) (by omega)
  j := x.j.at fun o => e _ o (by omega) (by omega)
def KeptZ (B : Nat) (h h' : Heap) : Prop := ∀ (c : Nat) o, (c < B \/ B + 4 < c) -> h.get? c = some o -> h'.get? c = some o
section
variable {P : Program} {w : World} {A : Around} {E : Value -> Shared -> Prop} {s : Shared} {k m : Bool} {B l r : Nat} {n : Nat} {xs ys : Array Value} {x y f g : Value}
end
end L2
namespace L2
open PySem PySem.Spec PyProof.Rows
def ZF (B : Nat) (h : Heap) (f g : Value) : Prop := f = .none \/ ∃ (T : Nat) (c : Bool) (o : Obj), f = rawInt T /\ g = .bool c /\ h.get? T = some o /\ B + 5 < T
section
variable {P : Program} {w : World} {A : Around} {E : Value -> Shared -> Prop} {s : Shared} {k m : Bool} {B l r : Nat} {n : Nat} {xs ys : Array Value} {x y f g : Value}
end
structure ZL (k m : Bool) (h0 h : Heap) (B l r n : Nat) (xs ys acc : Array Value) (c : Nat) (f g : Value) : Prop where
  zs : ZS k m h B l r n f g
  zf : ZF B h f g
  hl : Sq k h l xs
  hr : Sq m h r ys
  sz : h.objs.size = B + 6 + n
  lst : h.get? (B + 5) = some { cls := .type "list", data := .seq acc c }
  asz : acc.size = n
  par : ∀ i x y, i < n -> xs[i]? = some x -> ys[i]? = some y -> acc[i]? = some (.ref (B + 6 + i)) /\ IsPair h (B + 6 + i) x y
  old : ∀ (b : Nat) o, b < B -> h0.get? b = some o -> h.get? b = some o
section
variable {P : Program} {w : World} {A : Around} {R : Result -> Shared -> Prop} {h0 : Heap} {k m : Bool} {B l r N : Nat} {xs ys : Array Value} {res : Value}
end
end L2
namespace L2
open PySem PySem.Spec PyProof.Rows
section
variable {P : Program} {w : World} {A : Around} {E : Value -> Shared -> Prop} {s : Shared} {k m : Bool} {B l r N : Nat} {xs ys : Array Value}
end
section
variable {X : Cx} {a b : Expr} {ta : TA} {p1 p2 pos1 pos2 : Pos}
end
end L2
namespace L2
open PySem PySem.Spec PyProof.Rows
def SqK (k : Bool) (K : PySem.W.Frag) (H : Hp) (a : Addr) (xs : List V) : Prop := match k with
  | true => SqL K H a xs
  | false => SqT K H a xs
theorem KeptZ.of {B : Nat} {h h' : Heap} (z : KeptZ B h h') : ∀ (b : Nat) o, b ∉ [B, B + 1, B + 2, B + 3, B + 4] -> h.get? b = some o -> h'.get? b = some o := fun b o n e => z b o (by simp only [List.mem_cons, List.not_mem_nil, or_false, not_or] at n; omega) e
section
variable {X : Cx} {elts : List Expr} {n : Nat} {tpos : Pos}
end
end L2
namespace L2
open PySem PySem.Spec PySem.Calls PyProof.Rows
section
variable {P : Program} {w : World} {A : Around} {E : Value -> Shared -> Prop} {s : Shared} {K : PySem.W.Frag}
end
section
variable {X : Cx} {e C : Addr} {oe : Obj} {ex : Expr} {te : TE} {name : Str} {pos : Pos} {f : Addr}
def tXFld (C e : Addr) (oe : Obj) (te : TE) (name : Str) : TE := fun σ H Q => te σ H fun x H1 => x = .ref e /\ oe.cls = .ref C /\ (∃ vs, oe.data = .fields vs) /\ ∃ d fs v, oe.dict = some d /\ H1 d = some (XD d fs) /\ fs.lookup name = some v /\ Q v H1
theorem pe_xfld (hp : (e, oe) ∈ X.pn) (M : XCl X.K C f) (hn : PySem.W.findIn X.K (.ref C) name = some none) (hh : PySem.W.hasDictIn X.K C = true) (he : PE X ex te) (hb : attributeBase ex name X.env (eval ex X.env) = eval ex X.env) :
    PE X (.Attribute ex name pos) (tXFld C e oe te name) := by
  intro pins s σ H Q I h
  refine attr_of hb (thn (he pins s σ H _ I h) fun u s1 g => ?_)
  obtain ⟨x, H1, I1, rx, rfl, hc, ⟨vs, hd⟩, d, fs, v, h1, h2, h3, q⟩ := g
  obtain rfl : u = Value.ref e := rx
  obtain ⟨mA, ns, r, _⟩ := XD.get I1.hok h2
  obtain ⟨u', hu, ru⟩ := RelO.some_of (v := v) (o := mA name) (by rw [<- h3]; exact r name)
  obtain ⟨od, ho, hl⟩ := lookIn_ns ns
  have J : PySem.W.InstAt s1.heap e oe C (some od) := ⟨(I1.pin (e, oe) (List.mem_append_left _ hp)).1, hc, by unfold PySem.W.notCls; rw [hd], by rw [h1]; exact ho⟩
  exact xg_get I1.kIn J M.ga M.ha M.sb (PySem.W.findObj_own hh hn rfl (by rw [hl, hu])) (handed_of ru) ⟨v, H1, I1.tok _, ru, q⟩
theorem je_xfld (hp : (e, oe) ∈ X.pn) (M : XCl X.K C f) (hn : PySem.W.findIn X.K (.ref C) name = some none) (hh : PySem.W.hasDictIn X.K C = true) (he : jE X ex te) (hb : attributeBase ex name X.env (eval ex X.env) = eval ex X.env := by rfl) :
    jE X (.Attribute ex name pos) (tXFld C e oe te name) := ⟨pe_xfld hp M hn hh he.out hb⟩
end
section
variable {X : Cx} {Ch : Addr} {x n : Str} {i k : Nat} {np hpos tpos : Pos} {b0 : Stmt} {suite : List Stmt} {th : Addr -> Obj -> TS} {ps : List Str} {sp : Sp} {y : Str} {p cpos epos : Pos} {a : Expr} {as : List Expr} {t : TA}
end
end L2
namespace L2
open PySem PySem.Spec PyProof.Rows
section
variable {P : Program} {w : World} {A : Around} {E : Value -> Shared -> Prop}
end
section
variable {X : Cx} {pos : Pos}
end
end L2
namespace L2
open PySem
theorem line0 : sizeLine = 16777216 := by decide
theorem itD {c A B : Prop} [Decidable c] (e : c) (h : A) : if decide c = true then A else B := by
  rw [if_pos (decide_eq_true e)]; exact h
theorem itDN {c A B : Prop} [Decidable c] (e : ¬ c) (h : B) : if decide c = true then A else B := by
  rw [if_neg (by rw [decide_eq_false e]; decide)]; exact h
def FnIn (K : PySem.W.Frag) (x qual : Str) (st : Stmt) (f : Addr) : Prop := ∃ (oc : Value) (od : Option Addr) (kV doc pm : Value) (an : Option Addr) (cdv ct : Value) (osl : Array (Option Value)), K.lookup f = some ⟨oc, od, .func (PySem.W.fnOf x qual (defArgs st) (defBody st) (defScope st) .none kV doc pm an cdv ct), osl⟩ /\ PySem.W.codeIn K cdv qual = true /\ PySem.W.keepIn K (.ref f) = true
theorem FnIn.fn {K : PySem.W.Frag} {x qual : Str} {st : Stmt} {f : Addr} (h : FnIn K x qual st f) : ∃ fd, Fun K x qual st f fd /\ PySem.W.keepIn K (.ref f) = true := by
  obtain ⟨_, _, _, _, _, _, _, _, _, l, c, k⟩ := h
  exact ⟨_, fun_mk l c k, k⟩
def DfIn (K : PySem.W.Frag) (x : Str) (st : Stmt) : Prop := ∃ f, PySem.W.nsIn K mainGlobals x = some (some (.ref f)) /\ FnIn K x x st f
def MeIn (K : PySem.W.Frag) (C : Addr) (x qual : Str) (st : Stmt) : Prop := ∃ f, PySem.W.findIn K (.ref C) x = some (some (.ref f)) /\ PySem.W.isFn K (.ref f) = true /\ FnIn K x qual st f
def TpIn (K : PySem.W.Frag) (x : Str) (l : List Str) : Prop := ∃ (a : Addr) (d : Option Addr) (it : Array Value) (n : Nat) (sl : Array (Option Value)), PySem.W.nsIn K mainGlobals x = some (some (.ref a)) /\ K.lookup a = some ⟨.type "tuple", d, .seq it n, sl⟩ /\ it.toList.map absV = l.map fun x => some (.str x)
theorem MeIn.me {P : Program} {w : World} {K : PySem.W.Frag} {mg : Str -> Option Value} {base : Heap} {CX : CXT} {k : Nat} {C : Addr} {x qual : Str} {st : Stmt} {ps : List Str} {sp : Sp} (h : MeIn K C x qual st) (hb : ∀ (kV doc pm : Value) (an : Option Addr) (cdv ct : Value) (us : List Value), us.length = ps.length -> bindArgs (PySem.W.fnOf x qual (defArgs st) (defBody st) (defScope st) .none kV doc pm an cdv ct) ⟨us, []⟩ = pure (ps.zip us))
    (ok : ∀ f fd, Fun K x qual st f fd -> FnOk P w K mg base CX k f fd ps sp) : Me P w K mg base CX k C x ps sp := by
  obtain ⟨f, a, n, g⟩ := h
  obtain ⟨fd, F, kp⟩ := g.fn
  exact ⟨f, fd, ok f fd F, F.binds hb, a, n, kp⟩
theorem DfIn.ca {P : Program} {w : World} {K : PySem.W.Frag} {mg : Str -> Option Value} {base h : Heap} {CX : CXT} {k : Nat} {x : Str} {st : Stmt} {ps : List Str} {sp : Sp} (X : K.In h) (G : h.Ns mainGlobals mg) (d : DfIn K x st) (hb : ∀ (kV doc pm : Value) (an : Option Addr) (cdv ct : Value) (us : List Value), us.length = ps.length -> bindArgs (PySem.W.fnOf x x (defArgs st) (defBody st) (defScope st) .none kV doc pm an cdv ct) ⟨us, []⟩ = pure (ps.zip us))
    (ok : ∀ f fd, Fun K x x st f fd -> FnOk P w K mg base CX k f fd ps sp) : Ca P w K mg base CX k x ps sp := by
  obtain ⟨f, a, g⟩ := d
  obtain ⟨fd, F, kp⟩ := g.fn
  exact ⟨f, fd, ok f fd F, F.binds hb, kp, PySem.W.mg_of X G a⟩
theorem DfIn.mk {K : PySem.W.Frag} {x : Str} {st : Stmt} {f : Addr} {oc : Value} {od : Option Addr} {kV doc pm : Value} {an : Option Addr} {cdv ct : Value} {osl : Array (Option Value)} (a : PySem.W.nsIn K mainGlobals x = some (some (.ref f))) (l : K.lookup f = some ⟨oc, od, .func (PySem.W.fnOf x x (defArgs st) (defBody st) (defScope st) .none kV doc pm an cdv ct), osl⟩) (c : PySem.W.codeIn K cdv x = true) (k : PySem.W.keepIn K (.ref f) = true) : DfIn K x st := ⟨f, a, oc, od, kV, doc, pm, an, cdv, ct, osl, l, c, k⟩
theorem MeIn.mk {K : PySem.W.Frag} {C : Addr} {x qual : Str} {st : Stmt} {f : Addr} {oc : Value} {od : Option Addr} {kV doc pm : Value} {an : Option Addr} {cdv ct : Value} {osl : Array (Option Value)} (a : PySem.W.findIn K (.ref C) x = some (some (.ref f))) (l : K.lookup f = some ⟨oc, od, .func (PySem.W.fnOf x qual (defArgs st) (defBody st) (defScope st) .none kV doc pm an cdv ct), osl⟩) (c : PySem.W.codeIn K cdv qual = true) (k : PySem.W.keepIn K (.ref f) = true) (n : PySem.W.isFn K (.ref f) = true) : MeIn K C x qual st := ⟨f, a, n, oc, od, kV, doc, pm, an, cdv, ct, osl, l, c, k⟩
theorem TpIn.mk {K : PySem.W.Frag} {x : Str} {l : List Str} {b : Addr} {d : Option Addr} {it : Array Value} {n : Nat} {sl : Array (Option Value)} (a : PySem.W.nsIn K mainGlobals x = some (some (.ref b))) (k : K.lookup b = some ⟨.type "tuple", d, .seq it n, sl⟩) (v : it.toList.map absV = l.map fun x => some (.str x)) : TpIn K x l := ⟨b, d, it, n, sl, a, k, v⟩
theorem GlIn.mk {K : PySem.W.Frag} {x : Str} {z : Str} {v : Value} {t : Tok} (a : PySem.W.nsIn K mainGlobals x = some (some v)) (e : v = .str z t) : ∃ t, PySem.W.nsIn K mainGlobals x = some (some (.str z t)) := ⟨t, by rw [a, e]⟩
theorem GiIn.mk {K : PySem.W.Frag} {x : Str} {i : Int} {v : Value} {t : Tok} (a : PySem.W.nsIn K mainGlobals x = some (some v)) (e : v = .int i t) : ∃ t, PySem.W.nsIn K mainGlobals x = some (some (.int i t)) := ⟨t, by rw [a, e]⟩
theorem XcIn.mk {K : PySem.W.Frag} {C f : Addr} (a : PySem.W.findIn K (.ref C) "__init__" = some (some (.ref f))) (b : xIn K C f = true) (c : PySem.W.typeIn K (.ref f) = some (.type "function")) : ∃ f, PySem.W.findIn K (.ref C) "__init__" = some (some (.ref f)) /\ xIn K C f = true /\ PySem.W.typeIn K (.ref f) = some (.type "function") := ⟨f, a, b, c⟩
structure OwnIn (K : PySem.W.Frag) (x : Str) (C : Addr) : Prop where
  n : PySem.W.nsIn K mainGlobals x = some (some (.ref C))
  pg : PySem.W.plainGet K C Str.empty = true
  hd : PySem.W.hasDictIn K C = true
  po : PySem.W.plainOver K C = true
  sa : PySem.W.findIn K (.ref C) "__setattr__" = some (some (.builtin "object.__setattr__"))
  mks : PySem.W.makesIn K C = true
  kp : PySem.W.keepIn K (.ref C) = true
theorem OwnIn.cls {K : PySem.W.Frag} {x : Str} {C : Addr} (o : OwnIn K x C) : Cls K C := ⟨o.pg, o.hd, o.po, o.sa⟩
def spTop (K : PySem.W.Frag) : Sp := fun vs H Q _ => ∃ (a : Addr) (ns : List Int), vs = [.ref a] /\ SqL K H a (ns.map V.int) /\ ns.length <= 63 /\ ∀ H', Q (.bl true) H'
theorem law_in {l : PySem.W.OpenLaw} {w : World} {K : PySem.W.Frag} {h : Heap} {mg : Str -> Option Value} {fa : Addr} {st : Stmt} {k : Nat} (d : DfIn K "law" st) (X : K.In h) (G : h.Ns mainGlobals mg) (hfa : mg "law" = some (.ref fa))
    (hb : ∀ (kV doc pm : Value) (an : Option Addr) (cdv ct : Value) (s : Shared) (u : Value), BindsTo s (PySem.W.fnOf "law" "law" (defArgs st) (defBody st) (defScope st) .none kV doc pm an cdv ct) ⟨[u], []⟩ [("_law_script", u)])
    (ok : ∀ (base : Heap) (fd : FuncData), Fun K "law" "law" st fa fd -> FnOk l.prog w K mg base CX0 k fa fd ["_law_script"] (spTop K)) :
    ∃ fd : FuncData, (∀ (s : Shared) (u : Value), BindsTo s fd ⟨[u], []⟩ [("_law_script", u)]) /\ ∀ base : Heap, K.In base -> base.Ns mainGlobals mg -> FnOk l.prog w K mg base CX0 k fa fd ["_law_script"] (spTop K) := by
  obtain ⟨fl, al, oc, od, kV, doc, pm, an, cdv, ct, osl, lk, cc, kk⟩ := d
  have e : fl = fa := by
    have := PySem.W.mg_of X G al
    rw [hfa] at this
    injection this with this
    injection this with this
    exact this.symm
  subst e
  exact ⟨_, fun s v => hb _ _ _ _ _ _ s v, fun base _ _ => ok base _ (fun_mk (st := st) lk cc kk)⟩
theorem walk1 {l : PySem.W.OpenLaw} {q : Program} {loose : List Str} {XP : (Str -> Option Value) -> Heap -> Prop} {YP : World -> Heap -> Prop} {d : DefRec} {K : Params -> PySem.W.Frag} {k : Nat} (hn : l.most = some 63) (hr : Room k callerA) (hdf : d.params.defaults = []) (hnm : d.name = "law")
    (hY : ∀ (w : World) (h : Heap), YP w h -> (K w.params).In h)
    (F : ∀ (w : World) (mg : Str -> Option Value) (fa : Addr) (h : Heap), (K w.params).In h -> h.Ns mainGlobals mg -> mg "law" = some (.ref fa) -> ∃ fd : FuncData, (∀ (s : Shared) (u : Value), BindsTo s fd ⟨[u], []⟩ [("_law_script", u)]) /\ ∀ base : Heap, (K w.params).In base -> base.Ns mainGlobals mg -> FnOk l.prog w (K w.params) mg base CX0 k fa fd ["_law_script"] (spTop (K w.params))) :
    PySem.W.WalkO q loose XP YP l.row.toRowW d [] (fun f vs => PySem.call f vs) :=
  L2.walk_of (n := 63) (k := k) (x := "_law_script") (CX := fun _ => CX0) (sp := fun w => spTop (K w.params)) hn (by decide) hdf hr hY (fun w mg fa h X G hm => F w mg fa h X G (by rw [hnm] at hm; exact hm)) (fun _ _ a ns hl _ hS => ⟨a, ns, rfl, hS, hl, fun _ => rfl⟩) fun _ _ _ _ _ z => z
end L2
namespace L2
open PySem PySem.Spec PyProof.Rows
def PIEH (X : Cx) (pins : List (Addr × Obj)) (σ : St) (tg : Expr) (R : It -> Hp -> Prop) (itv : Value) (s2 : Shared) : Prop :=
  ∃ (it : Addr) (fp : List Addr) (tn : Nat -> Heap -> Prop) (J : It) (H' : Hp), itv = .ref it /\ Inv X pins σ H' s2 /\ TurnC HandP X.prog X.w X.K tg J fp it tn /\ tn 0 s2.heap /\ (∀ b ∈ fp, FpOk X pins H' b) /\ R J H'
def PIH (X : Cx) (tg iter : Expr) (wi : TI) : Prop :=
  ∀ (pins : List (Addr × Obj)) (s : Shared) (σ : St) (H : Hp) (R : It -> Hp -> Prop), Inv X pins σ H s -> wi σ H R ->
    wpAny (model X.prog X.w) X.A (eval iter X.env) (fun v s1 => wpAny (model X.prog X.w) X.A (pyIter v) (PIEH X pins σ tg R) X.xe s1) X.xe s
theorem pi_listH {X : Cx} {tg l : Expr} {tl : TE} (hl : PE X l tl) : PIH X tg l (iList X.K tl) := by
  intro pins s σ H R I h
  refine thn (hl pins s σ H _ I h) fun v s1 ⟨x, H1, I1, r1, q1⟩ => ?_
  obtain ⟨a, e, ⟨xs, hq⟩, q⟩ := q1
  subst e
  cases r1
  obtain ⟨its, rv, p, hz⟩ := I1.list hq
  refine wpAny_pyIter_list p.isList ?_
  refine ⟨s1.heap.objs.size, [s1.heap.objs.size], _, _, H1, rfl, I1.kept (t' := s1.toks) fun b o e => Heap.get?_push_of_some _ e, turn_listH a _, ⟨_, Heap.get?_push_size _ rfl, rfl, rfl⟩, fun b hb => ?_, q⟩
  have e : b = s1.heap.objs.size := by simpa using hb
  subst e
  exact I1.fpOk (Nat.le_refl _) (I1.hok.fresh (Nat.le_refl _))
section
variable {X : Cx} {scope : Scope} {cl : List (Str × Addr)} {S : List Nat} {pins : List (Addr × Obj)} {σ : St} {H : Hp} {s : Shared} {ex : List Addr} {M : List Str} {C : Addr}
theorem lc_coreH {tg elt iter : Expr} {ifs : List Expr} {pos : Pos} {g : TG} {tt : TT} {te : TE} {J : It} {fp : List Addr} {it : Addr} {tn : Nat -> Heap -> Prop} {Q : VK} {E : Value -> Shared -> Prop} {R : Value -> Addr -> Result -> Shared -> Prop}
    {W : Nat -> Nat -> St -> List V -> Hp -> Prop} {m0 : Nat} (L : LcOk X scope cl S) (hc : HandP X) (I : Inv X pins σ H s) (T : TurnC HandP X.prog X.w X.K tg J fp it tn) (st : tn 0 s.heap) (hf : ∀ b ∈ fp, FpOk X pins H b)
    (hg : ∀ C s H ex E, PG (cxLC X scope cl M C s H ex E) tg g) (ht : ∀ C s H ex E, PTs (cxLC X scope cl M C s H ex E) ifs tt) (he : ∀ C s H ex E, PE (cxLC X scope cl M C s H ex E) elt te)
    (w0 : W 0 m0 (blank S σ ++ List.replicate M.length none) [] H) (turn : lcBy J g tt te Q W)
    (hR : ∀ D C s' H' ys m, Inv X pins σ (upd H' D (.lst ys)) s' -> FpOk X pins (upd H' D (.lst ys)) C -> s'.heap.Ns C m -> Q (.ref D) (upd H' D (.lst ys)) -> R (.ref D) C (.ok .next) s') :
    wpAny (model X.prog X.w) X.A (newList []) (fun acc s₃ => wpAny (model X.prog X.w) X.A (newFunctionEnv scope X.env.globals cl [] X.env.qual none .none (some X.env)) (fun cenv s₄ =>
      codeAny (model X.prog X.w) X.A (.compStart (.ListComp elt [⟨tg, iter, ifs, 0⟩] scope pos) 0 (.ref it) acc { cenv with scope := relabel scope X.env }) (R acc cenv.locals) s₄) E s₃) E s := by
  refine wpAny_newObj_type (wpAny_newFunctionEnv L.nocell (by intro y hy; simp at hy) (fun h₁ hns₁ hsb₁ => ?_) L.kind)
  dsimp only at hns₁ hsb₁ ⊢
  generalize hG : s.heap.push { cls := .type "list", dict := none, data := .seq ([] : List Value).toArray } = G at hns₁ hsb₁ ⊢
  have hC : G.objs.size = s.heap.objs.size + 1 := by rw [<- hG, Heap.size_push]
  have hDC : s.heap.objs.size ≠ G.objs.size := by rw [hC]; exact Nat.ne_of_lt (Nat.lt_succ_self _)
  have hCle : s.heap.objs.size <= G.objs.size := by rw [hC]; exact Nat.le_succ _
  have old : ∀ b o, s.heap.get? b = some o -> h₁.get? b = some o := fun b o e =>
    hsb₁.extBut b o (by rw [hC]; exact Nat.ne_of_lt (Nat.lt_succ_of_lt (Heap.lt_size e))) (Heap.get?_push_of_some _ (hG ▸ Heap.get?_push_of_some _ e))
  have hacc : h₁.get? s.heap.objs.size = some { cls := .type "list", data := .seq ([] : List Value).toArray } := hsb₁.extBut _ _ hDC (Heap.get?_push_of_some _ (hG ▸ Heap.get?_push_size _ rfl))
  have fpo : ∀ b ∈ fp, b < s.heap.objs.size := fun b hb => let ⟨o, e, _⟩ := T.obj 0 _ st b hb; Heap.lt_size e
  have st1 : tn 0 h₁ := T.keep 0 _ _ st fun b _ o e => old b o e
  have nofs : s.heap.objs.size ∉ frs X.stack := fun z => by
    rcases List.mem_cons.mp (I.stkSub _ z) with q | q
    · exact absurd (q ▸ I.lt) (Nat.lt_irrefl _)
    · exact I.nofs (Nat.le_refl _) q
  have nocl : ∀ y c, cl.lookup y = some c -> c ≠ s.heap.objs.size := fun y c e z => by
    obtain ⟨v, o, ho, _⟩ := I.cell y c (L.sub.get e)
    exact absurd (z ▸ Heap.lt_size ho) (Nat.lt_irrefl _)
  have loop : ∀ s₃ : Shared, s₃ = { s with heap := h₁, toks := s.toks + ([] : List (Str × Value)).length } ->
      codeAny (model X.prog X.w) X.A (.compLoop (.ListComp elt [⟨tg, iter, ifs, 0⟩] scope pos) 0 (.ref it) (.ref s.heap.objs.size) (compEnvC scope cl G.objs.size X.env)) (R (.ref s.heap.objs.size) G.objs.size) s₃ := by
    rintro s₃ rfl
    generalize hE : notedBy (model X.prog X.w) X.A (compEnvC scope cl G.objs.size X.env) (fun e s' => R (.ref s.heap.objs.size) G.objs.size (.error e) s') = E'
    have IY : Inv (cxLC X scope cl M G.objs.size s H fp E') [] (blank S σ ++ List.replicate M.length none) H { s with heap := h₁, toks := s.toks + ([] : List (Str × Value)).length } := lc_start I L hf fpo old hCle hns₁
    refine codeAny_loop rfl (fun n s' => ∃ (i : Nat) (τ : St) (H' : Hp) (ys : List V) (its : List Value) (k : Nat), Inv (cxLC X scope cl M G.objs.size s H fp E') [] τ H' s' /\ tn i s'.heap /\ (∀ b ∈ fp, H' b = none) /\
      s'.heap.get? s.heap.objs.size = some { cls := .type "list", data := .seq its.toArray k } /\ H' s.heap.objs.size = none /\ Vals ys its /\ ys.length <= sizeLine /\ W i n τ ys H') (fun n s' hI => ?_) m0
      ⟨0, _, H, [], [], _, IY, st1, fun b hb => (hf b hb).1, hacc, I.hok.fresh (Nat.le_refl _), .nil, Nat.zero_le _, w0⟩
    obtain ⟨i, τ, H1, ys, its, k, I1, st1, fr1, eD, fD, rv, hz, w1⟩ := hI
    show wpAny _ X.A ((compTurn (.ListComp elt [⟨tg, iter, ifs, 0⟩] scope pos) 0 (.ref it) (.ref s.heap.objs.size) (compEnvC scope cl G.objs.size X.env)).onRaise (fun x => do noteFrame x (compEnvC scope cl G.objs.size X.env); theTreesLotGoes x)) _ _ s'
    refine wpAny_noted ?_
    rw [hE, compTurn_list]
    have I1' : Inv (cxLC X scope cl M G.objs.size s H fp E') [(s.heap.objs.size, { cls := .type "list", data := .seq its.toArray k })] τ H1 s' := I1.pins_of fun p hp => by
      have e : p = (s.heap.objs.size, { cls := .type "list", data := .seq its.toArray k }) := by simpa using hp
      subst e
      exact ⟨eD, fD, hDC, nofs, (fun v z => nomatch z)⟩
    have stat : ∀ {H' : Hp}, (∀ b ∈ fp, H' b = none) -> ∀ b ∈ fp, FpOk (cxLC X scope cl M G.objs.size s H fp E') [(s.heap.objs.size, { cls := .type "list", data := .seq its.toArray k })] H' b := fun hn b hb => by
      refine ⟨hn b hb, ?_, ?_, .inl hb, fun x c e => (hf b hb).2.2.2.2.1 x c (L.sub.get e), fun p hp z => ?_⟩
      · exact Nat.ne_of_lt (Nat.lt_of_lt_of_le (fpo b hb) hCle)
      · intro z
        rcases List.mem_cons.mp (I.stkSub b z) with q | q
        · exact (hf b hb).2.1 q
        · exact (hf b hb).2.2.1 q
      · have e : p = (s.heap.objs.size, { cls := .type "list", data := .seq its.toArray k }) := by
          have hp' : p ∈ [(s.heap.objs.size, ({ cls := .type "list", data := .seq its.toArray k } : Obj))] := hp
          simpa using hp'
        subst e
        exact absurd (z ▸ fpo b hb) (Nat.lt_irrefl _)
    refine wpAny_bind (wpAny_standAt (wpAny_bind ?_))
    rcases turn i n τ ys H1 w1 with ⟨stop, q⟩ | ⟨go, N, hN, step⟩
    · refine thn (T.done (cxLC X scope cl M G.objs.size s H fp E') rfl rfl rfl (hc.lc I hf) i _ s' τ H1 E' I1' (stat fr1) st1 stop) fun r s4 ⟨hr, I4⟩ => ?_
      subst hr
      refine wpAny_pure ?_
      obtain ⟨eD4, _, _⟩ := I4.pin (s.heap.objs.size, { cls := .type "list", data := .seq its.toArray k }) (List.mem_append_right _ List.mem_cons_self)
      have base4 : Un (frs X.stack) fp H H1 s.heap s4.heap := I4.base
      have un : Un (frs X.stack) fp H (upd H1 s.heap.objs.size (.lst ys)) s.heap s4.heap := ⟨base4.keep, base4.slot, fun b o e n hx => by rw [upd_ne (Nat.ne_of_lt (Heap.lt_size e))]; exact base4.free b o e n hx, base4.there,
        fun b xs e => by rw [upd_ne (ne_of_none (base4.tups b xs e) fD)]; exact base4.tups b xs e, fun b o u e => by rw [upd_ne (ne_of_none (base4.frzs b o u e) fD)]; exact base4.frzs b o u e,
        fun b ps e => by
          obtain ⟨more, w⟩ := base4.tbls b ps e
          exact ⟨more, by rw [upd_ne (ne_of_none w fD)]; exact w⟩⟩
      have hok : HOk X.prog X.w (upd H1 s.heap.objs.size (.lst ys)) s4.heap := fun b u e => by
        by_cases hb : b = s.heap.objs.size
        · subst hb
          rw [upd_same] at e
          cases e
          exact ⟨hz, its, k, rv, eD4⟩
        · rw [upd_ne hb] at e
          exact (I4.hok b u e).stay (fun c v _ q => q) (fun c q => by rw [upd_ne (ne_of_none q fD)]; exact q) fun c xs q => by rw [upd_ne (ne_of_none q fD)]; exact q
      have IX : Inv X pins σ (upd H1 s.heap.objs.size (.lst ys)) s4 := I.call' I4.os un hok I4.bare fun b hb => ⟨(hf b hb).2.2.2.1, (hf b hb).2.1, (hf b hb).2.2.2.2.1, (hf b hb).2.2.2.2.2⟩
      have fC : H1 G.objs.size = none := I4.free
      obtain ⟨m4, n4, _⟩ := I4.loc
      exact hR _ _ s4 H1 ys m4 IX (I.fpOk hCle (by rw [upd_ne (Ne.symm hDC)]; exact fC)) n4 (q _ fD)
    · refine thn (T.item (cxLC X scope cl M G.objs.size s H fp E') rfl rfl rfl (hc.lc I hf) i _ s' τ H1 E' I1' (stat fr1) st1 go) fun r s4 ⟨u, hr, h4⟩ => ?_
      subst hr
      refine wpAny_bind (thn h4 fun _ s5 ⟨x, H5, I5, r5, y5, st5, fr5⟩ => ?_)
      have I5' := I5.pinned (stat fr5) (T.obj _ _ st5)
      -- what holds behind a turn
      have kept : ∀ {τ6 : St} {H6 : Hp} {s6 : Shared}, Inv (cxLC X scope cl M G.objs.size s H fp E') ([(s.heap.objs.size, { cls := .type "list", data := .seq its.toArray k })] ++ pinsAt fp s5.heap) τ6 H6 s6 ->
          Inv (cxLC X scope cl M G.objs.size s H fp E') [] τ6 H6 s6 /\ tn (i + 1) s6.heap /\ (∀ b ∈ fp, H6 b = none) /\ s6.heap.get? s.heap.objs.size = some { cls := .type "list", data := .seq its.toArray k } /\ H6 s.heap.objs.size = none := fun {τ6 H6 s6} I6 => by
        have pin : ∀ b ∈ fp, ∀ o, s5.heap.get? b = some o -> s6.heap.get? b = some o /\ H6 b = none := fun b hb o e =>
          let w := I6.pin (b, o) (List.mem_append_right _ (List.mem_append_right _ (mem_pinsAt hb e)))
          ⟨w.1, w.2.1⟩
        have pD := I6.pin (s.heap.objs.size, { cls := .type "list", data := .seq its.toArray k }) (List.mem_append_right _ (List.mem_append_left _ List.mem_cons_self))
        refine ⟨I6.pins_of (fun p hp => nomatch hp), T.keep _ _ _ st5 fun b hb o e => (pin b hb o e).1, fun b hb => ?_, pD.1, pD.2.1⟩
        obtain ⟨o, e, _⟩ := T.obj _ _ st5 b hb
        exact (pin b hb o e).2
      refine wpAny_bind (thn (hg _ _ _ _ _ _ s5 τ H5 x u _ I5' r5 (step x H5 y5)) fun _ s6 ⟨σ6, H6, I6, q6⟩ => ?_)
      refine wpAny_bind (thn (ht _ _ _ _ _ _ s6 σ6 H6 _ I6 q6) fun ok s7 ⟨H7, I7, q7⟩ => ?_)
      cases ok with
      | false =>
        have q7' : N σ6 ys H7 := by simpa using q7
        obtain ⟨m', hm, w7⟩ := hN _ _ _ q7'
        obtain ⟨K1, K2, K3, K4, K5⟩ := kept I7
        exact wpAny_pure ⟨rfl, m', hm, i + 1, σ6, H7, ys, its, k, K1, K2, K3, K4, K5, rv, hz, w7⟩
      | true =>
        have q7' : te σ6 H7 fun y H4 => ys.length < sizeLine /\ N σ6 (ys ++ [y]) H4 := by simpa using q7
        refine wpAny_bind (wpAny_bind (thn (he _ _ _ _ _ _ s7 σ6 H7 _ I7 q7') fun y s8 ⟨v8, H8, I8, r8, hz8, n8⟩ => ?_))
        obtain ⟨m', hm, w8⟩ := hN _ _ _ n8
        obtain ⟨K1, K2, K3, K4, K5⟩ := kept I8
        have hl := rv.length
        refine wpAny_bind (wpAny_list_append_plain (hsz := by rw [List.size_toArray]; omega) ⟨k, K4⟩ fun h9 hl9 hs9 => wpAny_pure (wpAny_pure ⟨rfl, m', hm, ?_⟩))
        obtain ⟨k9, e9⟩ := hl9
        have I9 : Inv (cxLC X scope cl M G.objs.size s H fp E') [] σ6 H8 { s8 with heap := h9 } := K1.turned (t' := s8.toks) (it := s.heap.objs.size) (fun b o hb e => (hs9.2 b hb).trans e) K5 hDC (.inr (Nat.le_refl _))
          (fun y c e => nocl y c e) fun p hp => nomatch hp
        refine ⟨i + 1, σ6, H8, ys ++ [v8], its ++ [y], k9, I9, T.keep _ _ _ K2 fun b hb o e => (hs9.2 b (Nat.ne_of_lt (fpo b hb))).trans e, K3, ?_, K5, rv.append (.cons r8 .nil), ?_, w8⟩
        · rw [e9]
          simp
        · rw [List.length_append, List.length_singleton]
          omega
  exact codeAny_compStart_list (loop _ rfl) (T.self X.A 0 _ _ _ st1 (loop _ rfl))
variable {tg elt iter : Expr} {ifs : List Expr} {pos : Pos} {wi : TI} {g : TG} {tt : TT} {te : TE}
theorem pe_lcH (L : LcOk X scope cl S) (hc : HandP X) (hi : PIH X tg iter wi) (hg : ∀ C s H ex E, PG (cxLC X scope cl M C s H ex E) tg g) (ht : ∀ C s H ex E, PTs (cxLC X scope cl M C s H ex E) ifs tt) (he : ∀ C s H ex E, PE (cxLC X scope cl M C s H ex E) elt te)
    (hs : ∀ x, foldedSetIterable iter X.env x = pure x := by intro _; rfl) : PE X (.ListComp elt [⟨tg, iter, ifs, 0⟩] scope pos) (tLCS S wi g tt te M.length) := by
  intro pins s σ H Q I h
  rw [eval_ListComp]
  refine wpAny_comprehension_free (use := none) rfl hs L.clos L.kind L.locs (thn (hi pins s σ H _ I h) fun v s1 h1 => thn h1 fun itv s2 h2 => ?_)
  obtain ⟨it, fp, tn, J, H2, rfl, I2, T, st2, f2, W, ⟨m0, w0⟩, turn⟩ := h2
  refine lc_coreH (R := fun acc C => compPost (model X.prog X.w) X.A X.xe none (EP X pins σ Q) acc C) L hc I2 T st2 f2 hg ht he w0 turn ?_
  intro D C s' H' ys m IX fC ns q
  exact ⟨m, ns, fun h' sb => ⟨.ref D, _, IX.turned (t' := s'.toks) (fun b o hb e => (sb.2 b hb).trans e) fC.1 fC.2.1 fC.2.2.2.1 fC.2.2.2.2.1 fC.2.2.2.2.2, rfl, q⟩⟩
end
section
variable {X : Cx} {scope : Scope} {M : List Str} {tg elt l : Expr} {ifs : List Expr} {pos : Pos} {tl : TE} {g : TG} {tt : TT} {te : TE}
theorem je_compH (M : List Str) (hc : HandP X) (hl : jE X l tl) (hg : ∀ C s H ex E, jG (cxLC X scope (clOf scope X.env) M C s H ex E) tg g) (ht : ∀ C s H ex E, jTs (cxLC X scope (clOf scope X.env) M C s H ex E) ifs tt)
    (he : ∀ C s H ex E, jE (cxLC X scope (clOf scope X.env) M C s H ex E) elt te) (hs : ∀ x, foldedSetIterable l X.env x = pure x := by intro _; rfl)
    (h1 : closureFor scope X.env = pure (clOf scope X.env) := by with_unfolding_all rfl) (h2 : scope.kind = .function := by rfl) (h3 : scope.names.all (fun y => y.2 != .cell) = true := by rfl) (h4 : scope.names.all (fun y => y.2 != .local || scope.names.lookup y.1 == some .local) = true := by rfl)
    (h5 : X.N.all (fun y => scope.names.lookup y != some .local) = true := by rfl) (h6 : scope.names.all (fun p => p.2 != .free || (((clOf scope X.env).lookup p.1).isSome && (X.env.kindOf p.1 == some .cell || X.env.kindOf p.1 == some .free))) = true := by rfl) :
    jE X (.ListComp elt [⟨tg, l, ifs, 0⟩] scope pos) (tLC (iList X.K tl) g tt te M.length) := ⟨pe_lcH (lcOk h1 h2 h3 h4 h5 h6) hc (pi_listH hl.out) (fun C s H ex E => (hg C s H ex E).out) (fun C s H ex E => (ht C s H ex E).out) (fun C s H ex E => (he C s H ex E).out) hs⟩
end
structure RoomH (k : Nat) (A : Around) : Prop where
  dp : A.depth + 3 * k + 5 < recursionLimit
  un : A.units + 16 * k + 200 < cLine
theorem RoomH.deeper {k : Nat} {A : Around} (r : RoomH (k + 1) A) (env : Env) : RoomH k (A.deeper env) :=
  ⟨by have := r.dp; show A.depth + 1 + 3 * k + 5 < _; omega, by have := r.un; show A.units + 3 + 16 * k + 200 < _; omega⟩
theorem Room.h {k : Nat} {A : Around} (r : Room k A) (u : Option Value) : RoomH k (A.mark u) := ⟨r.dp, r.un⟩
structure Hnd (A : Around) (outer : List Env) (s : Shared) (H : Hp) (e : Addr) (oe : Obj) : Prop where
  h : A.handled = some (.ref e)
  g : s.heap.get? e = some oe
  n : H e = none
  f : e ∉ frs outer
  d : ∃ ve : Array Value, oe.data = .fields ve /\ ve[2]? = some .none
structure FnOkH (P : Program) (w : World) (K : PySem.W.Frag) (mg : Str -> Option Value) (base : Heap) (k : Nat) (f : Addr) (fd : FuncData) (ps : List Str) (sp : Addr -> Obj -> Sp) : Prop where
  len : ∀ e oe vs H Q E, sp e oe vs H Q E -> vs.length = ps.length
  run : ∀ (A : Around) (outer : List Env) (s : Shared) (H : Hp) (args : Args) (us : List Value) (vs : List V) (Q : VK) (e : Addr) (oe : Obj), RoomH k A -> Env0 P w K mg base A outer s H -> Hnd A outer s H e oe -> BindsTo s fd args (ps.zip us) -> Vals vs us -> sp e oe vs H Q E0 ->
    codeAny (model P w) A (.call (.ref f) args) (CR CX0 outer P w H s Q E0) s
abbrev cxOfH (P : Program) (w : World) (K : PySem.W.Frag) (mg : Str -> Option Value) (base : Heap) (N : List Str) (qual : Str) (scope : Scope) (f : Addr) (cd : Value) (A : Around) (outer : List Env) (s : Shared) (H : Hp) : Cx :=
  { cxOf CX0 P w K mg base N qual scope f cd A outer s H E0 with calm := false, xe := fun _ _ => False }
theorem inv_startH {P : Program} {w : World} {K : PySem.W.Frag} {mg : Str -> Option Value} {base : Heap} {N ps : List Str} {qual : Str} {scope : Scope} {f : Addr} {cd : Value} {A : Around} {outer : List Env} {s s1 : Shared} {H : Hp} {us : List Value} {vs : List V}
    (S : FnScope N ps scope) (e0 : Env0 P w K mg base A outer s H) (hl : vs.length = ps.length) (r : Vals vs us)
    (x : InCallC s s.heap.objs.size (bindL (envOfC qual scope s.heap.objs.size f cd).kindOf (ps.zip us) fun _ => none) (cellsFrom (s.heap.objs.size + 1) scope.names []) (bindC (envOfC qual scope s.heap.objs.size f cd).kindOf (ps.zip us) fun _ => none) s1) :
    Inv (cxOfH P w K mg base N qual scope f cd A outer s H) [] (start N vs) H s1 := by
  have I0 : Inv { cxOf CX0 P w K mg base N qual scope f cd { A with handled := none } outer s H E0 with xe := fun _ _ => False } [] (start N vs) H s1 := by
    have J := inv_start (CX := CX0) (E := E0) (A := { A with handled := none }) S rfl (⟨e0.frames, e0.mod, e0.bs, e0.bsz, e0.funs, e0.frf, e0.hok, e0.bare⟩ : Env0 P w K mg base { A with handled := none } outer s H) hl r x
    exact ⟨⟨J.ok.mod, J.ok.kind, J.ok.glob, J.ok.blt, J.ok.above, J.ok.inj, J.ok.has, J.ok.cab, J.ok.hd, J.ok.frames, J.ok.stk, J.ok.exf, J.ok.bs, J.ok.bsz, J.ok.noex, J.ok.exfs, J.ok.funs, J.ok.frf⟩, J.os, J.bare, J.base, J.loc, J.cell, J.free, J.freeC, J.pin, J.hok, J.len⟩
  exact ⟨⟨I0.ok.mod, I0.ok.kind, I0.ok.glob, I0.ok.blt, I0.ok.above, I0.ok.inj, I0.ok.has, I0.ok.cab, (fun z => nomatch z), I0.ok.frames, I0.ok.stk, I0.ok.exf, I0.ok.bs, I0.ok.bsz, I0.ok.noex, I0.ok.exfs, I0.ok.funs, I0.ok.frf⟩, I0.os, I0.bare, I0.base, I0.loc, I0.cell, I0.free, I0.freeC, I0.pin, I0.hok, I0.len⟩
theorem Fun.byH {P : Program} {w : World} {K : PySem.W.Frag} {mg : Str -> Option Value} {base : Heap} {x qual : Str} {st : Stmt} {f : Addr} {fd : FuncData} {N ps : List Str} {k : Nat} {sp : Addr -> Obj -> Sp} (F : Fun K x qual st f fd) (S : FnScope N ps (defScope st)) (len : ∀ e oe vs H Q E, sp e oe vs H Q E -> vs.length = ps.length)
    (hbody : ∀ (cdv : Value) (A : Around) (outer : List Env) (s : Shared) (H : Hp) (vs : List V) (Q : VK) (e : Addr) (oe : Obj), RoomH k (A.deeper (envOfC qual (defScope st) s.heap.objs.size f cdv)) -> sp e oe vs H Q E0 -> Hnd A outer s H e oe ->
      ∃ t, jSs (cxOfH P w K mg base N qual (defScope st) f cdv A outer s H) (defBody st) t /\ t { nx := fun _ H' => Q .non H', rt := Q } (start N vs) H) : FnOkH P w K mg base (k + 1) f fd ps sp := by
  obtain ⟨oc, od, kV, doc, pm, an, cdv, ct, osl, rfl, lk, hcd⟩ := F.ex
  refine ⟨len, fun A outer s H args us vs Q e oe hr e0 hn hb r hsp => ?_⟩
  have hl := len _ _ _ _ _ _ hsp
  have KX : K.In s.heap := e0.mod.kin.keeps fun b o e => (e0.bs b o e).1
  have lim : s.heap.NoLimit := e0.mod.nolimit.keeps fun b o e => (e0.bs b o e).1
  have hkind : ∀ y ∈ ps.zip us, (defScope st).names.lookup y.1 = some .local \/ ((defScope st).names.lookup y.1 = some .cell /\ ((cellsFrom (s.heap.objs.size + 1) (defScope st).names []).lookup y.1).isSome = true) := fun ⟨n, v⟩ hy => by
    rcases S.par n (List.of_mem_zip hy).1 with q | q
    · exact .inl q
    · exact .inr ⟨q, PySem.W.cellsFrom_some _ _ _ (.inl q)⟩
  refine codeAny_call_function (by have := hr.dp; omega) (KX _ _ lk) rfl S.co S.gen rfl (PySem.W.codeRec_of KX hcd) (hb _ _ _ _ ?_)
  refine wpAny_newFunctionEnv_cells S.kind hkind fun env he s1 x => ?_
  subst he
  refine ⟨lim.keeps x.toInCall.keep, codeAny_func ?_⟩
  obtain ⟨t, ht, hq⟩ := hbody cdv A outer s H vs Q e oe (hr.deeper _) hsp hn
  have I : Inv (cxOfH P w K mg base N qual (defScope st) f cdv A outer s H) [] (start N vs) H s1 := inv_startH S e0 hl r x
  refine wpAny_mono (ht.out [] s1 (start N vs) H _ I hq) (fun fl s' hs => ?_) fun e s' hs => False.elim hs
  have fin : ∀ {σ' : St} {H' : Hp} {v : V} {u : Value}, Inv (cxOfH P w K mg base N qual (defScope st) f cdv A outer s H) [] σ' H' s' -> RelV v u -> Q v H' -> CE outer P w H s Q u s' :=
    fun {σ' H' v u} J rv q => ⟨v, H', J.os, J.bare, J.base, J.hok, rv, q⟩
  cases fl with
  | ret u =>
    obtain ⟨v, σ', H', J, rv, q⟩ := hs
    exact fin J rv q
  | next =>
    obtain ⟨σ', H', J, q⟩ := hs
    exact fin (v := V.non) (u := Value.none) J rfl q
  | brk =>
    obtain ⟨_, _, _, q⟩ := hs
    exact False.elim q
  | cont =>
    obtain ⟨_, _, _, q⟩ := hs
    exact False.elim q
theorem Hnd.p {P : Program} {w : World} {K : PySem.W.Frag} {mg : Str -> Option Value} {base : Heap} {N : List Str} {qual : Str} {scope : Scope} {f : Addr} {cd : Value} {A : Around} {outer : List Env} {s : Shared} {H : Hp} {e : Addr} {oe : Obj} (h : Hnd A outer s H e oe) : HandP (cxOfH P w K mg base N qual scope f cd A outer s H) :=
  let ⟨ve, d1, d2⟩ := h.d; ⟨e, oe, ve, h.h, h.g, h.n, h.f, (fun z => absurd (show e ∈ ([] : List Addr) from z) (by simp)), d1, d2⟩
structure CaH (P : Program) (w : World) (K : PySem.W.Frag) (mg : Str -> Option Value) (base : Heap) (k : Nat) (x : Str) (ps : List Str) (sp : Addr -> Obj -> Sp) : Prop where
  ex : ∃ f fd, FnOkH P w K mg base k f fd ps sp /\ Binds K fd ps [] /\ PySem.W.keepIn K (.ref f) = true /\ mg x = some (.ref f)
theorem DfIn.caH {P : Program} {w : World} {K : PySem.W.Frag} {mg : Str -> Option Value} {base h : Heap} {k : Nat} {x : Str} {st : Stmt} {ps : List Str} {sp : Addr -> Obj -> Sp} (X : K.In h) (G : h.Ns mainGlobals mg) (d : DfIn K x st) (hb : ∀ (kV doc pm : Value) (an : Option Addr) (cdv ct : Value) (us : List Value), us.length = ps.length -> bindArgs (PySem.W.fnOf x x (defArgs st) (defBody st) (defScope st) .none kV doc pm an cdv ct) ⟨us, []⟩ = pure (ps.zip us))
    (ok : ∀ f fd, Fun K x x st f fd -> FnOkH P w K mg base k f fd ps sp) : CaH P w K mg base k x ps sp := by
  obtain ⟨f, a, g⟩ := d
  obtain ⟨fd, F, kp⟩ := g.fn
  exact ⟨f, fd, ok f fd F, F.binds hb, kp, PySem.W.mg_of X G a⟩
def tCaH (e : Addr) (oe : Obj) (sp : Addr -> Obj -> Sp) (t : TA) : TE := fun σ H Q => t σ H fun vs H1 => (∃ ve : Array Value, oe.data = .fields ve /\ ve[2]? = some .none) /\ sp e oe vs H1 Q E0
theorem je_caH {X : Cx} {k : Nat} {x : Str} {ps : List Str} {sp : Addr -> Obj -> Sp} {p pos : Pos} {a : Expr} {as : List Expr} {t : TA} {e : Addr} {oe : Obj} (F : CaH X.prog X.w X.K X.mg X.base k x ps sp) (hr : RoomH k X.A) (hg : Gl X x) (hh : X.A.handled = some (.ref e)) (hp : (e, oe) ∈ X.pn) (ha : jA X (a :: as) t)
    (hdb : (x == ("__debug__" : Str)) = false := by decide) (h1 : isStar a = false := by rfl) (h2 : as.all (fun e => !isStar e) = true := by rfl) : jE X (.Call (.Name x p) (a :: as) [] pos) (tCaH e oe sp t) := by
  constructor
  intro pins s σ H Q I h
  obtain ⟨f, fd, G, hb, hk, hm⟩ := F.ex
  refine wpAny_Call_Name_kw (ld_glob I hg hm ?_ hdb)
  refine PySem.W.callWith_K (h₀ := X.base) I.ok.mod.kin hk (thn (ha.out pos pins s σ H _ I h) fun us s1 ⟨vs, H1, I1, r, hd, q⟩ => ⟨I1.kIn, ?_⟩) (star_cons h1) (star_any h2)
  have hlen : us.length = ps.length := by rw [<- r.length]; exact G.len _ _ _ _ _ _ q
  have bd := hb s1 us I1.kIn (by rw [List.append_nil]; exact hlen)
  rw [List.append_nil] at bd
  obtain ⟨p1, p2, p3, p4, p5⟩ := I1.pin (e, oe) (List.mem_append_left _ hp)
  have hn : Hnd X.A X.stack s1 H1 e oe := ⟨hh, p1, p2, fun z => (List.mem_cons.mp (I1.stkSub e z)).elim p3 p4, hd⟩
  refine wpAny_call (codeAny_mono (G.run X.A X.stack s1 H1 ⟨us, []⟩ us vs Q e oe hr I1.env0 hn bd r q) fun r s' hq => ?_)
  cases r with
  | error e => exact False.elim hq
  | ok fl =>
    cases fl with
    | ret u => exact I1.after hq
    | next => exact False.elim hq
    | brk => exact False.elim hq
    | cont => exact False.elim hq
end L2
namespace PySem.W
open PySem PySem.Spec PySem.Calls PyProof.Rows
section
variable {prog : Program} {w : World} {A : Around} {E : Value -> Shared -> Prop} {s : Shared} {K : Frag} {e C : Addr} {ox od : Obj}
theorem xg_class {Q : Option Value -> Shared -> Prop} (X : K.In s.heap) (I : InstAt s.heap e ox C (some od)) (hga : findIn K (.ref C) "__getattribute__" = some (some (.builtin "BaseException.__getattribute__"))) (hk : findIn K (.ref C) "__getattr__" = some none)
    (hb : subIn K (.ref C) (.type "BaseException") = some true) (hf : findObj K C (some od) "__class__" = some (.bind (.builtin "getset_descriptor.__get__") (.builtin "object.__class__"))) (hm : mroIn K C (.type "object") = some true)
    (h : Q (some (.ref C)) { s with toks := s.toks + 1 }) : wpAny (model prog w) A (getAttr? (.ref e) "__class__") Q E s := by
  have ty := I.type (M := model prog w)
  have fd := looks_find (M := model prog w) X I hf
  unfold getAttr? getAttrBy?
  refine wpAny_bind (wpAny_mkText (wpAny_bind (wpAny_attempt ?_)))
  refine wpAny_holding (wpAny_bind (ty _ _ _ _ (fun _ _ q => q) (wpAny_bind (looks_findIn X hga _ _ _ _ (fun _ _ q => q) ?_))))
  dsimp only
  rw [show (onTheHeap (Value.ref C) && Value.builtin "BaseException.__getattribute__" == Value.builtin "object.__getattribute__") = false from by rw [show (Value.builtin "BaseException.__getattribute__" == Value.builtin "object.__getattribute__") = false from by decide +kernel, Bool.and_false], if_neg (by decide : ¬ (false = true))]
  refine wpAny_bind ((looks_hook (mc := .ref C) X (by rw [if_pos (show onTheHeap (.ref C) = true from rfl)]; exact hk)) _ _ _ _ (fun _ _ q => q) (wpAny_bind (wpAny_attempt (wpAny_holding ?_))))
  unfold callGetattribute
  rw [show (false && onTheHeap (Value.builtin "BaseException.__getattribute__")) = false from rfl, if_neg (by decide : ¬ (false = true))]
  unfold boundAndCalled
  rw [L2.xg_slot.bind]
  refine wpAny_bind (wpAny_pure (wpAny_call (codeAny_call_builtin L2.xg_slot.plain PySem.F.entry_bexc_ga ?_)))
  refine @check_slot (model prog w) _ _ { s with toks := s.toks + 1 } "BaseException.__getattribute__" "BaseException" "__getattribute__" (.ref e) [.str "__class__" s.toks] [] _ (by decide +kernel) (by decide +kernel) (ty.andThen (looks_subIn X hb)) (PySem.F.args_bexc_ga (.ref e) (.str "__class__" s.toks)) ?_
  refine wpAny_bind (wpAny_pure (wpAny_bind (wpAny_pure (wpAny_bind (ty _ _ _ _ (fun _ _ q => q) (wpAny_bind (fd _ _ _ _ (fun _ _ q => q) ?_)))))))
  show wpAny _ _ (holding [Value.builtin "object.__class__"] (call (.builtin "getset_descriptor.__get__") [.builtin "object.__class__", .ref e, .ref C]) >>= ret) _ _ _
  refine wpAny_bind (wpAny_holding (wpAny_call (class_get (s := { s with toks := s.toks + 1 }) X I hm ?_)))
  refine wpAny_pure ?_
  show wpAny _ _ (handedOut (.ref C)) _ _ _
  rw [handedOut_of rfl]
  exact wpAny_pure (wpAny_pure h)
end
structure XIs (K : Frag) (C : Addr) : Prop where
  ga : findIn K (.ref C) "__getattribute__" = some (some (.builtin "BaseException.__getattribute__"))
  ha : findIn K (.ref C) "__getattr__" = some none
  sb : subIn K (.ref C) (.type "BaseException") = some true
  hd : hasDictIn K C = true
  cl : findIn K (.ref C) "__class__" = some (some (.builtin "object.__class__"))
  gs : specialIn K (.builtin "object.__class__") "__get__" = some (some (.builtin "getset_descriptor.__get__"))
  tk : takesIn K (.builtin "object.__class__") = some true
  mo : mroIn K C (.type "object") = some true
theorem kitx_exc {K : Frag} {x D : Addr} {ox od : Obj} (c : XIs K D) : KitX K (.ref x) (.ref D) (fun h => InstAt h x ox D (some od)) where
  ty := fun _ _ _ I => I.type
  it := fun _ _ X _ => by
    obtain ⟨cdD, hcD, _⟩ := any_some c.hd
    unfold clsIn at hcD
    split at hcD
    · rename_i c' d' cd' sl' ho
      intro A' Q' E' s' k q
      unfold isType loadHead
      exact wpAny_bind (wpAny_loadPart (k _ _ (X _ _ ho)) (wpAny_pure q))
    · cases hcD
  ne := fun h tp dd its n sl X htp => by
    obtain ⟨cdD, hcD, _⟩ := any_some c.hd
    refine Bool.eq_false_iff.mpr fun q => ?_
    have e : D = tp := Value.ref.inj (beq_iff_eq.mp q)
    subst e
    unfold clsIn at hcD
    split at hcD
    · rename_i c' d' cd' sl' ho
      have z := (X _ _ ho).symm.trans htp
      cases z
    · cases hcD
  ca := fun X I k => xg_class X I c.ga c.ha c.sb (findObj_data (by obtain ⟨cd, hc, _⟩ := any_some c.hd; rw [hc]; rfl) c.cl c.gs c.tk) c.mo k
end PySem.W
namespace L2
open PySem PySem.Spec PyProof.Rows
theorem jc_isi {X : Cx} {e C d : Addr} {oe : Obj} {D : V} {c : Value} (hh : ∀ pins σ H s, Inv X pins σ H s -> s.heap.get? e = some oe) (hx : PySem.W.XIs X.K C) (hD : RelV D c) (hu : ∀ c', RelV D c' -> c' = c) :
    jCa X (.builtin "isinstance") (fun xs H Q => xs = [.ref e, D] /\ oe.cls = .ref C /\ oe.dict = some d /\ (∃ vs, oe.data = .fields vs) /\ (∃ fs, H d = some (XD d fs)) /\ ∃ b, PySem.W.kitOne X.K (.ref C) c = some b /\ Q (.bl b) H) := by
  constructor
  intro pins s σ H xs us Q I r h
  obtain ⟨rfl, hc, hdx, ⟨vs, hd⟩, ⟨fs, hdo⟩, b, hk, q⟩ := h
  obtain ⟨u, u', rfl, r1, r2⟩ := vals2 r
  cases r1
  obtain rfl := hu _ r2
  obtain ⟨mA, ⟨od, es, ep, ho, _⟩, _⟩ := XD.get I.hok hdo
  have J : PySem.W.InstAt s.heap e oe C (some od) := ⟨hh _ _ _ _ I, hc, by unfold PySem.W.notCls; rw [hd], by rw [hdx]; exact ho⟩
  exact PySem.W.kia_one (PySem.W.kitx_exc hx) I.kIn J hk (fun z => nomatch z) fun tk => ⟨.bl b, H, I.tok tk, rfl, q⟩
end L2
namespace L2
open PySem PySem.Spec PyProof.Rows
section
variable {X : Cx} {tg : Expr}
end
section
variable {g : TG} {tt : TT} {te : TE} {Q : VK} {σ : St} {H : Hp}
end
theorem old {H : Hp} {p q : Addr} {o u : HO} (hp : H p = none) (h : H q = some u) : upd H p o q = some u := by rw [upd_ne (ne_of_none h hp)]; exact h
theorem Same.new {H H1 : Hp} {p : Addr} {o : HO} (s : Same H H1) (hp : H1 p = none) : Same H (upd H1 p o) := fun b u q => old hp (s b u q)
end L2
namespace L2
open PySem PySem.Spec PyProof.Rows
theorem eqV_self {x : V} (h : flatV x = true) : eqV x x = true := by
  cases x <;> first
    | rfl
    | (show ((_ : Bool) == _) = true; simp)
    | (show ((_ : Int) == _) = true; simp)
    | (show ((_ : Str) == _) = true; simp)
    | (cases h)
section
variable {X : Cx}
theorem eq_items {A : Around} {s : Shared} {xs : List V} {us us' : List Value} (r : Vals xs us) (r' : Vals xs us') (f : xs.all flatV = true) (j : Nat) (h1 : j < us.toArray.size) (h2 : j < us'.toArray.size) : SeqAt.EqAt A s us.toArray[j] us'.toArray[j] true := by
  have l1 := r.length
  have l2 := r'.length
  simp at h1 h2
  have hx : xs[j]? = some (xs[j]'(by omega)) := List.getElem?_eq_getElem _
  obtain ⟨u, e1, rx⟩ := r.get hx
  obtain ⟨u', e2, rx'⟩ := r'.get hx
  have g1 : us.toArray[j] = u := by
    have := List.getElem?_eq_some_iff.mp e1
    simpa using this.2
  have g2 : us'.toArray[j] = u' := by
    have := List.getElem?_eq_some_iff.mp e2
    simpa using this.2
  rw [g1, g2]
  have fx : flatV (xs[j]'(by omega)) = true := List.all_eq_true.mp f _ (List.getElem_mem _)
  have k := eqAt_V (A := A) (s := s) rx rx' fx fx
  rw [eqV_self fx] at k
  exact k
end
section
variable {X : Cx}
end
end L2
namespace L2
open PySem PySem.Spec PyProof.Rows
end L2
namespace L2
open PySem PySem.Spec PyProof.Rows
section
variable (P : Program) (w : World)
end
section
variable {P : Program} {w : World} {H H' : Hp} {h h' : Heap} {a : Addr} {o : HO}
end
section
variable {P : Program} {w : World} {H : Hp} {h h' : Heap} {x e : Addr} {o' : HO}
end
section
variable {fs fs' ex ex' : List Addr} {H H1 H2 : Hp} {h h1 h2 h' : Heap} {a x e : Addr} {o : HO}
end
end L2
namespace L2
open PySem PySem.Spec PyProof.Rows
section
variable {X : Cx} {pins : List (Addr × Obj)} {σ : List (Option V)} {H H' : Hp} {s : Shared} {h' : Heap}
end
end L2
namespace L2
open PySem PySem.Spec PyProof.Rows
section
variable {X : Cx}
variable {a b : Expr} {ta tb : TE} {pos : Pos}
variable {tA tB' : TT} {rest : List Expr}
end
end L2
namespace L2
open PySem PySem.Spec PyProof.Rows
section
variable {X : Cx} {pins : List (Addr × Obj)} {σ : St} {H : Hp} {s : Shared} {a : Addr} {xs ys : List V}
end
section
variable {X : Cx} {pins : List (Addr × Obj)} {σ : St} {H : Hp} {s : Shared} {E : Value -> Shared -> Prop}
end
section
variable {X : Cx} {st : Stmt} {rest : List Stmt} {t u : TS} {e : Expr} {te : TE} {pos : Pos}
end
section
variable {X : Cx} {pos : Pos}
end
section
variable {X : Cx} {pos : Pos}
end
end L2
namespace L2
open PySem PySem.Spec PyProof.Rows
section
variable {X : Cx} {tg : Expr}
end
end L2
namespace L2
open PySem PySem.Spec PyProof.Rows
section
variable {X : Cx} {a b c : Expr} {ta tb tc : TE} {pos : Pos}
end
section
variable {X : Cx} {a b c : Expr} {ta tb tc : TE} {pos : Pos}
end
end L2
namespace L2
open PySem PySem.Spec PyProof.Rows
section
variable {prog : Program} {w : World} {A : Around} {E : Value -> Shared -> Prop} {s : Shared} {K : PySem.W.Frag} {x dx C f : Addr} {mA : Str -> Option Value} {name : Str} {v : Value}
end
section
variable {P : Program} {w : World} {H H' : Hp} {h h' : Heap} {a C dx : Addr} {fs fs' : List (Str × V)}
end
section
variable {X : Cx} {pins : List (Addr × Obj)} {σ : St} {H : Hp} {s : Shared} {a C dx : Addr} {fs : List (Str × V)} {f : Str} {v : V} {A : Around} {E : Value -> Shared -> Prop}
end
section
variable {X : Cx} {o e value : Expr} {f : Str} {pos pos' tpos : Pos} {ta tv : TE}
end
section
variable {X : Cx} {pins : List (Addr × Obj)} {σ : St} {H : Hp} {s : Shared} {A : Around} {E : Value -> Shared -> Prop} {Q : Value -> Shared -> Prop} {c : Value} {b : Bool}
end
end L2
namespace L2
open PySem PySem.Spec PyProof.Rows
section
variable {X : Cx} {e : Expr} {es : List Expr} {te : TE} {t : TA} {pos : Pos}
end
section
variable {X : Cx} {pins : List (Addr × Obj)} {σ : St} {H : Hp} {s s' : Shared}
end
section
variable {X : Cx} {CX : CXT} {k : Nat} {f C : Addr} {fd : FuncData} {ps : List Str} {sp : Sp} {dvs : List V} {ds : List Value} {E : XK} {x m : Str} {p pos apos : Pos} {e o : Expr} {es : List Expr} {ta : TE} {t : TA}
end
section
variable {X : Cx} {CX : CXT} {k : Nat} {f C : Addr} {fd : FuncData} {ps ks : List Str} {sp : Sp} {E : XK} {x m : Str} {p pos apos kpos : Pos} {e o : Expr} {es : List Expr} {kws : List Keyword} {te ta : TE} {t tk : TA} {nm : Option Str}
variable {g : List Value -> List Value -> List Value} {gV : List V -> List V -> List V}
end
end L2
namespace L2
open PySem PySem.Spec PyProof.Rows
section
variable {X : Cx} {x : Str} {p pos : Pos} {e : Expr} {es : List Expr} {t : TA} {id T : String} {r : List V -> Hp -> VK -> Prop}
end
end L2
namespace L2
open PySem PySem.Spec PyProof.Rows
section
variable {κ : Type} [DecidableEq κ]
def valV (kvs : List (κ × V)) (k : κ) : Option V := (kvs.find? fun kv => decide (kv.1 = k)).map (·.2)
def putK (kvs : List (κ × V)) (k : κ) (v : V) : List (κ × V) :=
  if (kvs.any fun kv => decide (kv.1 = k)) = true then kvs.map (fun kv => if kv.1 = k then (kv.1, v) else kv) else kvs ++ [(k, v)]
def dropK (kvs : List (κ × V)) (k : κ) : List (κ × V) := kvs.filter fun kv => decide (kv.1 ≠ k)
theorem valV_pos {p : κ × V} {r : List (κ × V)} {k : κ} (e : p.1 = k) : valV (p :: r) k = some p.2 := by simp [valV, List.find?_cons, e]
theorem valV_neg {p : κ × V} {r : List (κ × V)} {k : κ} (e : ¬ p.1 = k) : valV (p :: r) k = valV r k := by simp [valV, List.find?_cons, e]
theorem RelO.getD {o : Option V} {u : Option Value} {d : V} {d' : Value} (r : RelO o u) (rd : RelV d d') : RelV (o.getD d) (u.getD d') := by
  cases o with
  | none => cases u with
    | none => exact rd
    | some _ => exact (show False from r).elim
  | some _ => cases u with
    | none => exact (show False from r).elim
    | some _ => exact r
theorem KV.val {kvs : List (κ × V)} {vs : List (κ × Value)} (r : KV kvs vs) (k : κ) : RelO (valV kvs k) (valueAt vs k) := by
  unfold KV at r
  induction r with
  | nil => exact True.intro
  | @cons p q ps qs h t ih =>
    obtain ⟨h1, h2⟩ := h
    by_cases e : p.1 = k
    · have e' : q.1 = k := h1.symm.trans e
      have b : valueAt (q :: qs) k = some q.2 := by simp [valueAt, List.find?_cons, e']
      rw [valV_pos e, b]; exact h2
    · have e' : ¬ q.1 = k := fun z => e (h1.trans z)
      have b : valueAt (q :: qs) k = valueAt qs k := by simp [valueAt, List.find?_cons, e']
      rw [valV_neg e, b]; exact ih
theorem KV.any {kvs : List (κ × V)} {vs : List (κ × Value)} (r : KV kvs vs) (k : κ) : (kvs.any fun kv => decide (kv.1 = k)) = vs.any fun kv => decide (kv.1 = k) := by
  unfold KV at r
  induction r with
  | nil => rfl
  | cons h t ih => rw [List.any_cons, List.any_cons, ih, h.1]
theorem KV.drop {kvs : List (κ × V)} {vs : List (κ × Value)} (r : KV kvs vs) (k : κ) : KV (dropK kvs k) (without vs k) := by
  unfold KV at r ⊢
  unfold dropK without
  induction r with
  | nil => exact .nil
  | @cons p q ps qs h t ih =>
    obtain ⟨h1, h2⟩ := h
    rw [List.filter_cons, List.filter_cons]
    by_cases e : p.1 = k
    · have a : ¬ decide (p.1 ≠ k) = true := by simp [e]
      have b : ¬ decide (q.1 ≠ k) = true := by simp [h1.symm.trans e]
      rw [if_neg a, if_neg b]; exact ih
    · have e' : ¬ q.1 = k := fun z => e (h1.trans z)
      have a : decide (p.1 ≠ k) = true := by simp [e]
      have b : decide (q.1 ≠ k) = true := by simp [e']
      rw [if_pos a, if_pos b]; exact .cons ⟨h1, h2⟩ ih
theorem KV.keys {kvs : List (κ × V)} {vs : List (κ × Value)} (r : KV kvs vs) : kvs.map (·.1) = vs.map (·.1) := by
  unfold KV at r
  induction r with
  | nil => rfl
  | cons h t ih => rw [List.map_cons, List.map_cons, ih, h.1]
theorem KV.length {kvs : List (κ × V)} {vs : List (κ × Value)} (r : KV kvs vs) : kvs.length = vs.length := Paired.length r
end
abbrev KT (H : Hp) : List (List Key × V) -> List (List Key × Addr × Value) -> Prop := Paired fun p q => p.1 = q.1 /\ H q.2.1 = some (.tup (p.1.map kV)) /\ RelV p.2 q.2.2
theorem KT.val {H : Hp} {kvs : List (List Key × V)} {xs : List (List Key × Addr × Value)} (r : KT H kvs xs) (k : List Key) : RelO (valV kvs k) ((atKey xs k).map (·.2)) := by
  induction r with
  | nil => exact True.intro
  | @cons p q ps qs h t ih =>
    obtain ⟨h1, _, h2⟩ := h
    by_cases e : p.1 = k
    · have e' : q.1 = k := h1.symm.trans e
      have b : atKey (q :: qs) k = some q.2 := by simp [atKey, List.find?_cons, e']
      rw [valV_pos e, b]; exact h2
    · have e' : ¬ q.1 = k := fun z => e (h1.trans z)
      have b : atKey (q :: qs) k = atKey qs k := by simp [atKey, List.find?_cons, e']
      rw [valV_neg e, b]; exact ih
theorem KT.keeps {H H' : Hp} {kvs : List (List Key × V)} {xs : List (List Key × Addr × Value)} (r : KT H kvs xs) (ht : ∀ b ys, H b = some (.tup ys) -> H' b = some (.tup ys)) : KT H' kvs xs :=
  Paired.mapP r fun _ _ z => ⟨z.1, ht _ _ z.2.1, z.2.2⟩
section
variable {P : Program} {w : World} {H : Hp} {h : Heap} {a : Addr}
end
def DGet (H : Hp) (a : Addr) (y : V) (r : Option V) : Prop :=
  (∃ kvs k, Rd H a (.dK kvs) /\ y = kV k /\ r = valV kvs k) \/ ∃ kvs k b, Rd H a (.dT kvs) /\ y = .ref b /\ H b = some (.tup (k.map kV)) /\ r = valV kvs k
def DPut (H : Hp) (a : Addr) (y v : V) (H' : Hp) : Prop :=
  (∃ kvs k, H a = some (.dK kvs) /\ y = kV k /\ kvs.length < sizeLine /\ H' = upd H a (.dK (putK kvs k v))) \/
  ∃ kvs k b, H a = some (.dT kvs) /\ y = .ref b /\ H b = some (.tup (k.map kV)) /\ kvs.length < sizeLine /\ H' = upd H a (.dT (putK kvs k v))
theorem DGet.k {H : Hp} {a : Addr} {kvs : List (Key × V)} {k : Key} (e : H a = some (.dK kvs)) : DGet H a (kV k) (valV kvs k) := .inl ⟨kvs, k, .inl e, rfl, rfl⟩
theorem DGet.t {H : Hp} {a b : Addr} {kvs : List (List Key × V)} {k : List Key} (e : H a = some (.dT kvs)) (eb : H b = some (.tup (k.map kV))) : DGet H a (.ref b) (valV kvs k) := .inr ⟨kvs, k, b, .inl e, rfl, eb, rfl⟩
theorem DPut.k {H : Hp} {a : Addr} {kvs : List (Key × V)} {k : Key} {v : V} (e : H a = some (.dK kvs)) (hl : kvs.length < sizeLine) : DPut H a (kV k) v (upd H a (.dK (putK kvs k v))) := .inl ⟨kvs, k, e, rfl, hl, rfl⟩
theorem DPut.t {H : Hp} {a b : Addr} {kvs : List (List Key × V)} {k : List Key} {v : V} (e : H a = some (.dT kvs)) (eb : H b = some (.tup (k.map kV))) (hl : kvs.length < sizeLine) :
    DPut H a (.ref b) v (upd H a (.dT (putK kvs k v))) := .inr ⟨kvs, k, b, e, rfl, eb, hl, rfl⟩
section
variable {X : Cx} {pins : List (Addr × Obj)} {σ : St} {H : Hp} {s : Shared} {a : Addr} {y v : V} {u r : Value} {o : Option V} {A : Around} {E : Value -> Shared -> Prop}
theorem Inv.big (I : Inv X pins σ H s) : sysModules < s.heap.objs.size := by
  have h : mainGlobals < s.heap.objs.size := (I.mod.glob.keeps I.bk).lt
  exact Nat.lt_trans (by decide) h
end
section
variable {X : Cx} {pins : List (Addr × Obj)} {σ : St} {H : Hp} {s : Shared} {a : Addr} {kvs : List (Key × V)} {k : Key} {u : Value} {A : Around} {E : Value -> Shared -> Prop}
end
section
variable {X : Cx} {o i e value : Expr} {pos pos' tpos : Pos} {td ty tv : TE}
end
section
variable {X : Cx} {pos : Pos}
end
structure M1 (X : Cx) (o : Expr) (m : Str) (apos : Pos) (e : Expr) (cpos : Pos) : Prop where
  base : attributeBase o m X.env (eval o X.env) = eval o X.env
  few : ((backTo cpos (starEach [e] X.env)).all (fun x => !x.1) && (backToKw cpos (keywordEach [] X.env)).all (fun x => x.1.isSome)
    && decide (([e] : List Expr).length + ([] : List Keyword).length + (if ([] : List Keyword).isEmpty then 0 else 1) < 30)) = true
  line : (apos.endLine == cpos.line) = true
  trees : backTo cpos (starEach [e] X.env) = [(false, eval e X.env)]
structure M2 (X : Cx) (o : Expr) (m : Str) (apos : Pos) (e f : Expr) (cpos : Pos) : Prop where
  base : attributeBase o m X.env (eval o X.env) = eval o X.env
  few : ((backTo cpos (starEach [e, f] X.env)).all (fun x => !x.1) && (backToKw cpos (keywordEach [] X.env)).all (fun x => x.1.isSome)
    && decide (([e, f] : List Expr).length + ([] : List Keyword).length + (if ([] : List Keyword).isEmpty then 0 else 1) < 30)) = true
  line : (apos.endLine == cpos.line) = true
  trees : backTo cpos (starEach [e, f] X.env) = [(false, eval e X.env), (false, eval f X.env)]
section
variable {X : Cx} {pins : List (Addr × Obj)} {σ : St} {H : Hp} {s : Shared} {a : Addr} {y d : V} {u r : Value} {o : Option V} {A : Around} {E : Value -> Shared -> Prop}
end
section
variable {X : Cx} {o e f : Expr} {apos cpos : Pos} {td ty tx : TE}
end
section
variable {X : Cx} {pins : List (Addr × Obj)} {σ : St} {H : Hp} {s : Shared} {a : Addr} {kvs : List (Key × V)} {A : Around} {E : Value -> Shared -> Prop}
end
section
variable {X : Cx} {pins : List (Addr × Obj)} {σ : St} {H : Hp} {s : Shared} {a : Addr} {y : V} {u : Value} {A : Around} {E : Value -> Shared -> Prop}
end
end L2
namespace Att
open PySem PySem.W PySem.Calls PyProof.Rows
section
variable {prog : Program} {w : World} {A : Around} {E : Value -> Shared -> Prop} {s : Shared} {K : Frag}
end
end Att
namespace L2
open PySem PySem.Spec PyProof.Rows
end L2
namespace L2
open PySem PySem.Spec PyProof.Rows
end L2
namespace L2
open PySem PySem.Spec PyProof.Rows
section
variable {P : Program} {w : World} {K : PySem.W.Frag} {mg : Str -> Option Value} {base : Heap}
end
section
variable {X : Cx}
end
section
variable {κ : Type} [DecidableEq κ]
end
end L2
namespace L2
open PySem PySem.Spec PyProof.Rows
section
variable {X : Cx} {pos : Pos}
end
theorem SqK.l {K : PySem.W.Frag} {H : Hp} {a : Addr} {xs : List V} (h : H a = some (.lst xs)) : SqK true K H a xs := SqL.of h
theorem SqK.t {K : PySem.W.Frag} {H : Hp} {a : Addr} {xs : List V} (h : H a = some (.tup xs)) : SqK false K H a xs := SqT.of h
end L2
namespace L2
open PySem PySem.Spec PyProof.Rows
section
variable {X : Cx} {pins : List (Addr × Obj)} {σ : St} {H : Hp} {s : Shared} {h' : Heap}
end
section
variable {X : Cx}
theorem KV.get {kvs : List (Key × V)} {ws : List (Key × Value)} (r : KV kvs ws) {j : Nat} {k : Key} {x : Value} (h : ws[j]? = some (k, x)) : ∃ y, kvs[j]? = some (k, y) /\ RelV y x := by
  unfold KV at r
  induction r generalizing j with
  | nil => simp at h
  | @cons p q ps qs hh t ih =>
    cases j with
    | zero =>
      simp at h
      subst h
      obtain ⟨p1, p2⟩ := p
      have e : p1 = k := hh.1
      subst e
      exact ⟨p2, rfl, hh.2⟩
    | succ j =>
      obtain ⟨y, h1, h2⟩ := ih (j := j) (by simpa using h)
      exact ⟨y, by simpa using h1, h2⟩
end
end L2
namespace L2
open PySem PySem.Spec PyProof.Rows
section
variable {X : Cx}
theorem call_int_text : CallR X (.type "int") (fun xs H Q => ∃ z n, xs = [.str z] /\ PySem.intText? z = some n /\ z.length <= 640 /\ Q (.int n) H) := by
  intro pins s σ H xs us Q I r h
  obtain ⟨z, n, rfl, hn, hl, q⟩ := h
  obtain ⟨u, rfl, t, rfl⟩ := vals1 r
  exact PySem.W.KIN.call_text hn hl ⟨.int n, H, I.tok _, ⟨_, rfl⟩, q⟩
theorem jc_int_text : jCa X (.type "int") (fun xs H Q => ∃ z n, xs = [.str z] /\ PySem.intText? z = some n /\ z.length <= 640 /\ Q (.int n) H) := ⟨call_int_text⟩
end
end L2
namespace L2
open PySem PySem.Spec PyProof.Rows
def BG : Nat := 2 ^ 1000
set_option exponentiation.threshold 2000 in
theorem log_big {i : Int} (h : i.natAbs < BG) : i.natAbs.log2 < 1000 \/ i = 0 := by
  by_cases z : i.natAbs = 0
  · exact .inr (Int.natAbs_eq_zero.mp z)
  · exact .inl ((Nat.log2_lt z).mpr h)
theorem bits_big {i : Int} (h : i.natAbs < BG) : Builtin.Int.intBits i <= 2 ^ 20 := by
  unfold Builtin.Int.intBits
  have e : (2 : Nat) ^ 20 = 1048576 := by decide
  rcases log_big h with l | l
  · split <;> omega
  · rw [if_pos (by rw [l]; rfl)]; omega
theorem noPylong_big {i j : Int} (h : j.natAbs < BG) : Builtin.divisionGoesByPylong i j = false := by
  refine PyProof.noPylong_of_log2 ?_
  rcases log_big h with l | l
  · omega
  · rw [l]; decide
def CMulB (i j : Int) : Prop := i.natAbs < BG /\ j.natAbs < BG
def CDivB (_ j : Int) : Prop := j ≠ 0 /\ j.natAbs < BG
section
variable {X : Cx}
theorem jo_mulB : jOp X (binaryOp .Mult) (rI CMulB fun i j => .int (i * j)) := ⟨opI fun _ _ _ _ _ _ _ hc q => mul_int q (.of_bits (bits_big hc.1) (bits_big hc.2))⟩
theorem jo_fdivB : jOp X (binaryOp .FloorDiv) (rI CDivB fun i j => .int (i.fdiv j)) := ⟨opI fun _ _ _ _ _ _ _ hc q => floordiv_int hc.1 q (.inl (noPylong_big hc.2))⟩
theorem jo_modN : jOp X (binaryOp .Mod) (rI (fun _ j => j ≠ 0) fun i j => .int (i.fmod j)) := ⟨op_modN⟩
theorem jc_abs : jCa X (.builtin "abs") (fun xs H Q => ∃ i, xs = [.int i] /\ Q (.int (if i < 0 then -i else i)) H) := ⟨call_abs⟩
theorem jc_int1 : jCa X (.type "int") (fun xs H Q => (∃ i, xs = [.int i] /\ Q (.int i) H) \/ ∃ k, xs = [.bl k] /\ Q (.int (if k then 1 else 0)) H) := ⟨call_int1⟩
def rSameT (K : PySem.W.Frag) : R2 := fun x y H Q => ∃ p p' xs, x = .ref p /\ y = .ref p' /\ p ≠ p' /\ SqT K H p xs /\ SqT K H p' xs /\ xs.all flatV = true /\ Q (.bl true) H
theorem op_eqT (hu : X.A.units + 64 < cLine) : OpR X (compareOp .Eq) (rSameT X.K) := by
  intro pins s σ H x y v u Q I rx ry h
  obtain ⟨p, p', xs, rfl, rfl, hne, h1, h2, f, q⟩ := h
  cases rx
  cases ry
  obtain ⟨i1, v1, m1, _⟩ := I.tuple h1
  obtain ⟨i2, v2, m2, _⟩ := I.tuple h2
  have n1 := v1.length
  have n2 := v2.length
  have main := SeqAt.RcAt.tuples (A := X.A) (e := fun _ => true) m1 m2 (by omega) (fun j a b => eq_items v1 v2 f j a b)
  have eb : ((List.range (min i1.toArray.size i2.toArray.size)).all (fun _ => true) && i1.toArray.size == i2.toArray.size) = true := by
    rw [show (List.range (min i1.toArray.size i2.toArray.size)).all (fun _ => true) = true from List.all_eq_true.mpr fun _ _ => rfl]
    simp
    omega
  rw [eb] at main
  exact main _ _ _ _ ⟨.bl true, H, I, rfl, q⟩
theorem jo_eqT {k : Nat} (hr : Room k X.A) : jOp X (compareOp .Eq) (rSameT X.K) := ⟨op_eqT hr.units⟩
end
section
variable {X : Cx} {Ch : Addr} {x n z : Str} {i j k : Nat} {np hpos tpos pz spos : Pos} {b0 : Stmt} {suite : List Stmt} {th : Addr -> Obj -> TS} {ps : List Str} {sp : Sp} {y : Str} {p cpos : Pos} {a : Expr} {as : List Expr} {t : TA}
def tTryS (K : PySem.W.Frag) (Ch : Addr) (i j : Nat) (sp : Sp) (t : TA) (th : Addr -> Obj -> TS) : TS := fun D σ H => t σ H fun vs H1 => sp vs H1 (fun v H2 => D.nx (σ.set j (some v)) H2) (xTakeH K Ch i th D σ)
theorem js_tryS (F : Ca X.prog X.w X.K X.mg X.base (CXf X.prog X.w) k y ps sp) (hr : Room k X.A) (hgf : Gl X y) (ha : jA X (a :: as) t)
    (hN : X.N.Nodup) (hi : X.N[i]? = some n) (hj : X.N[j]? = some z) (hg : Gl X x) (hm : X.mg x = some (.ref Ch)) (hS : ∀ e oe, jSs (X.inEx (.ref e) [(e, oe)]) (b0 :: suite) (th e oe)) (hz : X.env.scope.names.lookup z = some .local := by rfl) (hl : X.env.scope.names.lookup n = some .local := by rfl) (hst : X.stack = X.env :: X.outer := by rfl) (hf : X.env.frame = some X.env.locals := by rfl) (hnx : X.xe = fun _ _ => False := by rfl)
    (hdf : (y == ("__debug__" : Str)) = false := by decide) (hdb : (x == ("__debug__" : Str)) = false := by decide) (h1 : isStar a = false := by rfl) (h2 : as.all (fun e => !isStar e) = true := by rfl)
    (hs : swapsWith (.Call (.Name y p) (a :: as) [] cpos) (some (.Name z pz)) spos.line X.env = pure false := by rfl) :
    jS X (.Try [.Assign [.Name z pz] (.Call (.Name y p) (a :: as) [] cpos) spos] [.ExceptHandler (some (.Name x np)) (some n) (b0 :: suite) hpos] [] [] tpos) (tTryS X.K Ch i j sp t th) := by
  constructor
  intro pins s σ H D I h
  obtain ⟨f, fd, G, hb, hkf, hmf⟩ := F.ex
  refine wpAny_Try_except (wpAny_execs_cons (wpAny_Assign_Name (wpAny_Call_Name_kw (ld_glob I hgf hmf ?_ hdf)) hs))
  refine PySem.W.callWith_K (h₀ := X.base) I.ok.mod.kin hkf (wpAny_mono (ha.out cpos pins s σ H _ I h) (fun us s1 ⟨vs, H1, I1, r, q⟩ => ⟨I1.kIn, ?_⟩) fun u s' z => by rw [hnx] at z; exact False.elim z) (star_cons h1) (star_any h2)
  have hlen : us.length = ps.length := by rw [<- r.length]; exact G.len _ _ _ _ q
  have bd := hb s1 us I1.kIn (by rw [List.append_nil]; exact hlen)
  rw [List.append_nil] at bd
  refine wpAny_call (codeAny_mono (G.run X.A X.stack s1 H1 ⟨us, []⟩ us vs _ _ hr I1.env0 bd r q) fun r s' hq => ?_)
  cases r with
  | error u => exact catch_okH hN hi hl hst hf hg hm (fun e oe => (hS e oe).out) hdb (air_of rfl rfl I1 hq)
  | ok fl =>
    cases fl with
    | ret u =>
      obtain ⟨v, H', I2, rv, q2⟩ := I1.after hq
      exact store_ok I2 hN hj (.inl hz) rv (fun s3 I3 => wpAny_execs_nil (wpAny_execs_nil ⟨_, H', I3, q2⟩)) (.inr hz)
    | next => exact False.elim hq
    | brk => exact False.elim hq
    | cont => exact False.elim hq
end
end L2
namespace K11
open PySem
theorem size_foldl (a : Array Nat) : ∀ (k : Nat) (acc : Array Nat), ((List.replicate k a).foldl (· ++ ·) acc).size = acc.size + k * a.size
  | 0, acc => by simp
  | k + 1, acc => by
    rw [List.replicate_succ, List.foldl_cons, size_foldl a k, Array.size_append, Nat.add_mul]
    omega
theorem mul_len {z : Str} {n : Int} (hz : z.length = 1) : (Txt.mul z n).length <= n.toNat := by
  unfold Txt.mul
  split
  · simp [Str.empty, Str.length]
  · rename_i h
    split
    · rw [hz]; omega
    · show ((List.replicate n.toNat z.cps).foldl (· ++ ·) #[]).size <= n.toNat
      have e : z.cps.size = 1 := hz
      rw [size_foldl, e]
      simp
theorem mul_ok {z : Str} {n : Int} (hz : z.length = 1) (h0 : 0 <= n) (h1 : n <= 1000) : MulOk z n := by
  have hs : sizeLine = 16777216 := by decide
  refine ⟨?_, fun a b => ?_, fun a b => ?_⟩
  · have e1 : decide (n < -(2 ^ 63 : Int)) = false := decide_eq_false (by omega)
    have e2 : decide (n ≥ 2 ^ 63) = false := decide_eq_false (by omega)
    rw [e1, e2]; rfl
  · rw [hz]
    have : (1 : Int) <= (2 ^ 63 - 1) / n := Int.le_ediv_of_mul_le (by omega) (by omega)
    intro c
    have c' : (1 : Int) > (2 ^ 63 - 1) / n := c
    omega
  · rw [hz]
    unfold Builtin.Str.tooLong
    exact decide_eq_false (by rw [hs]; omega)
end K11
namespace K31
open PySem L2
def top (i : Nat) : Stmt := PySem.Challenge.pw_reusewise_k31_reckoned.main.body.getD i (.Pass ⟨0, 0, 0, 0⟩)
abbrev sFault : Stmt := inClass (top 11) 0
abbrev sWhole : Stmt := top 13
abbrev sIn : Stmt := top 14
abbrev sReck : Stmt := top 16
abbrev sRes : Stmt := top 17
abbrev sCell : Stmt := top 19
abbrev sNum : Stmt := top 20
abbrev sEdge : Stmt := top 21
abbrev sPair : Stmt := top 22
abbrev sOne : Stmt := top 23
abbrev sTold : Stmt := top 24
abbrev sFlt : Stmt := top 25
abbrev sNR : Stmt := top 26
abbrev sRight : Stmt := top 27
abbrev sLaw : Stmt := top 28
theorem same_new {H : Hp} {p : Addr} (h : H p = none) (o : HO) : Same H (upd H p o) := fun b u q => by rw [upd_ne (ne_of_none q h)]; exact q
theorem t30 : (10 : Int) ^ (30 : Int).toNat = 1000000000000000000000000000000 := by decide
theorem t15 : (10 : Int) ^ (15 : Int).toNat = 1000000000000000 := by decide
def Sm (i : Int) : Prop := -1000000000000000000000000000000 < i /\ i < 1000000000000000000000000000000
set_option exponentiation.threshold 2000 in
theorem big_of {i : Int} (h : i.natAbs < 10 ^ 100) : i.natAbs < BG := Nat.lt_of_lt_of_le h (by unfold BG; decide +kernel)
theorem Sm.big {i : Int} (h : Sm i) : i.natAbs < BG := big_of (by unfold Sm at h; omega)
theorem ifT {b : Bool} {A B : Prop} (e : b = true) (h : A) : if b = true then A else B := by rw [if_pos e]; exact h
theorem ifF {b : Bool} {A B : Prop} (e : b = false) (h : B) : if b = true then A else B := by rw [if_neg (by rw [e]; decide)]; exact h
inductive Nu (H : Hp) : V -> Option Int -> Prop
  | int {i : Int} : Sm i -> Nu H (.int i) (some i)
  | tup {p : Addr} {xs : List V} : H p = some (.tup xs) -> Nu H (.ref p) none
theorem Nu.keep {H H' : Hp} {v : V} {o : Option Int} (s : Same H H') (h : Nu H v o) : Nu H' v o := by
  cases h with
  | int h => exact .int h
  | tup h => exact .tup (s _ _ h)
def res (w : Str) (i j : Int) : Int := if w = "plus" then i + j else if w = "minus" then i - j else if w = "times" then i * j else if w = "over" then i.fdiv j else if w = "rest" then i.fmod j else if w = "less" then (if i < j then 1 else 0) else (if i = j then 1 else 0)
def fw (w : Str) : Option Int -> Option Int -> Str
  | some i, some j => if j = 0 /\ (w = "over" \/ w = "rest") then "nought" else if -1000000000000000000000000000000 < res w i j /\ res w i j < 1000000000000000000000000000000 then "" else "great"
  | _, _ => "nonumber"
theorem fw_ss (w : Str) (i j : Int) : fw w (some i) (some j) = if j = 0 /\ (w = "over" \/ w = "rest") then ("nought" : Str) else if -1000000000000000000000000000000 < res w i j /\ res w i j < 1000000000000000000000000000000 then ("" : Str) else ("great" : Str) := rfl
def spWhole : Sp := fun vs H Q _ => ∃ v o, vs = [v] /\ Nu H v o /\ Q (.bl o.isSome) H
def spIn : Sp := fun vs H Q _ => ∃ i : Int, vs = [.int i] /\ Q (.bl (decide (-1000000000000000000000000000000 < i /\ i < 1000000000000000000000000000000))) H
def spRes : Sp := fun vs H Q _ => ∃ (w : Str) (i j : Int), vs = [.str w, .int i, .int j] /\ Sm i /\ Sm j /\ (j = 0 -> w ≠ "over" /\ w ≠ "rest") /\ Q (.int (res w i j)) H
def spFault (C : Addr) : Sp := fun vs H Q _ => ∃ e v, vs = [.ref e, v] /\ H e = some (XO e C none) /\ ∀ d, H d = none -> d ≠ e -> Q .non (upd (upd H d (XD d [("word", v)])) e (XO e C (some d)))
def spReck (C : Addr) : Sp := fun vs H Q E => ∃ (w : Str) (x y : V) (a b : Option Int), vs = [.str w, x, y] /\ Nu H x a /\ Nu H y b /\
  (fw w a b = "" -> ∀ (i j : Int) (H' : Hp), Same H H' -> a = some i -> b = some j -> Q (.int (res w i j)) H') /\ (fw w a b ≠ "" -> ∀ d H', Same H H' -> H' d = some (XD d [("word", .str (fw w a b))]) -> E (.ref C) (some d) H')
section
variable {P : Program} {w : World} {K : PySem.W.Frag} {mg : Str -> Option Value} {base : Heap} {f R C : Addr} {fd : FuncData}
theorem scFault : FnScope ["self", "word"] ["self", "word"] (defScope sFault) := ⟨rfl, rfl, rfl, by decide +kernel, rfl, by decide +kernel, by decide +kernel⟩
theorem ok_fault {fi : Addr} (F : Fun K "__init__" "Fault.__init__" sFault f fd) (xw : PySem.W.takerIn K C "word" = some none) (M : XCl K C fi) (B : XBase K R) (mR : mg "ReuseError" = some (.ref R)) : FnOk P w K mg base CX0 1 f fd ["self", "word"] (spFault C) := by
  refine F.by scFault (fun vs H Q E h => ?_) (fun cdv A' outer s H vs Q E hr h => ?_)
  · obtain ⟨e, v, rfl, _⟩ := h
    rfl
  obtain ⟨e, v, rfl, hX, q⟩ := h
  refine ⟨_, jss_cons (js_expr ⟨pe_xinit M B rfl mR (ja_c (jv 0) (ja_c (jv 1) ja_nil)).out⟩) (jss_one ⟨ps_xnew M (jv 0).out (jv 1).out⟩), ?_⟩
  refine ⟨_, rfl, _, rfl, e, [v], none, rfl, by show 1 <= sizeLine; decide, hX, ?_⟩
  exact ⟨_, rfl, _, rfl, e, rfl, hX, xw, fun d hd ne => q d hd ne⟩
theorem scWhole : FnScope ["thing"] ["thing"] (defScope sWhole) := ⟨rfl, rfl, rfl, by decide +kernel, rfl, by decide +kernel, by decide +kernel⟩
theorem ok_whole (F : Fun K "is_whole" "is_whole" sWhole f fd) (m_isinstance : mg "isinstance" = none) (m_int : mg "int" = none) (m_bool : mg "bool" = none) : FnOk P w K mg base CX0 1 f fd ["thing"] spWhole := by
  refine F.by scWhole (fun vs H Q E h => ?_) (fun cdv A outer s H vs Q E hr h => ?_)
  · obtain ⟨v, o, rfl, _⟩ := h
    rfl
  obtain ⟨v, o, rfl, h, q⟩ := h
  refine ⟨_,
    (jss_one (js_ret (je_and (je_fnB jc_isinst rfl m_isinstance PyProof.Rows.boot_isinstance (ja_c (jv 0) (ja_c (je_bltn (v := .ty "int") rfl m_int PyProof.Rows.boot_int rfl) ja_nil))) (je_one (je_not (je_fnB jc_isinst rfl m_isinstance PyProof.Rows.boot_isinstance (ja_c (jv 0) (ja_c (je_bltn (v := .ty "bool") rfl m_bool PyProof.Rows.boot_bool rfl) ja_nil)))))))), ?_⟩
  cases h with
  | int h => exact ⟨_, rfl, _, _, _, _, rfl, .int _, rfl, _, rfl, iteT ⟨_, rfl, _, _, _, _, rfl, .int _, rfl, _, rfl, q⟩⟩
  | tup h => exact ⟨_, rfl, _, _, _, _, rfl, .tup h, rfl, _, rfl, iteF q⟩
theorem scIn : FnScope ["number"] ["number"] (defScope sIn) := ⟨rfl, rfl, rfl, by decide +kernel, rfl, by decide +kernel, by decide +kernel⟩
theorem ok_in (F : Fun K "in_bounds" "in_bounds" sIn f fd) : FnOk P w K mg base CX0 1 f fd ["number"] spIn := by
  refine F.by scIn (fun vs H Q E h => ?_) (fun cdv A outer s H vs Q E hr h => ?_)
  · obtain ⟨i, rfl, _⟩ := h
    rfl
  obtain ⟨i, rfl, q⟩ := h
  refine ⟨_, (jss_one (js_ret (je_chain jo_lt jo_lt (je_neg (je_op jo_pow je_int je_int)) (jv 0) (je_op jo_pow je_int je_int)))), ?_⟩
  refine ⟨_, _, rfl, rfl, ⟨by decide, by decide, by decide⟩, _, rfl, _, rfl, _, _, rfl, rfl, ?_⟩
  rw [t30]
  by_cases c : -1000000000000000000000000000000 < i
  · refine ⟨_, rfl, itD c ?_⟩
    refine ⟨_, _, rfl, rfl, ⟨by decide, by decide, by decide⟩, _, _, rfl, rfl, ?_⟩
    rw [t30]
    have e : decide (-1000000000000000000000000000000 < i /\ i < 1000000000000000000000000000000) = decide (i < 1000000000000000000000000000000) := by simp [c]
    rw [e] at q
    exact q
  · refine ⟨_, rfl, itDN c ?_⟩
    have e : decide (-1000000000000000000000000000000 < i /\ i < 1000000000000000000000000000000) = false := by simp [c]
    rw [e] at q
    exact q
theorem scRes : FnScope ["word", "a", "b", "holds"] ["word", "a", "b"] (defScope sRes) := ⟨rfl, rfl, rfl, by decide +kernel, rfl, by decide +kernel, by decide +kernel⟩
theorem ok_res (F : Fun K "result_of" "result_of" sRes f fd) : FnOk P w K mg base CX0 1 f fd ["word", "a", "b"] spRes := by
  refine F.by scRes (fun vs H Q E h => ?_) (fun cdv A outer s H vs Q E hr h => ?_)
  · obtain ⟨w, i, j, rfl, _⟩ := h
    rfl
  obtain ⟨w, i, j, rfl, hi, hj, hz, q⟩ := h
  refine ⟨_,
    (jss_cons (js_if (jt_cmpR jo_eq (jv 0) je_str (nomark _)) (jss_one (js_ret (je_op jo_add (jv 1) (jv 2)))) jss_nil)
    (jss_cons (js_if (jt_cmpR jo_eq (jv 0) je_str (nomark _)) (jss_one (js_ret (je_op jo_sub (jv 1) (jv 2)))) jss_nil)
    (jss_cons (js_if (jt_cmpR jo_eq (jv 0) je_str (nomark _)) (jss_one (js_ret (je_op jo_mulB (jv 1) (jv 2)))) jss_nil)
    (jss_cons (js_if (jt_cmpR jo_eq (jv 0) je_str (nomark _)) (jss_one (js_ret (je_op jo_fdivB (jv 1) (jv 2)))) jss_nil)
    (jss_cons (js_if (jt_cmpR jo_eq (jv 0) je_str (nomark _)) (jss_one (js_ret (je_op jo_modN (jv 1) (jv 2)))) jss_nil)
    (jss_cons (js_set (i := 3) scRes.nd rfl (Or.inl rfl) (je_ifExp (jt_cmpR jo_eq (jv 0) je_str (nomark _)) (je_cmpR jo_lt (jv 1) (jv 2) (nomark _)) (je_cmpR jo_eq (jv 1) (jv 2) (nomark _))))
    (jss_one (js_ret (je_ifExp (jt_val (jv 3)) je_int je_int))))))))), ?_⟩
  unfold res at q
  have sE : ∀ a b : Str, (V.str a = V.str b) = (a = b) := fun a b => by simp
  refine ⟨_, rfl, rfl, _, rfl, ?_⟩
  by_cases c1 : w = "plus"
  · rw [if_pos c1] at q
    rw [if_pos (by simp [c1])]
    exact ⟨_, rfl, _, rfl, _, _, rfl, rfl, q⟩
  rw [if_neg c1] at q
  rw [if_neg (by simp [c1])]
  refine ⟨_, rfl, rfl, _, rfl, ?_⟩
  by_cases c2 : w = "minus"
  · rw [if_pos c2] at q
    rw [if_pos (by simp [c2])]
    exact ⟨_, rfl, _, rfl, _, _, rfl, rfl, q⟩
  rw [if_neg c2] at q
  rw [if_neg (by simp [c2])]
  refine ⟨_, rfl, rfl, _, rfl, ?_⟩
  by_cases c3 : w = "times"
  · rw [if_pos c3] at q
    rw [if_pos (by simp [c3])]
    exact ⟨_, rfl, _, rfl, _, _, rfl, rfl, ⟨hi.big, hj.big⟩, q⟩
  rw [if_neg c3] at q
  rw [if_neg (by simp [c3])]
  refine ⟨_, rfl, rfl, _, rfl, ?_⟩
  by_cases c4 : w = "over"
  · rw [if_pos c4] at q
    rw [if_pos (by simp [c4])]
    exact ⟨_, rfl, _, rfl, _, _, rfl, rfl, ⟨fun z => (hz z).1 c4, hj.big⟩, q⟩
  rw [if_neg c4] at q
  rw [if_neg (by simp [c4])]
  refine ⟨_, rfl, rfl, _, rfl, ?_⟩
  by_cases c5 : w = "rest"
  · rw [if_pos c5] at q
    rw [if_pos (by simp [c5])]
    exact ⟨_, rfl, _, rfl, _, _, rfl, rfl, (fun z => (hz z).2 c5), q⟩
  rw [if_neg c5] at q
  rw [if_neg (by simp [c5])]
  refine ⟨_, rfl, rfl, _, rfl, ?_⟩
  by_cases c6 : w = "less"
  · rw [if_pos c6] at q
    rw [if_pos (by simp [c6])]
    refine ⟨_, rfl, _, rfl, _, _, rfl, rfl, _, rfl, _, rfl, ?_⟩
    by_cases c7 : i < j
    · rw [if_pos c7] at q
      exact itD c7 q
    · rw [if_neg c7] at q
      exact itDN c7 q
  · rw [if_neg c6] at q
    rw [if_neg (by simp [c6])]
    refine ⟨_, rfl, _, rfl, rfl, _, rfl, _, rfl, ?_⟩
    by_cases c7 : i = j
    · rw [if_pos c7] at q
      rw [if_pos (by simp [c7])]
      exact q
    · rw [if_neg c7] at q
      rw [if_neg (by simp [c7])]
      exact q
theorem in_strs {x : Str} : ∀ {l : List Str}, inV (.str x) (l.map V.str) = decide (x ∈ l)
  | [] => rfl
  | y :: l => by
    have ih := in_strs (x := x) (l := l)
    unfold inV at ih ⊢
    rw [List.map_cons, List.any_cons, ih]
    show ((y == x) || decide (x ∈ l)) = _
    by_cases e : y = x
    · subst e; simp
    · have e' : (y == x) = false := beq_eq_false_iff_ne.mpr e
      have e2 : ¬ x = y := fun z => e z.symm
      simp [e', e2]
theorem scReck : FnScope ["word", "a", "b", "result"] ["word", "a", "b"] (defScope sReck) := ⟨rfl, rfl, rfl, by decide +kernel, rfl, by decide +kernel, by decide +kernel⟩
theorem fw_none {w : Str} {a b : Option Int} (h : ¬ (a.isSome = true /\ b.isSome = true)) : fw w a b = "nonumber" := by
  cases a with
  | none => rfl
  | some i =>
    cases b with
    | none => rfl
    | some j => exact absurd ⟨rfl, rfl⟩ h
theorem raised {C : Addr} {H : Hp} {E : XK} {v : V} (hE : ∀ d H', Same H H' -> H' d = some (XD d [("word", v)]) -> E (.ref C) (some d) H') (e : Addr) (he : H e = none) :
    spFault C [.ref e, v] (upd H e (XO e C none)) (fun u H2 => u = .non /\ ∃ dx, H2 e = some (XO e C dx) /\ E (.ref C) dx (drp H2 e)) E0 := by
  refine ⟨e, v, rfl, upd_same, fun d hd hne => ⟨rfl, some d, upd_same, ?_⟩⟩
  have hd' : H d = none := by rw [upd_ne hne] at hd; exact hd
  refine hE d _ (fun b u hb => ?_) ?_
  · rw [drp_ne (ne_of_none hb he), upd_ne (ne_of_none hb he), upd_ne (ne_of_none hb hd'), upd_ne (ne_of_none hb he)]
    exact hb
  · rw [drp_ne hne, upd_ne hne]
    exact upd_same
theorem ok_reck (F : Fun K "reckoned" "reckoned" sReck f fd) (GX : Xa P w K mg base 1 "Fault" C ["self", "word"] (spFault C)) (GW : Ca P w K mg base CX0 1 "is_whole" ["thing"] spWhole) (GR : Ca P w K mg base CX0 1 "result_of" ["word", "a", "b"] spRes) (GI : Ca P w K mg base CX0 1 "in_bounds" ["number"] spIn) : FnOk P w K mg base (CXf P w) 3 f fd ["word", "a", "b"] (spReck C) := by
  refine F.byx scReck (fun vs H Q E h => ?_) (fun cdv A outer s H vs Q E hr h => ?_)
  · obtain ⟨w, x, y, a, b, rfl, _⟩ := h
    rfl
  obtain ⟨w, x, y, a, b, rfl, hx, hy, q1, q2⟩ := h
  have hr1 : Room 1 _ := hr.mono (by decide)
  refine ⟨_,
    (jss_cons (js_if (jW.pt (jw_or (jt_not (jt_val (je_ca GW.upx hr1 rfl passx (ja_c (jv 1) ja_nil)))) (jw_or1 (jt_not (jt_val (je_ca GW.upx hr1 rfl passx (ja_c (jv 2) ja_nil)))))))
      (jss_one (js_raise GX hr rfl throwx (ja_c je_str ja_nil))) jss_nil)
    (jss_cons (js_if (jW.pt (jw_and (jt_cmpR jo_eq (jv 2) je_int (nomark _)) (jw_and1 (jt_cmpR jo_in_seq (jv 0) (je_tup (ja_c je_str (ja_c je_str ja_nil))) (by with_unfolding_all rfl)))))
      (jss_one (js_raise GX hr rfl throwx (ja_c je_str ja_nil))) jss_nil)
    (jss_cons (js_set (i := 3) scReck.nd rfl (Or.inl rfl) (je_ca GR.upx hr1 rfl passx (ja_c (jv 0) (ja_c (jv 1) (ja_c (jv 2) ja_nil)))))
    (jss_cons (js_if (jt_not (jt_val (je_ca GI.upx hr1 rfl passx (ja_c (jv 3) ja_nil))))
      (jss_one (js_raise GX hr rfl throwx (ja_c je_str ja_nil))) jss_nil)
    (jss_one (js_ret (jv 3))))))), ?_⟩
  have bad : ∀ (z : Str) (H' : Hp), Same H H' -> fw w a b = z -> z ≠ "" -> (tRaise C (spFault C) E (tCons (tC (.str z)) tNil) : TS) { nx := fun _ H' => Q .non H', rt := Q } (start ["word", "a", "b", "result"] [.str w, x, y]) H' := fun z H' s' e hz => by
    subst e
    refine ⟨by show 1 <= sizeLine; decide, fun e he => raised (fun d H2 s2 hd => q2 hz d H2 (s'.trans s2) hd) e he⟩
  refine ⟨_, rfl, x, a, rfl, hx, _, rfl, ?_⟩
  cases hx with
  | tup hx => exact iteT (iteT (bad "nonumber" H (Same.refl _) (fw_none (by simp)) (by decide)))
  | @int i hi =>
    refine iteF ⟨_, rfl, y, b, rfl, hy, _, rfl, ?_⟩
    cases hy with
    | tup hy => exact iteT (bad "nonumber" H (Same.refl _) (fw_none (by simp)) (by decide))
    | @int j hj =>
      refine iteF ⟨_, rfl, rfl, _, rfl, ?_⟩
      suffices tail : ∀ (H1 : Hp), Same H H1 -> ¬ (j = 0 /\ (w = "over" \/ w = "rest")) -> (tSeq _ _ : TS) { nx := fun _ H' => Q .non H', rt := Q } [some (.str w), some (.int i), some (.int j), none] H1 by
        by_cases hz : j = 0
        · refine ifT (by simp [hz]) ?_
          refine ⟨_, rfl, by show 2 <= sizeLine; decide, fun p hp => ⟨p, _, rfl, .inr (SqT.of upd_same), rfl, rfl, _, rfl, ?_⟩⟩
          have e2 : inV (.str w) [.str "over", .str "rest"] = decide (w ∈ (["over", "rest"] : List Str)) := in_strs (l := ["over", "rest"])
          have s1 := same_new (o := .tup [.str "over", .str "rest"]) hp
          by_cases hw : w = "over" \/ w = "rest"
          · refine ifT (e2.trans (decide_eq_true (by simpa using hw))) ?_
            exact bad "nought" _ s1 (by rw [fw_ss, if_pos ⟨hz, hw⟩]) (by decide)
          · refine ifF (e2.trans (decide_eq_false (by simpa using hw))) ?_
            exact tail _ s1 fun z => hw z.2
        · refine ifF (by simp [hz]) ?_
          exact iteF (tail H (Same.refl _) fun z => hz z.1)
      intro H1 s1 hn
      refine ⟨_, rfl, _, rfl, _, rfl, w, i, j, rfl, hi, hj, fun z => ⟨fun y => hn ⟨z, .inl y⟩, fun y => hn ⟨z, .inr y⟩⟩, ?_⟩
      refine ⟨_, rfl, _, rfl, _, rfl, ?_⟩
      by_cases c : -1000000000000000000000000000000 < res w i j /\ res w i j < 1000000000000000000000000000000
      · rw [decide_eq_true c]
        refine iteF ⟨_, rfl, q1 ?_ i j H1 s1 rfl rfl⟩
        rw [fw_ss]
        rw [if_neg hn, if_pos c]
      · rw [decide_eq_false c]
        refine iteT ?_
        refine ⟨by show 1 <= sizeLine; decide, fun e he => ?_⟩
        have e1 : fw w (some i) (some j) = "great" := by rw [fw_ss, if_neg hn, if_neg c]
        rw [e1] at q2
        exact raised (fun d H2 s2 hd => q2 (by decide) d H2 (s1.trans s2) hd) e he
end
end K31
namespace K11
open PySem PySem.Spec PyProof.Rows Builtin Builtin.Str
abbrev cl (z : Str) : List Nat := z.cps.toList
theorem cl_len (z : Str) : (cl z).length = z.length := by simp [Str.length]
theorem cl_app (x y : Str) : cl (x ++ y) = cl x ++ cl y := by
  show (x.cps ++ y.cps).toList = _
  simp
end K11
namespace K31
open PySem L2 K11
def WORDS : List Str := ["plus", "minus", "times", "over", "rest", "less", "same"]
def spCell (K : PySem.W.Frag) : Sp := fun vs H Q _ => ∃ (a : Addr) (ns : List Int) (k : Nat), vs = [.ref a, .int (k : Nat)] /\ SqL K H a (ns.map V.int) /\ ∀ c : Int, Q (.int c) H
def spNum : Sp := fun vs H Q _ => ∃ c : Int, vs = [.int c] /\ ∀ i : Int, Sm i -> Q (.int i) H
def spEdge : Sp := fun vs H Q _ => ∃ (w : Str) (c o : Int), vs = [.str w, .int c, .int o] /\ ∀ (H' : Hp) (p : Addr) (i j : Int), Same H H' -> H' p = some (.tup [.int i, .int j]) -> Sm i -> Sm j -> Q (.ref p) H'
def spPair (K : PySem.W.Frag) : Sp := fun vs H Q _ => ∃ (a : Addr) (ns : List Int) (w : Str), vs = [.ref a, .str w] /\ SqL K H a (ns.map V.int) /\ ∀ (H' : Hp) (p : Addr) (x y : V) (i j : Option Int), Same H H' -> H' p = some (.tup [x, y]) -> Nu H' x i -> Nu H' y j -> Q (.ref p) H'
def spFlt : Sp := fun vs H Q _ => ∃ (w : Str) (x y : V) (a b : Option Int), vs = [.str w, x, y] /\ Nu H x a /\ Nu H y b /\ Q (.str (fw w a b)) H
def spNR : Sp := fun vs H Q _ => ∃ (w : Str) (i j : Int), vs = [.str w, .int i, .int j, .int (res w i j)] /\ w ∈ WORDS /\ Sm i /\ Sm j /\ ¬ (j = 0 /\ (w = "over" \/ w = "rest")) /\ Q (.bl true) H
theorem t10 : ∀ k : Fin 30, PySem.intText? (("1" : Str) ++ Txt.mul "0" ((k : Nat) : Int)) = some ((10 : Int) ^ (k : Nat)) := by decide +kernel
theorem t10' {k : Int} (h0 : 0 <= k) (h : k < 30) : PySem.intText? (("1" : Str) ++ Txt.mul "0" k) = some ((10 : Int) ^ k.toNat) := by
  have e := t10 ⟨k.toNat, by omega⟩
  have e2 : ((k.toNat : Nat) : Int) = k := Int.toNat_of_nonneg h0
  simp only [e2] at e
  exact e
theorem pow_le {k : Int} (h0 : 0 <= k) (h : k < 30) : 1 <= (10 : Int) ^ k.toNat /\ (10 : Int) ^ k.toNat <= 100000000000000000000000000000 := by
  have key : ∀ k : Fin 30, 1 <= (10 : Int) ^ (k : Nat) /\ (10 : Int) ^ (k : Nat) <= 100000000000000000000000000000 := by decide +kernel
  exact key ⟨k.toNat, by omega⟩
theorem sm_div {i q r J : Int} (h1 : 1 <= J) (r0 : 0 <= r) (r1 : r < J) (e : i = J * q + r) (hi : Sm i) : Sm q := by
  unfold Sm at hi ⊢
  refine ⟨?_, ?_⟩
  · apply Int.not_le.mp
    intro hq
    have h2 : 0 <= -(q + 1) := by omega
    have h3 := Int.mul_le_mul_of_nonneg_right h1 h2
    have h4 : J * -(q + 1) = -(J * q) - J := by rw [Int.mul_neg, Int.mul_add, Int.mul_one]; omega
    rw [h4] at h3
    omega
  · apply Int.not_le.mp
    intro hq
    have h2 : 0 <= q := by omega
    have h3 := Int.mul_le_mul_of_nonneg_right h1 h2
    omega
theorem mod_parts {i j : Int} (hj : j ≠ 0) : i = j * i.fdiv j + i.fmod j /\ ((0 < j -> 0 <= i.fmod j /\ i.fmod j < j) /\ (j < 0 -> j < i.fmod j /\ i.fmod j <= 0)) := by
  refine ⟨(Int.mul_fdiv_add_fmod i j).symm, fun h => ⟨Int.fmod_nonneg_of_pos i h, Int.fmod_lt_of_pos i h⟩, fun h => ?_⟩
  have e : i.fmod j = -((-i).fmod (-j)) := by rw [Int.neg_fmod_neg]; omega
  have a := Int.fmod_nonneg_of_pos (-i) (show 0 < -j by omega)
  have b := Int.fmod_lt_of_pos (-i) (show 0 < -j by omega)
  omega
theorem sm_fdiv {i j : Int} (hj : j ≠ 0) (hi : Sm i) : Sm (i.fdiv j) := by
  obtain ⟨e, h1, h2⟩ := mod_parts (i := i) hj
  by_cases c : 0 < j
  · exact sm_div (J := j) (by omega) (h1 c).1 (h1 c).2 e hi
  · have c' : j < 0 := by omega
    refine sm_div (i := -i) (J := -j) (r := -(i.fmod j)) (by omega) (by have := (h2 c').2; omega) (by have := (h2 c').1; omega) ?_ (by unfold Sm at hi ⊢; omega)
    rw [Int.neg_mul]
    omega
theorem sm_fmod {i j : Int} (hj : j ≠ 0) (hs : Sm j) : Sm (i.fmod j) := by
  obtain ⟨_, h1, h2⟩ := mod_parts (i := i) hj
  unfold Sm at hs ⊢
  by_cases c : 0 < j
  · have := h1 c; omega
  · have := h2 (by omega); omega
theorem sm_res {w : Str} {i j : Int} (hi : Sm i) (hj : Sm j) (c1 : w ≠ "plus") (c2 : w ≠ "minus") (c3 : w ≠ "times") (hn : ¬ (j = 0 /\ (w = "over" \/ w = "rest"))) : Sm (res w i j) := by
  unfold res
  rw [if_neg c1, if_neg c2, if_neg c3]
  by_cases c4 : w = "over"
  · rw [if_pos c4]
    exact sm_fdiv (fun z => hn ⟨z, .inl c4⟩) hi
  rw [if_neg c4]
  by_cases c5 : w = "rest"
  · rw [if_pos c5]
    exact sm_fmod (fun z => hn ⟨z, .inr c5⟩) hj
  rw [if_neg c5]
  unfold Sm
  split <;> split <;> omega
section
variable {P : Program} {w : World} {K : PySem.W.Frag} {mg : Str -> Option Value} {base : Heap} {f R C : Addr} {fd : FuncData}
theorem scCell : FnScope ["_law_script", "_law_k"] ["_law_script", "_law_k"] (defScope sCell) := ⟨rfl, rfl, rfl, by decide +kernel, rfl, by decide +kernel, by decide +kernel⟩
theorem ok_cell (F : Fun K "_law_cell" "_law_cell" sCell f fd) (m_len : mg "len" = none) : FnOk P w K mg base CX0 1 f fd ["_law_script", "_law_k"] (spCell K) := by
  refine F.by scCell (fun vs H Q E h => ?_) (fun cdv A outer s H vs Q E hr h => ?_)
  · obtain ⟨a, ns, k, rfl, _⟩ := h
    rfl
  obtain ⟨a, ns, k, rfl, hS, q⟩ := h
  refine ⟨_,
    (jss_cons (js_if (jt_cmpR jo_lt (jv 1) (je_fnB jc_len_seq rfl m_len PySem.boot_len (ja_c (jv 0) ja_nil)) (nomark _))
      (jss_one (js_ret (je_ix jx_list (jv 0) (jv 1) (fun _ _ => rfl)))) jss_nil)
    (jss_one (js_ret je_int))), ?_⟩
  refine ⟨_, rfl, _, rfl, _, _, rfl, .inl hS, _, _, rfl, rfl, _, rfl, ?_⟩
  refine ite2 (fun c => ?_) (fun c => q 0)
  rw [decide_eq_true_eq, List.length_map] at c
  have hi : k < ns.length := by omega
  have hx : (ns.map V.int)[k]? = some (.int ns[k]) := by rw [List.getElem?_map, List.getElem?_eq_getElem hi]; rfl
  exact ⟨_, rfl, _, rfl, a, _, _, _, rfl, rfl, hS, atI_nat hx, q _⟩
theorem scNum : FnScope ["_law_cell_here"] ["_law_cell_here"] (defScope sNum) := ⟨rfl, rfl, rfl, by decide +kernel, rfl, by decide +kernel, by decide +kernel⟩
theorem ok_num (F : Fun K "_law_number" "_law_number" sNum f fd) : FnOk P w K mg base CX0 1 f fd ["_law_cell_here"] spNum := by
  refine F.by scNum (fun vs H Q E h => ?_) (fun cdv A outer s H vs Q E hr h => ?_)
  · obtain ⟨c, rfl, _⟩ := h
    rfl
  obtain ⟨c, rfl, q⟩ := h
  refine ⟨_,
    (jss_cons (js_if (jt_cmpR jo_eq (je_op jo_mod (jv 0) je_int) je_int (nomark _))
      (jss_one (js_ret (je_op jo_sub (je_op jo_mod (je_op jo_fdiv (jv 0) je_int) (je_op jo_sub (je_op jo_mul je_int (je_op jo_pow je_int je_int)) je_int)) (je_op jo_sub (je_op jo_pow je_int je_int) je_int)))) jss_nil)
    (jss_cons (js_if (jt_cmpR jo_eq (je_op jo_mod (jv 0) je_int) je_int (nomark _))
      (jss_one (js_ret (je_op jo_sub (je_op jo_mod (je_op jo_fdiv (jv 0) je_int) je_int) je_int))) jss_nil)
    (jss_one (js_ret (je_op jo_sub (je_op jo_mod (je_op jo_fdiv (jv 0) je_int) (je_op jo_add (je_op jo_mul je_int (je_op jo_pow je_int je_int)) je_int)) (je_op jo_pow je_int je_int)))))), ?_⟩
  have p3 : CPow 10 30 := ⟨by decide, by decide, by decide⟩
  have p15 : CPow 10 15 := ⟨by decide, by decide, by decide⟩
  refine ⟨_, rfl, _, _, rfl, rfl, (by show (0 : Int) < 3; decide), rfl, _, rfl, ite2 (fun _ => ?_) (fun _ => ?_)⟩
  · refine ⟨_, rfl, _, _, rfl, rfl, ⟨by decide, by decide⟩, _, _, rfl, rfl, p3, _, _, rfl, rfl, .inl ⟨by decide, by decide⟩, _, _, rfl, rfl, _, _, rfl, rfl, (by rw [t30]; show (0 : Int) < _; decide), _, _, rfl, rfl, p3, _, _, rfl, rfl, _, _, rfl, rfl, q _ ?_⟩
    rw [t30]
    have a := Int.emod_nonneg (c / 3) (show (2 * 1000000000000000000000000000000 - 1 : Int) ≠ 0 by decide)
    have b := Int.emod_lt_of_pos (c / 3) (show (0 : Int) < 2 * 1000000000000000000000000000000 - 1 by decide)
    unfold Sm
    omega
  · refine ⟨_, rfl, _, _, rfl, rfl, (by show (0 : Int) < 3; decide), rfl, _, rfl, ite2 (fun _ => ?_) (fun _ => ?_)⟩
    · refine ⟨_, rfl, _, _, rfl, rfl, ⟨by decide, by decide⟩, _, _, rfl, rfl, (by show (0 : Int) < 19; decide), _, _, rfl, rfl, q _ ?_⟩
      unfold Sm
      omega
    · refine ⟨_, rfl, _, _, rfl, rfl, ⟨by decide, by decide⟩, _, _, rfl, rfl, p15, _, _, rfl, rfl, .inl ⟨by decide, by decide⟩, _, _, rfl, rfl, _, _, rfl, rfl, (by rw [t15]; show (0 : Int) < _; decide), _, _, rfl, rfl, p15, _, _, rfl, rfl, q _ ?_⟩
      rw [t15]
      have a := Int.emod_nonneg (c / 3) (show (2 * 1000000000000000 + 1 : Int) ≠ 0 by decide)
      have b := Int.emod_lt_of_pos (c / 3) (show (0 : Int) < 2 * 1000000000000000 + 1 by decide)
      unfold Sm
      omega
theorem scFlt : FnScope ["_law_word", "_law_a", "_law_b", "_law_far"] ["_law_word", "_law_a", "_law_b"] (defScope sFlt) := ⟨rfl, rfl, rfl, by decide +kernel, rfl, by decide +kernel, by decide +kernel⟩
theorem ok_flt (F : Fun K "_law_fault" "_law_fault" sFlt f fd) (m_isinstance : mg "isinstance" = none) (m_tuple : mg "tuple" = none) (m_abs : mg "abs" = none) : FnOk P w K mg base CX0 1 f fd ["_law_word", "_law_a", "_law_b"] spFlt := by
  refine F.by scFlt (fun vs H Q E h => ?_) (fun cdv A outer s H vs Q E hr h => ?_)
  · obtain ⟨w, x, y, a, b, rfl, _⟩ := h
    rfl
  obtain ⟨w, x, y, a, b, rfl, hx, hy, q⟩ := h
  refine ⟨_,
    (jss_cons (js_if (jW.pt (jw_or (jt_val (je_fnB jc_isinst rfl m_isinstance PyProof.Rows.boot_isinstance (ja_c (jv 1) (ja_c (je_bltn (v := .ty "tuple") rfl m_tuple PyProof.Rows.boot_tuple rfl) ja_nil)))) (jw_or1 (jt_val (je_fnB jc_isinst rfl m_isinstance PyProof.Rows.boot_isinstance (ja_c (jv 2) (ja_c (je_bltn (v := .ty "tuple") rfl m_tuple PyProof.Rows.boot_tuple rfl) ja_nil)))))))
      (jss_one (js_ret je_str)) jss_nil)
    (jss_cons (js_if (jW.pt (jw_and (jt_cmpR jo_eq (jv 2) je_int (nomark _)) (jw_and1 (jW.pt (jw_or (jt_cmpR jo_eq (jv 0) je_str (nomark _)) (jw_or1 (jt_cmpR jo_eq (jv 0) je_str (nomark _))))))))
      (jss_one (js_ret je_str)) jss_nil)
    (jss_cons (js_set (i := 3) scFlt.nd rfl (Or.inl rfl) je_int)
    (jss_cons (js_if (jt_cmpR jo_eq (jv 0) je_str (nomark _))
      (jss_one (js_set (i := 3) scFlt.nd rfl (Or.inl rfl) (je_op jo_add (jv 1) (jv 2)))) jss_nil)
    (jss_cons (js_if (jt_cmpR jo_eq (jv 0) je_str (nomark _))
      (jss_one (js_set (i := 3) scFlt.nd rfl (Or.inl rfl) (je_op jo_sub (jv 1) (jv 2)))) jss_nil)
    (jss_cons (js_if (jt_cmpR jo_eq (jv 0) je_str (nomark _))
      (jss_one (js_set (i := 3) scFlt.nd rfl (Or.inl rfl) (je_op jo_mulB (jv 1) (jv 2)))) jss_nil)
    (jss_cons (js_if (jt_cmpR jo_ge (je_fnB jc_abs rfl m_abs PyProof.Rows.boot_abs (ja_c (jv 3) ja_nil)) (je_op jo_pow je_int je_int) (nomark _))
      (jss_one (js_ret je_str)) jss_nil)
    (jss_one (js_ret je_str))))))))), ?_⟩
  have p3 : CPow 10 30 := ⟨by decide, by decide, by decide⟩
  cases hx with
  | tup hx => exact ⟨_, rfl, _, _, _, _, rfl, .tup hx, rfl, _, rfl, iteT (iteT q)⟩
  | @int i hi =>
    refine ⟨_, rfl, _, _, _, _, rfl, .int _, rfl, _, rfl, iteF ?_⟩
    cases hy with
    | tup hy => exact ⟨_, rfl, _, _, _, _, rfl, .tup hy, rfl, _, rfl, iteT q⟩
    | @int j hj =>
      refine ⟨_, rfl, _, _, _, _, rfl, .int _, rfl, _, rfl, iteF ?_⟩
      rw [fw_ss] at q
      suffices rest : (¬ (j = 0 /\ (w = "over" \/ w = "rest"))) -> (tSeq _ _ : TS) { nx := fun _ H' => Q .non H', rt := Q } [some (.str w), some (.int i), some (.int j), none] H by
        refine ⟨_, rfl, rfl, _, rfl, ?_⟩
        by_cases hz : j = 0
        · refine ifT (by simp [hz]) ⟨_, rfl, rfl, _, rfl, ?_⟩
          by_cases c4 : w = "over"
          · refine ifT (by simp [c4]) (iteT ?_)
            rw [if_pos ⟨hz, .inl c4⟩] at q
            exact q
          refine ifF (by simp [c4]) ⟨_, rfl, rfl, _, rfl, ?_⟩
          by_cases c5 : w = "rest"
          · refine ifT (by simp [c5]) ?_
            rw [if_pos ⟨hz, .inr c5⟩] at q
            exact q
          · exact ifF (by simp [c5]) (rest fun z => z.2.elim c4 c5)
        · exact ifF (by simp [hz]) (iteF (rest fun z => hz z.1))
      intro hn
      rw [if_neg hn] at q
      suffices tail : ∀ far : Int, ((-1000000000000000000000000000000 < res w i j /\ res w i j < 1000000000000000000000000000000) ↔ (-1000000000000000000000000000000 < far /\ far < 1000000000000000000000000000000)) -> (tSeq _ _ : TS) { nx := fun _ H' => Q .non H', rt := Q } [some (.str w), some (.int i), some (.int j), some (.int far)] H by
        refine ⟨_, rfl, rfl, _, rfl, ?_⟩
        by_cases c1 : w = "plus"
        · refine ifT (by simp [c1]) ⟨_, rfl, _, rfl, _, _, rfl, rfl, _, rfl, rfl, _, rfl, ifF (by simp [c1]; decide) ⟨_, rfl, rfl, _, rfl, ifF (by simp [c1]; decide) (tail _ ?_)⟩⟩
          rw [show res w i j = i + j from by unfold res; rw [if_pos c1]]
        refine ifF (by simp [c1]) ⟨_, rfl, rfl, _, rfl, ?_⟩
        by_cases c2 : w = "minus"
        · refine ifT (by simp [c2]) ⟨_, rfl, _, rfl, _, _, rfl, rfl, _, rfl, rfl, _, rfl, ifF (by simp [c2]; decide) (tail _ ?_)⟩
          rw [show res w i j = i - j from by unfold res; rw [if_neg c1, if_pos c2]]
        refine ifF (by simp [c2]) ⟨_, rfl, rfl, _, rfl, ?_⟩
        by_cases c3 : w = "times"
        · refine ifT (by simp [c3]) ⟨_, rfl, _, rfl, _, _, rfl, rfl, ⟨hi.big, hj.big⟩, tail _ ?_⟩
          rw [show res w i j = i * j from by unfold res; rw [if_neg c1, if_neg c2, if_pos c3]]
        refine ifF (by simp [c3]) (tail _ ?_)
        have h := sm_res hi hj c1 c2 c3 hn
        exact ⟨fun _ => by decide, fun _ => h⟩
      intro far hf
      refine ⟨_, rfl, _, rfl, _, _, rfl, rfl, p3, _, _, rfl, rfl, _, rfl, ?_⟩
      rw [t30]
      by_cases c : (-1000000000000000000000000000000 < far /\ far < 1000000000000000000000000000000)
      · rw [if_pos (hf.mpr c)] at q
        refine ifF (decide_eq_false (by split <;> omega)) q
      · rw [if_neg fun z => c (hf.mp z)] at q
        refine ifT (decide_eq_true (by split <;> omega)) q
end
end K31
namespace K31
open PySem L2 K11
section
variable {P : Program} {w : World} {K : PySem.W.Frag} {mg : Str -> Option Value} {base : Heap} {f R C : Addr} {fd : FuncData}
theorem scPair : FnScope ["_law_script", "_law_word", "_law_a", "_law_b", "_law_some", "_law_odd", "_law_way"] ["_law_script", "_law_word"] (defScope sPair) := ⟨rfl, rfl, rfl, by decide +kernel, rfl, by decide +kernel, by decide +kernel⟩
theorem ok_pair (F : Fun K "_law_pair" "_law_pair" sPair f fd) (GC : Ca P w K mg base CX0 1 "_law_cell" ["_law_script", "_law_k"] (spCell K)) (GN : Ca P w K mg base CX0 1 "_law_number" ["_law_cell_here"] spNum) (GE : Ca P w K mg base CX0 1 "_law_edge" ["_law_word", "_law_cell_here", "_law_other"] spEdge) : FnOk P w K mg base CX0 2 f fd ["_law_script", "_law_word"] (spPair K) := by
  refine F.by scPair (fun vs H Q E h => ?_) (fun cdv A outer s H vs Q E hr h => ?_)
  · obtain ⟨a, ns, w, rfl, _⟩ := h
    rfl
  obtain ⟨a, ns, w, rfl, hS, q⟩ := h
  refine ⟨_,
    (jss_cons (js_set (i := 2) scPair.nd rfl (Or.inl rfl) (je_ca GN hr rfl pass0 (ja_c (je_ca GC hr rfl pass0 (ja_c (jv 0) (ja_c je_int ja_nil))) ja_nil)))
    (jss_cons (js_set (i := 3) scPair.nd rfl (Or.inl rfl) (je_ca GN hr rfl pass0 (ja_c (je_ca GC hr rfl pass0 (ja_c (jv 0) (ja_c je_int ja_nil))) ja_nil)))
    (jss_cons (js_if (jt_cmpR jo_eq (je_op jo_mod (je_ca GC hr rfl pass0 (ja_c (jv 0) (ja_c je_int ja_nil))) je_int) je_int (nomark _))
      (jss_one (js_asg (je_ca GE hr rfl pass0 (ja_c (jv 1) (ja_c (je_ca GC hr rfl pass0 (ja_c (jv 0) (ja_c je_int ja_nil))) (ja_c (je_ca GC hr rfl pass0 (ja_c (jv 0) (ja_c je_int ja_nil))) ja_nil)))) (jg_tup rfl (jgs_cons (jg_name (i := 2) scPair.nd rfl (Or.inl rfl)) (jgs_cons (jg_name (i := 3) scPair.nd rfl (Or.inl rfl)) jgs_nil))))) jss_nil)
    (jss_cons (js_set (i := 4) scPair.nd rfl (Or.inl rfl) (je_lst (ja_c (je_tup (ja_c je_str (ja_c (je_tup ja_nil) ja_nil))) (ja_c (je_tup (ja_c je_str (ja_c (je_tup ja_nil) ja_nil))) (ja_c (je_tup (ja_c je_str (ja_c (je_tup (ja_c (jv 2) (ja_c (je_tup (ja_c je_str (ja_c (je_tup ja_nil) ja_nil))) ja_nil))) ja_nil))) (ja_c (je_tup (ja_c je_str (ja_c (je_tup (ja_c (jv 3) ja_nil)) ja_nil))) ja_nil))))))
    (jss_cons (js_set (i := 5) scPair.nd rfl (Or.inl rfl) (je_ix jx_list (jv 4) (je_op jo_mod (je_ca GC hr rfl pass0 (ja_c (jv 0) (ja_c je_int ja_nil))) je_int) (fun _ _ => rfl)))
    (jss_cons (js_set (i := 6) scPair.nd rfl (Or.inl rfl) (je_op jo_mod (je_ca GC hr rfl pass0 (ja_c (jv 0) (ja_c je_int ja_nil))) je_int))
    (jss_cons (js_if (jW.pt (jw_or (jt_cmpR jo_eq (jv 6) je_int (nomark _)) (jw_or1 (jt_cmpR jo_eq (jv 6) je_int (nomark _)))))
      (jss_one (js_set (i := 2) scPair.nd rfl (Or.inl rfl) (jv 5))) jss_nil)
    (jss_cons (js_if (jW.pt (jw_or (jt_cmpR jo_eq (jv 6) je_int (nomark _)) (jw_or1 (jt_cmpR jo_eq (jv 6) je_int (nomark _)))))
      (jss_one (js_set (i := 3) scPair.nd rfl (Or.inl rfl) (jv 5))) jss_nil)
    (jss_one (js_ret (je_tup (ja_c (jv 2) (ja_c (jv 3) ja_nil))))))))))))), ?_⟩
  suffices rest : ∀ (i j : Int) (H1 : Hp), Same H H1 -> Sm i -> Sm j -> (tSeq _ _ : TS) { nx := fun _ H' => Q .non H', rt := Q } [some (.ref a), some (.str w), some (.int i), some (.int j), none, none, none] H1 by
    refine ⟨_, rfl, a, ns, 1, rfl, hS, fun c1 => ⟨c1, rfl, fun i hi => ?_⟩⟩
    refine ⟨_, rfl, a, ns, 2, rfl, hS, fun c2 => ⟨c2, rfl, fun j hj => ?_⟩⟩
    refine ⟨_, rfl, a, ns, 3, rfl, hS, fun c3 => ⟨_, _, rfl, rfl, (by show (0 : Int) < 4; decide), rfl, _, rfl, ite2 (fun _ => ?_) (fun _ => rest i j H (Same.refl _) hi hj)⟩⟩
    exact ⟨_, rfl, _, rfl, a, ns, 1, rfl, hS, fun c4 => ⟨_, rfl, a, ns, 4, rfl, hS, fun c5 => ⟨w, c4, c5, rfl, fun H' p i j s' hp hi hj => ⟨p, _, rfl, SqT.of hp, rfl, _, _, rfl, _, _, rfl, rfl, rest i j H' s' hi hj⟩⟩⟩⟩
  intro i j H1 s1 hi hj
  refine ⟨by show 0 <= sizeLine; decide, fun p1 h1 => ⟨by show 2 <= sizeLine; decide, fun p2 h2 => ⟨by show 0 <= sizeLine; decide, fun p3 h3 => ⟨by show 2 <= sizeLine; decide, fun p4 h4 => ⟨_, rfl, by show 0 <= sizeLine; decide, fun p5 h5 => ⟨by show 2 <= sizeLine; decide, fun p6 h6 => ⟨by show 2 <= sizeLine; decide, fun p7 h7 => ⟨by show 2 <= sizeLine; decide, fun p8 h8 => ⟨_, rfl, by show 1 <= sizeLine; decide, fun p9 h9 => ⟨by show 2 <= sizeLine; decide, fun p10 h10 => ⟨by show 4 <= sizeLine; decide, fun l h11 => ?_⟩⟩⟩⟩⟩⟩⟩⟩⟩⟩⟩
  have t2 := upd_same (H := upd H1 p1 (.tup [])) (a := p2) (o := .tup [.str "nil", .ref p1])
  have u2 := (same_new h1 (.tup [])).new (o := .tup [.str "nil", .ref p1]) h2
  generalize upd (upd H1 p1 (.tup [])) p2 (.tup [.str "nil", .ref p1]) = H2 at *
  have t4 := upd_same (H := upd H2 p3 (.tup [])) (a := p4) (o := .tup [.str "func f 0", .ref p3])
  have u4 := (same_new h3 (.tup [])).new (o := .tup [.str "func f 0", .ref p3]) h4
  generalize upd (upd H2 p3 (.tup [])) p4 (.tup [.str "func f 0", .ref p3]) = H4 at *
  have t8 := upd_same (H := upd (upd (upd H4 p5 (.tup [])) p6 (.tup [.str "nil", .ref p5])) p7 (.tup [.int i, .ref p6])) (a := p8) (o := .tup [.str "some", .ref p7])
  have u8 := (((same_new h5 (.tup [])).new (o := .tup [.str "nil", .ref p5]) h6).new (o := .tup [.int i, .ref p6]) h7).new (o := .tup [.str "some", .ref p7]) h8
  generalize upd (upd (upd (upd H4 p5 (.tup [])) p6 (.tup [.str "nil", .ref p5])) p7 (.tup [.int i, .ref p6])) p8 (.tup [.str "some", .ref p7]) = H8 at *
  have t10 := upd_same (H := upd H8 p9 (.tup [.int j])) (a := p10) (o := .tup [.str "func g 1", .ref p9])
  have u10 := (same_new h9 (.tup [.int j])).new (o := .tup [.str "func g 1", .ref p9]) h10
  generalize upd (upd H8 p9 (.tup [.int j])) p10 (.tup [.str "func g 1", .ref p9]) = H10 at *
  have tl := upd_same (H := H10) (a := l) (o := .lst [.ref p2, .ref p4, .ref p8, .ref p10])
  have ul := same_new (o := .lst [.ref p2, .ref p4, .ref p8, .ref p10]) h11
  have sF : Same H _ := ((((s1.trans u2).trans u4).trans u8).trans u10).trans ul
  replace t2 := ul _ _ (u10 _ _ (u8 _ _ (u4 _ _ t2)))
  replace t4 := ul _ _ (u10 _ _ (u8 _ _ t4))
  replace t8 := ul _ _ (u10 _ _ t8)
  replace t10 := ul _ _ t10
  show (tSeq _ _ : TS) _ _ (upd H10 l (.lst [.ref p2, .ref p4, .ref p8, .ref p10]))
  generalize upd H10 l (.lst [.ref p2, .ref p4, .ref p8, .ref p10]) = HF at *
  clear u2 u4 u8 u10 ul h1 h2 h3 h4 h5 h6 h7 h8 h9 h10 h11
  refine ⟨_, rfl, _, rfl, a, ns, 6, rfl, sF.seq hS, fun c6 => ?_⟩
  obtain ⟨v, hv, hN⟩ : ∃ v, atI [V.ref p2, V.ref p4, V.ref p8, V.ref p10] (c6 % 4) = some v /\ Nu HF v none := by
    have alt : c6 % 4 = 0 \/ c6 % 4 = 1 \/ c6 % 4 = 2 \/ c6 % 4 = 3 := by omega
    rcases alt with e | e | e | e <;> rw [e]
    · exact ⟨_, rfl, .tup t2⟩
    · exact ⟨_, rfl, .tup t4⟩
    · exact ⟨_, rfl, .tup t8⟩
    · exact ⟨_, rfl, .tup t10⟩
  refine ⟨_, _, rfl, rfl, (by show (0 : Int) < 4; decide), l, _, _, _, rfl, rfl, SqL.of tl, hv, ?_⟩
  refine ⟨_, rfl, a, ns, 5, rfl, sF.seq hS, fun c7 => ⟨_, _, rfl, rfl, (by show (0 : Int) < 10; decide), ?_⟩⟩
  suffices one : ∀ (x : V) (ox : Option Int), Nu HF x ox -> (tSeq _ _ : TS) { nx := fun _ H' => Q .non H', rt := Q } [some (.ref a), some (.str w), some x, some (.int j), some (.ref l), some v, some (.int (c7 % 10))] HF by
    refine ⟨_, rfl, rfl, _, rfl, ite2 (fun _ => iteT ⟨_, rfl, one v none hN⟩) (fun _ => ⟨_, rfl, rfl, _, rfl, ite2 (fun _ => ⟨_, rfl, one v none hN⟩) (fun _ => one _ _ (.int hi))⟩)⟩
  intro x ox hx
  have fin : ∀ (y : V) (oy : Option Int), Nu HF y oy -> ∀ p, HF p = none -> Q (.ref p) (upd HF p (.tup [x, y])) := fun y oy hy p hp => q _ p x y ox oy (sF.trans (same_new hp _)) upd_same (hx.keep (same_new hp _)) (hy.keep (same_new hp _))
  refine ⟨_, rfl, rfl, _, rfl, ite2 (fun _ => iteT ⟨_, rfl, _, rfl, _, rfl, by show 2 <= sizeLine; decide, fun p hp => fin v none hN p hp⟩) (fun _ => ⟨_, rfl, rfl, _, rfl, ite2 (fun _ => ⟨_, rfl, _, rfl, _, rfl, by show 2 <= sizeLine; decide, fun p hp => fin v none hN p hp⟩) (fun _ => ⟨_, rfl, _, rfl, by show 2 <= sizeLine; decide, fun p hp => fin _ _ (.int hj) p hp⟩)⟩)⟩
theorem scNR : FnScope ["_law_word", "_law_a", "_law_b", "_law_found", "_law_side"] ["_law_word", "_law_a", "_law_b", "_law_found"] (defScope sNR) := ⟨rfl, rfl, rfl, by decide +kernel, rfl, by decide +kernel, by decide +kernel⟩
theorem ok_nr (F : Fun K "_law_number_right" "_law_number_right" sNR f fd) (m_isinstance : mg "isinstance" = none) (m_int : mg "int" = none) (m_bool : mg "bool" = none) (m_abs : mg "abs" = none) : FnOk P w K mg base CX0 1 f fd ["_law_word", "_law_a", "_law_b", "_law_found"] spNR := by
  refine F.by scNR (fun vs H Q E h => ?_) (fun cdv A outer s H vs Q E hr h => ?_)
  · obtain ⟨w, i, j, rfl, _⟩ := h
    rfl
  obtain ⟨w, i, j, rfl, hw, hi, hj, hn, q⟩ := h
  refine ⟨_,
    (jss_cons (js_if (jW.pt (jw_or (jt_not (jt_val (je_fnB jc_isinst rfl m_isinstance PyProof.Rows.boot_isinstance (ja_c (jv 3) (ja_c (je_bltn (v := .ty "int") rfl m_int PyProof.Rows.boot_int rfl) ja_nil))))) (jw_or1 (jt_val (je_fnB jc_isinst rfl m_isinstance PyProof.Rows.boot_isinstance (ja_c (jv 3) (ja_c (je_bltn (v := .ty "bool") rfl m_bool PyProof.Rows.boot_bool rfl) ja_nil)))))))
      (jss_one (js_ret je_bl)) jss_nil)
    (jss_cons (js_if (jt_cmpR jo_eq (jv 0) je_str (nomark _))
      (jss_one (js_ret (je_cmpR jo_eq (jv 3) (je_op jo_add (jv 1) (jv 2)) (nomark _)))) jss_nil)
    (jss_cons (js_if (jt_cmpR jo_eq (jv 0) je_str (nomark _))
      (jss_one (js_ret (je_cmpR jo_eq (jv 3) (je_op jo_sub (jv 1) (jv 2)) (nomark _)))) jss_nil)
    (jss_cons (js_if (jt_cmpR jo_eq (jv 0) je_str (nomark _))
      (jss_one (js_ret (je_cmpR jo_eq (jv 3) (je_op jo_mulB (jv 1) (jv 2)) (nomark _)))) jss_nil)
    (jss_cons (js_if (jt_cmpR jo_eq (jv 0) je_str (nomark _))
      (jss_one (js_ret (je_cmpR jo_eq (jv 3) (je_fnTy jc_int1 rfl m_int PyProof.Rows.boot_int (ja_c (je_cmpR jo_lt (jv 1) (jv 2) (nomark _)) ja_nil)) (nomark _)))) jss_nil)
    (jss_cons (js_if (jt_cmpR jo_eq (jv 0) je_str (nomark _))
      (jss_one (js_ret (je_cmpR jo_eq (jv 3) (je_fnTy jc_int1 rfl m_int PyProof.Rows.boot_int (ja_c (je_cmpR jo_eq (jv 1) (jv 2) (nomark _)) ja_nil)) (nomark _)))) jss_nil)
    (jss_cons (js_set (i := 4) scNR.nd rfl (Or.inl rfl) je_int)
    (jss_cons (js_if (jt_cmpR jo_lt (jv 2) je_int (nomark _))
      (jss_one (js_set (i := 4) scNR.nd rfl (Or.inl rfl) (je_neg je_int))) jss_nil)
    (jss_cons (js_if (jt_cmpR jo_eq (jv 0) je_str (nomark _))
      (jss_one (js_ret (je_chain jo_le jo_lt je_int (je_op jo_mulB (je_op jo_sub (jv 1) (je_op jo_mulB (jv 3) (jv 2))) (jv 4)) (je_fnB jc_abs rfl m_abs PyProof.Rows.boot_abs (ja_c (jv 2) ja_nil))))) jss_nil)
    (jss_one (js_ret (je_and (je_cmpR jo_eq (je_op jo_modN (je_op jo_sub (jv 1) (jv 3)) (jv 2)) je_int (nomark _)) (je_one (je_chain jo_le jo_lt je_int (je_op jo_mulB (jv 3) (jv 4)) (je_fnB jc_abs rfl m_abs PyProof.Rows.boot_abs (ja_c (jv 2) ja_nil)))))))))))))))), ?_⟩
  refine ⟨_, rfl, _, _, _, _, rfl, .int _, rfl, _, rfl, iteF ⟨_, rfl, _, _, _, _, rfl, .int _, rfl, _, rfl, iteF ?_⟩⟩
  have self : ∀ z : Int, decide (V.int z = V.int z) = true := fun z => by simp
  refine ⟨_, rfl, rfl, _, rfl, ?_⟩
  by_cases c1 : w = "plus"
  · have e : res w i j = i + j := by unfold res; rw [if_pos c1]
    refine ifT (by simp [c1]) ⟨_, rfl, _, rfl, _, rfl, _, _, rfl, rfl, rfl, ?_⟩
    rw [e, self]; exact q
  refine ifF (by simp [c1]) ⟨_, rfl, rfl, _, rfl, ?_⟩
  by_cases c2 : w = "minus"
  · have e : res w i j = i - j := by unfold res; rw [if_neg c1, if_pos c2]
    refine ifT (by simp [c2]) ⟨_, rfl, _, rfl, _, rfl, _, _, rfl, rfl, rfl, ?_⟩
    rw [e, self]; exact q
  refine ifF (by simp [c2]) ⟨_, rfl, rfl, _, rfl, ?_⟩
  by_cases c3 : w = "times"
  · have e : res w i j = i * j := by unfold res; rw [if_neg c1, if_neg c2, if_pos c3]
    refine ifT (by simp [c3]) ⟨_, rfl, _, rfl, _, rfl, _, _, rfl, rfl, ⟨hi.big, hj.big⟩, rfl, ?_⟩
    rw [e, self]; exact q
  refine ifF (by simp [c3]) ⟨_, rfl, rfl, _, rfl, ?_⟩
  by_cases c6 : w = "less"
  · have e : res w i j = if i < j then 1 else 0 := by subst c6; unfold res; rw [if_neg c1, if_neg c2, if_neg c3, if_neg (by decide), if_neg (by decide), if_pos rfl]
    refine ifT (by simp [c6]) ⟨_, rfl, _, rfl, _, rfl, _, _, rfl, rfl, .inr ⟨_, rfl, rfl, ?_⟩⟩
    rw [e]
    have e2 : (if i < j then (1 : Int) else 0) = (if decide (i < j) = true then 1 else 0) := by simp
    rw [e2, self]; exact q
  refine ifF (by simp [c6]) ⟨_, rfl, rfl, _, rfl, ?_⟩
  by_cases c7 : w = "same"
  · have e : res w i j = if i = j then 1 else 0 := by subst c7; unfold res; rw [if_neg c1, if_neg c2, if_neg c3, if_neg (by decide), if_neg (by decide), if_neg c6]
    refine ifT (by simp [c7]) ⟨_, rfl, _, rfl, _, rfl, rfl, .inr ⟨_, rfl, rfl, ?_⟩⟩
    rw [e]
    have e2 : (if i = j then (1 : Int) else 0) = (if decide (V.int i = V.int j) = true then 1 else 0) := by simp
    rw [e2, self]; exact q
  refine ifF (by simp [c7]) ?_
  have c45 : w = "over" \/ w = "rest" := by
    unfold WORDS at hw
    simp at hw
    rcases hw with h | h | h | h | h | h | h
    · exact absurd h c1
    · exact absurd h c2
    · exact absurd h c3
    · exact .inl h
    · exact .inr h
    · exact absurd h c6
    · exact absurd h c7
  have hz : j ≠ 0 := fun z => hn ⟨z, c45⟩
  obtain ⟨me, mp, mn⟩ := mod_parts (i := i) hz
  have sd := sm_fdiv hz hi
  have sr := sm_fmod (i := i) hz hj
  suffices tail : ∀ sd' : Int, (sd' = 1 \/ sd' = -1) -> (0 <= i.fmod j * sd' /\ i.fmod j * sd' < (if j < 0 then -j else j)) -> (tSeq _ _ : TS) { nx := fun _ H' => Q .non H', rt := Q } [some (.str w), some (.int i), some (.int j), some (.int (res w i j)), some (.int sd')] H by
    refine ⟨_, rfl, _, _, rfl, rfl, _, rfl, ?_⟩
    by_cases c : j < 0
    · refine itD c ⟨_, rfl, tail (-1) (.inr rfl) ?_⟩
      have := mn c
      rw [if_pos c]
      omega
    · refine itDN c (tail 1 (.inl rfl) ?_)
      have := mp (by omega)
      rw [if_neg c]
      omega
  intro sd' h1 h2
  have sb : sd'.natAbs < BG := big_of (by rcases h1 with rfl | rfl <;> decide +kernel)
  refine ⟨_, rfl, rfl, _, rfl, ?_⟩
  by_cases c4 : w = "over"
  · have e : res w i j = i.fdiv j := by unfold res; rw [if_neg c1, if_neg c2, if_neg c3, if_pos c4]
    have e2 : i - i.fdiv j * j = i.fmod j := by rw [Int.mul_comm]; omega
    refine ifT (by simp [c4]) ⟨_, rfl, _, rfl, _, rfl, _, _, rfl, rfl, ⟨by rw [e]; exact sd.big, hj.big⟩, _, _, rfl, rfl, _, rfl, _, _, rfl, rfl, ⟨by rw [e, e2]; exact sr.big, sb⟩, _, _, rfl, rfl, ?_⟩
    rw [e, e2]
    refine ⟨_, rfl, itD h2.1 ⟨_, rfl, _, rfl, _, _, rfl, rfl, ?_⟩⟩
    show Q (.bl (decide (i.fmod j * sd' < if j < 0 then -j else j))) H
    rw [decide_eq_true h2.2]
    exact q
  · have c5 : w = "rest" := c45.resolve_left c4
    have e : res w i j = i.fmod j := by unfold res; rw [if_neg c1, if_neg c2, if_neg c3, if_neg c4, if_pos c5]
    have e2 : (i - i.fmod j).fmod j = 0 := by
      rw [show i - i.fmod j = j * i.fdiv j by omega]
      exact Int.mul_fmod_right j _
    refine ifF (by simp [c4]) ⟨_, rfl, _, rfl, _, _, rfl, rfl, _, rfl, _, _, rfl, rfl, hz, rfl, ?_⟩
    rw [e]
    refine ⟨_, rfl, ifT (by show decide (V.int ((i - i.fmod j).fmod j) = V.int 0) = true; rw [e2]; rfl) ⟨_, rfl, _, rfl, _, _, rfl, rfl, ⟨sr.big, sb⟩, _, _, rfl, rfl, ?_⟩⟩
    refine ⟨_, rfl, itD h2.1 ⟨_, rfl, _, rfl, _, _, rfl, rfl, ?_⟩⟩
    show Q (.bl (decide (i.fmod j * sd' < if j < 0 then -j else j))) H
    rw [decide_eq_true h2.2]
    exact q
end
end K31
namespace K31
open PySem L2 K11
structure Cls31 (K : PySem.W.Frag) (mg : Str -> Option Value) (C R : Addr) : Prop where
  xi : PySem.W.XIs K C
  n1 : ∃ c, mg "NoText" = some (.ref c) /\ PySem.W.kitOne K (.ref C) (.ref c) = some false
  n2 : ∃ c, mg "Twice" = some (.ref c) /\ PySem.W.kitOne K (.ref C) (.ref c) = some false
  n3 : ∃ c, mg "Unknown" = some (.ref c) /\ PySem.W.kitOne K (.ref C) (.ref c) = some false
  n4 : ∃ c, mg "Misfit" = some (.ref c) /\ PySem.W.kitOne K (.ref C) (.ref c) = some false
  n5 : ∃ c, mg "Unheld" = some (.ref c) /\ PySem.W.kitOne K (.ref C) (.ref c) = some false
  n6 : ∃ c, mg "Lacking" = some (.ref c) /\ PySem.W.kitOne K (.ref C) (.ref c) = some false
  n7 : ∃ c, mg "NoValue" = some (.ref c) /\ PySem.W.kitOne K (.ref C) (.ref c) = some false
  n8 : ∃ c, mg "Gone" = some (.ref c) /\ PySem.W.kitOne K (.ref C) (.ref c) = some false
  n9 : ∃ c, mg "Full" = some (.ref c) /\ PySem.W.kitOne K (.ref C) (.ref c) = some false
  nF : mg "Fault" = some (.ref C) /\ PySem.W.kitOne K (.ref C) (.ref C) = some true
  nR : mg "ReuseError" = some (.ref R) /\ PySem.W.kitOne K (.ref C) (.ref R) = some true
  nV : mg "ValueError" = none /\ PySem.W.kitOne K (.ref C) (.type "ValueError") = some true
  ex : PySem.W.exmOne K (.ref C) (.ref C) = some true
def spOne (C : Addr) (e : Addr) (oe : Obj) : Sp := fun vs H Q _ => ∃ (d : Addr) (fs : List (Str × V)), vs = [.ref e] /\ oe.cls = .ref C /\ oe.dict = some d /\ (∃ ws, oe.data = .fields ws) /\ H d = some (XD d fs) /\ ∀ H', Same H H' -> Q (.bl true) H'
def spTold : Sp := fun vs H Q _ => ∃ (w : Str) (x y : V) (a b : Option Int), vs = [.str w, x, y] /\ Nu H x a /\ Nu H y b /\ ∀ (H' : Hp) (p : Addr), Same H H' ->
  ((fw w a b = "" /\ ∃ i j, a = some i /\ b = some j /\ H' p = some (.tup [.str "got", .int (res w i j)])) \/ (fw w a b ≠ "" /\ H' p = some (.tup [.str "fault", .str (fw w a b), .bl true]))) -> Q (.ref p) H'
def spRight : Sp := fun vs H Q _ => ∃ (w : Str) (x y : V) (a b : Option Int), vs = [.str w, x, y] /\ w ∈ WORDS /\ Nu H x a /\ Nu H y b /\ ∀ H', Same H H' -> Q (.bl true) H'
section
variable {P : Program} {w : World} {K : PySem.W.Frag} {mg : Str -> Option Value} {base : Heap} {f R C : Addr} {fd : FuncData}
theorem scOne : FnScope ["_law_e", "_law_some"] ["_law_e"] (defScope sOne) := ⟨rfl, rfl, rfl, by decide +kernel, rfl, by decide +kernel, by decide +kernel⟩
theorem boot_VE : bootBuiltins "ValueError" = some (.type "ValueError") := by decide +kernel
theorem ndOne : (["_law_e", "_law_some", "_law_one"] : List Str).Nodup := by decide +kernel
theorem ok_one (F : Fun K "_law_one_class" "_law_one_class" sOne f fd) (T : Cls31 K mg C R) (m_isinstance : mg "isinstance" = none) (m_len : mg "len" = none) : FnOkH P w K mg base 1 f fd ["_law_e"] (spOne C) := by
  refine F.byH scOne (fun e oe vs H Q E h => ?_) (fun cdv A outer s H vs Q e oe hr h hn => ?_)
  · obtain ⟨d, fs, rfl, _⟩ := h
    rfl
  obtain ⟨d, fs, rfl, hc, hdx, hda, hX, q⟩ := h
  obtain ⟨c1, m1, k1⟩ := T.n1
  obtain ⟨c2, m2, k2⟩ := T.n2
  obtain ⟨c3, m3, k3⟩ := T.n3
  obtain ⟨c4, m4, k4⟩ := T.n4
  obtain ⟨c5, m5, k5⟩ := T.n5
  obtain ⟨c6, m6, k6⟩ := T.n6
  obtain ⟨c7, m7, k7⟩ := T.n7
  obtain ⟨c8, m8, k8⟩ := T.n8
  obtain ⟨c9, m9, k9⟩ := T.n9
  have hh : ∀ pins σ H' s', Inv (cxOfH P w K mg base ["_law_e", "_law_some"] "_law_one_class" (defScope sOne) f cdv A outer s H) pins σ H' s' -> s'.heap.get? e = some oe := fun pins σ H' s' I => I.base.keep e oe hn.g hn.n hn.f (fun z => nomatch z)
  refine ⟨_,
    (jss_cons (js_set (i := 1) scOne.nd rfl (Or.inl rfl) (je_lst (ja_c (je_fnB (jc_isi (D := .ref c1) (c := .ref c1) (C := C) (d := d) hh T.xi rfl (fun _ z => z)) rfl m_isinstance PyProof.Rows.boot_isinstance (ja_c (jv 0) (ja_c (je_glob (v := .ref c1) rfl m1 rfl) ja_nil))) (ja_c (je_fnB (jc_isi (D := .ref c2) (c := .ref c2) (C := C) (d := d) hh T.xi rfl (fun _ z => z)) rfl m_isinstance PyProof.Rows.boot_isinstance (ja_c (jv 0) (ja_c (je_glob (v := .ref c2) rfl m2 rfl) ja_nil))) (ja_c (je_fnB (jc_isi (D := .ref c3) (c := .ref c3) (C := C) (d := d) hh T.xi rfl (fun _ z => z)) rfl m_isinstance PyProof.Rows.boot_isinstance (ja_c (jv 0) (ja_c (je_glob (v := .ref c3) rfl m3 rfl) ja_nil))) (ja_c (je_fnB (jc_isi (D := .ref c4) (c := .ref c4) (C := C) (d := d) hh T.xi rfl (fun _ z => z)) rfl m_isinstance PyProof.Rows.boot_isinstance (ja_c (jv 0) (ja_c (je_glob (v := .ref c4) rfl m4 rfl) ja_nil))) ja_nil))))))
    (jss_cons (js_set (i := 1) scOne.nd rfl (Or.inl rfl) (je_op jo_cat (jv 1) (je_lst (ja_c (je_fnB (jc_isi (D := .ref c5) (c := .ref c5) (C := C) (d := d) hh T.xi rfl (fun _ z => z)) rfl m_isinstance PyProof.Rows.boot_isinstance (ja_c (jv 0) (ja_c (je_glob (v := .ref c5) rfl m5 rfl) ja_nil))) (ja_c (je_fnB (jc_isi (D := .ref c6) (c := .ref c6) (C := C) (d := d) hh T.xi rfl (fun _ z => z)) rfl m_isinstance PyProof.Rows.boot_isinstance (ja_c (jv 0) (ja_c (je_glob (v := .ref c6) rfl m6 rfl) ja_nil))) (ja_c (je_fnB (jc_isi (D := .ref c7) (c := .ref c7) (C := C) (d := d) hh T.xi rfl (fun _ z => z)) rfl m_isinstance PyProof.Rows.boot_isinstance (ja_c (jv 0) (ja_c (je_glob (v := .ref c7) rfl m7 rfl) ja_nil))) (ja_c (je_fnB (jc_isi (D := .ref c8) (c := .ref c8) (C := C) (d := d) hh T.xi rfl (fun _ z => z)) rfl m_isinstance PyProof.Rows.boot_isinstance (ja_c (jv 0) (ja_c (je_glob (v := .ref c8) rfl m8 rfl) ja_nil))) ja_nil)))))))
    (jss_cons (js_set (i := 1) scOne.nd rfl (Or.inl rfl) (je_op jo_cat (jv 1) (je_lst (ja_c (je_fnB (jc_isi (D := .ref c9) (c := .ref c9) (C := C) (d := d) hh T.xi rfl (fun _ z => z)) rfl m_isinstance PyProof.Rows.boot_isinstance (ja_c (jv 0) (ja_c (je_glob (v := .ref c9) rfl m9 rfl) ja_nil))) (ja_c (je_fnB (jc_isi (D := .ref C) (c := .ref C) (C := C) (d := d) hh T.xi rfl (fun _ z => z)) rfl m_isinstance PyProof.Rows.boot_isinstance (ja_c (jv 0) (ja_c (je_glob (v := .ref C) rfl T.nF.1 rfl) ja_nil))) ja_nil)))))
    (jss_one (js_ret (je_and (je_cmpR jo_eq (je_fnB jc_len_seq rfl m_len PySem.boot_len (ja_c (je_compH ["_law_one"] hn.p (jv 1) (fun _ _ _ _ _ => (jg_name (i := 2) ndOne rfl (Or.inl rfl))) (fun _ _ _ _ _ => (jts_one (jt_val (jv 2)))) (fun _ _ _ _ _ => (jv 2))) ja_nil)) je_int (nomark _)) (je_and (je_fnB (jc_isi (D := .ty "ValueError") (c := .type "ValueError") (C := C) (d := d) hh T.xi rfl (fun _ z => z)) rfl m_isinstance PyProof.Rows.boot_isinstance (ja_c (jv 0) (ja_c (je_bltn (v := .ty "ValueError") rfl T.nV.1 boot_VE rfl) ja_nil))) (je_one (je_fnB (jc_isi (D := .ref R) (c := .ref R) (C := C) (d := d) hh T.xi rfl (fun _ z => z)) rfl m_isinstance PyProof.Rows.boot_isinstance (ja_c (jv 0) (ja_c (je_glob (v := .ref R) rfl T.nR.1 rfl) ja_nil))))))))))), ?_⟩
  refine ⟨_, rfl, rfl, hc, hdx, hda, ⟨fs, hX⟩, _, k1, _, rfl, rfl, hc, hdx, hda, ⟨fs, hX⟩, _, k2, _, rfl, rfl, hc, hdx, hda, ⟨fs, hX⟩, _, k3, _, rfl, rfl, hc, hdx, hda, ⟨fs, hX⟩, _, k4, by show 4 <= sizeLine; decide, fun p1 h1 => ?_⟩
  have s1 := same_new (o := .lst [.bl false, .bl false, .bl false, .bl false]) h1
  have t1 := upd_same (H := H) (a := p1) (o := .lst [.bl false, .bl false, .bl false, .bl false])
  have X1 := s1 _ _ hX
  show (tSeq _ _ : TS) _ _ (upd H p1 (.lst [.bl false, .bl false, .bl false, .bl false]))
  generalize upd H p1 (.lst [.bl false, .bl false, .bl false, .bl false]) = H1 at *
  refine ⟨_, rfl, _, rfl, rfl, hc, hdx, hda, ⟨fs, X1⟩, _, k5, _, rfl, rfl, hc, hdx, hda, ⟨fs, X1⟩, _, k6, _, rfl, rfl, hc, hdx, hda, ⟨fs, X1⟩, _, k7, _, rfl, rfl, hc, hdx, hda, ⟨fs, X1⟩, _, k8, by show 4 <= sizeLine; decide, fun p2 h2 => ⟨p1, p2, _, _, rfl, rfl, old h2 t1, upd_same, by show 8 <= sizeLine; decide, fun p3 h3 => ?_⟩⟩
  have s3 := (s1.new (o := .lst [.bl false, .bl false, .bl false, .bl false]) h2).new (o := .lst [.bl false, .bl false, .bl false, .bl false, .bl false, .bl false, .bl false, .bl false]) h3
  have t3 := upd_same (H := upd H1 p2 (.lst [.bl false, .bl false, .bl false, .bl false])) (a := p3) (o := .lst [.bl false, .bl false, .bl false, .bl false, .bl false, .bl false, .bl false, .bl false])
  have X3 := s3 _ _ hX
  show (tSeq _ _ : TS) _ _ (upd (upd H1 p2 (.lst [.bl false, .bl false, .bl false, .bl false])) p3 (.lst [.bl false, .bl false, .bl false, .bl false, .bl false, .bl false, .bl false, .bl false]))
  generalize upd (upd H1 p2 (.lst [.bl false, .bl false, .bl false, .bl false])) p3 (.lst [.bl false, .bl false, .bl false, .bl false, .bl false, .bl false, .bl false, .bl false]) = H3 at *
  refine ⟨_, rfl, _, rfl, rfl, hc, hdx, hda, ⟨fs, X3⟩, _, k9, _, rfl, rfl, hc, hdx, hda, ⟨fs, X3⟩, _, T.nF.2, by show 2 <= sizeLine; decide, fun p4 h4 => ⟨p3, p4, _, _, rfl, rfl, old h4 t3, upd_same, by show 10 <= sizeLine; decide, fun p5 h5 => ?_⟩⟩
  have s5 := (s3.new (o := .lst [.bl false, .bl true]) h4).new (o := .lst [.bl false, .bl false, .bl false, .bl false, .bl false, .bl false, .bl false, .bl false, .bl false, .bl true]) h5
  obtain ⟨H5, hH5⟩ : ∃ H5 : Hp, H5 = upd (upd H3 p4 (.lst [.bl false, .bl true])) p5 (.lst [.bl false, .bl false, .bl false, .bl false, .bl false, .bl false, .bl false, .bl false, .bl false, .bl true]) := ⟨_, rfl⟩
  have t5 : H5 p5 = some (.lst [.bl false, .bl false, .bl false, .bl false, .bl false, .bl false, .bl false, .bl false, .bl false, .bl true]) := by rw [hH5]; exact upd_same
  rw [<- hH5] at s5
  have X5 := s5 _ _ hX
  refine ⟨_, rfl, p5, rfl, ⟨_, SqL.of upd_same⟩, lc_list (xs := [.bl false, .bl false, .bl false, .bl false, .bl false, .bl false, .bl false, .bl false, .bl false, .bl true]) (fun i τ ys H' => H' = H5 /\ (∃ x, τ = [some (.ref e), some (.ref p5), x]) /\ ys = if i <= 9 then [] else [.bl true]) ⟨hH5.symm, ⟨none, rfl⟩, rfl⟩ (fun i τ ys H' _ h => by rw [h.1]; exact SqL.of t5) ?_ ?_⟩
  clear hH5
  · rintro i x τ ys H' hx ⟨rfl, ⟨y, rfl⟩, rfl⟩
    have hi : i < 10 := (List.getElem?_eq_some_iff.mp hx).1
    have alt : (i < 9 /\ x = .bl false) \/ (i = 9 /\ x = .bl true) := by
      have a : i = 0 \/ i = 1 \/ i = 2 \/ i = 3 \/ i = 4 \/ i = 5 \/ i = 6 \/ i = 7 \/ i = 8 \/ i = 9 := by omega
      rcases a with rfl | rfl | rfl | rfl | rfl | rfl | rfl | rfl | rfl | rfl <;> simp at hx <;> subst hx <;> simp
    rcases alt with ⟨h9, rfl⟩ | ⟨rfl, rfl⟩
    · refine ⟨_, rfl, _, rfl, iteF ⟨rfl, ⟨_, rfl⟩, ?_⟩⟩
      rw [if_pos (by omega), if_pos (by omega)]
    · exact ⟨_, rfl, _, rfl, iteT ⟨_, rfl, by show 0 < sizeLine; decide, rfl, ⟨_, rfl⟩, rfl⟩⟩
  · rintro τ ys H' ⟨rfl, _, rfl⟩ p6 h6
    have s6 := s5.new (o := .lst [.bl true]) h6
    have X6 := s6 _ _ hX
    refine ⟨_, _, rfl, .inl (SqL.of upd_same), rfl, _, rfl, ifT rfl ?_⟩
    exact ⟨_, rfl, rfl, hc, hdx, hda, ⟨fs, X6⟩, _, T.nV.2, _, rfl, iteT ⟨_, rfl, rfl, hc, hdx, hda, ⟨fs, X6⟩, _, T.nR.2, q _ s6⟩⟩
end
end K31
namespace K31
open PySem L2 K11
theorem len_app (a b : Str) : (a ++ b).length = a.length + b.length := by rw [<- cl_len, cl_app, List.length_append, cl_len, cl_len]
section
variable {P : Program} {w : World} {K : PySem.W.Frag} {mg : Str -> Option Value} {base : Heap} {f R C : Addr} {fd : FuncData}
theorem scEdge : FnScope ["_law_word", "_law_cell_here", "_law_other", "_law_side", "_law_slip", "_law_far", "_law_k"] ["_law_word", "_law_cell_here", "_law_other"] (defScope sEdge) := ⟨rfl, rfl, rfl, by decide +kernel, rfl, by decide +kernel, by decide +kernel⟩
theorem ok_edge (F : Fun K "_law_edge" "_law_edge" sEdge f fd) (m_int : mg "int" = none) (m_abs : mg "abs" = none) : FnOk P w K mg base CX0 1 f fd ["_law_word", "_law_cell_here", "_law_other"] spEdge := by
  refine F.by scEdge (fun vs H Q E h => ?_) (fun cdv A outer s H vs Q E hr h => ?_)
  · obtain ⟨w, c, o, rfl, _⟩ := h
    rfl
  obtain ⟨w, c, o, rfl, q⟩ := h
  refine ⟨_,
    (jss_cons (js_set (i := 3) scEdge.nd rfl (Or.inl rfl) (je_op jo_sub je_int (je_op jo_mul je_int (je_op jo_mod (jv 2) je_int))))
    (jss_cons (js_set (i := 4) scEdge.nd rfl (Or.inl rfl) (je_op jo_sub (je_op jo_mod (je_op jo_fdiv (jv 2) je_int) je_int) je_int))
    (jss_cons (js_set (i := 5) scEdge.nd rfl (Or.inl rfl) (je_op jo_mul (jv 3) (je_op jo_add je_int (je_op jo_mod (jv 1) (je_op jo_sub (je_op jo_pow je_int je_int) je_int)))))
    (jss_cons (js_if (jt_cmpR jo_eq (jv 0) je_str (nomark _))
      (jss_one (js_ret (je_tup (ja_c (jv 5) (ja_c (je_op jo_sub (je_op jo_add (je_op jo_mul (jv 3) (je_op jo_pow je_int je_int)) (jv 4)) (jv 5)) ja_nil))))) jss_nil)
    (jss_cons (js_if (jt_cmpR jo_eq (jv 0) je_str (nomark _))
      (jss_one (js_ret (je_tup (ja_c (jv 5) (ja_c (je_op jo_sub (je_op jo_sub (jv 5) (je_op jo_mul (jv 3) (je_op jo_pow je_int je_int))) (jv 4)) ja_nil))))) jss_nil)
    (jss_cons (js_if (jt_cmpR jo_eq (jv 0) je_str (nomark _))
      (jss_cons (js_set (i := 6) scEdge.nd rfl (Or.inl rfl) (je_op jo_add je_int (je_op jo_mod (jv 1) je_int)))
      (jss_cons (js_if (jW.pt (jw_and (jt_cmpR jo_eq (jv 6) je_int (nomark _)) (jw_and1 (jt_cmpR jo_lt (jv 4) je_int (nomark _)))))
        (jss_one (js_ret (je_tup (ja_c (je_op jo_mul (jv 3) (je_op jo_sub (je_op jo_pow je_int je_int) je_int)) (ja_c (je_op jo_add (je_op jo_pow je_int je_int) je_int) ja_nil))))) jss_nil)
      (jss_one (js_ret (je_tup (ja_c (je_op jo_mul (jv 3) (je_fnTy jc_int_text rfl m_int PyProof.Rows.boot_int (ja_c (je_op jo_add_str je_str (je_op jo_mul_str je_str (jv 6))) ja_nil))) (ja_c (je_op jo_add (je_fnTy jc_int_text rfl m_int PyProof.Rows.boot_int (ja_c (je_op jo_add_str je_str (je_op jo_mul_str je_str (je_op jo_sub je_int (jv 6)))) ja_nil)) (jv 4)) ja_nil))))))) jss_nil)
    (jss_cons (js_if (jW.pt (jw_or (jt_cmpR jo_eq (jv 0) je_str (nomark _)) (jw_or1 (jt_cmpR jo_eq (jv 0) je_str (nomark _)))))
      (jss_one (js_ret (je_tup (ja_c (jv 5) (ja_c (jv 4) ja_nil))))) jss_nil)
    (jss_one (js_ret (je_tup (ja_c (jv 5) (ja_c (je_op jo_sub (jv 5) (je_op jo_mul (jv 3) (je_fnB jc_abs rfl m_abs PyProof.Rows.boot_abs (ja_c (jv 4) ja_nil)))) ja_nil)))))))))))), ?_⟩
  have sl := line0
  have p3 : CPow 10 30 := ⟨by decide, by decide, by decide⟩
  have p15 : CPow 10 15 := ⟨by decide, by decide, by decide⟩
  have fin : ∀ (i j : Int) (p : Addr), Sm i -> Sm j -> H p = none -> Q (.ref p) (upd H p (.tup [.int i, .int j])) := fun i j p hi hj hp => q _ p i j (same_new hp _) upd_same hi hj
  suffices rest : ∀ sd sl m : Int, (sd = 1 \/ sd = -1) -> -2 <= sl -> sl <= 2 -> 3 <= m -> m < 1000000000000000000000000000000 -> (tSeq _ _ : TS) { nx := fun _ H' => Q .non H', rt := Q } [some (.str w), some (.int c), some (.int o), some (.int sd), some (.int sl), some (.int (sd * m)), none] H by
    have sd1 : (1 - 2 * (o % 2) = 1 \/ 1 - 2 * (o % 2) = -1) := by omega
    refine ⟨_, rfl, _, _, rfl, rfl, (by show (0 : Int) < 2; decide), _, _, rfl, rfl, .inl ⟨by decide, by decide⟩, _, _, rfl, rfl, ?_⟩
    refine ⟨_, rfl, _, _, rfl, rfl, ⟨by decide, by decide⟩, _, _, rfl, rfl, (by show (0 : Int) < 5; decide), _, _, rfl, rfl, ?_⟩
    refine ⟨_, rfl, _, rfl, _, _, rfl, rfl, p3, _, _, rfl, rfl, _, _, rfl, rfl, (by rw [t30]; show (0 : Int) < _; decide), _, _, rfl, rfl, _, _, rfl, rfl, .inl ⟨by omega, by omega⟩, ?_⟩
    have a := Int.emod_nonneg c (show (1000000000000000000000000000000 - 3 : Int) ≠ 0 by decide)
    have b := Int.emod_lt_of_pos c (show (0 : Int) < 1000000000000000000000000000000 - 3 by decide)
    rw [t30]
    exact rest _ _ _ sd1 (by omega) (by omega) (by omega) (by omega)
  intro sd sl' m hsd s1 s2 m1 m2
  refine ⟨_, rfl, rfl, _, rfl, ite2 (fun _ => ?_) (fun _ => ?_)⟩
  · refine ⟨_, rfl, _, rfl, _, _, rfl, rfl, p3, _, _, rfl, rfl, .inl ⟨by omega, by omega⟩, _, rfl, _, _, rfl, rfl, _, rfl, _, _, rfl, rfl, by show 2 <= sizeLine; decide, fun p hp => fin _ _ p ?_ ?_ hp⟩
    · unfold Sm; rcases hsd with rfl | rfl <;> omega
    · rw [t30]; unfold Sm; rcases hsd with rfl | rfl <;> omega
  refine ⟨_, rfl, rfl, _, rfl, ite2 (fun _ => ?_) (fun _ => ?_)⟩
  · refine ⟨_, rfl, _, rfl, _, rfl, _, _, rfl, rfl, p3, _, _, rfl, rfl, .inl ⟨by omega, by omega⟩, _, _, rfl, rfl, _, rfl, _, _, rfl, rfl, by show 2 <= sizeLine; decide, fun p hp => fin _ _ p ?_ ?_ hp⟩
    · unfold Sm; rcases hsd with rfl | rfl <;> omega
    · rw [t30]; unfold Sm; rcases hsd with rfl | rfl <;> omega
  refine ⟨_, rfl, rfl, _, rfl, ite2 (fun _ => ?_) (fun _ => ?_)⟩
  · refine ⟨_, rfl, _, _, rfl, rfl, (by show (0 : Int) < 29; decide), _, _, rfl, rfl, ?_⟩
    have k0 := Int.emod_nonneg c (show (29 : Int) ≠ 0 by decide)
    have k1 := Int.emod_lt_of_pos c (show (0 : Int) < 29 by decide)
    have l1 := mul_len (z := "0") (n := 1 + c % 29) rfl
    have l2 := mul_len (z := "0") (n := 30 - (1 + c % 29)) rfl
    have e1 := pow_le (k := 1 + c % 29) (by omega) (by omega)
    have e2 := pow_le (k := 30 - (1 + c % 29)) (by omega) (by omega)
    have sA : Sm (sd * 10 ^ (1 + c % 29).toNat) := by
      generalize (10 : Int) ^ (1 + c % 29).toNat = z at *
      unfold Sm; rcases hsd with rfl | rfl <;> omega
    have sB : Sm (10 ^ (30 - (1 + c % 29)).toNat + sl') := by
      generalize (10 : Int) ^ (30 - (1 + c % 29)).toNat = z at *
      unfold Sm; omega
    refine ⟨_, rfl, rfl, _, rfl, ite2 (fun _ => ?_) (fun _ => iteF ?_)⟩
    · refine ⟨_, rfl, _, _, rfl, rfl, _, rfl, ite2 (fun _ => ?_) (fun _ => ?_)⟩
      · refine ⟨_, rfl, _, _, rfl, rfl, p15, _, _, rfl, rfl, _, _, rfl, rfl, .inl ⟨by omega, by omega⟩, _, _, rfl, rfl, p15, _, _, rfl, rfl, by show 2 <= sizeLine; decide, fun p hp => fin _ _ p ?_ ?_ hp⟩
        · rw [t15]; unfold Sm; rcases hsd with rfl | rfl <;> omega
        · rw [t15]; unfold Sm; omega
      · refine ⟨_, rfl, _, rfl, _, _, rfl, rfl, mul_ok rfl (by omega) (by omega), _, _, rfl, rfl, by show 1 + _ <= sizeLine; omega, _, _, rfl, t10' (by omega) (by omega), by rw [len_app]; show 1 + _ <= 640; omega, _, _, rfl, rfl, .inl ⟨by omega, by omega⟩, _, rfl, _, _, rfl, rfl, _, _, rfl, rfl, mul_ok rfl (by omega) (by omega), _, _, rfl, rfl, by show 1 + _ <= sizeLine; omega, _, _, rfl, t10' (by omega) (by omega), by rw [len_app]; show 1 + _ <= 640; omega, _, rfl, _, _, rfl, rfl, by show 2 <= sizeLine; decide, fun p hp => fin _ _ p sA sB hp⟩
    · refine ⟨_, rfl, _, rfl, _, _, rfl, rfl, mul_ok rfl (by omega) (by omega), _, _, rfl, rfl, by show 1 + _ <= sizeLine; omega, _, _, rfl, t10' (by omega) (by omega), by rw [len_app]; show 1 + _ <= 640; omega, _, _, rfl, rfl, .inl ⟨by omega, by omega⟩, _, rfl, _, _, rfl, rfl, _, _, rfl, rfl, mul_ok rfl (by omega) (by omega), _, _, rfl, rfl, by show 1 + _ <= sizeLine; omega, _, _, rfl, t10' (by omega) (by omega), by rw [len_app]; show 1 + _ <= 640; omega, _, rfl, _, _, rfl, rfl, by show 2 <= sizeLine; decide, fun p hp => fin _ _ p sA sB hp⟩
  have two : ∀ D : Ends, D.rt = Q -> (tRet (tTup (tCons (tVar 5) (tCons (tVar 4) tNil))) : TS) D [some (.str w), some (.int c), some (.int o), some (.int sd), some (.int sl'), some (.int (sd * m)), none] H := by
    rintro D rfl
    exact ⟨_, rfl, _, rfl, by show 2 <= sizeLine; decide, fun p hp => fin _ _ p (by unfold Sm; rcases hsd with rfl | rfl <;> omega) (by unfold Sm; omega) hp⟩
  refine ⟨_, rfl, rfl, _, rfl, ite2 (fun _ => iteT (two _ rfl)) (fun _ => ⟨_, rfl, rfl, _, rfl, ite2 (fun _ => two _ rfl) (fun _ => ?_)⟩)⟩
  refine ⟨_, rfl, _, rfl, _, rfl, _, rfl, _, rfl, _, _, rfl, rfl, .inl ⟨by omega, by omega⟩, _, _, rfl, rfl, by show 2 <= sizeLine; decide, fun p hp => fin _ _ p ?_ ?_ hp⟩
  · unfold Sm; rcases hsd with rfl | rfl <;> omega
  · unfold Sm; rcases hsd with rfl | rfl <;> split <;> omega
end
end K31
namespace K31
open PySem L2 K11
section
variable {P : Program} {w : World} {K : PySem.W.Frag} {mg : Str -> Option Value} {base : Heap} {f R C : Addr} {fd : FuncData}
theorem scTold : FnScope ["_law_word", "_law_a", "_law_b", "_law_said", "_law_found", "_law_e"] ["_law_word", "_law_a", "_law_b"] (defScope sTold) := ⟨rfl, rfl, rfl, by decide +kernel, rfl, by decide +kernel, by decide +kernel⟩
theorem ok_told {fi : Addr} (F : Fun K "_law_told" "_law_told" sTold f fd) (T : Cls31 K mg C R) (M : XCl K C fi) (hn : PySem.W.findIn K (.ref C) "word" = some none) (GR : Ca P w K mg base (CXf P w) 3 "reckoned" ["word", "a", "b"] (spReck C)) (GO : CaH P w K mg base 1 "_law_one_class" ["_law_e"] (spOne C)) : FnOk P w K mg base CX0 4 f fd ["_law_word", "_law_a", "_law_b"] spTold := by
  refine F.by scTold (fun vs H Q E h => ?_) (fun cdv A outer s H vs Q E hr h => ?_)
  · obtain ⟨w, x, y, a, b, rfl, _⟩ := h
    rfl
  obtain ⟨w, x, y, a, b, rfl, hx, hy, q⟩ := h
  have hr1 : Room 1 _ := hr.mono (by decide)
  refine ⟨_,
    (jss_cons (js_set (i := 3) scTold.nd rfl (Or.inl rfl) (je_lst ja_nil))
    (jss_cons (js_set (i := 4) scTold.nd rfl (Or.inl rfl) je_non)
    (jss_cons (js_tryS (i := 5) (j := 4) GR hr rfl (ja_c (jv 0) (ja_c (jv 1) (ja_c (jv 2) ja_nil))) scTold.nd rfl rfl rfl T.nF.1 (fun e oe => jss_one (js_set (i := 3) scTold.nd rfl (Or.inl rfl) (je_lst (ja_c (je_xfld (e := e) (oe := oe) List.mem_cons_self M hn T.xi.hd (jv 5)) (ja_c (je_caH (e := e) (oe := oe) GO (hr1.h _) rfl rfl List.mem_cons_self (ja_c (jv 5) ja_nil)) ja_nil))))))
    (jss_cons (js_if (jt_cmpR (jo_eqE hr) (jv 3) (je_lst ja_nil) (nomark _))
      (jss_one (js_ret (je_tup (ja_c je_str (ja_c (jv 4) ja_nil))))) jss_nil)
    (jss_one (js_ret (je_tup (ja_c je_str (ja_c (je_ix jx_list (jv 3) je_int (fun _ _ => rfl)) (ja_c (je_ix jx_list (jv 3) je_int (fun _ _ => rfl)) ja_nil)))))))))), ?_⟩
  refine ⟨by show 0 <= sizeLine; decide, fun p1 h1 => ?_⟩
  have s1 := same_new (o := .lst []) h1
  have t1 := upd_same (H := H) (a := p1) (o := .lst [])
  show (tSeq _ (tSeq _ (tSeq _ _)) : TS) _ _ (upd H p1 (.lst []))
  generalize upd H p1 (.lst []) = H1 at *
  refine ⟨_, rfl, _, rfl, _, rfl, w, x, y, a, b, rfl, hx.keep s1, hy.keep s1, fun hf i j H2 s2 ea eb => ?_, fun hf d H2 s2 hd => ⟨T.ex, fun e oe ws hc hdx hda hz he => ?_⟩⟩
  · refine ⟨_, rfl, by show 0 <= sizeLine; decide, fun p2 h2 => ⟨p1, p2, _, rfl, rfl, SqL.of (old h2 (s2 _ _ t1)), SqL.of upd_same, _, rfl, ifT rfl ?_⟩⟩
    exact ⟨_, rfl, by show 2 <= sizeLine; decide, fun p3 h3 => q _ p3 (((s1.trans s2).new h2).new h3) (.inl ⟨hf, i, j, ea, eb, upd_same⟩)⟩
  · refine ⟨_, rfl, rfl, hc, ⟨ws, hda⟩, d, _, _, hdx, hd, rfl, _, rfl, ⟨ws, hda, hz⟩, d, _, rfl, hc, hdx, ⟨ws, hda⟩, hd, fun H3 s3 => ⟨by show 2 <= sizeLine; decide, fun p4 h4 => ?_⟩⟩
    have s4 := ((s1.trans s2).trans s3).new (o := .lst [.str (fw w a b), .bl true]) h4
    have t4 := upd_same (H := H3) (a := p4) (o := .lst [.str (fw w a b), .bl true])
    generalize upd H3 p4 (.lst [.str (fw w a b), .bl true]) = H4 at *
    refine ⟨_, rfl, by show 0 <= sizeLine; decide, fun p5 h5 => ⟨p4, p5, _, rfl, rfl, SqL.of (old h5 t4), SqL.of upd_same, _, rfl, ifF rfl ?_⟩⟩
    have t5 := old (o := .lst []) h5 t4
    refine ⟨_, rfl, p4, _, _, _, rfl, rfl, SqL.of t5, atI_nat (j := 0) rfl, _, rfl, p4, _, _, _, rfl, rfl, SqL.of t5, atI_nat (j := 1) rfl, by show 3 <= sizeLine; decide, fun p6 h6 => ?_⟩
    exact q _ p6 ((s4.new h5).new h6) (.inr ⟨hf, upd_same⟩)
theorem scRight : FnScope ["_law_word", "_law_a", "_law_b", "_law_got", "_law_due"] ["_law_word", "_law_a", "_law_b"] (defScope sRight) := ⟨rfl, rfl, rfl, by decide +kernel, rfl, by decide +kernel, by decide +kernel⟩
theorem ok_right (F : Fun K "_law_right" "_law_right" sRight f fd) (GT : Ca P w K mg base CX0 4 "_law_told" ["_law_word", "_law_a", "_law_b"] spTold) (GF : Ca P w K mg base CX0 1 "_law_fault" ["_law_word", "_law_a", "_law_b"] spFlt) (GN : Ca P w K mg base CX0 1 "_law_number_right" ["_law_word", "_law_a", "_law_b", "_law_found"] spNR) : FnOk P w K mg base CX0 5 f fd ["_law_word", "_law_a", "_law_b"] spRight := by
  refine F.by scRight (fun vs H Q E h => ?_) (fun cdv A outer s H vs Q E hr h => ?_)
  · obtain ⟨w, x, y, a, b, rfl, _⟩ := h
    rfl
  obtain ⟨w, x, y, a, b, rfl, hw, hx, hy, q⟩ := h
  have hr1 : Room 1 _ := hr.mono (by decide)
  refine ⟨_,
    (jss_cons (js_set (i := 3) scRight.nd rfl (Or.inl rfl) (je_ca GT hr rfl pass0 (ja_c (jv 0) (ja_c (jv 1) (ja_c (jv 2) ja_nil)))))
    (jss_cons (js_set (i := 4) scRight.nd rfl (Or.inl rfl) (je_ca GF hr1 rfl pass0 (ja_c (jv 0) (ja_c (jv 1) (ja_c (jv 2) ja_nil)))))
    (jss_cons (js_if (jt_cmpR jo_ne (jv 4) je_str (nomark _))
      (jss_one (js_ret (je_cmpR (jo_eqT hr) (jv 3) (je_tup (ja_c je_str (ja_c (jv 4) (ja_c je_bl ja_nil)))) (nomark _)))) jss_nil)
    (jss_one (js_ret (je_and (je_cmpR jo_eq (je_ix jx_tup (jv 3) je_int (fun _ _ => rfl)) je_str (nomark _)) (je_one (je_ca GN hr1 rfl pass0 (ja_c (jv 0) (ja_c (jv 1) (ja_c (jv 2) (ja_c (je_ix jx_tup (jv 3) je_int (fun _ _ => rfl)) ja_nil)))))))))))), ?_⟩
  refine ⟨_, rfl, _, rfl, _, rfl, w, x, y, a, b, rfl, hx, hy, fun H1 p s1 hp => ?_⟩
  refine ⟨_, rfl, _, rfl, _, rfl, w, x, y, a, b, rfl, hx.keep s1, hy.keep s1, ?_⟩
  refine ⟨_, rfl, rfl, _, rfl, ?_⟩
  rcases hp with ⟨hf, i, j, ea, eb, hp⟩ | ⟨hf, hp⟩
  · refine ifF (by rw [hf]; rfl) ⟨_, rfl, p, _, _, _, rfl, rfl, SqT.of hp, atI_nat (j := 0) rfl, rfl, _, rfl, ifT rfl ?_⟩
    subst ea
    subst eb
    cases hx with
    | int hi =>
      cases hy with
      | int hj =>
        have hn : ¬ (j = 0 /\ (w = "over" \/ w = "rest")) := fun z => by
          rw [fw_ss, if_pos z] at hf
          exact absurd hf (by decide)
        exact ⟨_, rfl, _, rfl, _, rfl, _, rfl, p, _, _, _, rfl, rfl, SqT.of hp, atI_nat (j := 1) rfl, w, i, j, rfl, hw, hi, hj, hn, q _ s1⟩
  · refine ifT (by simp [hf]) ⟨_, rfl, _, rfl, by show 3 <= sizeLine; decide, fun p2 h2 => ⟨p, p2, _, rfl, rfl, ne_of_none hp h2, SqT.of (old h2 hp), SqT.of upd_same, rfl, q _ (s1.new h2)⟩⟩
theorem scLaw : FnScope ["_law_script", "_law_words", "_law_word", "_law_other", "_law_a", "_law_b"] ["_law_script"] (defScope sLaw) := ⟨rfl, rfl, rfl, by decide +kernel, rfl, by decide +kernel, by decide +kernel⟩
theorem word_at {c : Int} (h0 : 0 <= c) (h : c < 7) : ∃ w, w ∈ WORDS /\ atI (WORDS.map V.str) c = some (.str w) := by
  have alt : c = 0 \/ c = 1 \/ c = 2 \/ c = 3 \/ c = 4 \/ c = 5 \/ c = 6 := by omega
  unfold WORDS
  rcases alt with rfl | rfl | rfl | rfl | rfl | rfl | rfl
  · exact ⟨_, by simp, rfl⟩
  · exact ⟨"minus", by simp, rfl⟩
  · exact ⟨"times", by simp, rfl⟩
  · exact ⟨"over", by simp, rfl⟩
  · exact ⟨"rest", by simp, rfl⟩
  · exact ⟨"less", by simp, rfl⟩
  · exact ⟨"same", by simp, rfl⟩
theorem ok_law (F : Fun K "law" "law" sLaw f fd) (GC : Ca P w K mg base CX0 1 "_law_cell" ["_law_script", "_law_k"] (spCell K)) (GP : Ca P w K mg base CX0 2 "_law_pair" ["_law_script", "_law_word"] (spPair K)) (GR : Ca P w K mg base CX0 5 "_law_right" ["_law_word", "_law_a", "_law_b"] spRight) : FnOk P w K mg base CX0 6 f fd ["_law_script"] (spTop K) := by
  refine F.by scLaw (fun vs H Q E h => ?_) (fun cdv A outer s H vs Q E hr h => ?_)
  · obtain ⟨a, ns, rfl, _⟩ := h
    rfl
  obtain ⟨a, ns, rfl, hS, h63, q⟩ := h
  have hr1 : Room 1 _ := hr.mono (by decide)
  have hr2 : Room 2 _ := hr.mono (by decide)
  refine ⟨_,
    (jss_cons (js_set (i := 1) scLaw.nd rfl (Or.inl rfl) (je_lst (ja_c je_str (ja_c je_str (ja_c je_str (ja_c je_str (ja_c je_str (ja_c je_str (ja_c je_str ja_nil)))))))))
    (jss_cons (js_set (i := 2) scLaw.nd rfl (Or.inl rfl) (je_ix jx_list (jv 1) (je_op jo_mod (je_ca GC hr1 rfl pass0 (ja_c (jv 0) (ja_c je_int ja_nil))) je_int) (fun _ _ => rfl)))
    (jss_cons (js_set (i := 3) scLaw.nd rfl (Or.inl rfl) (je_ix jx_list (jv 1) (je_op jo_mod (je_op jo_fdiv (je_ca GC hr1 rfl pass0 (ja_c (jv 0) (ja_c je_int ja_nil))) je_int) je_int) (fun _ _ => rfl)))
    (jss_cons (js_asg (je_ca GP hr2 rfl pass0 (ja_c (jv 0) (ja_c (jv 2) ja_nil))) (jg_tup rfl (jgs_cons (jg_name (i := 4) scLaw.nd rfl (Or.inl rfl)) (jgs_cons (jg_name (i := 5) scLaw.nd rfl (Or.inl rfl)) jgs_nil))))
    (jss_one (js_ret (je_and (je_ca GR hr rfl pass0 (ja_c (jv 2) (ja_c (jv 4) (ja_c (jv 5) ja_nil)))) (je_and (je_ca GR hr rfl pass0 (ja_c (jv 3) (ja_c (jv 5) (ja_c (jv 4) ja_nil)))) (je_one (je_ca GR hr rfl pass0 (ja_c (jv 2) (ja_c (jv 4) (ja_c (jv 5) ja_nil))))))))))))), ?_⟩
  refine ⟨by show 7 <= sizeLine; decide, fun l h1 => ?_⟩
  have s1 := same_new (o := .lst (WORDS.map V.str)) h1
  have t1 := upd_same (H := H) (a := l) (o := .lst (WORDS.map V.str))
  show (tSeq _ _ : TS) _ _ (upd H l (.lst (WORDS.map V.str)))
  generalize upd H l (.lst (WORDS.map V.str)) = H1 at *
  refine ⟨_, rfl, _, rfl, a, ns, 0, rfl, s1.seq hS, fun c1 => ?_⟩
  obtain ⟨w1, hw1, e1⟩ := word_at (c := c1 % 7) (Int.emod_nonneg _ (by decide)) (Int.emod_lt_of_pos _ (by decide))
  refine ⟨_, _, rfl, rfl, (by show (0 : Int) < 7; decide), l, _, _, _, rfl, rfl, SqL.of t1, e1, ?_⟩
  refine ⟨_, rfl, _, rfl, a, ns, 0, rfl, s1.seq hS, fun c2 => ?_⟩
  obtain ⟨w2, hw2, e2⟩ := word_at (c := c2 / 7 % 7) (Int.emod_nonneg _ (by decide)) (Int.emod_lt_of_pos _ (by decide))
  refine ⟨_, _, rfl, rfl, ⟨by decide, by decide⟩, _, _, rfl, rfl, (by show (0 : Int) < 7; decide), l, _, _, _, rfl, rfl, SqL.of t1, e2, ?_⟩
  refine ⟨_, rfl, _, rfl, a, ns, w1, rfl, s1.seq hS, fun H2 p x y i j s2 hp hx hy => ?_⟩
  refine ⟨p, _, rfl, SqT.of hp, rfl, _, _, rfl, _, _, rfl, rfl, ?_⟩
  refine ⟨_, rfl, _, rfl, _, rfl, w1, x, y, i, j, rfl, hw1, hx, hy, fun H3 s3 => ⟨_, rfl, iteT ?_⟩⟩
  refine ⟨_, rfl, _, rfl, _, rfl, w2, y, x, j, i, rfl, hw2, hy.keep s3, hx.keep s3, fun H4 s4 => ⟨_, rfl, iteT ?_⟩⟩
  exact ⟨_, rfl, _, rfl, _, rfl, w1, x, y, i, j, rfl, hw1, hx.keep (s3.trans s4), hy.keep (s3.trans s4), fun H5 s5 => q _⟩
end
end K31
namespace K31
open PySem L2 K11
structure TopK (K : PySem.W.Frag) (C R c1 c2 c3 c4 c5 c6 c7 c8 c9 : Addr) : Prop where
  n_Fault : PySem.W.nsIn K mainGlobals "Fault" = some (some (.ref C))
  n_ReuseError : PySem.W.nsIn K mainGlobals "ReuseError" = some (some (.ref R))
  n_NoText : PySem.W.nsIn K mainGlobals "NoText" = some (some (.ref c1))
  n_Twice : PySem.W.nsIn K mainGlobals "Twice" = some (some (.ref c2))
  n_Unknown : PySem.W.nsIn K mainGlobals "Unknown" = some (some (.ref c3))
  n_Misfit : PySem.W.nsIn K mainGlobals "Misfit" = some (some (.ref c4))
  n_Unheld : PySem.W.nsIn K mainGlobals "Unheld" = some (some (.ref c5))
  n_Lacking : PySem.W.nsIn K mainGlobals "Lacking" = some (some (.ref c6))
  n_NoValue : PySem.W.nsIn K mainGlobals "NoValue" = some (some (.ref c7))
  n_Gone : PySem.W.nsIn K mainGlobals "Gone" = some (some (.ref c8))
  n_Full : PySem.W.nsIn K mainGlobals "Full" = some (some (.ref c9))
  m_init : MeIn K C "__init__" "Fault.__init__" sFault
  x_word : PySem.W.takerIn K C "word" = some none
  x_find : PySem.W.findIn K (.ref C) "word" = some none
  x_hd : PySem.W.hasDictIn K C = true
  x_over : overIn K C = true
  x_sa : PySem.W.findIn K (.ref C) "__setattr__" = some (some (.builtin "object.__setattr__"))
  x_any : (PySem.W.clsIn K C).any (·.hasDict) = true
  x_ga : PySem.W.findIn K (.ref C) "__getattribute__" = some (some (.builtin "BaseException.__getattribute__"))
  x_ha : PySem.W.findIn K (.ref C) "__getattr__" = some none
  x_sb : PySem.W.subIn K (.ref C) (.type "BaseException") = some true
  x_kp : PySem.W.keepIn K (.ref C) = true
  x_cl : ∃ f, PySem.W.findIn K (.ref C) "__init__" = some (some (.ref f)) /\ xIn K C f = true /\ PySem.W.typeIn K (.ref f) = some (.type "function")
  r_sp : PySem.W.specialIn K (.ref R) "__getattribute__" = some (some (.builtin "type.__getattribute__"))
  r_rd : PySem.W.readsIn K R (.type "type") = true
  r_fi : PySem.W.findCls K (.ref R) (.type "type") "__init__" = some (.val (.builtin "ValueError.__init__"))
  x_class : PySem.W.findIn K (.ref C) "__class__" = some (some (.builtin "object.__class__"))
  x_gs : PySem.W.specialIn K (.builtin "object.__class__") "__get__" = some (some (.builtin "getset_descriptor.__get__"))
  x_tk : PySem.W.takesIn K (.builtin "object.__class__") = some true
  x_mo : PySem.W.mroIn K C (.type "object") = some true
  k_1 : PySem.W.kitOne K (.ref C) (.ref c1) = some false
  k_2 : PySem.W.kitOne K (.ref C) (.ref c2) = some false
  k_3 : PySem.W.kitOne K (.ref C) (.ref c3) = some false
  k_4 : PySem.W.kitOne K (.ref C) (.ref c4) = some false
  k_5 : PySem.W.kitOne K (.ref C) (.ref c5) = some false
  k_6 : PySem.W.kitOne K (.ref C) (.ref c6) = some false
  k_7 : PySem.W.kitOne K (.ref C) (.ref c7) = some false
  k_8 : PySem.W.kitOne K (.ref C) (.ref c8) = some false
  k_9 : PySem.W.kitOne K (.ref C) (.ref c9) = some false
  k_F : PySem.W.kitOne K (.ref C) (.ref C) = some true
  k_R : PySem.W.kitOne K (.ref C) (.ref R) = some true
  k_V : PySem.W.kitOne K (.ref C) (.type "ValueError") = some true
  k_x : PySem.W.exmOne K (.ref C) (.ref C) = some true
  d_is_whole : DfIn K "is_whole" sWhole
  d_in_bounds : DfIn K "in_bounds" sIn
  d_result_of : DfIn K "result_of" sRes
  d_reckoned : DfIn K "reckoned" sReck
  d__law_cell : DfIn K "_law_cell" sCell
  d__law_number : DfIn K "_law_number" sNum
  d__law_edge : DfIn K "_law_edge" sEdge
  d__law_pair : DfIn K "_law_pair" sPair
  d__law_one_class : DfIn K "_law_one_class" sOne
  d__law_told : DfIn K "_law_told" sTold
  d__law_fault : DfIn K "_law_fault" sFlt
  d__law_number_right : DfIn K "_law_number_right" sNR
  d__law_right : DfIn K "_law_right" sRight
  d_law : DfIn K "law" sLaw
  z_len : PySem.W.nsIn K mainGlobals "len" = some none
  z_isinstance : PySem.W.nsIn K mainGlobals "isinstance" = some none
  z_int : PySem.W.nsIn K mainGlobals "int" = some none
  z_bool : PySem.W.nsIn K mainGlobals "bool" = some none
  z_tuple : PySem.W.nsIn K mainGlobals "tuple" = some none
  z_abs : PySem.W.nsIn K mainGlobals "abs" = some none
  z_ValueError : PySem.W.nsIn K mainGlobals "ValueError" = some none
theorem top_ok {l : PySem.W.OpenLaw} {w : World} {K : PySem.W.Frag} {h : Heap} {mg : Str -> Option Value} {fa C R c1 c2 c3 c4 c5 c6 c7 c8 c9 : Addr} (T : TopK K C R c1 c2 c3 c4 c5 c6 c7 c8 c9) (X : K.In h) (G : h.Ns mainGlobals mg) (hfa : mg "law" = some (.ref fa)) :
    ∃ fd : FuncData, (∀ (s : Shared) (u : Value), BindsTo s fd ⟨[u], []⟩ [("_law_script", u)]) /\ ∀ base : Heap, K.In base -> base.Ns mainGlobals mg -> FnOk l.prog w K mg base CX0 6 fa fd ["_law_script"] (spTop K) := by
  refine law_in T.d_law X G hfa (fun _ _ _ _ _ _ s v => .of_eq rfl) fun base fd FL => ?_
  have z_len : mg "len" = none := PySem.W.mg_none_of X G T.z_len
  have z_isinstance : mg "isinstance" = none := PySem.W.mg_none_of X G T.z_isinstance
  have z_int : mg "int" = none := PySem.W.mg_none_of X G T.z_int
  have z_bool : mg "bool" = none := PySem.W.mg_none_of X G T.z_bool
  have z_tuple : mg "tuple" = none := PySem.W.mg_none_of X G T.z_tuple
  have z_abs : mg "abs" = none := PySem.W.mg_none_of X G T.z_abs
  have z_ValueError : mg "ValueError" = none := PySem.W.mg_none_of X G T.z_ValueError
  have n_Fault := PySem.W.mg_of X G T.n_Fault
  have n_ReuseError := PySem.W.mg_of X G T.n_ReuseError
  obtain ⟨fx, ax, xin, xty⟩ := T.x_cl
  have M : XCl K C fx := ⟨xin, xty, T.x_kp, T.x_over, T.x_sa, T.x_any, T.x_ga, T.x_ha, T.x_sb⟩
  have B : XBase K R := ⟨T.r_sp, T.r_rd, T.r_fi⟩
  have GX : Xa l.prog w K mg base 1 "Fault" C ["self", "word"] (spFault C) := by
    obtain ⟨f, a, n, g⟩ := T.m_init
    obtain ⟨fd, F, kp⟩ := g.fn
    have e : f = fx := by
      rw [ax] at a
      injection a with a
      injection a with a
      injection a with a
      exact a.symm
    subst e
    exact ⟨f, fd, M, ok_fault F T.x_word M B n_ReuseError, F.binds (ps := ["self", "word"]) fun _ _ _ _ _ _ us hl => match us, hl with | [_, _], _ => rfl, n_Fault⟩
  have cls : Cls31 K mg C R := ⟨⟨T.x_ga, T.x_ha, T.x_sb, T.x_hd, T.x_class, T.x_gs, T.x_tk, T.x_mo⟩, ⟨c1, PySem.W.mg_of X G T.n_NoText, T.k_1⟩, ⟨c2, PySem.W.mg_of X G T.n_Twice, T.k_2⟩, ⟨c3, PySem.W.mg_of X G T.n_Unknown, T.k_3⟩, ⟨c4, PySem.W.mg_of X G T.n_Misfit, T.k_4⟩, ⟨c5, PySem.W.mg_of X G T.n_Unheld, T.k_5⟩, ⟨c6, PySem.W.mg_of X G T.n_Lacking, T.k_6⟩, ⟨c7, PySem.W.mg_of X G T.n_NoValue, T.k_7⟩, ⟨c8, PySem.W.mg_of X G T.n_Gone, T.k_8⟩, ⟨c9, PySem.W.mg_of X G T.n_Full, T.k_9⟩, ⟨n_Fault, T.k_F⟩, ⟨n_ReuseError, T.k_R⟩, ⟨z_ValueError, T.k_V⟩, T.k_x⟩
  have G1 := DfIn.ca (P := l.prog) (w := w) (base := base) X G T.d_is_whole (ps := ["thing"]) (fun _ _ _ _ _ _ us hl => match us, hl with | [_], _ => rfl) fun f fd F => ok_whole F z_isinstance z_int z_bool
  have G2 := DfIn.ca (P := l.prog) (w := w) (base := base) X G T.d_in_bounds (ps := ["number"]) (fun _ _ _ _ _ _ us hl => match us, hl with | [_], _ => rfl) fun f fd F => ok_in F
  have G3 := DfIn.ca (P := l.prog) (w := w) (base := base) X G T.d_result_of (ps := ["word", "a", "b"]) (fun _ _ _ _ _ _ us hl => match us, hl with | [_, _, _], _ => rfl) fun f fd F => ok_res F
  have G4 := DfIn.ca (P := l.prog) (w := w) (base := base) X G T.d_reckoned (ps := ["word", "a", "b"]) (fun _ _ _ _ _ _ us hl => match us, hl with | [_, _, _], _ => rfl) fun f fd F => ok_reck F GX G1 G3 G2
  have LC := DfIn.ca (P := l.prog) (w := w) (base := base) X G T.d__law_cell (ps := ["_law_script", "_law_k"]) (fun _ _ _ _ _ _ us hl => match us, hl with | [_, _], _ => rfl) fun f fd F => ok_cell F z_len
  have LN := DfIn.ca (P := l.prog) (w := w) (base := base) X G T.d__law_number (ps := ["_law_cell_here"]) (fun _ _ _ _ _ _ us hl => match us, hl with | [_], _ => rfl) fun f fd F => ok_num F
  have LE := DfIn.ca (P := l.prog) (w := w) (base := base) X G T.d__law_edge (ps := ["_law_word", "_law_cell_here", "_law_other"]) (fun _ _ _ _ _ _ us hl => match us, hl with | [_, _, _], _ => rfl) fun f fd F => ok_edge F z_int z_abs
  have LP := DfIn.ca (P := l.prog) (w := w) (base := base) X G T.d__law_pair (ps := ["_law_script", "_law_word"]) (fun _ _ _ _ _ _ us hl => match us, hl with | [_, _], _ => rfl) fun f fd F => ok_pair F LC LN LE
  have LO := DfIn.caH (P := l.prog) (w := w) (base := base) X G T.d__law_one_class (ps := ["_law_e"]) (fun _ _ _ _ _ _ us hl => match us, hl with | [_], _ => rfl) fun f fd F => ok_one F cls z_isinstance z_len
  have LT := DfIn.ca (P := l.prog) (w := w) (base := base) X G T.d__law_told (ps := ["_law_word", "_law_a", "_law_b"]) (fun _ _ _ _ _ _ us hl => match us, hl with | [_, _, _], _ => rfl) fun f fd F => ok_told F cls M T.x_find G4 LO
  have LF := DfIn.ca (P := l.prog) (w := w) (base := base) X G T.d__law_fault (ps := ["_law_word", "_law_a", "_law_b"]) (fun _ _ _ _ _ _ us hl => match us, hl with | [_, _, _], _ => rfl) fun f fd F => ok_flt F z_isinstance z_tuple z_abs
  have LR := DfIn.ca (P := l.prog) (w := w) (base := base) X G T.d__law_number_right (ps := ["_law_word", "_law_a", "_law_b", "_law_found"]) (fun _ _ _ _ _ _ us hl => match us, hl with | [_, _, _, _], _ => rfl) fun f fd F => ok_nr F z_isinstance z_int z_bool z_abs
  have LG := DfIn.ca (P := l.prog) (w := w) (base := base) X G T.d__law_right (ps := ["_law_word", "_law_a", "_law_b"]) (fun _ _ _ _ _ _ us hl => match us, hl with | [_, _, _], _ => rfl) fun f fd F => ok_right F LT LF LR
  exact ok_law FL LC LP LG
end K31
def PySem.W.Fast.tw7672231564101793984 : Unit := ()
def PySem.W.Fast.tw6259891155672755841 : Unit := ()
def PySem.W.Fast.tw13459976689355595697 : Unit := ()
def PySem.W.Fast.tw16002155707865298458 : Unit := ()
def PySem.W.Fast.tw15843077999692543167 : Unit := ()
def PySem.W.Fast.tw14019306371511431164 : Unit := ()
def PySem.W.Fast.tw285493336646803564 : Unit := ()
def PySem.W.Fast.tw14501415994651343590 : Unit := ()
def PySem.W.Fast.tw3720740879705571544 : Unit := ()
def PySem.W.Fast.tw6068502001013004829 : Unit := ()
def PySem.W.Fast.tw5514636036507993022 : Unit := ()
def PySem.W.Fast.tw5647990649316309464 : Unit := ()
def PySem.W.Fast.tw5856741337570820990 : Unit := ()
def PySem.W.Fast.tw51914636690375010 : Unit := ()
def PySem.W.Fast.tw15947835424557794246 : Unit := ()
def PySem.W.Fast.tw5516946060733293664 : Unit := ()
def PySem.W.Fast.tw11126783447731037258 : Unit := ()
def PySem.W.Fast.tw4004571106235824157 : Unit := ()
def PySem.W.Fast.tw13530650367024807670 : Unit := ()
def PySem.W.Fast.tw7085027966328988422 : Unit := ()
def PySem.W.Fast.tw16984563549906155197 : Unit := ()
def PySem.W.Fast.tw4467465562902100222 : Unit := ()
def PySem.W.Fast.tw5960697275178501490 : Unit := ()
def PySem.W.Fast.tw16980316985980278541 : Unit := ()
def PySem.W.Fast.tw10576191295323145143 : Unit := ()
def PySem.W.Fast.tw7418105924638745857 : Unit := ()
def PySem.W.Fast.tw5032250361657972189 : Unit := ()
def PySem.W.Fast.tw9383461963656933909 : Unit := ()
def PySem.W.Fast.tw4010686460296145664 : Unit := ()
def PySem.W.Fast.tw16194893682755225292 : Unit := ()
def PySem.W.Fast.tw8290388551134835570 : Unit := ()
def PySem.W.Fast.tw6502410422417438830 : Unit := ()
def PySem.W.Fast.tw6277821749186547366 : Unit := ()
def PySem.W.Fast.tw16174532928334310321 : Unit := ()
def PySem.W.Fast.tw6508809730930545368 : Unit := ()
def PySem.W.Fast.tw11337053246870155121 : Unit := ()
def PySem.W.Fast.tw4801602827259619559 : Unit := ()
def PySem.W.Fast.tw2728201640271542241 : Unit := ()
def PySem.W.Fast.tw13988161394999585330 : Unit := ()
def PySem.W.Fast.tw17716721627960951512 : Unit := ()
def PySem.W.Fast.tw44179555970024493 : Unit := ()
def PySem.W.Fast.tw11897067629243910434 : Unit := ()
def PySem.W.Fast.tw12718600656001140614 : Unit := ()
def PySem.W.Fast.tw7680788800902303561 : Unit := ()
def PySem.W.Fast.tw16738519099115185676 : Unit := ()
def PySem.W.Fast.tw15336549841780511436 : Unit := ()
def PySem.W.Fast.tw15310127654006428141 : Unit := ()
def PySem.W.Fast.tw345682319351898134 : Unit := ()
def PySem.W.Fast.tw9380174991400125746 : Unit := ()
open PySem PySem.W PyProof.Rows
set_option maxRecDepth 100000 in
set_option maxHeartbeats 0 in
theorem PySem.Challenge.cw_reusewise_k31_reckoned_holds : PySem.Challenge.rw_reusewise_k31_reckoned.Holds := by
  w_on; o_law; k_head; (case hw => w_witness2)
  k_fill
  refine L2.walk1 (l := PySem.Challenge.rw_reusewise_k31_reckoned) (k := 6) rfl ⟨rfl, by decide, by decide⟩ rfl rfl (fun w h Y => PySem.W.kIn_of Y) ?F
  case F =>
    intro w mg fa h KX G hm
    refine' K31.top_ok (K31.TopK.mk ?n_Fault ?n_ReuseError ?n_NoText ?n_Twice ?n_Unknown ?n_Misfit ?n_Unheld ?n_Lacking ?n_NoValue ?n_Gone ?n_Full ?m_init ?x_word ?x_find ?x_hd ?x_over ?x_sa ?x_any ?x_ga ?x_ha ?x_sb ?x_kp ?x_cl ?r_sp ?r_rd ?r_fi ?x_class ?x_gs ?x_tk ?x_mo ?k_1 ?k_2 ?k_3 ?k_4 ?k_5 ?k_6 ?k_7 ?k_8 ?k_9 ?k_F ?k_R ?k_V ?k_x ?d_is_whole ?d_in_bounds ?d_result_of ?d_reckoned ?d__law_cell ?d__law_number ?d__law_edge ?d__law_pair ?d__law_one_class ?d__law_told ?d__law_fault ?d__law_number_right ?d__law_right ?d_law ?z_len ?z_isinstance ?z_int ?z_bool ?z_tuple ?z_abs ?z_ValueError) KX G hm
    (case n_Fault => k_is)
    (case n_ReuseError => k_is)
    (case n_NoText => k_is)
    (case n_Twice => k_is)
    (case n_Unknown => k_is)
    (case n_Misfit => k_is)
    (case n_Unheld => k_is)
    (case n_Lacking => k_is)
    (case n_NoValue => k_is)
    (case n_Gone => k_is)
    (case n_Full => k_is)
    (case m_init => (refine' L2.MeIn.mk ?a ?l ?c ?k ?n; (case a => k_is); (case l => k_is); (case c => k_is); (case k => k_is); (case n => k_is)))
    (case x_word => k_is)
    (case x_find => k_is)
    (case x_hd => k_is)
    (case x_over => (first | kernel_rfl | rfl | decide +kernel))
    (case x_sa => k_is)
    (case x_any => (first | kernel_rfl | rfl | decide +kernel))
    (case x_ga => k_is)
    (case x_ha => k_is)
    (case x_sb => k_is)
    (case x_kp => k_is)
    (case x_cl => (refine' L2.XcIn.mk ?a ?b ?c; (case a => k_is); (case b => (first | kernel_rfl | rfl | decide +kernel)); (case c => k_is)))
    (case r_sp => k_is)
    (case r_rd => k_is)
    (case r_fi => k_is)
    (case x_class => k_is)
    (case x_gs => k_is)
    (case x_tk => k_is)
    (case x_mo => k_is)
    (case k_1 => (first | kernel_rfl | rfl | decide +kernel))
    (case k_2 => (first | kernel_rfl | rfl | decide +kernel))
    (case k_3 => (first | kernel_rfl | rfl | decide +kernel))
    (case k_4 => (first | kernel_rfl | rfl | decide +kernel))
    (case k_5 => (first | kernel_rfl | rfl | decide +kernel))
    (case k_6 => (first | kernel_rfl | rfl | decide +kernel))
    (case k_7 => (first | kernel_rfl | rfl | decide +kernel))
    (case k_8 => (first | kernel_rfl | rfl | decide +kernel))
    (case k_9 => (first | kernel_rfl | rfl | decide +kernel))
    (case k_F => (first | kernel_rfl | rfl | decide +kernel))
    (case k_R => (first | kernel_rfl | rfl | decide +kernel))
    (case k_V => (first | kernel_rfl | rfl | decide +kernel))
    (case k_x => (first | kernel_rfl | rfl | decide +kernel))
    (case d_is_whole => (refine' L2.DfIn.mk ?a ?l ?c ?k; (case a => k_is); (case l => k_is); (case c => k_is); (case k => k_is)))
    (case d_in_bounds => (refine' L2.DfIn.mk ?a ?l ?c ?k; (case a => k_is); (case l => k_is); (case c => k_is); (case k => k_is)))
    (case d_result_of => (refine' L2.DfIn.mk ?a ?l ?c ?k; (case a => k_is); (case l => k_is); (case c => k_is); (case k => k_is)))
    (case d_reckoned => (refine' L2.DfIn.mk ?a ?l ?c ?k; (case a => k_is); (case l => k_is); (case c => k_is); (case k => k_is)))
    (case d__law_cell => (refine' L2.DfIn.mk ?a ?l ?c ?k; (case a => k_is); (case l => k_is); (case c => k_is); (case k => k_is)))
    (case d__law_number => (refine' L2.DfIn.mk ?a ?l ?c ?k; (case a => k_is); (case l => k_is); (case c => k_is); (case k => k_is)))
    (case d__law_edge => (refine' L2.DfIn.mk ?a ?l ?c ?k; (case a => k_is); (case l => k_is); (case c => k_is); (case k => k_is)))
    (case d__law_pair => (refine' L2.DfIn.mk ?a ?l ?c ?k; (case a => k_is); (case l => k_is); (case c => k_is); (case k => k_is)))
    (case d__law_one_class => (refine' L2.DfIn.mk ?a ?l ?c ?k; (case a => k_is); (case l => k_is); (case c => k_is); (case k => k_is)))
    (case d__law_told => (refine' L2.DfIn.mk ?a ?l ?c ?k; (case a => k_is); (case l => k_is); (case c => k_is); (case k => k_is)))
    (case d__law_fault => (refine' L2.DfIn.mk ?a ?l ?c ?k; (case a => k_is); (case l => k_is); (case c => k_is); (case k => k_is)))
    (case d__law_number_right => (refine' L2.DfIn.mk ?a ?l ?c ?k; (case a => k_is); (case l => k_is); (case c => k_is); (case k => k_is)))
    (case d__law_right => (refine' L2.DfIn.mk ?a ?l ?c ?k; (case a => k_is); (case l => k_is); (case c => k_is); (case k => k_is)))
    (case d_law => (refine' L2.DfIn.mk ?a ?l ?c ?k; (case a => k_is); (case l => k_is); (case c => k_is); (case k => k_is)))
    (case z_len => k_is)
    (case z_isinstance => k_is)
    (case z_int => k_is)
    (case z_bool => k_is)
    (case z_tuple => k_is)
    (case z_abs => k_is)
    (case z_ValueError => k_is)
#print axioms PySem.Challenge.cw_reusewise_k31_reckoned_holds
