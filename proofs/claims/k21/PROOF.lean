import PyProof.Rows.All
import Wide.All
import OpenK.AllK
import Wide.FinOn
import Lean
import PyProof.EqAt
import PyProof.EqKinds
import PyProof.TupleCall
import PyProof.PassesOwn
import PyProof.StationsW
import OpenK.KCls
import PyProof.ExcAttrAll.ValueError
import PyProof.ExcClass3
import PyProof.WalksEnum
import PyProof.EnumMake
import PyProof.EnumFor
import PyProof.EnumStmt
import KE.KRevIter
import PyProof.AutoSeq1
import PyProof.FactsAll.list
import PyProof.MeetsStr
import PyProof.StrLawsTight
import PyProof.NeKinds
import PyProof.Rows.SumAny
import PyProof.SeqI3
import PyProof.ZipIter
import PyProof.WalksMore
import PyProof.ListNew
import PyProof.IsRules
import PyProof.StrBlockL
import PyProof.StrBlockI
import PyProof.StrBlock2
import PyProof.StrLawsIn
import PyProof.StrLawsChain
import PyProof.Rows.StrLast
import PyProof.Rows.StrItems
import KE.IntTextText
import KE.KItemsList
import PySem.Challenge.RW_reusewise_k21_sizes
set_option Elab.async false
set_option linter.all false
set_option maxRecDepth 100000
set_option maxHeartbeats 4000000
namespace L2
open PySem PySem.Spec PyProof.Rows
abbrev Key := Sum Int Str
def keyIs : Key -> Value -> Bool
  | .inl k, v => Value.isInt k v
  | .inr x, v => Value.isStrOf x v
def keyH (w : World) : Key -> Int
  | .inl k => hashInt k
  | .inr x => hashStr w x
theorem keyIs_shape : ∀ {k : Key} {v : Value}, keyIs k v = true -> (∃ i t, k = Sum.inl i /\ v = Value.int i t) \/ (∃ x t, k = Sum.inr x /\ v = Value.str x t)
  | .inl i, v, h => by
    obtain ⟨t, e⟩ := Value.isInt_shape (k := i) (v := v) h
    exact .inl ⟨i, t, rfl, e⟩
  | .inr x, v, h => by
    obtain ⟨t, e⟩ := Value.isStrOf_shape (x := x) (v := v) h
    exact .inr ⟨x, t, rfl, e⟩
theorem keyIs_int (i : Int) (t : Tok) : keyIs (.inl i) (.int i t) = true := by simp [keyIs, Value.isInt]
theorem keyIs_str (x : Str) (t : Tok) : keyIs (.inr x) (.str x t) = true := by simp [keyIs, Value.isStrOf]
theorem key_ll (a b : Int) : decide ((Sum.inl a : Key) = Sum.inl b) = (a == b) := by
  by_cases e : a = b
  · subst e; simp
  · have h : ¬ (Sum.inl a : Key) = Sum.inl b := fun q => e (Sum.inl.inj q)
    rw [decide_eq_false h]
    exact (beq_eq_false_iff_ne.mpr e).symm
theorem key_rr (a b : Str) : decide ((Sum.inr a : Key) = Sum.inr b) = decide (a = b) := by
  by_cases e : a = b
  · subst e; simp
  · have h : ¬ (Sum.inr a : Key) = Sum.inr b := fun q => e (Sum.inr.inj q)
    rw [decide_eq_false h, decide_eq_false e]
theorem key_lr (a : Int) (b : Str) : decide ((Sum.inl a : Key) = Sum.inr b) = false := decide_eq_false (fun q => nomatch q)
theorem key_rl (a : Str) (b : Int) : decide ((Sum.inr a : Key) = Sum.inl b) = false := decide_eq_false (fun q => nomatch q)
def mixKind (prog : Program) (w : World) : PySem.KeyKind prog w Key where
  is := keyIs
  hash := keyH w
  inj := fun v a b ha hb => by
    rcases keyIs_shape ha with ⟨i, t, rfl, rfl⟩ | ⟨x, t, rfl, rfl⟩
    · rcases keyIs_shape hb with ⟨j, u, rfl, e⟩ | ⟨y, u, rfl, e⟩
      · injection e with e1 _; rw [e1]
      · exact nomatch e
    · rcases keyIs_shape hb with ⟨j, u, rfl, e⟩ | ⟨y, u, rfl, e⟩
      · exact nomatch e
      · injection e with e1 _; rw [e1]
  byValue := fun k v h => by
    rcases keyIs_shape h with ⟨i, t, rfl, rfl⟩ | ⟨x, t, rfl, rfl⟩ <;> rfl
  pyHash := fun hv h => by
    rcases keyIs_shape hv with ⟨i, t, rfl, rfl⟩ | ⟨x, t, rfl, rfl⟩
    · exact wpAny_pyHash_int h
    · exact wpAny_pyHash_str h
  eqBool := fun hu hv h => by
    rcases keyIs_shape hu with ⟨i, t, rfl, rfl⟩ | ⟨x, t, rfl, rfl⟩
    · rcases keyIs_shape hv with ⟨j, u, rfl, rfl⟩ | ⟨y, u, rfl, rfl⟩
      · rw [key_ll] at h; exact wpAny_eqBool_int h
      · rw [key_lr] at h; exact SeqAt.EqAt.int_str i t y u _ _ _ _ h
    · rcases keyIs_shape hv with ⟨j, u, rfl, rfl⟩ | ⟨y, u, rfl, rfl⟩
      · rw [key_rl] at h; exact SeqAt.EqAt.str_int x t j u _ _ _ _ h
      · rw [key_rr] at h; exact wpAny_eqBool_str h
  «strs» := fun k x t v h => by
    rcases keyIs_shape h with ⟨i, u, rfl, e⟩ | ⟨y, u, rfl, e⟩
    · exact nomatch e
    · injection e with e1 _
      subst e1
      cases v <;> rfl
theorem mixKind_is (prog : Program) (w : World) (k : Key) (v : Value) : (mixKind prog w).is k v = keyIs k v := rfl
theorem mixKind_int (prog : Program) (w : World) (i : Int) (t : Tok) : (mixKind prog w).is (.inl i) (.int i t) = true := keyIs_int i t
theorem mixKind_str (prog : Program) (w : World) (x : Str) (t : Tok) : (mixKind prog w).is (.inr x) (.str x t) = true := keyIs_str x t
end L2
namespace L2
open PySem PySem.Spec PyProof.Rows
inductive V where
  | non | bl (b : Bool) | int (i : Int) | str (x : Str) | byt (b : Array UInt8) | flt (b : UInt64) | ref (a : Addr) | ty (n : String)
  deriving DecidableEq
def RelV : V -> Value -> Prop
  | .non, u => u = Value.none
  | .bl b, u => u = Value.bool b
  | .int i, u => ∃ t, u = Value.int i t
  | .str x, u => ∃ t, u = Value.str x t
  | .byt b, u => ∃ t, u = Value.bytes b t
  | .flt b, u => ∃ t, u = Value.float b t
  | .ref a, u => u = Value.ref a
  | .ty n, u => u = Value.type n
abbrev Vals : List V -> List Value -> Prop := Paired RelV
theorem Vals.length {xs : List V} {us : List Value} (r : Vals xs us) : xs.length = us.length := Paired.length r
theorem Vals.get : ∀ {xs : List V} {us : List Value} {i : Nat} {x : V}, Vals xs us -> xs[i]? = some x -> ∃ u, us[i]? = some u /\ RelV x u
  | _, _, _, _, .nil, e => by simp at e
  | _, _, 0, _, .cons r _, e => by simp at e; subst e; exact ⟨_, rfl, r⟩
  | _, _, i + 1, x, .cons _ t, e => by
    obtain ⟨u, h1, h2⟩ := Vals.get (i := i) (x := x) t (by simpa using e)
    exact ⟨u, by simpa using h1, h2⟩
theorem Vals.set {x : V} {u : Value} (r : RelV x u) : ∀ {xs : List V} {us : List Value} (i : Nat), Vals xs us -> Vals (xs.set i x) (us.set i u)
  | _, _, _, .nil => .nil
  | _, _, 0, .cons _ t => .cons r t
  | _, _, i + 1, .cons q t => .cons q (Vals.set r i t)
theorem Vals.append : ∀ {xs ys : List V} {us ws : List Value}, Vals xs us -> Vals ys ws -> Vals (xs ++ ys) (us ++ ws)
  | _, _, _, _, .nil, s => s
  | _, _, _, _, .cons r t, s => .cons r (Vals.append t s)
theorem Vals.take : ∀ {xs : List V} {us : List Value} (n : Nat), Vals xs us -> Vals (xs.take n) (us.take n)
  | _, _, 0, _ => .nil
  | _, _, _ + 1, .nil => .nil
  | _, _, n + 1, .cons r t => .cons r (Vals.take n t)
theorem Vals.drop : ∀ {xs : List V} {us : List Value} (n : Nat), Vals xs us -> Vals (xs.drop n) (us.drop n)
  | _, _, 0, r => r
  | _, _, _ + 1, .nil => .nil
  | _, _, n + 1, .cons _ t => Vals.drop n t
def RelO : Option V -> Option Value -> Prop
  | some v, some u => RelV v u
  | none, none => True
  | _, _ => False
def KV {κ : Type} : List (κ × V) -> List (κ × Value) -> Prop := Paired fun (p : κ × V) (q : κ × Value) => p.1 = q.1 /\ RelV p.2 q.2
def kV : Key -> V
  | .inl i => .int i
  | .inr x => .str x
inductive HO where
  | lst (xs : List V)
  | tup (xs : List V)
  | dK (kvs : List (Key × V)) | dT (kvs : List (List Key × V))
  | set (S : Int -> Bool) (n : Nat)
  | ins (C dx : Addr) (fs : List (Str × V))
  | own (x : Addr)
  | xd (fs : List (Str × V))
  | met (f x : Addr)
  | rng (lo hi : Int)
  | frz (o : Obj) (u : HO)
  | tbl (ps : Array Value)
  | ext (φ : Heap -> Prop)
abbrev Hp := Addr -> Option HO
def upd (H : Hp) (a : Addr) (o : HO) : Hp := fun b => if b = a then some o else H b
theorem upd_same {H : Hp} {a : Addr} {o : HO} : upd H a o a = some o := by unfold upd; rw [if_pos rfl]
theorem upd_ne {H : Hp} {a b : Addr} {o : HO} (h : b ≠ a) : upd H a o b = H b := by unfold upd; rw [if_neg h]
theorem ne_of {H : Hp} {a b : Addr} {o u : HO} (h : H a = some o) (h' : H b = some u) (d : o ≠ u) : a ≠ b := by
  intro e; subst e; rw [h] at h'; exact d (Option.some.inj h')
theorem ne_of_none {H : Hp} {a b : Addr} {o : HO} (h : H a = some o) (h' : H b = none) : a ≠ b := by
  intro e; subst e; rw [h] at h'; cases h'
section
variable (P : Program) (w : World)
def ObjOk (H : Hp) (h : Heap) (a : Addr) : HO -> Prop
  | .lst xs => xs.length <= sizeLine /\ ∃ (its : List Value) (n : Nat), Vals xs its /\ h.get? a = some { cls := .type "list", data := .seq its.toArray n }
  | .tup xs => xs.length <= sizeLine /\ ∃ its : List Value, Vals xs its /\ IsTup h a its.toArray
  | .dK kvs => kvs.length <= sizeLine /\ (a == sysModules) = false /\ ∃ vs, KV kvs vs /\ h.DictOf (mixKind P w) a vs
  | .dT kvs => kvs.length <= sizeLine /\ (a == sysModules) = false /\ ∃ xs : List (List Key × Addr × Value),
      Paired (fun (p : List Key × V) (q : List Key × Addr × Value) => p.1 = q.1 /\ H q.2.1 = some (.tup (p.1.map kV)) /\ RelV p.2 q.2.2) kvs xs /\
      ∃ o es ep, h.get? a = some o /\ o.ExactDict /\ o.data = .dict es ep /\ es.toList = xs.map (entryOfKey (tupleKind (mixKind P w))) /\ (xs.map (·.1)).Nodup
  | .set S n => h.SetOf (intKind P w) a S n
  | .ins C dx fs => H dx = some (.own a) /\ fs.length <= 1000 /\ dx ≠ a /\ h.get? a = some (PySem.W.instObj C dx) /\
      ∃ mA, h.Ns1 dx mA /\ (∀ f, RelO (fs.lookup f) (mA f)) /\ PySem.Within mA (fs.map (·.1))
  | .own _ => ∃ o, h.get? a = some o
  | .xd fs => ∃ mA, h.Ns1 a mA /\ ∀ f, RelO (fs.lookup f) (mA f)
  | .rng lo hi => ∃ t u v, h.get? a = some { cls := .type "range", data := .fields #[.int lo t, .int hi u, .int 1 v] }
  | .frz o u => h.get? a = some o /\ ObjOk H h a u
  | .tbl ps => h.get? a = some { cls := .none, data := .fields ps }
  | .met f x => h.get? a = some (PySem.W.methodObj (.ref f) (.ref x))
  | .ext φ => φ h /\ (∃ o, h.get? a = some o) /\ ∀ h1 h2 : Heap, φ h1 -> (∀ o, h1.get? a = some o -> h2.get? a = some o) -> φ h2
def HOk (H : Hp) (h : Heap) : Prop := ∀ a o, H a = some o -> ObjOk P w H h a o
end
section
variable {P : Program} {w : World} {H H' : Hp} {h h' : Heap} {a : Addr} {o : HO}
theorem ObjOk.lt (x : ObjOk P w H h a o) : a < h.objs.size := by
  cases o with
  | lst xs => obtain ⟨_, _, _, _, e⟩ := x; exact Heap.lt_size e
  | tup xs => obtain ⟨_, _, _, p⟩ := x; exact p.lt
  | dK kvs => obtain ⟨_, _, _, _, o, _, _, e, _⟩ := x; exact Heap.lt_size e
  | dT kvs => obtain ⟨_, _, _, _, o, _, _, e, _⟩ := x; exact Heap.lt_size e
  | set S n => obtain ⟨o, _, _, _, e, _⟩ := x; exact Heap.lt_size e
  | ins C dx fs => obtain ⟨_, _, _, e, _⟩ := x; exact Heap.lt_size e
  | own y => obtain ⟨_, e⟩ := x; exact Heap.lt_size e
  | xd fs => obtain ⟨_, ⟨_, _, _, e, _⟩, _⟩ := x; exact Heap.lt_size e
  | rng lo hi => obtain ⟨_, _, _, e⟩ := x; exact Heap.lt_size e
  | frz ob u => obtain ⟨e, _⟩ := x; exact Heap.lt_size e
  | tbl ps => exact Heap.lt_size (show h.get? a = some _ from x)
  | met f y => exact Heap.lt_size (show h.get? a = some _ from x)
  | ext φ => obtain ⟨_, ⟨_, e⟩, _⟩ := x; exact Heap.lt_size e
theorem Paired.mapP {α β : Type} {F G : α -> β -> Prop} : ∀ {l₁ : List α} {l₂ : List β}, Paired F l₁ l₂ -> (∀ a b, F a b -> G a b) -> Paired G l₁ l₂
  | _, _, .nil, _ => .nil
  | _, _, .cons r t, f => .cons (f _ _ r) (Paired.mapP t f)
theorem ObjOk.stay (x : ObjOk P w H h a o) (k : ∀ b u, (b = a \/ H b = some (.own a)) -> h.get? b = some u -> h'.get? b = some u)
    (ho : ∀ b, H b = some (.own a) -> H' b = some (.own a)) (ht : ∀ b xs, H b = some (.tup xs) -> H' b = some (.tup xs)) : ObjOk P w H' h' a o := by
  induction o with
  | lst xs => obtain ⟨z, its, n, r, e⟩ := x; exact ⟨z, its, n, r, k _ _ (.inl rfl) e⟩
  | tup xs => obtain ⟨z, its, r, ob, e, c⟩ := x; exact ⟨z, its, r, ob, k _ _ (.inl rfl) e, c⟩
  | dK kvs => obtain ⟨z, y, vs, r, ob, es, ep, e, c⟩ := x; exact ⟨z, y, vs, r, ob, es, ep, k _ _ (.inl rfl) e, c⟩
  | dT kvs =>
    obtain ⟨z, y, xs, r, ob, es, ep, e, c⟩ := x
    exact ⟨z, y, xs, Paired.mapP r fun p q z => ⟨z.1, ht _ _ z.2.1, z.2.2⟩, ob, es, ep, k _ _ (.inl rfl) e, c⟩
  | set S n => obtain ⟨ob, es, ep, t, e, c⟩ := x; exact ⟨ob, es, ep, t, k _ _ (.inl rfl) e, c⟩
  | ins C dx fs =>
    obtain ⟨d, z, ne, e, mA, ⟨od, es, ep, e2, c⟩, r⟩ := x
    exact ⟨ho _ d, z, ne, k _ _ (.inl rfl) e, mA, ⟨od, es, ep, k _ _ (.inr d) e2, c⟩, r⟩
  | own y => obtain ⟨ob, e⟩ := x; exact ⟨ob, k _ _ (.inl rfl) e⟩
  | xd fs => obtain ⟨mA, ⟨od, es, ep, e, c⟩, r⟩ := x; exact ⟨mA, ⟨od, es, ep, k _ _ (.inl rfl) e, c⟩, r⟩
  | rng lo hi => obtain ⟨t, u, v, e⟩ := x; exact ⟨t, u, v, k _ _ (.inl rfl) e⟩
  | frz ob u ih => obtain ⟨e, q⟩ := x; exact ⟨k _ _ (.inl rfl) e, ih q⟩
  | tbl ps =>
    have e : h.get? a = some { cls := .none, data := .fields ps } := x
    show h'.get? a = some { cls := .none, data := .fields ps }
    exact k a _ (.inl rfl) e
  | met f y =>
    have e : h.get? a = some (PySem.W.methodObj (.ref f) (.ref y)) := x
    show h'.get? a = some (PySem.W.methodObj (.ref f) (.ref y))
    exact k a _ (.inl rfl) e
  | ext φ => obtain ⟨p, ⟨o, e⟩, st⟩ := x; exact ⟨st _ _ p fun o q => k _ _ (.inl rfl) q, ⟨o, k _ _ (.inl rfl) e⟩, st⟩
theorem HOk.lt (x : HOk P w H h) (e : H a = some o) : a < h.objs.size := (x a o e).lt
theorem HOk.fresh (x : HOk P w H h) (e : h.objs.size <= a) : H a = none := by
  cases q : H a with
  | none => rfl
  | some u => exact absurd (Nat.lt_of_lt_of_le (x.lt q) e) (Nat.lt_irrefl _)
theorem HOk.kept (x : HOk P w H h) (k : ∀ b u, h.get? b = some u -> h'.get? b = some u) : HOk P w H h' := fun a o e =>
  (x a o e).stay (fun b u _ q => k b u q) (fun _ q => q) fun _ _ q => q
theorem HOk.laid (x : HOk P w H h) (k : ∀ b u, h.get? b = some u -> h'.get? b = some u) (hp : h.objs.size <= a) (new : ObjOk P w (upd H a o) h' a o) : HOk P w (upd H a o) h' := fun b u e => by
  have hn := x.fresh hp
  by_cases hb : b = a
  · subst hb; rw [upd_same] at e; cases e; exact new
  · rw [upd_ne hb] at e
    exact (x b u e).stay (fun c v _ q => k c v q) (fun c q => by rw [upd_ne (ne_of_none q hn)]; exact q) fun c xs q => by rw [upd_ne (ne_of_none q hn)]; exact q
end
def Rd (H : Hp) (a : Addr) (u : HO) : Prop := H a = some u \/ ∃ o, H a = some (.frz o u)
theorem Rd.of {H : Hp} {a : Addr} {u : HO} (h : H a = some u) : Rd H a u := .inl h
theorem Rd.ok {P : Program} {w : World} {H : Hp} {h : Heap} {a : Addr} {u : HO} (r : Rd H a u) (x : HOk P w H h) : ObjOk P w H h a u := by
  rcases r with r | ⟨o, r⟩
  · exact x a u r
  · obtain ⟨_, q⟩ := x a _ r
    exact q
def Mut : Option HO -> Prop
  | some (.lst _) => True
  | some (.dK _) => True
  | some (.dT _) => True
  | some (.set _ _) => True
  | some (.ins _ _ _) => True
  | some (.ext _) => True
  | _ => False
section
variable {P : Program} {w : World} {H : Hp} {h h' : Heap} {x e : Addr} {o' : HO}
theorem HOk.write (ok : HOk P w H h) (mu : Mut (H x)) (he : e = x \/ H e = some (.own x)) (k : ∀ b u, b ≠ e -> h.get? b = some u -> h'.get? b = some u) (heo : ∃ u, h'.get? e = some u)
    (new : ObjOk P w (upd H x o') h' x o') : HOk P w (upd H x o') h' := fun b u q => by
  have nown : ∀ c y, H c = some (.own y) -> c ≠ x := fun c y r z => by subst z; rw [r] at mu; exact mu
  have ntup : ∀ c xs, H c = some (.tup xs) -> c ≠ x := fun c xs r z => by subst z; rw [r] at mu; exact mu
  by_cases hb : b = x
  · subst hb; rw [upd_same] at q; cases q; exact new
  · rw [upd_ne hb] at q
    by_cases hbe : b = e
    · have q' : H b = some (.own x) := by
        rcases he with z | z
        · exact absurd (hbe.trans z) hb
        · rw [hbe]; exact z
      rw [q] at q'; cases q'
      obtain ⟨v, hv⟩ := heo
      exact ⟨v, by rw [hbe]; exact hv⟩
    · refine (ok b u q).stay (fun c v hc r => k c v ?_ r) (fun c r => by rw [upd_ne (nown c b r)]; exact r) fun c xs r => by rw [upd_ne (ntup c xs r)]; exact r
      rcases hc with rfl | hc
      · exact hbe
      · rintro rfl
        rcases he with z | z
        · exact nown c b hc z
        · rw [hc] at z; cases z; exact hb rfl
end
structure Un (fs ex : List Addr) (H H' : Hp) (h h' : Heap) : Prop where
  keep : ∀ b o, h.get? b = some o -> H b = none -> b ∉ fs -> b ∉ ex -> h'.get? b = some o
  slot : ∀ b o, h.get? b = some o -> H b = none -> b ∈ fs -> b ∉ ex -> ∃ sl, h'.get? b = some { o with slots := sl }
  free : ∀ b o, h.get? b = some o -> H b = none -> b ∉ ex -> H' b = none
  there : ∀ b o, h.get? b = some o -> b ∉ ex -> ∃ o', h'.get? b = some o'
  tups : ∀ b xs, H b = some (.tup xs) -> H' b = some (.tup xs)
  frzs : ∀ b o u, H b = some (.frz o u) -> H' b = some (.frz o u)
  tbls : ∀ b ps, H b = some (.tbl ps) -> ∃ more, H' b = some (.tbl (ps ++ more))
section
variable {fs fs' ex ex' : List Addr} {H H1 H2 : Hp} {h h1 h2 h' : Heap} {a x e : Addr} {o : HO}
theorem Un.any (u : Un fs ex H H1 h h1) {b : Addr} {ob : Obj} (q : h.get? b = some ob) (n : H b = none) (hx : b ∉ ex) : ∃ sl, h1.get? b = some { ob with slots := sl } := by
  by_cases hb : b ∈ fs
  · exact u.slot b ob q n hb hx
  · exact ⟨ob.slots, u.keep b ob q n hb hx⟩
theorem Un.trans (a : Un fs ex H H1 h h1) (b : Un fs ex H1 H2 h1 h2) : Un fs ex H H2 h h2 where
  keep := fun c ob q n hc hx => b.keep c ob (a.keep c ob q n hc hx) (a.free c ob q n hx) hc hx
  slot := fun c ob q n hc hx => by
    obtain ⟨sl, e1⟩ := a.slot c ob q n hc hx
    obtain ⟨sl', e2⟩ := b.slot c _ e1 (a.free c ob q n hx) hc hx
    exact ⟨sl', e2⟩
  free := fun c ob q n hx => by
    obtain ⟨o', e1⟩ := a.there c ob q hx
    exact b.free c o' e1 (a.free c ob q n hx) hx
  there := fun c ob q hx => by
    obtain ⟨o', e1⟩ := a.there c ob q hx
    exact b.there c o' e1 hx
  tups := fun c xs q => b.tups c xs (a.tups c xs q)
  frzs := fun c ob xs q => b.frzs c ob xs (a.frzs c ob xs q)
  tbls := fun c ps q => by
    obtain ⟨m1, e1⟩ := a.tbls c ps q
    obtain ⟨m2, e2⟩ := b.tbls c _ e1
    exact ⟨m1 ++ m2, by rw [e2, Array.append_assoc]⟩
theorem Un.kept (k : ∀ b u, h.get? b = some u -> h'.get? b = some u) : Un fs ex H H h h' :=
  ⟨fun b ob q _ _ _ => k b ob q, fun b ob q _ _ _ => ⟨ob.slots, k b ob q⟩, fun _ _ _ n _ => n, fun b ob q _ => ⟨ob, k b ob q⟩, fun _ _ q => q, fun _ _ _ q => q, fun _ ps q => ⟨#[], by rw [q]; simp⟩⟩
theorem Un.refl : Un fs ex H H h h := Un.kept fun _ _ q => q
theorem Un.laid (k : ∀ b u, h.get? b = some u -> h'.get? b = some u) (hp : h.objs.size <= a) (hn : H a = none) : Un fs ex H (upd H a o) h h' where
  keep := fun b u q _ _ _ => k b u q
  slot := fun b u q _ _ _ => ⟨u.slots, k b u q⟩
  free := fun b u q n _ => by rw [upd_ne (Nat.ne_of_lt (Nat.lt_of_lt_of_le (Heap.lt_size q) hp))]; exact n
  there := fun b u q _ => ⟨u, k b u q⟩
  tups := fun b xs q => by rw [upd_ne (ne_of_none q hn)]; exact q
  frzs := fun b u xs q => by rw [upd_ne (ne_of_none q hn)]; exact q
  tbls := fun b ps q => ⟨#[], by rw [upd_ne (ne_of_none q hn), q]; simp⟩
theorem Un.write (mu : Mut (H x)) (he : e = x \/ H e = some (.own x)) (k : ∀ b u, b ≠ e -> h.get? b = some u -> h'.get? b = some u) (heo : ∃ u, h'.get? e = some u) : Un fs ex H (upd H x o) h h' := by
  have hx : ∀ b, H b = none -> b ≠ x := fun b n z => by subst z; rw [n] at mu; exact mu
  have hb : ∀ b, H b = none -> b ≠ e := fun b n z => by
    subst z
    rcases he with r | r
    · exact hx b n r
    · rw [n] at r; cases r
  have hm : ∀ b u, H b = some u -> ¬ Mut (some u) -> b ≠ x := fun b u q nm z => by subst z; rw [q] at mu; exact nm mu
  refine ⟨fun b u q n _ _ => k b u (hb b n) q, fun b u q n _ _ => ⟨u.slots, k b u (hb b n) q⟩, fun b u q n _ => by rw [upd_ne (hx b n)]; exact n, fun b u q _ => ?_,
    fun b xs q => by rw [upd_ne (hm b _ q fun z => z)]; exact q, fun b u xs q => by rw [upd_ne (hm b _ q fun z => z)]; exact q, fun b ps q => ⟨#[], by rw [upd_ne (hm b _ q fun z => z), q]; simp⟩⟩
  by_cases hbe : b = e
  · subst hbe; exact heo
  · exact ⟨u, k b u hbe q⟩
end
def trk (h : Heap) (H : Hp) : List Addr := (List.range h.objs.size).filter fun a => (H a).isSome
def hidT (h : Heap) (H : Hp) : Heap := PySem.W.hideAll h (trk h H)
theorem hidT_size (h : Heap) (H : Hp) : (hidT h H).objs.size = h.objs.size := PySem.W.hideAll_size _ _
theorem hidT_get {h : Heap} {H : Hp} {b : Addr} {o : Obj} (e : h.get? b = some o) (n : H b = none) : (hidT h H).get? b = some o :=
  PySem.W.hideAll_get _ e fun hm => by
    have q : (H b).isSome = true := (List.mem_filter.mp hm).2
    rw [n] at q; simp at q
theorem of_hidT {h : Heap} {H : Hp} {b : Addr} {o : Obj} (e : (hidT h H).get? b = some o) : h.get? b = some o /\ H b = none := by
  have e' : h.get? b = some o := PySem.W.of_hideAll (trk h H) e
  refine ⟨e', ?_⟩
  cases q : H b with
  | none => rfl
  | some x =>
    have hm : b ∈ trk h H := List.mem_filter.mpr ⟨List.mem_range.mpr (Heap.lt_size e'), by simp [q]⟩
    have z : (hidT h H).get? b = none := PySem.W.hideAll_none (trk h H) hm
    rw [z] at e; cases e
def allNews (g h : Heap) (L : Addr) : List (Addr × Obj) := (List.range h.objs.size).filterMap fun a => if a = L \/ (g.get? a).isSome = true then none else (h.get? a).map fun o => (a, o)
def rest (g h : Heap) (L d : Addr) : List (Addr × Obj) := (allNews g h L).filter fun p => decide (p.1 ≠ d)
end L2
namespace L2
open PySem PySem.Spec PyProof.Rows
structure Mod (K : PySem.W.Frag) (mg : Str -> Option Value) (base : Heap) : Prop where
  kin : K.In base
  glob : base.Ns mainGlobals mg
  blt : ∃ mb, base.Ns builtinsNs mb /\ ∀ x : Str, x ≠ "__name__" -> mb x = bootBuiltins x
  nolimit : base.NoLimit
/-- the context: a def's body (or a comprehension's block) running. base: fixed through the whole law; s₀, H₀: the entry; outer: the frames whose slots others may change (a def's callers); stack: all frames that run;
   ex: iterators that were made ahead of the entry and are walked here (a comprehension's); fn: the names whose cells were made at the entry (a def: all; a comprehension's block: its own); calm: not within an except suite; pn: pins that every state bears; xe: what is wanted of an exception that leaves the code -/
structure Cx where
  prog : Program
  w : World
  K : PySem.W.Frag
  mg : Str -> Option Value
  base : Heap
  A : Around
  N : List Str
  s₀ : Shared
  H₀ : Hp
  env : Env
  outer : List Env
  stack : List Env
  ex : List Addr
  fn : Str -> Bool
  calm : Bool
  pn : List (Addr × Obj)
  xe : Value -> Shared -> Prop
def frs (l : List Env) : List Addr := l.filterMap (·.frame)
abbrev Cx.fs (X : Cx) : List Addr := frs X.outer
def Vis (sc : Scope) (x : Str) : Prop := sc.names.lookup x = some .local \/ sc.names.lookup x = some .cell \/ sc.names.lookup x = some .free
def Loc (sc : Scope) (x : Str) : Prop := sc.names.lookup x = some .local \/ sc.names.lookup x = some .cell
def Look (env : Env) (h : Heap) (m : Str -> Option Value) (x : Str) (u : Value) : Prop :=
  (env.kindOf x = some .local /\ m x = some u) \/ ((env.kindOf x = some .cell \/ env.kindOf x = some .free) /\ ∃ c, env.cells.lookup x = some c /\ h.IsCell c (some u))
structure Cx.Ok (X : Cx) : Prop where
  mod : Mod X.K X.mg X.base
  kind : X.env.scope.kind = .function
  glob : X.env.globals = mainGlobals
  blt : X.env.builtins = builtinsNs
  above : X.s₀.heap.objs.size <= X.env.locals
  inj : ∀ x y c, X.env.cells.lookup x = some c -> X.env.cells.lookup y = some c -> x = y
  has : ∀ x, (X.env.kindOf x = some .cell \/ X.env.kindOf x = some .free) -> ∃ c, X.env.cells.lookup x = some c
  cab : ∀ x c, X.fn x = true -> X.env.cells.lookup x = some c -> X.s₀.heap.objs.size <= c
  hd : X.calm = true -> X.A.handled = none
  frames : X.A.frames = some X.stack
  stk : X.stack = X.outer \/ (X.stack = X.env :: X.outer /\ X.env.frame = some X.env.locals)
  exf : ∀ b ∈ X.ex, b ≠ X.env.locals /\ ∀ x c, X.env.cells.lookup x = some c -> c ≠ b
  bs : ∀ b o, X.base.get? b = some o -> X.s₀.heap.get? b = some o /\ X.H₀ b = none
  bsz : X.base.objs.size <= X.s₀.heap.objs.size
  noex : ∀ b o, X.base.get? b = some o -> b ∉ X.ex
  exfs : ∀ b ∈ X.ex, b ∉ X.fs
  funs : X.s₀.heap.FunFrames X.base X.outer
  frf : ∀ b ∈ X.fs, X.H₀ b = none
structure Inv (X : Cx) (pins : List (Addr × Obj)) (σ : List (Option V)) (H : Hp) (s : Shared) : Prop where
  ok : X.Ok
  os : s.os = X.s₀.os
  bare : AllBare s.gens
  base : Un X.fs X.ex X.H₀ H X.s₀.heap s.heap
  loc : ∃ m, s.heap.Ns X.env.locals m /\ ∀ (i : Nat) (x : Str) (v : V), X.N[i]? = some x -> σ[i]? = some (some v) -> Vis X.env.scope x -> ∃ u, RelV v u /\ Look X.env s.heap m x u
  cell : ∀ x c, X.env.cells.lookup x = some c -> ∃ v, s.heap.IsCell c v
  free : H X.env.locals = none
  freeC : ∀ x c, X.env.cells.lookup x = some c -> H c = none
  pin : ∀ p ∈ X.pn ++ pins, s.heap.get? p.1 = some p.2 /\ H p.1 = none /\ p.1 ≠ X.env.locals /\ p.1 ∉ X.fs /\ ∀ v, p.2.data ≠ .cell v
  hok : HOk X.prog X.w H s.heap
  len : σ.length = X.N.length
section
variable {X : Cx} {pins : List (Addr × Obj)} {σ : List (Option V)} {H H' : Hp} {s : Shared} {h' : Heap}
theorem Cx.Ok.nofr (ok : X.Ok) {b : Addr} {o : Obj} (e : X.base.get? b = some o) : b ∉ X.fs := fun hb => by
  have := (ok.funs.mem hb).1
  rw [e] at this; cases this
theorem Inv.bs (I : Inv X pins σ H s) : ∀ b o, X.base.get? b = some o -> s.heap.get? b = some o /\ H b = none := fun b o e =>
  ⟨I.base.keep b o (I.ok.bs b o e).1 (I.ok.bs b o e).2 (I.ok.nofr e) (I.ok.noex b o e), I.base.free b o (I.ok.bs b o e).1 (I.ok.bs b o e).2 (I.ok.noex b o e)⟩
theorem Inv.bk (I : Inv X pins σ H s) : ∀ b o, X.base.get? b = some o -> s.heap.get? b = some o := fun b o e => (I.bs b o e).1
theorem Inv.mod (I : Inv X pins σ H s) : Mod X.K X.mg X.base := I.ok.mod
theorem Inv.kIn (I : Inv X pins σ H s) : X.K.In s.heap := I.ok.mod.kin.keeps I.bk
theorem Inv.nolimit (I : Inv X pins σ H s) : s.heap.NoLimit := I.ok.mod.nolimit.keeps I.bk
theorem Inv.fr (I : Inv X pins σ H s) : ∃ m, Fr X.base X.env.locals s.heap m :=
  let ⟨m, hn, _⟩ := I.loc
  ⟨m, hn, I.bk, Nat.le_trans I.ok.bsz I.ok.above⟩
theorem Inv.lt (I : Inv X pins σ H s) : X.env.locals < s.heap.objs.size := let ⟨_, hn, _⟩ := I.loc; hn.lt
theorem Inv.sz (I : Inv X pins σ H s) : X.s₀.heap.objs.size <= s.heap.objs.size := Nat.le_trans I.ok.above (Nat.le_of_lt I.lt)
theorem Inv.nofs (I : Inv X pins σ H s) {a : Addr} (h : s.heap.objs.size <= a) : a ∉ X.fs := fun hb => by
  obtain ⟨_, o, ho, _⟩ := I.ok.funs.mem hb
  exact absurd (Nat.lt_of_lt_of_le (Heap.lt_size ho) (Nat.le_trans I.sz h)) (Nat.lt_irrefl _)
theorem Inv.cne (I : Inv X pins σ H s) : ∀ x c, X.env.cells.lookup x = some c -> c ≠ X.env.locals := fun x c e z => by
  obtain ⟨v, o, ho, hd⟩ := I.cell x c e
  obtain ⟨m, ⟨o', es, ep, ho', hd', _⟩, _⟩ := I.loc
  rw [z, ho'] at ho; cases ho; rw [hd'] at hd; cases hd
theorem Inv.funs (I : Inv X pins σ H s) : s.heap.FunFrames X.base X.outer := by
  have all : ∀ (l : List Env), (∀ b ∈ frs l, b ∈ X.fs) -> X.s₀.heap.FunFrames X.base l -> s.heap.FunFrames X.base l := by
    intro l
    induction l with
    | nil => intro _ _; trivial
    | cons env r ih =>
      intro hs hl
      obtain ⟨hk, ⟨L, o, hf, hn, ho, hd⟩, hr⟩ := hl
      have hL : L ∈ X.fs := hs L (by unfold frs; rw [List.filterMap_cons, hf]; exact List.mem_cons_self)
      obtain ⟨sl, e⟩ := I.base.slot L o ho (I.ok.frf L hL) hL fun z => I.ok.exfs L z hL
      exact ⟨hk, ⟨L, _, hf, hn, e, hd⟩, ih (fun b hb => hs b (by unfold frs; rw [List.filterMap_cons, hf]; exact List.mem_cons_of_mem _ hb)) hr⟩
  exact all X.outer (fun _ hb => hb) I.ok.funs
theorem Inv.stack (I : Inv X pins σ H s) : s.heap.FunFrames X.base X.stack := by
  rcases I.ok.stk with e | ⟨e, hf⟩
  · rw [e]; exact I.funs
  · rw [e]
    obtain ⟨m, hn, _⟩ := I.loc
    refine .cons (by rw [I.ok.kind]; decide) hf hn ?_ I.funs
    exact Heap.get?_none_of_le (Nat.le_trans I.ok.bsz I.ok.above)
theorem Inv.stkSub (I : Inv X pins σ H s) : ∀ b ∈ frs X.stack, b ∈ X.env.locals :: X.fs := fun b hb => by
  rcases I.ok.stk with e | ⟨e, hf⟩
  · rw [e] at hb; exact List.mem_cons_of_mem _ hb
  · rw [e] at hb
    unfold frs at hb
    rw [List.filterMap_cons, hf] at hb
    exact hb
theorem Inv.stkFree (I : Inv X pins σ H s) : ∀ b ∈ frs X.stack, H b = none := fun b hb => by
  rcases List.mem_cons.mp (I.stkSub b hb) with e | hb
  · rw [e]; exact I.free
  · obtain ⟨_, o, ho, _⟩ := I.ok.funs.mem hb
    exact I.base.free b o ho (I.ok.frf b hb) fun z => I.ok.exfs b z hb
theorem Inv.step {g' : Array GenState} {t' : Nat} {d' : Drawn} {ch : List Addr} (I : Inv X pins σ H s)
    (hch : ∀ b ∈ ch, (b ∈ X.ex \/ X.s₀.heap.objs.size <= b) /\ b ≠ X.env.locals /\ (∀ x c, X.env.cells.lookup x = some c -> c ≠ b) /\ ∀ p ∈ X.pn ++ pins, p.1 ≠ b)
    (keep : ∀ b o, b ≠ X.env.locals -> b ∉ X.fs -> b ∉ ch -> s.heap.get? b = some o -> H b = none -> h'.get? b = some o)
    (slot : ∀ b o, b ≠ X.env.locals -> b ∈ X.fs -> b ∉ ch -> s.heap.get? b = some o -> H b = none -> ∃ sl, h'.get? b = some { o with slots := sl }) (free : ∀ b o, b ∉ ch -> s.heap.get? b = some o -> H b = none -> H' b = none)
    (there : ∀ b o, b ∉ ch -> s.heap.get? b = some o -> ∃ o', h'.get? b = some o')
    (tups : ∀ b xs, H b = some (.tup xs) -> H' b = some (.tup xs)) (frzs : ∀ b o u, H b = some (.frz o u) -> H' b = some (.frz o u)) (tbls : ∀ b ps, H b = some (.tbl ps) -> ∃ more, H' b = some (.tbl (ps ++ more)))
    (ns : ∀ m, s.heap.Ns X.env.locals m -> h'.Ns X.env.locals m) (hok : HOk X.prog X.w H' h') (hg : AllBare g') :
    Inv X pins σ H' { s with heap := h', gens := g', drawn := d', toks := t' } := by
  have neL : ∀ b o, X.s₀.heap.get? b = some o -> b ≠ X.env.locals := fun b o e => Nat.ne_of_lt (Nat.lt_of_lt_of_le (Heap.lt_size e) I.ok.above)
  have neC : ∀ b o, X.s₀.heap.get? b = some o -> b ∉ X.ex -> b ∉ ch := fun b o e hx hb => by
    rcases (hch b hb).1 with z | z
    · exact hx z
    · exact absurd (Nat.lt_of_lt_of_le (Heap.lt_size e) z) (Nat.lt_irrefl _)
  have cellK : ∀ x c, X.env.cells.lookup x = some c -> ∀ v, s.heap.IsCell c v -> h'.IsCell c v := fun x c e v ⟨o, ho, hd⟩ => by
    have nch : c ∉ ch := fun z => (hch c z).2.2.1 x c e rfl
    by_cases hc : c ∈ X.fs
    · obtain ⟨sl, q⟩ := slot c o (I.cne x c e) hc nch ho (I.freeC x c e)
      exact ⟨_, q, hd⟩
    · exact ⟨o, keep c o (I.cne x c e) hc nch ho (I.freeC x c e), hd⟩
  refine ⟨I.ok, I.os, hg, ⟨fun b o e n hb hx => ?_, fun b o e n hb hx => ?_, fun b o e n hx => ?_, fun b o e hx => ?_, fun b xs e => tups b xs (I.base.tups b xs e), fun b o xs e => frzs b o xs (I.base.frzs b o xs e), fun b ps e => ?_⟩, ?_, fun x c e => ?_, ?_, fun x c e => ?_, fun p hp => ?_, hok, I.len⟩
  · exact keep b o (neL b o e) hb (neC b o e hx) (I.base.keep b o e n hb hx) (I.base.free b o e n hx)
  · obtain ⟨sl, e1⟩ := I.base.slot b o e n hb hx
    obtain ⟨sl', e2⟩ := slot b _ (neL b o e) hb (neC b o e hx) e1 (I.base.free b o e n hx)
    exact ⟨sl', e2⟩
  · obtain ⟨o', e1⟩ := I.base.there b o e hx
    exact free b o' (neC b o e hx) e1 (I.base.free b o e n hx)
  · obtain ⟨o', e1⟩ := I.base.there b o e hx
    exact there b o' (neC b o e hx) e1
  · obtain ⟨m1, e1⟩ := I.base.tbls b ps e
    obtain ⟨m2, e2⟩ := tbls b _ e1
    exact ⟨m1 ++ m2, by rw [e2, Array.append_assoc]⟩
  · obtain ⟨m, hn, hl⟩ := I.loc
    refine ⟨m, ns m hn, fun i x v e1 e2 e3 => ?_⟩
    obtain ⟨u, r, l⟩ := hl i x v e1 e2 e3
    refine ⟨u, r, ?_⟩
    rcases l with l | ⟨k, c, e, z⟩
    · exact .inl l
    · exact .inr ⟨k, c, e, cellK x c e _ z⟩
  · obtain ⟨v, z⟩ := I.cell x c e
    exact ⟨v, cellK x c e v z⟩
  · obtain ⟨m, ⟨o, _, _, ho, _⟩, _⟩ := I.loc
    exact free _ o (fun z => (hch _ z).2.1 rfl) ho I.free
  · obtain ⟨v, o, ho, hd⟩ := I.cell x c e
    exact free c o (fun z => (hch c z).2.2.1 x c e rfl) ho (I.freeC x c e)
  · obtain ⟨e, n, ne, nf, d⟩ := I.pin p hp
    have nch : p.1 ∉ ch := fun z => (hch p.1 z).2.2.2 p hp rfl
    exact ⟨keep p.1 p.2 ne nf nch e n, free p.1 p.2 nch e n, ne, nf, d⟩
theorem Inv.un {t' : Nat} (I : Inv X pins σ H s) (u : Un X.fs [] H H' s.heap h') (hok : HOk X.prog X.w H' h') : Inv X pins σ H' { s with heap := h', toks := t' } := by
  obtain ⟨m, ⟨o, es, ep, ho, r⟩, _⟩ := id I.loc
  obtain ⟨sl, hL⟩ := u.any ho I.free (by simp)
  exact I.step (g' := s.gens) (d' := s.drawn) (ch := []) (fun _ z => nomatch z) (fun b o _ hb _ e n => u.keep b o e n hb (by simp)) (fun b o _ hb _ e n => u.slot b o e n hb (by simp)) (fun b o _ e n => u.free b o e n (by simp)) (fun b o _ e => u.there b o e (by simp)) u.tups u.frzs u.tbls (fun m' hm => by
    obtain ⟨o', es', ep', ho', r'⟩ := hm
    rw [ho] at ho'; cases ho'
    exact ⟨_, es', ep', hL, r'⟩) hok I.bare
theorem Inv.call {g' : Array GenState} {t' : Nat} {d' : Drawn} {ch : List Addr} (I : Inv X pins σ H s) (u : Un (frs X.stack) ch H H' s.heap h') (hok : HOk X.prog X.w H' h') (hg : AllBare g')
    (hch : ∀ b ∈ ch, (b ∈ X.ex \/ X.s₀.heap.objs.size <= b) /\ b ≠ X.env.locals /\ (∀ x c, X.env.cells.lookup x = some c -> c ≠ b) /\ ∀ p ∈ X.pn ++ pins, p.1 ≠ b) :
    Inv X pins σ H' { s with heap := h', gens := g', drawn := d', toks := t' } := by
  obtain ⟨m, ⟨o, es, ep, ho, r⟩, _⟩ := id I.loc
  obtain ⟨sl, hL⟩ := u.any ho I.free fun z => (hch _ z).2.1 rfl
  exact I.step (ch := ch) hch (fun b o hL hb hc e n => u.keep b o e n (fun z => (List.mem_cons.mp (I.stkSub b z)).elim hL hb) hc) (fun b o _ _ hc e n => u.any e n hc) (fun b o hc e n => u.free b o e n hc) (fun b o hc e => u.there b o e hc) u.tups u.frzs u.tbls (fun m' hm => by
    obtain ⟨o', es', ep', ho', r'⟩ := hm
    rw [ho] at ho'; cases ho'
    exact ⟨_, es', ep', hL, r'⟩) hok hg
theorem Inv.turned {t' : Nat} {it : Addr} (I : Inv X pins σ H s) (k : ∀ b o, b ≠ it -> s.heap.get? b = some o -> h'.get? b = some o) (hn : H it = none) (hL : it ≠ X.env.locals)
    (h1 : it ∈ X.ex \/ X.s₀.heap.objs.size <= it) (h2 : ∀ x c, X.env.cells.lookup x = some c -> c ≠ it) (h3 : ∀ p ∈ X.pn ++ pins, p.1 ≠ it) : Inv X pins σ H { s with heap := h', toks := t' } := by
  have nit : ∀ b u, H b = some u -> b ≠ it := fun b u e z => by rw [z, hn] at e; cases e
  refine I.step (g' := s.gens) (d' := s.drawn) (ch := [it]) (fun b hb => ?_) (fun b o _ _ hc e _ => k b o (fun z => hc (by simp [z])) e) (fun b o _ _ hc e _ => ⟨o.slots, k b o (fun z => hc (by simp [z])) e⟩) (fun _ _ _ _ n => n)
    (fun b o hc e => ⟨o, k b o (fun z => hc (by simp [z])) e⟩) (fun _ _ e => e) (fun _ _ _ e => e) (fun b ps e => ⟨#[], by rw [e]; simp⟩) (fun m hm => ?_) (fun b u e => ?_) I.bare
  · have e : b = it := by simpa using hb
    subst e
    exact ⟨h1, hL, h2, h3⟩
  · obtain ⟨o, es, ep, ho, r⟩ := hm
    exact ⟨o, es, ep, k _ o (Ne.symm hL) ho, r⟩
  · refine (I.hok b u e).stay (fun c v hc q => k c v ?_ q) (fun _ q => q) fun _ _ q => q
    rcases hc with z | z
    · rw [z]; exact nit b u e
    · exact nit c _ z
theorem Inv.tok (I : Inv X pins σ H s) (t : Nat) : Inv X pins σ H { s with toks := t } := I.un (h' := s.heap) (t' := t) Un.refl I.hok
theorem Inv.kept {t' : Nat} (I : Inv X pins σ H s) (k : ∀ b u, s.heap.get? b = some u -> h'.get? b = some u) : Inv X pins σ H { s with heap := h', toks := t' } := I.un (Un.kept k) (I.hok.kept k)
theorem Inv.laid {a : Addr} {o : HO} {t' : Nat} (I : Inv X pins σ H s) (k : ∀ b u, s.heap.get? b = some u -> h'.get? b = some u) (hp : s.heap.objs.size <= a) (new : ObjOk X.prog X.w (upd H a o) h' a o) :
    Inv X pins σ (upd H a o) { s with heap := h', toks := t' } := I.un (Un.laid k hp (I.hok.fresh hp)) (I.hok.laid k hp new)
theorem Inv.write {x e : Addr} {o : HO} {t' : Nat} (I : Inv X pins σ H s) (mu : Mut (H x)) (he : e = x \/ H e = some (.own x)) (k : ∀ b u, b ≠ e -> s.heap.get? b = some u -> h'.get? b = some u) (heo : ∃ u, h'.get? e = some u)
    (new : ObjOk X.prog X.w (upd H x o) h' x o) : Inv X pins σ (upd H x o) { s with heap := h', toks := t' } := I.un (Un.write mu he k heo) (I.hok.write mu he k heo new)
theorem Inv.pins_of {pins' : List (Addr × Obj)} (I : Inv X pins σ H s) (h : ∀ p ∈ pins', s.heap.get? p.1 = some p.2 /\ H p.1 = none /\ p.1 ≠ X.env.locals /\ p.1 ∉ X.fs /\ ∀ v, p.2.data ≠ .cell v) : Inv X pins' σ H s :=
  ⟨I.ok, I.os, I.bare, I.base, I.loc, I.cell, I.free, I.freeC, fun p hp => (List.mem_append.mp hp).elim (fun z => I.pin p (List.mem_append_left _ z)) (h p), I.hok, I.len⟩
theorem nodup_ix {N : List Str} (hN : N.Nodup) {i j : Nat} {x : Str} (a : N[i]? = some x) (b : N[j]? = some x) : i = j := by
  obtain ⟨h1, e1⟩ := List.getElem?_eq_some_iff.mp a
  obtain ⟨h2, e2⟩ := List.getElem?_eq_some_iff.mp b
  exact (List.getElem_inj hN).mp (e1.trans e2.symm)
theorem store_ok2 {M : Model} {A : Around} {E : Value -> Shared -> Prop} {i : Nat} {x : Str} {v : V} {u : Value} {Q : Unit -> Shared -> Prop} (I : Inv X pins σ H s) (hN : X.N.Nodup) (hi : X.N[i]? = some x) (hx : Loc X.env.scope x) (r : RelV v u)
    (h : ∀ s', Inv X pins (σ.set i (some v)) H s' -> (∃ a, Heap.SameBut a s.heap s'.heap /\ (a = X.env.locals \/ X.env.cells.lookup x = some a)) -> Q () s') (hf : X.fn x = true \/ X.env.scope.names.lookup x = some .local := by first | exact .inl rfl | exact .inr rfl | assumption) : wpAny M A (storeName X.env x u) Q E s := by
  obtain ⟨m, hn, hl⟩ := id I.loc
  have hcls : (X.env.scope.kind == .class || (X.env.scope.kind == .module && X.env.locals != X.env.globals)) = false := by rw [I.ok.kind]; rfl
  have hiσ : i < σ.length := by rw [I.len]; exact (List.getElem?_eq_some_iff.mp hi).1
  have cne := I.cne
  have tracked : ∀ {a : Addr} {h' : Heap}, (∃ o, s.heap.get? a = some o /\ H a = none) -> Heap.SameBut a s.heap h' -> HOk X.prog X.w H h' := fun {a h'} ha hs b ob e => by
    obtain ⟨_, _, hfree⟩ := ha
    refine (I.hok b ob e).stay (fun c w' hc q => (hs.2 c ?_).trans q) (fun _ q => q) fun _ _ q => q
    rintro rfl
    rcases hc with rfl | hc
    · rw [hfree] at e; cases e
    · rw [hfree] at hc; cases hc
  rcases hx with hk | hk
  · refine wpAny_storeName_local hk hn (fun h' hn' hs => ?_) hcls
    obtain ⟨oL, _, _, hoL, _⟩ := id hn
    refine h _ ⟨I.ok, I.os, I.bare, ⟨fun b o e n hb hx => ?_, fun b o e n hb hx => ?_, I.base.free, fun b o e hx => ?_, I.base.tups, I.base.frzs, I.base.tbls⟩, ⟨_, hn', fun j y v' e1 e2 e3 => ?_⟩, fun y c e => ?_, I.free, I.freeC, fun p hp => ?_, tracked ⟨oL, hoL, I.free⟩ hs, by simpa using I.len⟩ ⟨_, hs, .inl rfl⟩
    · exact (hs.2 b (Nat.ne_of_lt (Nat.lt_of_lt_of_le (Heap.lt_size e) I.ok.above))).trans (I.base.keep b o e n hb hx)
    · obtain ⟨sl, e1⟩ := I.base.slot b o e n hb hx
      exact ⟨sl, (hs.2 b (Nat.ne_of_lt (Nat.lt_of_lt_of_le (Heap.lt_size e) I.ok.above))).trans e1⟩
    · obtain ⟨o', e1⟩ := I.base.there b o e hx
      exact ⟨o', (hs.2 b (Nat.ne_of_lt (Nat.lt_of_lt_of_le (Heap.lt_size e) I.ok.above))).trans e1⟩
    · by_cases hj : j = i
      · subst hj
        rw [hi] at e1; cases e1
        rw [List.getElem?_set_self hiσ] at e2
        cases e2
        exact ⟨u, r, .inl ⟨hk, by simp⟩⟩
      · rw [List.getElem?_set_ne (Ne.symm hj)] at e2
        obtain ⟨u', r', q⟩ := hl j y v' e1 e2 e3
        refine ⟨u', r', ?_⟩
        rcases q with ⟨k, e⟩ | ⟨k, c, e, z⟩
        · refine .inl ⟨k, ?_⟩
          have : y ≠ x := fun e => hj (nodup_ix hN e1 (e ▸ hi))
          simp [this, e]
        · exact .inr ⟨k, c, e, z.sameBut hs (cne y c e)⟩
    · obtain ⟨w', z⟩ := I.cell y c e
      exact ⟨w', z.sameBut hs (cne y c e)⟩
    · obtain ⟨e, n, ne, nf, d⟩ := I.pin p hp
      exact ⟨(hs.2 p.1 ne).trans e, n, ne, nf, d⟩
  · have hfn : X.fn x = true := by
      rcases hf with z | z
      · exact z
      · rw [z] at hk; cases hk
    obtain ⟨c, hc⟩ := I.ok.has x (.inl hk)
    obtain ⟨w', z⟩ := I.cell x c hc
    refine wpAny_storeName_cell I.ok.kind hk hc z (fun h' hc' hs => ?_)
    obtain ⟨oc, hoc, hocd⟩ := id z
    refine h { s with heap := h' } ⟨I.ok, I.os, I.bare, ⟨fun b o e n hb hx => ?_, fun b o e n hb hx => ?_, I.base.free, fun b o e hx => ?_, I.base.tups, I.base.frzs, I.base.tbls⟩, ⟨m, hn.sameBut hs (Ne.symm (cne x c hc)), fun j y v' e1 e2 e3 => ?_⟩, fun y c' e => ?_, I.free, I.freeC, fun p hp => ?_, tracked ⟨oc, hoc, I.freeC x c hc⟩ hs, by simpa using I.len⟩ ⟨c, hs, .inr hc⟩
    · exact (hs.2 b (Nat.ne_of_lt (Nat.lt_of_lt_of_le (Heap.lt_size e) (I.ok.cab x c hfn hc)))).trans (I.base.keep b o e n hb hx)
    · obtain ⟨sl, e1⟩ := I.base.slot b o e n hb hx
      exact ⟨sl, (hs.2 b (Nat.ne_of_lt (Nat.lt_of_lt_of_le (Heap.lt_size e) (I.ok.cab x c hfn hc)))).trans e1⟩
    · obtain ⟨o', e1⟩ := I.base.there b o e hx
      exact ⟨o', (hs.2 b (Nat.ne_of_lt (Nat.lt_of_lt_of_le (Heap.lt_size e) (I.ok.cab x c hfn hc)))).trans e1⟩
    · by_cases hj : j = i
      · subst hj
        rw [hi] at e1; cases e1
        rw [List.getElem?_set_self hiσ] at e2
        cases e2
        exact ⟨u, r, .inr ⟨.inl hk, c, hc, hc'⟩⟩
      · rw [List.getElem?_set_ne (Ne.symm hj)] at e2
        obtain ⟨u', r', q⟩ := hl j y v' e1 e2 e3
        refine ⟨u', r', ?_⟩
        rcases q with q | ⟨k, c', e, z'⟩
        · exact .inl q
        · refine .inr ⟨k, c', e, z'.sameBut hs ?_⟩
          rintro rfl
          exact hj (nodup_ix hN e1 (I.ok.inj _ _ _ e hc ▸ hi))
    · by_cases hcc : c' = c
      · subst hcc; exact ⟨_, hc'⟩
      · obtain ⟨w2, z2⟩ := I.cell y c' e
        exact ⟨w2, z2.sameBut hs hcc⟩
    · obtain ⟨e, n, ne, nf, d⟩ := I.pin p hp
      refine ⟨(hs.2 p.1 ?_).trans e, n, ne, nf, d⟩
      intro q
      rw [q, hoc] at e
      have q' : oc = p.2 := Option.some.inj e
      exact d w' (by rw [<- q']; exact hocd)
theorem store_ok {M : Model} {A : Around} {E : Value -> Shared -> Prop} {i : Nat} {x : Str} {v : V} {u : Value} {Q : Unit -> Shared -> Prop} (I : Inv X pins σ H s) (hN : X.N.Nodup) (hi : X.N[i]? = some x) (hx : Loc X.env.scope x) (r : RelV v u)
    (h : ∀ s', Inv X pins (σ.set i (some v)) H s' -> Q () s') (hf : X.fn x = true \/ X.env.scope.names.lookup x = some .local := by first | exact .inl rfl | exact .inr rfl | assumption) : wpAny M A (storeName X.env x u) Q E s :=
  store_ok2 I hN hi hx r (fun s' I' _ => h s' I') hf
theorem Inv.call' {s' : Shared} {ch : List Addr} (I : Inv X pins σ H s) (ho : s'.os = s.os) (u : Un (frs X.stack) ch H H' s.heap s'.heap) (hok : HOk X.prog X.w H' s'.heap) (hg : AllBare s'.gens)
    (hch : ∀ b ∈ ch, (b ∈ X.ex \/ X.s₀.heap.objs.size <= b) /\ b ≠ X.env.locals /\ (∀ x c, X.env.cells.lookup x = some c -> c ≠ b) /\ ∀ p ∈ X.pn ++ pins, p.1 ≠ b) : Inv X pins σ H' s' := by
  obtain ⟨h', g', d', t', o'⟩ := s'
  have e : o' = s.os := ho
  subst e
  exact I.call (g' := g') (t' := t') (d' := d') u hok hg hch
end
abbrev XK := Value -> Option Addr -> Hp -> Prop
abbrev St := List (Option V)
abbrev VK := V -> Hp -> Prop
abbrev TE := St -> Hp -> VK -> Prop
abbrev TT := St -> Hp -> (Bool -> Hp -> Prop) -> Prop
abbrev TA := St -> Hp -> (List V -> Hp -> Prop) -> Prop
structure Ends where
  nx : St -> Hp -> Prop
  rt : VK
  bk : St -> Hp -> Prop := fun _ _ => False
  ct : St -> Hp -> Prop := fun _ _ => False
abbrev TS := Ends -> St -> Hp -> Prop
def EP (X : Cx) (pins : List (Addr × Obj)) (σ : St) (Q : VK) (u : Value) (s' : Shared) : Prop := ∃ v H', Inv X pins σ H' s' /\ RelV v u /\ Q v H'
def TP (X : Cx) (pins : List (Addr × Obj)) (σ : St) (Q : Bool -> Hp -> Prop) (b : Bool) (s' : Shared) : Prop := ∃ H', Inv X pins σ H' s' /\ Q b H'
def AP (X : Cx) (pins : List (Addr × Obj)) (σ : St) (Q : List V -> Hp -> Prop) (us : List Value) (s' : Shared) : Prop := ∃ vs H', Inv X pins σ H' s' /\ Vals vs us /\ Q vs H'
def SP (X : Cx) (pins : List (Addr × Obj)) (D : Ends) (f : Flow) (s' : Shared) : Prop :=
  match f with
  | .next => ∃ σ' H', Inv X pins σ' H' s' /\ D.nx σ' H'
  | .brk => ∃ σ' H', Inv X pins σ' H' s' /\ D.bk σ' H'
  | .cont => ∃ σ' H', Inv X pins σ' H' s' /\ D.ct σ' H'
  | .ret u => ∃ v σ' H', Inv X pins σ' H' s' /\ RelV v u /\ D.rt v H'
def PE (X : Cx) (e : Expr) (t : TE) : Prop :=
  ∀ (pins : List (Addr × Obj)) (s : Shared) (σ : St) (H : Hp) (Q : VK), Inv X pins σ H s -> t σ H Q -> wpAny (model X.prog X.w) X.A (eval e X.env) (EP X pins σ Q) X.xe s
def PT (X : Cx) (e : Expr) (t : TT) : Prop :=
  ∀ (pins : List (Addr × Obj)) (s : Shared) (σ : St) (H : Hp) (Q : Bool -> Hp -> Prop), Inv X pins σ H s -> t σ H Q -> wpAny (model X.prog X.w) X.A (isTrue e X.env (eval e X.env)) (TP X pins σ Q) X.xe s
def PW (X : Cx) (e : Expr) (t : TT) : Prop :=
  ∀ (whole : Sem Value) (pins : List (Addr × Obj)) (s : Shared) (σ : St) (H : Hp) (Q : Bool -> Hp -> Prop), Inv X pins σ H s -> t σ H Q -> wpAny (model X.prog X.w) X.A (isTrue e X.env whole) (TP X pins σ Q) X.xe s
theorem PW.pt {X : Cx} {e : Expr} {t : TT} (h : PW X e t) : PT X e t := h _
def PA (X : Cx) (es : List Expr) (t : TA) : Prop :=
  ∀ (pos : Pos) (pins : List (Addr × Obj)) (s : Shared) (σ : St) (H : Hp) (Q : List V -> Hp -> Prop), Inv X pins σ H s -> t σ H Q -> wpAny (model X.prog X.w) X.A (spliced (backTo pos (starEach es X.env))) (AP X pins σ Q) X.xe s
def PS (X : Cx) (st : Stmt) (t : TS) : Prop :=
  ∀ (pins : List (Addr × Obj)) (s : Shared) (σ : St) (H : Hp) (D : Ends), Inv X pins σ H s -> t D σ H -> wpAny (model X.prog X.w) X.A (exec st X.env) (SP X pins D) X.xe s
def PSs (X : Cx) (st : List Stmt) (t : TS) : Prop :=
  ∀ (pins : List (Addr × Obj)) (s : Shared) (σ : St) (H : Hp) (D : Ends), Inv X pins σ H s -> t D σ H -> wpAny (model X.prog X.w) X.A (execs st X.env) (SP X pins D) X.xe s
theorem thn {α : Type} {t : Sem α} {Q Q' : α -> Shared -> Prop} {M : Model} {A : Around} {E : Value -> Shared -> Prop} {s : Shared} (h : wpAny M A t Q E s) (hQ : ∀ a s, Q a s -> Q' a s) : wpAny M A t Q' E s := wpAny_mono h hQ fun _ _ x => x
end L2
namespace L2
open PySem PySem.Spec PyProof.Rows
section
variable {X : Cx}
def tVar (i : Nat) : TE := fun σ H Q => ∃ v, σ[i]? = some (some v) /\ Q v H
def tC (v : V) : TE := fun _ H Q => Q v H
theorem pe_var {i : Nat} {x : Str} {pos : Pos} (hN : X.N[i]? = some x) (hv : Vis X.env.scope x) (hd : (x == ("__debug__" : Str)) = false := by decide) (hcd : (x == ("__classdict__" : Str)) = false := by decide) : PE X (.Name x pos) (tVar i) := by
  intro pins s σ H Q I h
  obtain ⟨v, e, h⟩ := h
  obtain ⟨m, hn, hl⟩ := I.loc
  obtain ⟨u, r, l⟩ := hl i x v hN e hv
  have fin : EP X pins σ Q u s := ⟨v, H, I, r, h⟩
  rcases l with ⟨hk, hm⟩ | ⟨hk, c, hc, hcell⟩
  · exact wpAny_Name (wpAny_loadName_local I.ok.kind hk hn hm fin) hd
  · rcases hk with hk | hk
    · exact wpAny_Name (wpAny_loadName_cell I.ok.kind hk hc hcell fin) hd
    · exact wpAny_Name (wpAny_loadName_free I.ok.kind hk hc hcell fin hcd) hd
theorem pe_int {i j pos} : PE X (.Constant (.int i) j pos) (tC (.int i)) := fun _ _ _ H _ I h => wpAny_Constant_int ⟨.int i, H, I.tok _, ⟨_, rfl⟩, h⟩
theorem pe_bl {b j pos} : PE X (.Constant (.bool b) j pos) (tC (.bl b)) := fun _ _ _ H _ I h => Constant_bool ⟨.bl b, H, I, rfl, h⟩
theorem pe_str {x j pos} : PE X (.Constant (.str x) j pos) (tC (.str x)) := fun _ _ _ H _ I h => Calls.Constant_str ⟨.str x, H, I.tok _, ⟨_, rfl⟩, h⟩
def Gl (X : Cx) (x : Str) : Prop := X.env.kindOf x = some .globalImplicit
theorem ld_glob {E : Value -> Shared -> Prop} {pins : List (Addr × Obj)} {s : Shared} {σ : St} {H : Hp} {x : Str} {u : Value} {pos : Pos} {Q : Value -> Shared -> Prop} (I : Inv X pins σ H s) (hg : Gl X x) (hm : X.mg x = some u) (h : Q u s)
    (hd : (x == ("__debug__" : Str)) = false := by decide) : wpAny (model X.prog X.w) X.A (eval (.Name x pos) X.env) Q E s :=
  Calls.Name_function_global I.ok.kind hg (Calls.loadGlobal_global (by rw [I.ok.glob]; exact I.mod.glob.keeps I.bk) hm h) hd
theorem ld_blt {E : Value -> Shared -> Prop} {pins : List (Addr × Obj)} {s : Shared} {σ : St} {H : Hp} {x : Str} {u : Value} {pos : Pos} {Q : Value -> Shared -> Prop} (I : Inv X pins σ H s) (hg : Gl X x) (hm : X.mg x = none) (hv : bootBuiltins x = some u) (h : Q u s)
    (hn : x ≠ "__name__" := by decide) (hd : (x == ("__debug__" : Str)) = false := by decide) : wpAny (model X.prog X.w) X.A (eval (.Name x pos) X.env) Q E s := by
  obtain ⟨mb, h1, h2⟩ := I.mod.blt
  exact Calls.Name_function_global I.ok.kind hg (Calls.loadGlobal_builtin (by rw [I.ok.glob]; exact I.mod.glob.keeps I.bk) hm (by rw [I.ok.blt]; exact h1.keeps I.bk) ((h2 x hn).trans hv) h) hd
theorem pe_bltn {x : Str} {v : V} {u : Value} {pos : Pos} (hg : Gl X x) (hm : X.mg x = none) (hv : bootBuiltins x = some u) (r : RelV v u) (hn : x ≠ "__name__" := by decide) (hd : (x == ("__debug__" : Str)) = false := by decide) : PE X (.Name x pos) (tC v) :=
  fun _ _ _ H _ I h => ld_blt I hg hm hv ⟨v, H, I, r, h⟩ hn hd
variable {a b : Expr} {ta tb : TE} {pos : Pos}
def tB (t : TE) : TT := fun σ H Q => t σ H fun x H1 => ∃ c, x = .bl c /\ Q c H1
theorem pt_val {e : Expr} {t : TE} (h : PE X e t) (he : ∀ whole, isTrue e X.env whole = (do let v <- whole; standAt e.pos; holding [v] (truthy v)) := by intro _; rfl) : PT X e (tB t) := by
  intro pins s σ H Q I hw
  refine isTrue_plain (thn (h pins s σ H _ I hw) fun v s1 ⟨x, H1, I1, r1, q1⟩ => ?_) (he _)
  obtain ⟨d, rfl, q⟩ := q1
  cases r1
  exact wpAny_truthy_bool ⟨H1, I1, q⟩
variable {tA tB' : TT} {rest : List Expr}
def tAnd (t u : TT) : TT := fun σ H Q => t σ H fun c H1 => if c = true then u σ H1 Q else Q false H1
def tOr (t u : TT) : TT := fun σ H Q => t σ H fun c H1 => if c = true then Q true H1 else u σ H1 Q
def tNot (t : TT) : TT := fun σ H Q => t σ H fun c H1 => Q (!c) H1
theorem pw_and1 (ha : PT X a tA) : PW X (.BoolOp .And [a] pos) tA := by
  intro wh pins s σ H Q I h
  refine isTrue_and (thn (ha pins s σ H Q I h) fun c s1 e => ?_)
  cases c with
  | true => exact isTrue_and_nil e
  | false => exact e
theorem pw_or1 (ha : PT X a tA) : PW X (.BoolOp .Or [a] pos) tA := by
  intro wh pins s σ H Q I h
  refine isTrue_or (thn (ha pins s σ H Q I h) fun c s1 e => ?_)
  cases c with
  | false => exact isTrue_or_nil e
  | true => exact e
theorem pw_and (ha : PT X a tA) (hb : PW X (.BoolOp .And (b :: rest) pos) tB') : PW X (.BoolOp .And (a :: b :: rest) pos) (tAnd tA tB') := by
  intro wh pins s σ H Q I h
  refine isTrue_and (thn (ha pins s σ H _ I h) fun c s1 ⟨H1, I1, q1⟩ => ?_)
  cases c with
  | true => exact hb wh pins s1 σ H1 Q I1 q1
  | false => exact ⟨H1, I1, q1⟩
theorem pw_or (ha : PT X a tA) (hb : PW X (.BoolOp .Or (b :: rest) pos) tB') : PW X (.BoolOp .Or (a :: b :: rest) pos) (tOr tA tB') := by
  intro wh pins s σ H Q I h
  refine isTrue_or (thn (ha pins s σ H _ I h) fun c s1 ⟨H1, I1, q1⟩ => ?_)
  cases c with
  | true => exact ⟨H1, I1, q1⟩
  | false => exact hb wh pins s1 σ H1 Q I1 q1
theorem pt_not (ha : PT X a tA) : PT X (.UnaryOp .Not a pos) (tNot tA) := by
  intro pins s σ H Q I h
  exact isTrue_not (ha pins s σ H (fun c H1 => Q (!c) H1) I h)
def tAndV (ta tb : TE) : TE := fun σ H Q => ta σ H fun x H1 => ∃ c, x = .bl c /\ if c = true then tb σ H1 Q else Q (.bl false) H1
theorem pe_one {op} {t : TE} (h : PE X a t) : PE X (.BoolOp op [a] pos) t := fun pins s σ H Q I hw => BoolOp_one (h pins s σ H Q I hw)
theorem pe_and (ha : PE X a ta) (hb : PE X (.BoolOp .And (b :: rest) pos) tb) : PE X (.BoolOp .And (a :: b :: rest) pos) (tAndV ta tb) := by
  intro pins s σ H Q I h
  refine BoolOp_and (thn (ha pins s σ H _ I h) fun v s1 ⟨x, H1, I1, r1, q1⟩ => ?_)
  obtain ⟨c, rfl, q1⟩ := q1
  cases r1
  refine wpAny_truthy_bool ?_
  cases c with
  | true => exact hb pins s1 σ H1 Q I1 q1
  | false => exact ⟨.bl false, H1, I1, rfl, q1⟩
end
end L2
namespace L2
open PySem PySem.Spec PyProof.Rows
def SqL (K : PySem.W.Frag) (H : Hp) (a : Addr) (xs : List V) : Prop :=
  Rd H a (.lst xs) \/
    ∃ (o : Obj) (its : Array Value) (n : Nat), K.lookup a = some o /\ o.cls = .type "list" /\ o.dict = none /\ o.data = .seq its n /\ its.size <= sizeLine /\ Vals xs its.toList
def SqT (K : PySem.W.Frag) (H : Hp) (a : Addr) (xs : List V) : Prop :=
  Rd H a (.tup xs) \/
    ∃ (o : Obj) (its : Array Value) (n : Nat), K.lookup a = some o /\ o.cls = .type "tuple" /\ o.data = .seq its n /\ its.size <= sizeLine /\ Vals xs its.toList
def absV : Value -> Option V
  | .none => some .non
  | .bool b => some (.bl b)
  | .int i _ => some (.int i)
  | .str x _ => some (.str x)
  | .bytes b _ => some (.byt b)
  | .float b _ => some (.flt b)
  | .ref a => some (.ref a)
  | .type n => some (.ty n)
  | _ => none
theorem RelV.abs {x : V} {u : Value} (r : RelV x u) : absV u = some x := by
  cases x with
  | non => cases r; rfl
  | bl _ => cases r; rfl
  | int _ => obtain ⟨t, rfl⟩ := r; rfl
  | str _ => obtain ⟨t, rfl⟩ := r; rfl
  | byt _ => obtain ⟨t, rfl⟩ := r; rfl
  | flt _ => obtain ⟨t, rfl⟩ := r; rfl
  | ref _ => cases r; rfl
  | ty _ => cases r; rfl
theorem RelV.inj {x y : V} {u : Value} (r : RelV x u) (q : RelV y u) : x = y := Option.some.inj (r.abs.symm.trans q.abs)
theorem Vals.inj : ∀ {xs ys : List V} {us : List Value}, Vals xs us -> Vals ys us -> xs = ys
  | _, _, _, .nil, .nil => rfl
  | _, _, _, .cons r t, .cons r' t' => by rw [r.inj r', Vals.inj t t']
section
variable {X : Cx} {pins : List (Addr × Obj)} {σ : St} {H : Hp} {s : Shared} {a : Addr} {xs ys : List V}
theorem SqL.of {K : PySem.W.Frag} (h : H a = some (.lst xs)) : SqL K H a xs := .inl (.inl h)
theorem SqT.of {K : PySem.W.Frag} (h : H a = some (.tup xs)) : SqT K H a xs := .inl (.inl h)
theorem Inv.list (I : Inv X pins σ H s) (h : SqL X.K H a xs) : ∃ its : List Value, Vals xs its /\ PlainL s.heap a its.toArray /\ xs.length <= sizeLine := by
  rcases h with h | ⟨o, its, n, hk, hc, hd, hs, hz, r⟩
  · obtain ⟨z, its, n, r, e⟩ := h.ok I.hok
    exact ⟨its, r, ⟨_, n, e, rfl, rfl, rfl⟩, z⟩
  · refine ⟨its.toList, r, ⟨o, n, I.kIn a o hk, hc, hd, by simpa using hs⟩, ?_⟩
    have e := r.length
    simp only [Array.length_toList] at e
    omega
theorem Inv.tuple (I : Inv X pins σ H s) (h : SqT X.K H a xs) : ∃ its : List Value, Vals xs its /\ IsTup s.heap a its.toArray /\ xs.length <= sizeLine := by
  rcases h with h | ⟨o, its, n, hk, hc, hs, hz, r⟩
  · obtain ⟨z, its, r, p⟩ := h.ok I.hok
    exact ⟨its, r, p, z⟩
  · refine ⟨its.toList, r, ⟨o, I.kIn a o hk, hc, n, by simpa using hs⟩, ?_⟩
    have e := r.length
    simp only [Array.length_toList] at e
    omega
theorem Inv.list_inj (I : Inv X pins σ H s) (h : SqL X.K H a xs) (h' : SqL X.K H a ys) : xs = ys := by
  obtain ⟨its, r, ⟨o, n, e, _, _, d⟩, _⟩ := I.list h
  obtain ⟨its', r', ⟨o', n', e', _, _, d'⟩, _⟩ := I.list h'
  rw [e] at e'; cases e'
  rw [d] at d'
  injection d' with d1 _
  have : its = its' := by simpa using congrArg Array.toList d1
  subst this
  exact r.inj r'
theorem Inv.tuple_inj (I : Inv X pins σ H s) (h : SqT X.K H a xs) (h' : SqT X.K H a ys) : xs = ys := by
  obtain ⟨its, r, ⟨o, e, _, n, d⟩, _⟩ := I.tuple h
  obtain ⟨its', r', ⟨o', e', _, n', d'⟩, _⟩ := I.tuple h'
  rw [e] at e'; cases e'
  rw [d] at d'
  injection d' with d1 _
  have : its = its' := by simpa using congrArg Array.toList d1
  subst this
  exact r.inj r'
end
abbrev Cx.wish (X : Cx) (E : Value -> Shared -> Prop) : Cx := { X with xe := E }
abbrev Cx.nox (X : Cx) : Cx := X.wish fun _ _ => False
theorem Cx.Ok.wish {X : Cx} (ok : X.Ok) (E : Value -> Shared -> Prop) : (X.wish E).Ok :=
  ⟨ok.mod, ok.kind, ok.glob, ok.blt, ok.above, ok.inj, ok.has, ok.cab, ok.hd, ok.frames, ok.stk, ok.exf, ok.bs, ok.bsz, ok.noex, ok.exfs, ok.funs, ok.frf⟩
theorem Cx.Ok.unwish {X : Cx} {E : Value -> Shared -> Prop} (ok : (X.wish E).Ok) : X.Ok :=
  ⟨ok.mod, ok.kind, ok.glob, ok.blt, ok.above, ok.inj, ok.has, ok.cab, ok.hd, ok.frames, ok.stk, ok.exf, ok.bs, ok.bsz, ok.noex, ok.exfs, ok.funs, ok.frf⟩
section
variable {X : Cx} {pins : List (Addr × Obj)} {σ : St} {H : Hp} {s : Shared} {E : Value -> Shared -> Prop}
theorem Inv.wish (I : Inv X pins σ H s) (E : Value -> Shared -> Prop) : Inv (X.wish E) pins σ H s := ⟨I.ok.wish E, I.os, I.bare, I.base, I.loc, I.cell, I.free, I.freeC, I.pin, I.hok, I.len⟩
theorem Inv.unwish (I : Inv (X.wish E) pins σ H s) : Inv X pins σ H s := ⟨I.ok.unwish, I.os, I.bare, I.base, I.loc, I.cell, I.free, I.freeC, I.pin, I.hok, I.len⟩
theorem SP.unwish {D : Ends} {f : Flow} {s' : Shared} (h : SP (X.wish E) pins D f s') : SP X pins D f s' := by
  cases f with
  | next => obtain ⟨σ', H', I, q⟩ := h; exact ⟨σ', H', I.unwish, q⟩
  | brk => obtain ⟨σ', H', I, q⟩ := h; exact ⟨σ', H', I.unwish, q⟩
  | cont => obtain ⟨σ', H', I, q⟩ := h; exact ⟨σ', H', I.unwish, q⟩
  | ret u => obtain ⟨v, σ', H', I, r, q⟩ := h; exact ⟨v, σ', H', I.unwish, r, q⟩
theorem PE.nox {e : Expr} {t : TE} (h : PE X.nox e t) : PE X e t := fun pins s σ H Q I hw =>
  wpAny_mono (h pins s σ H Q (I.wish _) hw) (fun _ _ ⟨v, H', I', r, q⟩ => ⟨v, H', I'.unwish, r, q⟩) fun _ _ z => False.elim z
theorem PT.nox {e : Expr} {t : TT} (h : PT X.nox e t) : PT X e t := fun pins s σ H Q I hw =>
  wpAny_mono (h pins s σ H Q (I.wish _) hw) (fun _ _ ⟨H', I', q⟩ => ⟨H', I'.unwish, q⟩) fun _ _ z => False.elim z
theorem PSs.nox {st : List Stmt} {t : TS} (h : PSs X.nox st t) : PSs X st t := fun pins s σ H D I hw =>
  wpAny_mono (h pins s σ H D (I.wish _) hw) (fun _ _ q => q.unwish) fun _ _ z => False.elim z
end
section
variable {X : Cx} {st : Stmt} {rest : List Stmt} {t u : TS} {e : Expr} {te : TE} {pos : Pos}
def tNext : TS := fun D σ H => D.nx σ H
def tSeq (t u : TS) : TS := fun D σ H => t { D with nx := u D } σ H
theorem pss_nil : PSs X [] tNext := fun _ _ σ H _ I h => wpAny_execs_nil ⟨σ, H, I, h⟩
theorem pss_cons (h1 : PS X st t) (h2 : PSs X rest u) : PSs X (st :: rest) (tSeq t u) := by
  intro pins s σ H D I h
  refine wpAny_execs_cons (thn (h1 pins s σ H { D with nx := u D } I h) fun f s1 q => ?_)
  cases f with
  | next =>
    obtain ⟨σ', H', I', q⟩ := q
    exact h2 pins s1 σ' H' D I' q
  | ret v => exact q
  | brk => exact q
  | cont => exact q
theorem pss_one (h1 : PS X st t) : PSs X [st] t := by
  intro pins s σ H D I h
  refine wpAny_execs_cons (thn (h1 pins s σ H D I h) fun f s1 q => ?_)
  cases f with
  | next => exact wpAny_execs_nil q
  | ret v => exact q
  | brk => exact q
  | cont => exact q
theorem Inv.quiet {pins : List (Addr × Obj)} {σ : St} {H : Hp} {s : Shared} (I : Inv X pins σ H s) : interactive X.env = false := by simp [interactive, I.ok.kind]
def tDrop (te : TE) : TS := fun D σ H => te σ H fun _ H1 => D.nx σ H1
theorem ps_expr (he : PE X e te) (hs : swapsWith e none pos.line X.env = pure false := by rfl) : PS X (.Expr e pos) (tDrop te) := by
  intro pins s σ H D I h
  exact wpAny_Expr_any (thn (he pins s σ H _ I h) fun v s1 ⟨x, H1, I1, r1, q1⟩ => ⟨σ, H1, I1, q1⟩) I.quiet hs
def tRet (te : TE) : TS := fun D σ H => te σ H D.rt
theorem ps_ret (he : PE X e te) : PS X (.Return (some e) pos) (tRet te) := by
  intro pins s σ H D I h
  exact wpAny_Return_some (thn (he pins s σ H _ I h) fun v s1 ⟨x, H1, I1, r1, q1⟩ => ⟨x, σ, H1, I1, r1, q1⟩)
def tIfS (c : TT) (t u : TS) : TS := fun D σ H => c σ H fun b H1 => if b = true then t D σ H1 else u D σ H1
theorem ps_if {c : Expr} {a b : List Stmt} {tc : TT} (hc : PT X c tc) (ha : PSs X a t) (hb : PSs X b u) : PS X (.If c a b pos) (tIfS tc t u) := by
  intro pins s σ H D I h
  refine wpAny_If (thn (hc pins s σ H _ I h) fun d s1 ⟨H1, I1, q1⟩ => ?_)
  cases d with
  | true => exact ha pins s1 σ H1 D I1 q1
  | false => exact hb pins s1 σ H1 D I1 q1
end
abbrev TG := V -> St -> Hp -> (St -> Hp -> Prop) -> Prop
abbrev TGs := List V -> St -> Hp -> (St -> Hp -> Prop) -> Prop
def PG (X : Cx) (target : Expr) (t : TG) : Prop :=
  ∀ (pins : List (Addr × Obj)) (s : Shared) (σ : St) (H : Hp) (v : V) (u : Value) (Q : St -> Hp -> Prop), Inv X pins σ H s -> RelV v u -> t v σ H Q ->
    wpAny (model X.prog X.w) X.A (assign target X.env u) (fun _ s' => ∃ σ' H', Inv X pins σ' H' s' /\ Q σ' H') X.xe s
def PGs (X : Cx) (ts : List Expr) (t : TGs) : Prop :=
  ∀ (pins : List (Addr × Obj)) (s : Shared) (σ : St) (H : Hp) (vs : List V) (us : List Value) (Q : St -> Hp -> Prop), Inv X pins σ H s -> Vals vs us -> t vs σ H Q ->
    wpAny (model X.prog X.w) X.A (assignInOrder ((assignEach ts X.env).map (·.2)) us) (fun _ s' => ∃ σ' H', Inv X pins σ' H' s' /\ Q σ' H') X.xe s
section
variable {X : Cx} {pos : Pos}
def gName (i : Nat) : TG := fun v σ H Q => Q (σ.set i (some v)) H
theorem pg_name {i : Nat} {x : Str} (hN : X.N.Nodup) (hi : X.N[i]? = some x) (hx : Loc X.env.scope x) (hf : X.fn x = true \/ X.env.scope.names.lookup x = some .local := by first | exact .inl rfl | exact .inr rfl | assumption) : PG X (.Name x pos) (gName i) := by
  intro pins s σ H v u Q I r h
  exact wpAny_assign_Name (store_ok I hN hi hx r (fun s' I' => ⟨_, H, I', h⟩) hf)
def gNil : TGs := fun vs σ H Q => vs = [] /\ Q σ H
def gCons (t : TG) (u : TGs) : TGs := fun vs σ H Q => ∃ v r, vs = v :: r /\ t v σ H fun σ' H' => u r σ' H' Q
theorem pgs_nil : PGs X [] gNil := by
  intro pins s σ H vs us Q I r h
  obtain ⟨e, h⟩ := h
  subst e
  cases r
  exact assignInOrder_nil ⟨σ, H, I, h⟩
theorem pgs_cons {e : Expr} {es : List Expr} {t : TG} {u : TGs} (h1 : PG X e t) (h2 : PGs X es u)
    (hs : (assignEach (e :: es) X.env).map (·.2) = assign e X.env :: (assignEach es X.env).map (·.2) := by rfl) : PGs X (e :: es) (gCons t u) := by
  intro pins s σ H vs us Q I r h
  obtain ⟨v, vr, e1, h⟩ := h
  subst e1
  cases r with
  | cons r rr =>
    rw [hs]
    refine assignInOrder_cons (thn (h1 pins s σ H _ _ _ I r h) fun _ s1 ⟨σ1, H1, I1, q1⟩ => ?_)
    exact h2 pins s1 σ1 H1 _ _ Q I1 rr q1
def gTup (K : PySem.W.Frag) (n : Nat) (t : TGs) : TG := fun v σ H Q => ∃ a xs, v = .ref a /\ SqT K H a xs /\ xs.length = n /\ t xs σ H Q
theorem pg_tup {es : List Expr} {k : Nat} {t : TGs} {n : Nat} (hc : X.calm = true) (h : PGs X es t)
    (hn : (assignEach es X.env).length = n := by rfl) (hst : (assignEach es X.env).findIdx? (·.1) = none := by rfl) : PG X (.Tuple es k pos) (gTup X.K n t) := by
  intro pins s σ H v u Q I r hw
  obtain ⟨a, xs, e1, hq, hl, hw⟩ := hw
  subst e1
  cases r
  obtain ⟨its, rv, ht, hz⟩ := I.tuple hq
  refine assign_Tuple_tuple (I.ok.hd hc) ht (by simp [hn, <- hl, rv.length]) hst fun h' hx => ?_
  have I1 : Inv X pins σ H { s with heap := h' } := I.kept (t' := s.toks) fun b o e => hx b o (Nat.ne_of_lt (Heap.lt_size e)) e
  exact h pins _ σ H xs _ Q I1 (by simpa using rv) hw
def tAsg (te : TE) (g : TG) : TS := fun D σ H => te σ H fun x H1 => g x σ H1 D.nx
theorem ps_set {i : Nat} {x : Str} {e : Expr} {te : TE} {pos' : Pos} (hN : X.N.Nodup) (hi : X.N[i]? = some x) (hx : Loc X.env.scope x) (he : PE X e te) (hs : swapsWith e (some (.Name x pos')) pos.line X.env = pure false := by rfl) (hf : X.fn x = true \/ X.env.scope.names.lookup x = some .local := by first | exact .inl rfl | exact .inr rfl | assumption) :
    PS X (.Assign [.Name x pos'] e pos) (tAsg te (gName i)) := by
  intro pins s σ H D I h
  refine wpAny_Assign_Name (thn (he pins s σ H _ I h) fun v s1 ⟨y, H1, I1, r1, q1⟩ => ?_) hs
  exact store_ok I1 hN hi hx r1 (fun s2 I2 => ⟨_, H1, I2, q1⟩) hf
end
section
variable {X : Cx} {pos : Pos}
end
structure It where
  go : Nat -> Hp -> Prop
  yld : Nat -> Hp -> V -> Hp -> Prop
  stop : Nat -> Hp -> Prop
def FpOk (X : Cx) (pins : List (Addr × Obj)) (H : Hp) (b : Addr) : Prop :=
  H b = none /\ b ≠ X.env.locals /\ b ∉ X.fs /\ (b ∈ X.ex \/ X.s₀.heap.objs.size <= b) /\ (∀ x c, X.env.cells.lookup x = some c -> c ≠ b) /\ ∀ p ∈ X.pn ++ pins, p.1 ≠ b
theorem Inv.fpOk {X : Cx} {pins : List (Addr × Obj)} {σ : St} {H H' : Hp} {s : Shared} {b : Addr} (I : Inv X pins σ H s) (hb : s.heap.objs.size <= b) (hn : H' b = none) : FpOk X pins H' b := by
  refine ⟨hn, Nat.ne_of_gt (Nat.lt_of_lt_of_le I.lt hb), I.nofs hb, .inr (Nat.le_trans I.sz hb), fun x c e z => ?_, fun p hp z => ?_⟩
  · obtain ⟨v, q⟩ := I.cell x c e
    exact absurd (Nat.lt_of_lt_of_le q.lt (by rw [z]; exact hb)) (Nat.lt_irrefl _)
  · exact absurd (Nat.lt_of_lt_of_le (Heap.lt_size (I.pin p hp).1) (by rw [z]; exact hb)) (Nat.lt_irrefl _)
structure Turn (P : Program) (w : World) (K : PySem.W.Frag) (tg : Expr) (J : It) (fp : List Addr) (it : Addr) (tn : Nat -> Heap -> Prop) : Prop where
  mem : it ∈ fp
  obj : ∀ i h, tn i h -> ∀ b ∈ fp, ∃ o, h.get? b = some o /\ ∀ v, o.data ≠ .cell v
  keep : ∀ i h h', tn i h -> (∀ b ∈ fp, ∀ o, h.get? b = some o -> h'.get? b = some o) -> tn i h'
  item : ∀ (X : Cx), X.prog = P -> X.w = w -> X.K = K -> X.calm = true -> ∀ (i : Nat) (pins : List (Addr × Obj)) (s : Shared) (σ : St) (H : Hp) (E : Value -> Shared -> Prop), Inv X pins σ H s -> (∀ b ∈ fp, FpOk X pins H b) -> tn i s.heap -> J.go i H ->
    wpAny (model P w) X.A (pyNext (.ref it)) (fun r s1 => ∃ u, r = some u /\
      wpAny (model P w) X.A (letOwnedTupleGo tg (.ref it) u) (fun _ s2 => ∃ x H', Inv X pins σ H' s2 /\ RelV x u /\ J.yld i H x H' /\ tn (i + 1) s2.heap /\ ∀ b ∈ fp, H' b = none) E s1) E s
  done : ∀ (X : Cx), X.prog = P -> X.w = w -> X.K = K -> X.calm = true -> ∀ (i : Nat) (pins : List (Addr × Obj)) (s : Shared) (σ : St) (H : Hp) (E : Value -> Shared -> Prop), Inv X pins σ H s -> (∀ b ∈ fp, FpOk X pins H b) -> tn i s.heap -> J.stop i H ->
    wpAny (model P w) X.A (pyNext (.ref it)) (fun r s1 => r = none /\ Inv X pins σ H s1) E s
  self : ∀ (A : Around) (i : Nat) (s : Shared) (Q : Value -> Shared -> Prop) (E : Value -> Shared -> Prop), tn i s.heap -> Q (.ref it) s -> wpAny (model P w) A (pyIter (.ref it)) Q E s
abbrev TI := St -> Hp -> (It -> Hp -> Prop) -> Prop
def PIE (X : Cx) (pins : List (Addr × Obj)) (σ : St) (tg : Expr) (R : It -> Hp -> Prop) (itv : Value) (s2 : Shared) : Prop :=
  ∃ (it : Addr) (fp : List Addr) (tn : Nat -> Heap -> Prop) (J : It) (H' : Hp), itv = .ref it /\ Inv X pins σ H' s2 /\ Turn X.prog X.w X.K tg J fp it tn /\ tn 0 s2.heap /\ (∀ b ∈ fp, FpOk X pins H' b) /\ R J H'
def PI (X : Cx) (tg iter : Expr) (wi : TI) : Prop :=
  ∀ (pins : List (Addr × Obj)) (s : Shared) (σ : St) (H : Hp) (R : It -> Hp -> Prop), Inv X pins σ H s -> wi σ H R ->
    wpAny (model X.prog X.w) X.A (eval iter X.env) (fun v s1 => wpAny (model X.prog X.w) X.A (pyIter v) (PIE X pins σ tg R) X.xe s1) X.xe s
theorem go_of {M : Model} {A : Around} {E : Value -> Shared -> Prop} {s : Shared} {tg : Expr} {it : Addr} {u : Value} {o : Obj} {n : String} {vs : Array Value} {Q : Unit -> Shared -> Prop} (ho : s.heap.get? it = some o) (hc : o.cls = .type n) (hd : o.data = .fields vs)
    (hn : ["enumerate", "zip", "dict_itemiterator", "dict_reverseitemiterator", "odict_iterator", "itertools.zip_longest", "itertools.pairwise"].contains n = false) (hQ : Q () s) : wpAny M A (letOwnedTupleGo tg (.ref it) u) Q E s := by
  unfold letOwnedTupleGo
  cases tg <;> first
    | exact wpAny_pure hQ
    | (cases u <;> first
        | exact wpAny_pure hQ
        | (refine wpAny_bind (wpAny_load ho ?_)
           rw [hc, hd]
           show wpAny M A (if (["enumerate", "zip", "dict_itemiterator", "dict_reverseitemiterator", "odict_iterator", "itertools.zip_longest", "itertools.pairwise"].contains n && vs[0]? == some (rawInt _)) = true then _ else _) Q E s
           rw [if_neg (by intro h; rw [hn, Bool.false_and] at h; cases h)]
           exact wpAny_pure hQ))
def Itl (K : PySem.W.Frag) (a : Addr) : It :=
  ⟨fun i H => ∃ xs x, SqL K H a xs /\ xs[i]? = some x, fun i H x H' => H' = H /\ ∀ xs, SqL K H a xs -> xs[i]? = some x, fun i H => ∃ xs, SqL K H a xs /\ xs.length <= i⟩
def Itt (K : PySem.W.Frag) (a : Addr) : It :=
  ⟨fun i H => ∃ xs x, SqT K H a xs /\ xs[i]? = some x, fun i H x H' => H' = H /\ ∀ xs, SqT K H a xs -> xs[i]? = some x, fun i H => ∃ xs, SqT K H a xs /\ xs.length <= i⟩
def Itr (lo : Int) (n : Nat) : It := ⟨fun i _ => i < n, fun i H x H' => H' = H /\ x = .int (lo + i), fun i _ => n <= i⟩
theorem turn_list {P : Program} {w : World} {K : PySem.W.Frag} {tg : Expr} (a it : Addr) : Turn P w K tg (Itl K a) [it] it (fun i h => h.IsListIter it a i) where
  mem := by simp
  obj := fun i h st b hb => by
    have e : b = it := by simpa using hb
    subst e
    obtain ⟨o, e, c, d⟩ := st
    exact ⟨o, e, fun v z => by rw [d] at z; cases z⟩
  keep := fun i h h' st k => st.at fun o e => k it (by simp) o e
  item := by
    intro X hP hw hK hc i pins s σ H E I hf st hg
    subst hP hw hK
    obtain ⟨xs, x, hq, hx⟩ := hg
    obtain ⟨its, rv, p, hz⟩ := I.list hq
    obtain ⟨u, hu, ru⟩ := rv.get hx
    obtain ⟨f0, f1, f2, f3, f4, f5⟩ := hf it (by simp)
    refine wpAny_pyNext_list_item st p.isList (x := u) (by simpa using hu) fun h' st' sb => ?_
    have I1 : Inv X pins σ H { s with heap := h' } := I.turned (t' := s.toks) (fun b o hb e => (sb.2 b hb).trans e) f0 f1 f3 f4 f5
    obtain ⟨o, e, c, d⟩ := id st'
    exact ⟨u, rfl, go_of (s := { s with heap := h' }) e c d (by decide) ⟨x, H, I1, ru, ⟨rfl, fun ys hy => by rw [I.list_inj hy hq]; exact hx⟩, st', fun b hb => (hf b hb).1⟩⟩
  done := by
    intro X hP hw hK hc i pins s σ H E I hf st hg
    subst hP hw hK
    obtain ⟨xs, hq, hx⟩ := hg
    obtain ⟨its, rv, p, hz⟩ := I.list hq
    obtain ⟨f0, f1, f2, f3, f4, f5⟩ := hf it (by simp)
    have hl := rv.length
    exact wpAny_pyNext_list_end (I.ok.hd hc) st p.isList (by simp; omega) fun h' eb => ⟨rfl, I.turned (t' := s.toks) (fun b o hb e => eb b o hb e) f0 f1 f3 f4 f5⟩
  self := fun _ _ _ _ _ st h => wpAny_pyIter_listiter st h
theorem turn_tuple {P : Program} {w : World} {K : PySem.W.Frag} {tg : Expr} (a it : Addr) : Turn P w K tg (Itt K a) [it] it (fun i h => h.IsTupleIter it a i) where
  mem := by simp
  obj := fun i h st b hb => by
    have e : b = it := by simpa using hb
    subst e
    obtain ⟨o, e, c, d⟩ := st
    exact ⟨o, e, fun v z => by rw [d] at z; cases z⟩
  keep := fun i h h' st k => st.at fun o e => k it (by simp) o e
  item := by
    intro X hP hw hK hc i pins s σ H E I hf st hg
    subst hP hw hK
    obtain ⟨xs, x, hq, hx⟩ := hg
    obtain ⟨its, rv, p, hz⟩ := I.tuple hq
    obtain ⟨u, hu, ru⟩ := rv.get hx
    obtain ⟨f0, f1, f2, f3, f4, f5⟩ := hf it (by simp)
    refine wpAny_pyNext_tuple_item st (show s.heap.IsTuple a its.toArray from p) (x := u) (by simpa using hu) fun h' st' sb => ?_
    have I1 : Inv X pins σ H { s with heap := h' } := I.turned (t' := s.toks) (fun b o hb e => (sb.2 b hb).trans e) f0 f1 f3 f4 f5
    obtain ⟨o, e, c, d⟩ := id st'
    exact ⟨u, rfl, go_of (s := { s with heap := h' }) e c d (by decide) ⟨x, H, I1, ru, ⟨rfl, fun ys hy => by rw [I.tuple_inj hy hq]; exact hx⟩, st', fun b hb => (hf b hb).1⟩⟩
  done := by
    intro X hP hw hK hc i pins s σ H E I hf st hg
    subst hP hw hK
    obtain ⟨xs, hq, hx⟩ := hg
    obtain ⟨its, rv, p, hz⟩ := I.tuple hq
    obtain ⟨f0, f1, f2, f3, f4, f5⟩ := hf it (by simp)
    have hl := rv.length
    exact wpAny_pyNext_tuple_end (I.ok.hd hc) st (show s.heap.IsTuple a its.toArray from p) (by simp; omega) fun h' eb => ⟨rfl, I.turned (t' := s.toks) (fun b o hb e => eb b o hb e) f0 f1 f3 f4 f5⟩
  self := fun _ _ _ _ _ st h => wpAny_pyIter_tupleiter st h
theorem turn_range {P : Program} {w : World} {K : PySem.W.Frag} {tg : Expr} (it : Addr) (lo : Int) (n : Nat) : Turn P w K tg (Itr lo n) [it] it (fun i h => IsRangeIter h it (lo + (i : Nat) * 1) ((n : Int) - (i : Nat)) 1) where
  mem := by simp
  obj := fun i h st b hb => by
    have e : b = it := by simpa using hb
    subst e
    exact ⟨_, st, fun v z => by
      have z' : Data.fields _ = Data.cell v := z
      cases z'⟩
  keep := fun i h h' st k => k it (by simp) _ st
  item := by
    intro X hP hw hK hc i pins s σ H E I hf st hg
    subst hP hw hK
    obtain ⟨f0, f1, f2, f3, f4, f5⟩ := hf it (by simp)
    have W := Walks.range (prog := X.prog) (w := X.w) (I.ok.hd hc) it lo 1 n
    refine W.item i s _ _ hg st fun v h' tk hv st' kk => ?_
    obtain ⟨t, rfl⟩ := hv
    have I1 : Inv X pins σ H { s with heap := h', toks := tk } := I.turned (fun b o hb e => kk b o (by simpa using hb) e) f0 f1 f3 f4 f5
    refine ⟨_, rfl, go_of (s := { s with heap := h', toks := tk }) (n := "range_iterator") st' rfl rfl (by decide) ⟨.int (lo + i), H, I1, ⟨t, ?_⟩, ⟨rfl, rfl⟩, st', fun b hb => (hf b hb).1⟩⟩
    rw [Int.mul_one]
  done := by
    intro X hP hw hK hc i pins s σ H E I hf st hg
    subst hP hw hK
    obtain ⟨f0, f1, f2, f3, f4, f5⟩ := hf it (by simp)
    exact wpAny_pyNext_range_end (I.ok.hd hc) st (by have : n <= i := hg; omega) fun h' eb => ⟨rfl, I.turned (t' := s.toks) (fun b o hb e => eb b o hb e) f0 f1 f3 f4 f5⟩
  self := fun _ _ _ _ _ st h => wpAny_pyIter_rangeiter st h
end L2
namespace L2
open PySem PySem.Spec PyProof.Rows
section
variable {X : Cx} {tg : Expr}
def iList (K : PySem.W.Frag) (tl : TE) : TI := fun σ H R => tl σ H fun x H1 => ∃ a, x = .ref a /\ (∃ xs, SqL K H1 a xs) /\ R (Itl K a) H1
def iTup (K : PySem.W.Frag) (tl : TE) : TI := fun σ H R => tl σ H fun x H1 => ∃ a, x = .ref a /\ (∃ xs, SqT K H1 a xs) /\ R (Itt K a) H1
theorem pi_list {l : Expr} {tl : TE} (hl : PE X l tl) : PI X tg l (iList X.K tl) := by
  intro pins s σ H R I h
  refine thn (hl pins s σ H _ I h) fun v s1 ⟨x, H1, I1, r1, q1⟩ => ?_
  obtain ⟨a, e, ⟨xs, hq⟩, q⟩ := q1
  subst e
  cases r1
  obtain ⟨its, rv, p, hz⟩ := I1.list hq
  refine wpAny_pyIter_list p.isList ?_
  refine ⟨s1.heap.objs.size, [s1.heap.objs.size], _, _, H1, rfl, I1.kept (t' := s1.toks) fun b o e => Heap.get?_push_of_some _ e, turn_list a _, ⟨_, Heap.get?_push_size _ rfl, rfl, rfl⟩, fun b hb => ?_, q⟩
  have e : b = s1.heap.objs.size := by simpa using hb
  subst e
  exact I1.fpOk (Nat.le_refl _) (I1.hok.fresh (Nat.le_refl _))
theorem pi_tup {l : Expr} {tl : TE} (hl : PE X l tl) : PI X tg l (iTup X.K tl) := by
  intro pins s σ H R I h
  refine thn (hl pins s σ H _ I h) fun v s1 ⟨x, H1, I1, r1, q1⟩ => ?_
  obtain ⟨a, e, ⟨xs, hq⟩, q⟩ := q1
  subst e
  cases r1
  obtain ⟨its, rv, p, hz⟩ := I1.tuple hq
  refine wpAny_pyIter_tuple (show s1.heap.IsTuple a its.toArray from p) ?_
  refine ⟨s1.heap.objs.size, [s1.heap.objs.size], _, _, H1, rfl, I1.kept (t' := s1.toks) fun b o e => Heap.get?_push_of_some _ e, turn_tuple a _, ⟨_, Heap.get?_push_size _ rfl, rfl, rfl⟩, fun b hb => ?_, q⟩
  have e : b = s1.heap.objs.size := by simpa using hb
  subst e
  exact I1.fpOk (Nat.le_refl _) (I1.hok.fresh (Nat.le_refl _))
theorem range_it {pins : List (Addr × Obj)} {σ : St} {H : Hp} {s : Shared} {R : It -> Hp -> Prop} {E : Value -> Shared -> Prop} {lo hi : Int} {t u v : Tok} {tk : Nat} (I : Inv X pins σ H s) (h1 : -(2 ^ 62) <= lo) (h2 : lo < 2 ^ 62) (h3 : -(2 ^ 62) <= hi) (h4 : hi < 2 ^ 62)
    (q : R (Itr lo (hi - lo).toNat) H) : wpAny (model X.prog X.w) X.A (pyIter (.ref s.heap.objs.size)) (PIE X pins σ tg R) E { s with heap := s.heap.push { cls := .type "range", data := .fields #[.int lo t, .int hi u, .int 1 v] }, toks := tk } := by
  refine wpAny_pyIter_range (IsRange.new ..) (small_one h1 h2 h3 h4) ?_
  have I1 : Inv X pins σ H { s with heap := s.heap.push { cls := .type "range", data := .fields #[.int lo t, .int hi u, .int 1 v] }, toks := tk } := I.kept fun b o e => Heap.get?_push_of_some _ e
  refine ⟨(s.heap.push { cls := .type "range", data := .fields #[.int lo t, .int hi u, .int 1 v] }).objs.size, [(s.heap.push { cls := .type "range", data := .fields #[.int lo t, .int hi u, .int 1 v] }).objs.size], _, _, H, rfl,
    I1.kept (t' := tk) fun b o e => Heap.get?_push_of_some _ e, turn_range _ lo (hi - lo).toNat, ?_, fun b hb => ?_, q⟩
  · have e1 : lo + ((0 : Nat) : Int) * 1 = lo := by simp
    have e2 : (((hi - lo).toNat : Nat) : Int) - ((0 : Nat) : Int) = Builtin.Range.rangeSize lo hi 1 := by rw [rangeSize_one]; split <;> omega
    show IsRangeIter _ _ (lo + ((0 : Nat) : Int) * 1) ((((hi - lo).toNat : Nat) : Int) - ((0 : Nat) : Int)) 1
    rw [e1, e2]
    exact Heap.get?_push_size _ rfl
  · have e : b = (s.heap.push { cls := .type "range", data := .fields #[.int lo t, .int hi u, .int 1 v] }).objs.size := by simpa using hb
    subst e
    exact I1.fpOk (Nat.le_refl _) (I1.hok.fresh (Nat.le_refl _))
def iRng1 (ta : TA) : TI := fun σ H R => ta σ H fun vs H1 => ∃ j : Int, vs = [.int j] /\ -(2 ^ 62) <= j /\ j < 2 ^ 62 /\ R (Itr 0 j.toNat) H1
theorem pi_range1 {a : Expr} {ta : TA} {p pos : Pos} (hg : Gl X "range") (hm : X.mg "range" = none) (ha : PA X [a] ta) (hs : starEach [a] X.env = [(false, eval a X.env)] := by rfl) : PI X tg (.Call (.Name "range" p) [a] [] pos) (iRng1 ta) := by
  intro pins s σ H R I h
  refine Call_ (ld_blt I hg hm boot_range (PyProof.Rows.callWith_type1 (thn (ha pos pins s σ H _ I h) fun us s1 ⟨vs, H1, I1, r1, q1⟩ => ?_) hs rfl))
  obtain ⟨j, e, q1, q2, q⟩ := q1
  subst e
  cases r1 with
  | cons r rr =>
    cases rr
    obtain ⟨t, rfl⟩ := r
    exact call_range_1 (range_it I1 (by omega) (by omega) q1 q2 (by simpa using q))
def tFor (wi : TI) (g : TG) (tb : TS) : TS := fun D σ H => wi σ H fun J H1 => ∃ W : Nat -> Nat -> St -> Hp -> Prop, (∃ m, W 0 m σ H1) /\ ∀ i m σ H, W i m σ H ->
  (J.stop i H /\ D.nx σ H) \/ (J.go i H /\ ∃ N : St -> Hp -> Prop, (∀ σ' H', N σ' H' -> ∃ m', m' < m /\ W (i + 1) m' σ' H') /\ ∀ x H', J.yld i H x H' -> g x σ H' fun σ2 H2 => tb { D with nx := N, ct := N, bk := D.nx } σ2 H2)
def pinsAt (fp : List Addr) (h : Heap) : List (Addr × Obj) := fp.filterMap fun b => (h.get? b).map fun o => (b, o)
theorem mem_pinsAt {fp : List Addr} {h : Heap} {b : Addr} {o : Obj} (hb : b ∈ fp) (e : h.get? b = some o) : (b, o) ∈ pinsAt fp h := List.mem_filterMap.mpr ⟨b, hb, by rw [e]; rfl⟩
theorem of_pinsAt {fp : List Addr} {h : Heap} {p : Addr × Obj} (hp : p ∈ pinsAt fp h) : p.1 ∈ fp /\ h.get? p.1 = some p.2 := by
  obtain ⟨b, hb, e⟩ := List.mem_filterMap.mp hp
  cases q : h.get? b with
  | none => rw [q] at e; cases e
  | some o =>
    rw [q] at e
    have e' : (b, o) = p := Option.some.inj e
    subst e'
    exact ⟨hb, q⟩
theorem Inv.pinned {pins : List (Addr × Obj)} {σ : St} {H : Hp} {s : Shared} {fp : List Addr} (I : Inv X pins σ H s) (hf : ∀ b ∈ fp, FpOk X pins H b) (ho : ∀ b ∈ fp, ∃ o, s.heap.get? b = some o /\ ∀ v, o.data ≠ .cell v) : Inv X (pins ++ pinsAt fp s.heap) σ H s :=
  I.pins_of fun p hp => (List.mem_append.mp hp).elim (fun z => I.pin p (List.mem_append_right _ z)) fun z => by
    obtain ⟨hb, e⟩ := of_pinsAt z
    obtain ⟨f0, f1, f2, _⟩ := hf p.1 hb
    obtain ⟨o, e', d⟩ := ho p.1 hb
    rw [e] at e'; cases e'
    exact ⟨e, f0, f1, f2, d⟩
theorem Inv.unpinned {pins pl : List (Addr × Obj)} {σ : St} {H : Hp} {s : Shared} (I : Inv X (pins ++ pl) σ H s) : Inv X pins σ H s := I.pins_of fun p hp => I.pin p (List.mem_append_right _ (List.mem_append_left _ hp))
theorem ps_for {iter : Expr} {body : List Stmt} {wi : TI} {g : TG} {tb : TS} {pos : Pos} (hp : PassesOwn (model X.prog X.w) X.A X.env X.xe) (hc : X.calm = true) (hi : PI X tg iter wi) (hg : PG X tg g) (hb : PSs X body tb)
    (hs : ∀ x, foldedSetIterable iter X.env x = pure x := by intro _; rfl) : PS X (.For tg iter body [] pos) (tFor wi g tb) := by
  intro pins s σ H D I h
  refine wpAny_For (thn (hi pins s σ H _ I h) fun v s1 h1 => thn h1 fun itv s2 h2 => ?_) hs
  obtain ⟨it, fp, tn, J, H2, e, I2, T, st2, f2, W, ⟨m0, w0⟩, turn⟩ := h2
  subst e
  -- what stays true of the iterator's objects through the loop
  have stat : ∀ {H' : Hp}, (∀ b ∈ fp, H' b = none) -> ∀ b ∈ fp, FpOk X pins H' b := fun hn b hb => ⟨hn b hb, (f2 b hb).2⟩
  refine codeAny_forLoop_any (fun n s' => ∃ i σ' H', Inv X pins σ' H' s' /\ tn i s'.heap /\ (∀ b ∈ fp, H' b = none) /\ W i n σ' H') ?_ m0 ⟨0, σ, H2, I2, st2, fun b hb => (f2 b hb).1, w0⟩
  rintro n s3 ⟨i, σ3, H3, I3, st3, fr3, w3⟩
  rcases turn i n σ3 H3 w3 with ⟨stop, qn⟩ | ⟨go, N, hN, step⟩
  · refine wpAny_passesOwn hp (thn (T.done X rfl rfl rfl hc i pins s3 σ3 H3 X.xe I3 (stat fr3) st3 stop) fun r s4 ⟨hr, I4⟩ => ?_)
    subst hr
    exact wpAny_execs_nil ⟨σ3, H3, I4, qn⟩
  · refine wpAny_passesOwn hp (thn (T.item X rfl rfl rfl hc i pins s3 σ3 H3 X.xe I3 (stat fr3) st3 go) fun r s4 ⟨u, hr, h4⟩ => ?_)
    subst hr
    refine wpAny_passesOwn hp (thn h4 fun _ s5 ⟨x, H5, I5, r5, y5, st5, fr5⟩ => ?_)
    have I5' := I5.pinned (stat fr5) (T.obj _ _ st5)
    refine wpAny_passesOwn hp (thn (hg _ s5 σ3 H5 x u _ I5' r5 (step x H5 y5)) fun _ s6 ⟨σ6, H6, I6, q6⟩ => ?_)
    refine wpAny_passesOwn hp (thn (hb _ s6 σ6 H6 _ I6 q6) fun f s7 q7 => ?_)
    have again : ∀ {σ7 : St} {H7 : Hp}, Inv X (pins ++ pinsAt fp s5.heap) σ7 H7 s7 -> N σ7 H7 -> ∃ m, m < n /\ ∃ i σ' H', Inv X pins σ' H' s7 /\ tn i s7.heap /\ (∀ b ∈ fp, H' b = none) /\ W i m σ' H' := fun {σ7 H7} I7 n7 => by
      obtain ⟨m', hm, w7⟩ := hN σ7 H7 n7
      refine ⟨m', hm, i + 1, σ7, H7, I7.unpinned, T.keep _ _ _ st5 fun b hb o e => (I7.pin (b, o) (List.mem_append_right _ (List.mem_append_right _ (mem_pinsAt hb e)))).1, fun b hb => ?_, w7⟩
      obtain ⟨o, e, d⟩ := T.obj _ _ st5 b hb
      exact (I7.pin (b, o) (List.mem_append_right _ (List.mem_append_right _ (mem_pinsAt hb e)))).2.1
    cases f with
    | next => obtain ⟨σ7, H7, I7, n7⟩ := q7; exact again I7 n7
    | cont => obtain ⟨σ7, H7, I7, n7⟩ := q7; exact again I7 n7
    | brk => obtain ⟨σ7, H7, I7, q7⟩ := q7; exact ⟨σ7, H7, I7.unpinned, q7⟩
    | ret v => obtain ⟨x7, σ7, H7, I7, r7, q7⟩ := q7; exact ⟨x7, σ7, H7, I7.unpinned, r7, q7⟩
end
theorem for_list {K : PySem.W.Frag} {a : Addr} {xs : List V} {g : TG} {tb : TS} {D : Ends} {σ : St} {H : Hp} (Pv : Nat -> St -> Hp -> Prop) (h0 : Pv 0 σ H) (hl : ∀ i σ H, i <= xs.length -> Pv i σ H -> SqL K H a xs)
    (hs : ∀ i x σ H, xs[i]? = some x -> Pv i σ H -> g x σ H fun σ2 H2 => tb { D with nx := Pv (i + 1), ct := Pv (i + 1), bk := D.nx } σ2 H2) (hd : ∀ σ H, Pv xs.length σ H -> D.nx σ H) :
    ∃ W : Nat -> Nat -> St -> Hp -> Prop, (∃ m, W 0 m σ H) /\ ∀ i m σ H, W i m σ H ->
      ((Itl K a).stop i H /\ D.nx σ H) \/ ((Itl K a).go i H /\ ∃ N : St -> Hp -> Prop, (∀ σ' H', N σ' H' -> ∃ m', m' < m /\ W (i + 1) m' σ' H') /\ ∀ x H', (Itl K a).yld i H x H' -> g x σ H' fun σ2 H2 => tb { D with nx := N, ct := N, bk := D.nx } σ2 H2) := by
  refine ⟨fun i m σ H => m = xs.length - i /\ i <= xs.length /\ Pv i σ H, ⟨xs.length, by simp, Nat.zero_le _, h0⟩, ?_⟩
  rintro i m σ H ⟨rfl, hi, p⟩
  have q := hl i σ H hi p
  by_cases hlt : i < xs.length
  · refine .inr ⟨⟨xs, xs[i], q, by simp [hlt]⟩, Pv (i + 1), fun σ' H' p' => ⟨xs.length - (i + 1), by omega, rfl, hlt, p'⟩, fun x H' y => ?_⟩
    obtain ⟨e, y⟩ := y
    subst e
    exact hs i x σ _ (y xs q) p
  · have e : i = xs.length := by omega
    subst e
    exact .inl ⟨⟨xs, q, Nat.le_refl _⟩, hd σ H p⟩
theorem for_tup {K : PySem.W.Frag} {a : Addr} {xs : List V} {g : TG} {tb : TS} {D : Ends} {σ : St} {H : Hp} (Pv : Nat -> St -> Hp -> Prop) (h0 : Pv 0 σ H) (hl : ∀ i σ H, i <= xs.length -> Pv i σ H -> SqT K H a xs)
    (hs : ∀ i x σ H, xs[i]? = some x -> Pv i σ H -> g x σ H fun σ2 H2 => tb { D with nx := Pv (i + 1), ct := Pv (i + 1), bk := D.nx } σ2 H2) (hd : ∀ σ H, Pv xs.length σ H -> D.nx σ H) :
    ∃ W : Nat -> Nat -> St -> Hp -> Prop, (∃ m, W 0 m σ H) /\ ∀ i m σ H, W i m σ H ->
      ((Itt K a).stop i H /\ D.nx σ H) \/ ((Itt K a).go i H /\ ∃ N : St -> Hp -> Prop, (∀ σ' H', N σ' H' -> ∃ m', m' < m /\ W (i + 1) m' σ' H') /\ ∀ x H', (Itt K a).yld i H x H' -> g x σ H' fun σ2 H2 => tb { D with nx := N, ct := N, bk := D.nx } σ2 H2) := by
  refine ⟨fun i m σ H => m = xs.length - i /\ i <= xs.length /\ Pv i σ H, ⟨xs.length, by simp, Nat.zero_le _, h0⟩, ?_⟩
  rintro i m σ H ⟨rfl, hi, p⟩
  have q := hl i σ H hi p
  by_cases hlt : i < xs.length
  · refine .inr ⟨⟨xs, xs[i], q, by simp [hlt]⟩, Pv (i + 1), fun σ' H' p' => ⟨xs.length - (i + 1), by omega, rfl, hlt, p'⟩, fun x H' y => ?_⟩
    obtain ⟨e, y⟩ := y
    subst e
    exact hs i x σ _ (y xs q) p
  · have e : i = xs.length := by omega
    subst e
    exact .inl ⟨⟨xs, q, Nat.le_refl _⟩, hd σ H p⟩
theorem for_range {lo : Int} {n : Nat} {g : TG} {tb : TS} {D : Ends} {σ : St} {H : Hp} (Pv : Nat -> St -> Hp -> Prop) (h0 : Pv 0 σ H)
    (hs : ∀ i σ H, i < n -> Pv i σ H -> g (.int (lo + i)) σ H fun σ2 H2 => tb { D with nx := Pv (i + 1), ct := Pv (i + 1), bk := D.nx } σ2 H2) (hd : ∀ σ H, Pv n σ H -> D.nx σ H) :
    ∃ W : Nat -> Nat -> St -> Hp -> Prop, (∃ m, W 0 m σ H) /\ ∀ i m σ H, W i m σ H ->
      ((Itr lo n).stop i H /\ D.nx σ H) \/ ((Itr lo n).go i H /\ ∃ N : St -> Hp -> Prop, (∀ σ' H', N σ' H' -> ∃ m', m' < m /\ W (i + 1) m' σ' H') /\ ∀ x H', (Itr lo n).yld i H x H' -> g x σ H' fun σ2 H2 => tb { D with nx := N, ct := N, bk := D.nx } σ2 H2) := by
  refine ⟨fun i m σ H => m = n - i /\ i <= n /\ Pv i σ H, ⟨n, by simp, Nat.zero_le _, h0⟩, ?_⟩
  rintro i m σ H ⟨rfl, hi, p⟩
  by_cases hlt : i < n
  · refine .inr ⟨hlt, Pv (i + 1), fun σ' H' p' => ⟨n - (i + 1), by omega, rfl, hlt, p'⟩, fun x H' y => ?_⟩
    obtain ⟨e, y⟩ := y
    subst e y
    exact hs i σ _ hlt p
  · have e : i = n := by omega
    subst e
    exact .inl ⟨Nat.le_refl _, hd σ H p⟩
end L2
namespace L2
open PySem PySem.Spec PyProof.Rows
abbrev R2 := V -> V -> Hp -> VK -> Prop
def OpR (X : Cx) (f : Value -> Value -> Sem Value) (r : R2) : Prop :=
  ∀ (pins : List (Addr × Obj)) (s : Shared) (σ : St) (H : Hp) (x y : V) (v u : Value) (Q : VK), Inv X pins σ H s -> RelV x v -> RelV y u -> r x y H Q ->
    wpAny (model X.prog X.w) X.A (f v u) (EP X pins σ Q) X.xe s
def UnR (X : Cx) (f : Value -> Sem Value) (r : V -> Hp -> VK -> Prop) : Prop :=
  ∀ (pins : List (Addr × Obj)) (s : Shared) (σ : St) (H : Hp) (x : V) (v : Value) (Q : VK), Inv X pins σ H s -> RelV x v -> r x H Q ->
    wpAny (model X.prog X.w) X.A (f v) (EP X pins σ Q) X.xe s
def CallR (X : Cx) (f : Value) (r : List V -> Hp -> VK -> Prop) : Prop :=
  ∀ (pins : List (Addr × Obj)) (s : Shared) (σ : St) (H : Hp) (xs : List V) (us : List Value) (Q : VK), Inv X pins σ H s -> Vals xs us -> r xs H Q ->
    wpAny (model X.prog X.w) X.A (call f us) (EP X pins σ Q) X.xe s
def tOp (r : R2) (ta tb : TE) : TE := fun σ H Q => ta σ H fun x H1 => tb σ H1 fun y H2 => r x y H2 Q
def tUn (r : V -> Hp -> VK -> Prop) (ta : TE) : TE := fun σ H Q => ta σ H fun x H1 => r x H1 Q
def rI (C : Int -> Int -> Prop) (g : Int -> Int -> V) : R2 := fun x y H Q => ∃ i j, x = .int i /\ y = .int j /\ C i j /\ Q (g i j) H
def rI0 (g : Int -> Int -> V) : R2 := fun x y H Q => ∃ i j, x = .int i /\ y = .int j /\ Q (g i j) H
def rU (g : Int -> V) : V -> Hp -> VK -> Prop := fun x H Q => ∃ i, x = .int i /\ Q (g i) H
section
variable {X : Cx} {a b c : Expr} {ta tb tc : TE} {pos : Pos}
theorem binT (ha : PE X a ta) (hb : PE X b tb) {pins : List (Addr × Obj)} {s : Shared} {σ : St} {H : Hp} {R : V -> V -> Hp -> Prop} (I : Inv X pins σ H s)
    (h : ta σ H fun x H1 => tb σ H1 fun y H2 => R x y H2) {Q : Value -> Shared -> Prop} {f : Value -> Value -> Sem Value}
    (hf : ∀ v u s2 x y H2, Inv X pins σ H2 s2 -> RelV x v -> RelV y u -> R x y H2 -> wpAny (model X.prog X.w) X.A (f v u) Q X.xe s2) :
    wpAny (model X.prog X.w) X.A (eval a X.env) (fun v s₁ => wpAny (model X.prog X.w) X.A (eval b X.env) (fun u s₂ => wpAny (model X.prog X.w) X.A (f v u) Q X.xe s₂) X.xe s₁) X.xe s := by
  refine thn (ha pins s σ H _ I h) fun v s1 ⟨x, H1, I1, r1, q1⟩ => ?_
  refine thn (hb pins s1 σ H1 _ I1 q1) fun u s2 ⟨y, H2, I2, r2, q2⟩ => ?_
  exact hf v u s2 x y H2 I2 r1 r2 q2
theorem pe_op {op : Operator} {r : R2} (ho : OpR X (binaryOp op) r) (ha : PE X a ta) (hb : PE X b tb) : PE X (.BinOp a op b pos) (tOp r ta tb) := by
  intro pins s σ H Q I h
  exact wpAny_BinOp (binT ha hb I h fun v u s2 x y H2 I2 rx ry q => ho pins s2 σ H2 x y v u Q I2 rx ry q)
theorem pe_un {op : UnaryOp} {r : V -> Hp -> VK -> Prop} (ho : UnR X (unaryOp op) r) (ha : PE X a ta) : PE X (.UnaryOp op a pos) (tUn r ta) := by
  intro pins s σ H Q I h
  exact UnaryOp_ (thn (ha pins s σ H _ I h) fun v s1 ⟨x, H1, I1, r1, q1⟩ => ho pins s1 σ H1 x v Q I1 r1 q1)
theorem opI {f : Value -> Value -> Sem Value} {C : Int -> Int -> Prop} {g : Int -> Int -> Int}
    (rule : ∀ (i j : Int) (t u : Tok) (s : Shared) (Q : Value -> Shared -> Prop) (E : Value -> Shared -> Prop), C i j -> Q (.int (g i j) s.toks) { s with toks := s.toks + 1 } -> wpAny (model X.prog X.w) X.A (f (.int i t) (.int j u)) Q E s) :
    OpR X f (rI C fun i j => .int (g i j)) := by
  intro pins s σ H x y v u Q I rx ry h
  obtain ⟨i, j, rfl, rfl, hc, q⟩ := h
  obtain ⟨t, rfl⟩ := rx
  obtain ⟨t', rfl⟩ := ry
  exact rule i j t t' s _ _ hc ⟨.int (g i j), H, I.tok _, ⟨_, rfl⟩, q⟩
theorem opB0 {f : Value -> Value -> Sem Value} {g : Int -> Int -> Bool}
    (rule : ∀ (i j : Int) (t u : Tok) (s : Shared) (Q : Value -> Shared -> Prop) (E : Value -> Shared -> Prop), Q (.bool (g i j)) s -> wpAny (model X.prog X.w) X.A (f (.int i t) (.int j u)) Q E s) :
    OpR X f (rI0 fun i j => .bl (g i j)) := by
  intro pins s σ H x y v u Q I rx ry h
  obtain ⟨i, j, rfl, rfl, q⟩ := h
  obtain ⟨t, rfl⟩ := rx
  obtain ⟨t', rfl⟩ := ry
  exact rule i j t t' s _ _ ⟨.bl (g i j), H, I, rfl, q⟩
def CDiv (i j : Int) : Prop := 0 < j /\ j < 1073741824
def CPow (i j : Int) : Prop := 0 <= j /\ j <= 1000000 /\ i.natAbs < 2 ^ 64
def CMul (i j : Int) : Prop := (-(2 ^ 64) < i /\ i < 2 ^ 64) \/ (-(2 ^ 64) < j /\ j < 2 ^ 64)
theorem CMul.ok {i j : Int} (h : CMul i j) : IntMulOk i j := by
  rcases h with ⟨h1, h2⟩ | ⟨h1, h2⟩
  · exact .of_left (intBits_le_64 h1 h2)
  · exact .of_right (intBits_le_64 h1 h2)
theorem op_mul : OpR X (binaryOp .Mult) (rI CMul fun i j => .int (i * j)) := opI fun _ _ _ _ _ _ _ hc q => mul_int q hc.ok
theorem op_fdiv : OpR X (binaryOp .FloorDiv) (rI CDiv fun i j => .int (i / j)) := opI fun i j _ _ _ _ _ hc q => by
  have h1 : (0 : Int) < j := hc.1
  have h2 : j < 1073741824 := hc.2
  exact floordiv_int (by omega) (by rw [Int.fdiv_eq_ediv_of_nonneg i (by omega)]; exact q) (.inl (PyProof.noPylong_small (by omega)))
theorem op_mod : OpR X (binaryOp .Mod) (rI (fun _ j => 0 < j) fun i j => .int (i % j)) := opI fun i j _ _ _ _ _ hc q => by
  have h1 : (0 : Int) < j := hc
  exact mod_int' (by omega) (by rw [Int.fmod_eq_emod_of_nonneg i (by omega)]; exact q)
theorem op_pow : OpR X (binaryOp .Pow) (rI CPow fun i j => .int (i ^ j.toNat)) := opI fun _ _ _ _ _ _ _ hc q => pow_int_small hc.1 hc.2.1 hc.2.2 q
theorem unI {f : Value -> Sem Value} {g : Int -> Int}
    (rule : ∀ (i : Int) (t : Tok) (s : Shared) (Q : Value -> Shared -> Prop) (E : Value -> Shared -> Prop), Q (.int (g i) s.toks) { s with toks := s.toks + 1 } -> wpAny (model X.prog X.w) X.A (f (.int i t)) Q E s) :
    UnR X f (rU fun i => .int (g i)) := by
  intro pins s σ H x v Q I rx h
  obtain ⟨i, rfl, q⟩ := h
  obtain ⟨t, rfl⟩ := rx
  exact rule i t s _ _ ⟨.int (g i), H, I.tok _, ⟨_, rfl⟩, q⟩
theorem un_neg : UnR X (unaryOp .USub) (rU fun i => .int (-i)) := unI fun _ _ _ _ _ q => neg_int q
end
def scal : V -> V -> Bool
  | .non, .non => true | .non, .int _ => true | .int _, .non => true | .non, .bl _ => true | .bl _, .non => true | .non, .str _ => true | .str _, .non => true
  | .int _, .int _ => true | .bl _, .bl _ => true | .str _, .str _ => true | .byt _, .byt _ => true
  | .int _, .str _ => true | .str _, .int _ => true | .bl _, .str _ => true | .str _, .bl _ => true
  | _, _ => false
def rEq : R2 := fun x y H Q => scal x y = true /\ Q (.bl (decide (x = y))) H
theorem dec_int {i j : Int} : decide (V.int i = V.int j) = (i == j) := by
  rw [Bool.eq_iff_iff]
  simp
theorem dec_bl {i j : Bool} : decide (V.bl i = V.bl j) = (i == j) := by
  rw [Bool.eq_iff_iff]
  simp
theorem dec_str {i j : Str} : decide (V.str i = V.str j) = (i == j) := by
  rw [Bool.eq_iff_iff]
  simp
theorem dec_byt {i j : Array UInt8} : decide (V.byt i = V.byt j) = (i.toList == j.toList) := by
  rw [Bool.eq_iff_iff]
  cases i
  cases j
  simp
section
variable {X : Cx} {a b c : Expr} {ta tb tc : TE} {pos : Pos}
theorem fin_bl {pins : List (Addr × Obj)} {σ : St} {H : Hp} {s : Shared} {Q : VK} {k k' : Bool} (I : Inv X pins σ H s) (q : Q (.bl k) H) (e : k = k') : EP X pins σ Q (.bool k') s := by
  subst e
  exact ⟨.bl k, H, I, rfl, q⟩
theorem op_eq : OpR X (compareOp .Eq) rEq := by
  intro pins s σ H x y v u Q I rx ry h
  obtain ⟨hs, q⟩ := h
  cases x with
  | non =>
    cases rx
    cases y with
    | non => cases ry; exact PySem.EqNone.eq_none_none (fin_bl I q (by simp))
    | bl j => cases ry; exact PySem.EqNone.eq_none_bool (fin_bl I q (by simp))
    | int j => obtain ⟨t', rfl⟩ := ry; exact PySem.EqNone.eq_none_int (fin_bl I q (by simp))
    | str j => obtain ⟨t', rfl⟩ := ry; exact PySem.EqNone.eq_none_str (fin_bl I q (by simp))
    | _ => exact absurd (show false = true from hs) Bool.false_ne_true
  | bl i =>
    cases rx
    cases y with
    | non => cases ry; exact PySem.EqNone.eq_bool_none (fin_bl I q (by simp))
    | bl j => cases ry; exact eq_bool (fin_bl I q dec_bl)
    | str j => obtain ⟨t', rfl⟩ := ry; exact PySem.EqMixed.eq_bool_str (fin_bl I q (by simp))
    | _ => exact absurd (show false = true from hs) Bool.false_ne_true
  | int i =>
    obtain ⟨t, rfl⟩ := rx
    cases y with
    | non => cases ry; exact PySem.EqNone.eq_int_none (fin_bl I q (by simp))
    | int j => obtain ⟨t', rfl⟩ := ry; exact eq_int (fin_bl I q dec_int)
    | str j => obtain ⟨t', rfl⟩ := ry; exact PySem.EqMixed.eq_int_str (fin_bl I q (by simp))
    | _ => exact absurd (show false = true from hs) Bool.false_ne_true
  | str i =>
    obtain ⟨t, rfl⟩ := rx
    cases y with
    | non => cases ry; exact PySem.EqNone.eq_str_none (fin_bl I q (by simp))
    | bl j => cases ry; exact PySem.EqMixed.eq_str_bool (fin_bl I q (by simp))
    | int j => obtain ⟨t', rfl⟩ := ry; exact PySem.EqMixed.eq_str_int (fin_bl I q (by simp))
    | str j => obtain ⟨t', rfl⟩ := ry; exact eq_str (fin_bl I q dec_str)
    | _ => exact absurd (show false = true from hs) Bool.false_ne_true
  | byt i =>
    obtain ⟨t, rfl⟩ := rx
    cases y with
    | byt j => obtain ⟨t', rfl⟩ := ry; exact PySem.W.eq_bytes (fin_bl I q dec_byt)
    | _ => exact absurd (show false = true from hs) Bool.false_ne_true
  | _ => cases y <;> exact absurd (show false = true from hs) Bool.false_ne_true
theorem op_lt : OpR X (compareOp .Lt) (rI0 fun i j => .bl (decide (i < j))) := opB0 fun _ _ _ _ _ _ _ q => lt_int q
theorem OpR.or {f : Value -> Value -> Sem Value} {r r' : R2} (h : OpR X f r) (h' : OpR X f r') : OpR X f (fun x y H Q => r x y H Q \/ r' x y H Q) := by
  intro pins s σ H x y v u Q I rx ry q
  rcases q with q | q
  · exact h pins s σ H x y v u Q I rx ry q
  · exact h' pins s σ H x y v u Q I rx ry q
theorem nomark (b : Expr) {op : CmpOp} (h : op ≠ .In := by decide) (h2 : op ≠ .NotIn := by decide) : behindInMarks op b = false := by
  have e1 : (op == CmpOp.In) = false := by cases op <;> first | rfl | exact absurd rfl h
  have e2 : (op == CmpOp.NotIn) = false := by cases op <;> first | rfl | exact absurd rfl h2
  cases b <;> simp [behindInMarks, e1, e2]
def tTest (t : TE) : TT := fun σ H Q => t σ H fun x H' => ∃ k, x = .bl k /\ Q k H'
theorem pt_cmpR {op : CmpOp} {r : R2} (ho : OpR X (compareOp op) r) (ha : PE X a ta) (hb : PE X b tb) (hm : behindInMarks op b = false) : PT X (.Compare a [op] [b] pos) (tTest (tOp r ta tb)) := by
  intro pins s σ H Q I h
  refine wpAny_isTrue_Compare1 (thn (ha pins s σ H _ I h) fun v s1 ⟨x, H1, I1, r1, q1⟩ => thn (hb pins s1 σ H1 _ I1 q1) fun u s2 ⟨y, H2, I2, r2, q2⟩ =>
    thn (ho pins s2 σ H2 x y v u _ I2 r1 r2 q2) fun c s3 ⟨z, H3, I3, r3, k, e, q3⟩ => ?_) hm
  subst e
  cases r3
  exact wpAny_truthy_bool ⟨H3, I3, q3⟩
theorem line63 : (sizeLine : Nat) < 2 ^ 63 := by rw [sizeLine_eq]; decide
theorem op_add_str : OpR X (binaryOp .Add) (fun x y H Q => ∃ i j, x = .str i /\ y = .str j /\ i.length + j.length <= sizeLine /\ Q (.str (i ++ j)) H) := by
  intro pins s σ H x y v u Q I rx ry h
  obtain ⟨i, j, rfl, rfl, hz, q⟩ := h
  obtain ⟨t, rfl⟩ := rx
  obtain ⟨t', rfl⟩ := ry
  exact add_str (fun t' tk => ⟨.str (i ++ j), H, I.tok _, ⟨_, rfl⟩, q⟩) hz
theorem vals1 {x : V} {us : List Value} (r : Vals [x] us) : ∃ u, us = [u] /\ RelV x u := by
  cases r with
  | cons r1 r2 => cases r2; exact ⟨_, rfl, r1⟩
theorem vals2 {x y : V} {us : List Value} (r : Vals [x, y] us) : ∃ u w', us = [u, w'] /\ RelV x u /\ RelV y w' := by
  cases r with
  | cons r1 r2 =>
    cases r2 with
    | cons r3 r4 => cases r4; exact ⟨_, _, rfl, r1, r3⟩
end
end L2
namespace L2
open PySem PySem.Spec PyProof.Rows
structure ObjM (h : Heap) (x dx C : Addr) (mA : Str -> Option Value) : Prop where
  obj : h.get? x = some (PySem.W.instObj C dx)
  ns : h.Ns1 dx mA
  ne : dx ≠ x
theorem lookIn_ns {h : Heap} {dx : Addr} {mA : Str -> Option Value} (n : h.Ns1 dx mA) : ∃ od, h.get? dx = some od /\ ∀ name, PySem.W.lookIn name od = some (mA name) := by
  obtain ⟨o, es, ep, ho, hd, hk, _, hm⟩ := n
  refine ⟨o, ho, fun name => ?_⟩
  have e := hm name
  unfold nsFind findBy at e
  rw [<- Array.find?_toList] at e
  unfold PySem.W.lookIn
  rw [hd]
  dsimp only
  split
  · rename_i y q
    rw [q] at e
    exact congrArg some e
  · rename_i q
    rw [q] at e
    have a : es.toList.any (·.refKey) = false := by
      rw [List.any_eq_false]
      intro y hy
      obtain ⟨z, t, hkey⟩ := hk y (Array.mem_toList_iff.mp hy)
      simp [DictEntry.refKey, hkey]
    have a' : ¬ es.toList.any (·.refKey) = true := by rw [a]; exact Bool.false_ne_true
    rw [if_neg a']
    exact congrArg some e
theorem ObjM.look {h : Heap} {x dx C : Addr} {mA : Str -> Option Value} (I : ObjM h x dx C mA) : ∃ od, PySem.W.InstAt h x (PySem.W.instObj C dx) C (some od) /\ ∀ name, PySem.W.lookIn name od = some (mA name) :=
  let ⟨od, ho, hl⟩ := lookIn_ns I.ns
  ⟨od, ⟨I.obj, rfl, rfl, ho⟩, hl⟩
section
variable {prog : Program} {w : World} {A : Around} {E : Value -> Shared -> Prop} {s : Shared} {K : PySem.W.Frag} {x dx C f : Addr} {mA : Str -> Option Value} {name : Str} {v : Value}
end
section
variable {P : Program} {w : World} {H H' : Hp} {h h' : Heap} {a C dx : Addr} {fs fs' : List (Str × V)}
theorem ins_get (hok : HOk P w H h) (e : H a = some (.ins C dx fs)) : ∃ mA, ObjM h a dx C mA /\ (∀ f, RelO (fs.lookup f) (mA f)) /\ PySem.Within mA (fs.map (·.1)) /\ fs.length <= 1000 /\ H dx = some (.own a) := by
  obtain ⟨d, z, ne, ob, mA, n, r, q⟩ := (show ObjOk P w H h a (.ins C dx fs) from hok a _ e)
  exact ⟨mA, ⟨ob, n, ne⟩, r, q, z, d⟩
end
structure Cls (K : PySem.W.Frag) (C : Addr) : Prop where
  pg : PySem.W.plainGet K C Str.empty = true
  hd : PySem.W.hasDictIn K C = true
  po : PySem.W.plainOver K C = true
  sa : PySem.W.findIn K (.ref C) "__setattr__" = some (some (.builtin "object.__setattr__"))
theorem Cls.get {K : PySem.W.Frag} {C : Addr} (c : Cls K C) (f : Str) : PySem.W.plainGet K C f = true := c.pg
structure Con (K : PySem.W.Frag) (C : Addr) (f : Str) (v : V) (u : Value) : Prop where
  at_ : PySem.W.findIn K (.ref C) f = some (some u)
  rel : RelV v u
  get : PySem.W.specialIn K u "__get__" = some none
  cp : PySem.W.copiedNames.contains f = false
structure Meth (K : PySem.W.Frag) (C : Addr) (m : Str) (f : Addr) : Prop where
  at_ : PySem.W.findIn K (.ref C) m = some (some (.ref f))
  fn : PySem.W.isFn K (.ref f) = true
  kp : PySem.W.keepIn K (.ref f) = true
section
variable {X : Cx} {pins : List (Addr × Obj)} {σ : St} {H : Hp} {s : Shared} {a C dx : Addr} {fs : List (Str × V)} {f : Str} {v : V} {A : Around} {E : Value -> Shared -> Prop}
theorem Inv.made (I : Inv X pins σ H s) : Inv X pins σ (upd (upd H s.heap.objs.size (.own (s.heap.objs.size + 1))) (s.heap.objs.size + 1) (.ins C s.heap.objs.size []))
    { s with heap := (s.heap.push PySem.W.emptyDict).push (PySem.W.instObj C s.heap.objs.size) } := by
  have e1 : (s.heap.push PySem.W.emptyDict).get? s.heap.objs.size = some PySem.W.emptyDict := Heap.get?_push_size s.heap rfl
  have e2 : ((s.heap.push PySem.W.emptyDict).push (PySem.W.instObj C s.heap.objs.size)).get? (s.heap.objs.size + 1) = some (PySem.W.instObj C s.heap.objs.size) := by
    have := Heap.get?_push_size (s.heap.push PySem.W.emptyDict) (o := PySem.W.instObj C s.heap.objs.size) rfl
    rwa [Heap.size_push] at this
  have e3 : (s.heap.push PySem.W.emptyDict).Ns s.heap.objs.size (fun _ => none) := ⟨PySem.W.emptyDict, #[], _, e1, rfl, (fun e he => absurd he (by simp)), fun _ => rfl⟩
  have I1 := I.laid (a := s.heap.objs.size) (o := .own (s.heap.objs.size + 1)) (h' := s.heap.push PySem.W.emptyDict) (t' := s.toks) (fun b u q => Heap.get?_push_of_some _ q) (Nat.le_refl _) ⟨_, e1⟩
  refine I1.laid (a := s.heap.objs.size + 1) (o := .ins C s.heap.objs.size []) (t' := s.toks) (fun b u q => Heap.get?_push_of_some _ q) (Nat.le_of_eq (Heap.size_push _ _)) ?_
  have ne : s.heap.objs.size ≠ s.heap.objs.size + 1 := Nat.ne_of_lt (Nat.lt_succ_self _)
  refine ⟨by rw [upd_ne ne, upd_same], Nat.zero_le _, ne, e2, fun _ => none, (Heap.Ns1.of_empty e3).at fun o q => Heap.get?_push_of_some _ q, fun _ => True.intro, fun y hy => absurd rfl hy⟩
end
section
variable {X : Cx} {o e value : Expr} {f : Str} {pos pos' tpos : Pos} {ta tv : TE}
end
section
variable {X : Cx} {pins : List (Addr × Obj)} {σ : St} {H : Hp} {s : Shared} {A : Around} {E : Value -> Shared -> Prop} {Q : Value -> Shared -> Prop} {c : Value} {b : Bool}
inductive TyOf (K : PySem.W.Frag) (H : Hp) : V -> Value -> Prop where
  | non : TyOf K H .non (.type "NoneType")
  | bl (x : Bool) : TyOf K H (.bl x) (.type "bool")
  | int (i : Int) : TyOf K H (.int i) (.type "int")
  | str (x : Str) : TyOf K H (.str x) (.type "str")
  | flt (x : UInt64) : TyOf K H (.flt x) (.type "float")
  | lst {a : Addr} {xs : List V} (e : H a = some (.lst xs)) : TyOf K H (.ref a) (.type "list")
  | frz {a : Addr} {o : Obj} {xs : List V} (e : H a = some (.frz o (.lst xs))) : TyOf K H (.ref a) (.type "list")
  | tup {a : Addr} {xs : List V} (e : H a = some (.tup xs)) : TyOf K H (.ref a) (.type "tuple")
  | dK {a : Addr} {kvs : List (Key × V)} (e : H a = some (.dK kvs)) : TyOf K H (.ref a) (.type "dict")
  | dT {a : Addr} {kvs : List (List Key × V)} (e : H a = some (.dT kvs)) : TyOf K H (.ref a) (.type "dict")
  | ins {a C dx : Addr} {fs : List (Str × V)} (e : H a = some (.ins C dx fs)) (cl : Cls K C) (ha : PySem.W.findIn K (.ref C) "__class__" = some (some (.builtin "object.__class__")))
      (hn : PySem.W.specialIn K (.builtin "object.__class__") "__get__" = some (some (.builtin "getset_descriptor.__get__"))) (htk : PySem.W.takesIn K (.builtin "object.__class__") = some true)
      (hm : PySem.W.mroIn K C (.type "object") = some true) : TyOf K H (.ref a) (.ref C)
theorem isinst_ok {x : V} {u t : Value} (I : Inv X pins σ H s) (rx : RelV x u) (ty : TyOf X.K H x t) (e : PySem.W.kitOne X.K t c = some b) (h : ∀ tk, Q (.bool b) { s with toks := tk }) :
    wpAny (model X.prog X.w) A (call (.builtin "isinstance") [u, c]) Q E s := by
  cases ty with
  | non => cases (show u = Value.none from rx); exact PySem.W.kia_one PySem.W.kitx_none I.kIn True.intro e (fun z => nomatch z) h
  | bl y => cases (show u = Value.bool y from rx); exact PySem.W.kia_one PySem.W.kitx_bool I.kIn True.intro e (fun z => nomatch z) h
  | int i => obtain ⟨t, q⟩ := (show ∃ t, u = Value.int i t from rx); cases q; exact PySem.W.kia_one PySem.W.kitx_int I.kIn True.intro e (fun z => nomatch z) h
  | str y => obtain ⟨t, q⟩ := (show ∃ t, u = Value.str y t from rx); cases q; exact PySem.W.kia_one PySem.W.kitx_str I.kIn True.intro e (fun z => nomatch z) h
  | flt y => obtain ⟨t, q⟩ := (show ∃ t, u = Value.float y t from rx); cases q; exact PySem.W.kia_one PySem.W.kitx_float I.kIn True.intro e (fun z => nomatch z) h
  | @lst a xs ea =>
    cases (show u = Value.ref a from rx)
    obtain ⟨_, _, n, _, h1⟩ := (show ObjOk X.prog X.w H s.heap a (.lst xs) from I.hok a _ ea)
    exact PySem.W.kia_one PySem.W.kitx_list I.kIn ⟨_, h1, rfl⟩ e (fun z => nomatch z) h
  | @frz a ob xs ea =>
    cases (show u = Value.ref a from rx)
    obtain ⟨_, _, _, n, _, h1⟩ := (show ObjOk X.prog X.w H s.heap a (.frz ob (.lst xs)) from I.hok a _ ea)
    exact PySem.W.kia_one PySem.W.kitx_list I.kIn ⟨_, h1, rfl⟩ e (fun z => nomatch z) h
  | @tup a xs ea =>
    cases (show u = Value.ref a from rx)
    obtain ⟨_, _, _, p⟩ := (show ObjOk X.prog X.w H s.heap a (.tup xs) from I.hok a _ ea)
    obtain ⟨o, h1, h2, _⟩ := p
    exact PySem.W.kia_one PySem.W.kitx_tuple I.kIn ⟨o, h1, h2⟩ e (fun z => nomatch z) h
  | @dK a kvs ea =>
    cases (show u = Value.ref a from rx)
    obtain ⟨_, _, vs, _, p⟩ := (show ObjOk X.prog X.w H s.heap a (.dK kvs) from I.hok a _ ea)
    obtain ⟨o, es, ep, h1, h2, _⟩ := p
    exact PySem.W.kia_one PySem.W.kitx_dict I.kIn ⟨o, h1, h2.1⟩ e (fun z => nomatch z) h
  | @dT a kvs ea =>
    cases (show u = Value.ref a from rx)
    obtain ⟨_, _, xs, _, o, es, ep, h1, h2, _⟩ := (show ObjOk X.prog X.w H s.heap a (.dT kvs) from I.hok a _ ea)
    exact PySem.W.kia_one PySem.W.kitx_dict I.kIn ⟨o, h1, h2.1⟩ e (fun z => nomatch z) h
  | @ins a C dx fs ea cl ha hn htk hm =>
    cases (show u = Value.ref a from rx)
    obtain ⟨mA, O, _⟩ := ins_get I.hok ea
    obtain ⟨od, J, _⟩ := O.look
    exact PySem.W.kia_one (PySem.W.kitx_own (cl.get _) cl.hd ha hn htk hm) I.kIn J e (fun z => nomatch z) h
end
end L2
namespace L2
open PySem PySem.Spec PyProof.Rows
structure Room (k : Nat) (A : Around) : Prop where
  hd : A.handled = none
  dp : A.depth + 3 * k + 5 < recursionLimit
  un : A.units + 16 * k + 200 < cLine
theorem Room.deeper {k : Nat} {A : Around} (r : Room (k + 1) A) (env : Env) : Room k (A.deeper env) :=
  ⟨r.hd, by have := r.dp; show A.depth + 1 + 3 * k + 5 < _; omega, by have := r.un; show A.units + 3 + 16 * k + 200 < _; omega⟩
theorem Room.in1 {k : Nat} {A : Around} (r : Room (k + 1) A) : Room k A.in1 :=
  ⟨r.hd, by have := r.dp; show A.depth + 3 * k + 5 < _; omega, by have := r.un; show A.units + 1 + 16 * k + 200 < _; omega⟩
theorem Room.depth {k : Nat} {A : Around} (r : Room k A) : A.depth < recursionLimit := by have := r.dp; omega
theorem Room.units {k : Nat} {A : Around} (r : Room k A) : A.units + 64 < cLine := by have := r.un; omega
theorem Room.units0 {k : Nat} {A : Around} (r : Room k A) : A.units < cLine := by have := r.un; omega
def tNil : TA := fun _ H Q => Q [] H
def tCons (ta : TE) (tr : TA) : TA := fun σ H Q => ta σ H fun x H1 => tr σ H1 fun xs H2 => Q (x :: xs) H2
section
variable {X : Cx} {e : Expr} {es : List Expr} {te : TE} {t : TA} {pos : Pos}
theorem pa_nil : PA X [] tNil := fun _ _ _ _ H Q I h => Calls.spliced_nil ⟨[], H, I, .nil, h⟩
theorem pa_cons (ha : PE X e te) (hr : PA X es t) (hs : starEach (e :: es) X.env = (false, eval e X.env) :: starEach es X.env := by rfl) : PA X (e :: es) (tCons te t) := by
  intro pos pins s σ H Q I h
  rw [hs]
  show wpAny _ _ (spliced ((false, eval e X.env) :: backTo pos (starEach es X.env))) _ _ s
  refine Calls.spliced_cons (thn (ha pins s σ H _ I h) fun u s1 ⟨x, H1, I1, r1, q1⟩ => ?_)
  exact thn (hr pos pins s1 σ H1 _ I1 q1) fun us s2 ⟨xs, H2, I2, r2, q2⟩ => ⟨x :: xs, H2, I2, .cons r1 r2, q2⟩
def tTup (t : TA) : TE := fun σ H Q => t σ H fun xs H1 => xs.length <= sizeLine /\ ∀ p, H1 p = none -> Q (.ref p) (upd H1 p (.tup xs))
def tLst (t : TA) : TE := fun σ H Q => t σ H fun xs H1 => xs.length <= sizeLine /\ ∀ p, H1 p = none -> Q (.ref p) (upd H1 p (.lst xs))
theorem pe_tup {x1} (h : PA X es t) : PE X (.Tuple es x1 pos) (tTup t) := by
  intro pins s σ H Q I hq
  refine wpAny_Tuple_spliced (thn (h pos pins s σ H _ I hq) fun us s1 ⟨xs, H1, I1, r, z, q⟩ => ⟨by rw [<- r.length]; exact z, ?_⟩)
  have hf : H1 s1.heap.objs.size = none := I1.hok.fresh (Nat.le_refl _)
  refine ⟨.ref s1.heap.objs.size, upd H1 s1.heap.objs.size (.tup xs), I1.laid (t' := s1.toks) (fun b u e => Heap.get?_push_of_some _ e) (Nat.le_refl _) ?_, rfl, q _ hf⟩
  exact ⟨z, us, r, ⟨_, Heap.get?_push_size _ rfl, rfl, _, rfl⟩⟩
theorem pe_lst (h : PA X es t) : PE X (.List es pos) (tLst t) := by
  intro pins s σ H Q I hq
  refine wpAny_List_spliced (thn (h pos pins s σ H _ I hq) fun us s1 ⟨xs, H1, I1, r, z, q⟩ => ⟨by rw [<- r.length]; exact z, ?_⟩)
  have hf : H1 s1.heap.objs.size = none := I1.hok.fresh (Nat.le_refl _)
  refine ⟨.ref s1.heap.objs.size, upd H1 s1.heap.objs.size (.lst xs), I1.laid (t' := s1.toks) (fun b u e => Heap.get?_push_of_some _ e) (Nat.le_refl _) ?_, rfl, q _ hf⟩
  exact ⟨z, us, 0, r, Heap.get?_push_size _ rfl⟩
end
abbrev Sp := List V -> Hp -> VK -> XK -> Prop
abbrev CXT := List Env -> Hp -> Shared -> XK -> Value -> Shared -> Prop
structure Env0 (P : Program) (w : World) (K : PySem.W.Frag) (mg : Str -> Option Value) (base : Heap) (A : Around) (outer : List Env) (s : Shared) (H : Hp) : Prop where
  frames : A.frames = some outer
  mod : Mod K mg base
  bs : ∀ b o, base.get? b = some o -> s.heap.get? b = some o /\ H b = none
  bsz : base.objs.size <= s.heap.objs.size
  funs : s.heap.FunFrames base outer
  frf : ∀ b ∈ frs outer, H b = none
  hok : HOk P w H s.heap
  bare : AllBare s.gens
def CE (outer : List Env) (P : Program) (w : World) (H : Hp) (s : Shared) (Q : VK) (u : Value) (s' : Shared) : Prop :=
  ∃ v H', s'.os = s.os /\ AllBare s'.gens /\ Un (frs outer) [] H H' s.heap s'.heap /\ HOk P w H' s'.heap /\ RelV v u /\ Q v H'
def CR (CX : CXT) (outer : List Env) (P : Program) (w : World) (H : Hp) (s : Shared) (Q : VK) (E : XK) (r : Result) (s' : Shared) : Prop :=
  match r with
  | .ok (.ret u) => CE outer P w H s Q u s'
  | .ok _ => False
  | .error e => CX outer H s E e s'
structure FnOk (P : Program) (w : World) (K : PySem.W.Frag) (mg : Str -> Option Value) (base : Heap) (CX : CXT) (k : Nat) (f : Addr) (fd : FuncData) (ps : List Str) (sp : Sp) : Prop where
  len : ∀ vs H Q E, sp vs H Q E -> vs.length = ps.length
  run : ∀ (A : Around) (outer : List Env) (s : Shared) (H : Hp) (args : Args) (us : List Value) (vs : List V) (Q : VK) (E : XK), Room k A -> Env0 P w K mg base A outer s H -> BindsTo s fd args (ps.zip us) -> Vals vs us -> sp vs H Q E ->
    codeAny (model P w) A (.call (.ref f) args) (CR CX outer P w H s Q E) s
theorem FnOk.imp {P : Program} {w : World} {K : PySem.W.Frag} {mg : Str -> Option Value} {base : Heap} {CX : CXT} {k : Nat} {f : Addr} {fd : FuncData} {ps : List Str} {sp sp' : Sp} (F : FnOk P w K mg base CX k f fd ps sp)
    (h : ∀ vs H Q E, sp' vs H Q E -> sp vs H Q E) : FnOk P w K mg base CX k f fd ps sp' :=
  ⟨fun vs H Q E q => F.len vs H Q E (h _ _ _ _ q), fun A outer s H args us vs Q E hr he hb hv hs => F.run A outer s H args us vs Q E hr he hb hv (h _ _ _ _ hs)⟩
theorem Env0.in1 {P : Program} {w : World} {K : PySem.W.Frag} {mg : Str -> Option Value} {base : Heap} {A : Around} {outer : List Env} {s : Shared} {H : Hp} (e : Env0 P w K mg base A outer s H) :
    Env0 P w K mg base A.in1 outer s H := ⟨e.frames, e.mod, e.bs, e.bsz, e.funs, e.frf, e.hok, e.bare⟩
section
variable {X : Cx} {pins : List (Addr × Obj)} {σ : St} {H : Hp} {s s' : Shared}
theorem Inv.env0 (I : Inv X pins σ H s) : Env0 X.prog X.w X.K X.mg X.base X.A X.stack s H :=
  ⟨I.ok.frames, I.ok.mod, I.bs, Nat.le_trans I.ok.bsz I.sz, I.stack, I.stkFree, I.hok, I.bare⟩
theorem Inv.after {Q : VK} {u : Value} (I : Inv X pins σ H s) (h : CE X.stack X.prog X.w H s Q u s') : EP X pins σ Q u s' := by
  obtain ⟨v, H', os, bare, un, hok, r, q⟩ := h
  obtain ⟨hh, g, d, t, os'⟩ := s'
  obtain rfl : os' = s.os := os
  exact ⟨v, H', I.call (h' := hh) (g' := g) (d' := d) (t' := t) (ch := []) un hok bare (fun b z => absurd z (by simp)), r, q⟩
end
def tCall (sp : Sp) (dvs : List V) (E : XK) (t : TA) : TE := fun σ H Q => t σ H fun vs H1 => sp (vs ++ dvs) H1 Q E
def Binds (K : PySem.W.Frag) (fd : FuncData) (ps : List Str) (ds : List Value) : Prop :=
  ∀ (s : Shared) (us : List Value), K.In s.heap -> (us ++ ds).length = ps.length -> BindsTo s fd ⟨us, []⟩ (ps.zip (us ++ ds))
theorem Binds.all {K : PySem.W.Frag} {fd : FuncData} {ps : List Str} (h : ∀ us : List Value, us.length = ps.length -> bindArgs fd ⟨us, []⟩ = pure (ps.zip us)) : Binds K fd ps [] := fun s us _ hl => by
  rw [List.append_nil] at hl ⊢
  exact .of_eq (h us hl)
def Passes (CX : CXT) (X : Cx) (E : XK) : Prop := ∀ (pins : List (Addr × Obj)) (σ : St) (H : Hp) (s : Shared) (e : Value) (s' : Shared), Inv X pins σ H s -> CX X.stack H s E e s' -> X.xe e s'
section
variable {X : Cx} {CX : CXT} {k : Nat} {f C : Addr} {fd : FuncData} {ps : List Str} {sp : Sp} {dvs : List V} {ds : List Value} {E : XK} {x m : Str} {p pos apos : Pos} {e o : Expr} {es : List Expr} {ta : TE} {t : TA}
theorem run_fn {pins : List (Addr × Obj)} {σ : St} {H : Hp} {s : Shared} {Q : VK} {us : List Value} {vs : List V} (F : FnOk X.prog X.w X.K X.mg X.base CX k f fd ps sp) (hr : Room k X.A) (hb : Binds X.K fd ps ds) (hd : Vals dvs ds) (hx : Passes CX X E)
    (I : Inv X pins σ H s) (r : Vals vs us) (h : sp (vs ++ dvs) H Q E) : wpAny (model X.prog X.w) X.A (call (.ref f) us) (EP X pins σ Q) X.xe s := by
  have r2 : Vals (vs ++ dvs) (us ++ ds) := r.append hd
  have hl : (us ++ ds).length = ps.length := by rw [<- r2.length]; exact F.len _ _ _ _ h
  refine wpAny_call (codeAny_mono (F.run X.A X.stack s H ⟨us, []⟩ (us ++ ds) (vs ++ dvs) Q E hr I.env0 (hb s us I.kIn hl) r2 h) fun r s' hq => ?_)
  cases r with
  | error e => exact hx pins σ H s e s' I hq
  | ok fl =>
    cases fl with
    | ret u => exact I.after hq
    | next => exact False.elim hq
    | brk => exact False.elim hq
    | cont => exact False.elim hq
theorem pe_call (F : FnOk X.prog X.w X.K X.mg X.base CX k f fd ps sp) (hr : Room k X.A) (hg : Gl X x) (hm : X.mg x = some (.ref f)) (hk : PySem.W.keepIn X.K (.ref f) = true) (hb : Binds X.K fd ps ds) (hd : Vals dvs ds) (hx : Passes CX X E)
    (ha : PA X (e :: es) t) (hdb : (x == ("__debug__" : Str)) = false := by decide) (he : starEach (e :: es) X.env = (false, eval e X.env) :: starEach es X.env := by rfl) (hpl : (backTo pos (starEach es X.env)).any (·.1) = false := by rfl) :
    PE X (.Call (.Name x p) (e :: es) [] pos) (tCall sp dvs E t) := by
  intro pins s σ H Q I h
  refine wpAny_Call_Name_kw (ld_glob I hg hm ?_ hdb)
  refine PySem.W.callWith_K (h₀ := X.base) I.ok.mod.kin hk (thn (ha pos pins s σ H _ I h) fun us s1 ⟨vs, H1, I1, r, q⟩ => ⟨I1.kIn, ?_⟩) he hpl
  exact run_fn F hr hb hd hx I1 r q
structure Mk (K : PySem.W.Frag) (C f : Addr) : Prop where
  makes : PySem.W.makesIn K C = true
  init : PySem.W.findIn K (.ref C) "__init__" = some (some (.ref f))
  fn : PySem.W.isFn K (.ref f) = true
  kp : PySem.W.keepIn K (.ref C) = true
end
section
variable {X : Cx} {CX : CXT} {k : Nat} {f C : Addr} {fd : FuncData} {ps ks : List Str} {sp : Sp} {E : XK} {x m : Str} {p pos apos kpos : Pos} {e o : Expr} {es : List Expr} {kws : List Keyword} {te ta : TE} {t tk : TA} {nm : Option Str}
structure KBinds (K : PySem.W.Frag) (fd : FuncData) (ps ks : List Str) (g : List Value -> List Value -> List Value) (gV : List V -> List V -> List V) : Prop where
  to : ∀ (s : Shared) (us ws : List Value), K.In s.heap -> (g us ws).length = ps.length -> BindsTo s fd ⟨us, ks.zip ws⟩ (ps.zip (g us ws))
  rel : ∀ {vs : List V} {us : List Value} {zs : List V} {ws : List Value}, Vals vs us -> Vals zs ws -> Vals (gV vs zs) (g us ws)
variable {g : List Value -> List Value -> List Value} {gV : List V -> List V -> List V}
end
structure FnScope (N P : List Str) (sc : Scope) : Prop where
  kind : sc.kind = .function
  co : sc.isCoroutine = false
  gen : sc.isGenerator = false
  nd : N.Nodup
  pre : N.take P.length = P
  par : ∀ x ∈ P, sc.names.lookup x = some .local \/ sc.names.lookup x = some .cell
  nofree : ∀ y ∈ sc.names, y.2 ≠ .free
theorem bindL_out {kindOf : Str -> Option NameKind} {x : Str} : ∀ {binds : List (Str × Value)} {m : Str -> Option Value}, (∀ v, (x, v) ∉ binds) -> bindL kindOf binds m x = m x
  | [], _, _ => rfl
  | (n, v) :: r, m, h => by
    unfold bindL
    rw [bindL_out fun w hw => h w (List.mem_cons_of_mem _ hw)]
    split
    · have : x ≠ n := by rintro rfl; exact h v List.mem_cons_self
      simp [this]
    · rfl
theorem bindC_out {kindOf : Str -> Option NameKind} {x : Str} : ∀ {binds : List (Str × Value)} {m : Str -> Option Value}, (∀ v, (x, v) ∉ binds) -> bindC kindOf binds m x = m x
  | [], _, _ => rfl
  | (n, v) :: r, m, h => by
    unfold bindC
    rw [bindC_out fun w hw => h w (List.mem_cons_of_mem _ hw)]
    split
    · rfl
    · have : x ≠ n := by rintro rfl; exact h v List.mem_cons_self
      simp [this]
theorem bindL_get {kindOf : Str -> Option NameKind} {x : Str} {v : Value} : ∀ {P : List Str} {vs : List Value} {i : Nat} {m : Str -> Option Value}, P.Nodup -> P[i]? = some x -> vs[i]? = some v -> kindOf x = some .local ->
    bindL kindOf (P.zip vs) m x = some v
  | [], _, _, _, _, h, _, _ => by simp at h
  | _ :: _, [], _, _, _, _, h, _ => by simp at h
  | p :: P, w :: vs, 0, m, nd, h1, h2, hk => by
    simp at h1 h2; subst h1; subst h2
    show bindL kindOf ((p, w) :: P.zip vs) m p = _
    unfold bindL
    rw [bindL_out fun v hv => (List.nodup_cons.mp nd).1 (List.of_mem_zip hv).1, if_pos hk]
    simp
  | p :: P, w :: vs, i + 1, m, nd, h1, h2, hk => by
    show bindL kindOf ((p, w) :: P.zip vs) m x = _
    unfold bindL
    exact bindL_get (i := i) (List.nodup_cons.mp nd).2 (by simpa using h1) (by simpa using h2) hk
theorem bindC_get {kindOf : Str -> Option NameKind} {x : Str} {v : Value} : ∀ {P : List Str} {vs : List Value} {i : Nat} {m : Str -> Option Value}, P.Nodup -> P[i]? = some x -> vs[i]? = some v -> kindOf x ≠ some .local ->
    bindC kindOf (P.zip vs) m x = some v
  | [], _, _, _, _, h, _, _ => by simp at h
  | _ :: _, [], _, _, _, _, h, _ => by simp at h
  | p :: P, w :: vs, 0, m, nd, h1, h2, hk => by
    simp at h1 h2; subst h1; subst h2
    show bindC kindOf ((p, w) :: P.zip vs) m p = _
    unfold bindC
    rw [bindC_out fun v hv => (List.nodup_cons.mp nd).1 (List.of_mem_zip hv).1, if_neg hk]
    simp
  | p :: P, w :: vs, i + 1, m, nd, h1, h2, hk => by
    show bindC kindOf ((p, w) :: P.zip vs) m x = _
    unfold bindC
    exact bindC_get (i := i) (List.nodup_cons.mp nd).2 (by simpa using h1) (by simpa using h2) hk
def start (N : List Str) (vs : List V) : St := vs.map some ++ List.replicate (N.length - vs.length) none
def cxOf (CX : CXT) (P : Program) (w : World) (K : PySem.W.Frag) (mg : Str -> Option Value) (base : Heap) (N : List Str) (qual : Str) (scope : Scope) (f : Addr) (cd : Value) (A : Around) (outer : List Env) (s : Shared) (H : Hp) (E : XK) : Cx where
  prog := P
  w := w
  K := K
  mg := mg
  base := base
  A := A.deeper (envOfC qual scope s.heap.objs.size f cd)
  N := N
  s₀ := s
  H₀ := H
  env := envOfC qual scope s.heap.objs.size f cd
  outer := outer
  stack := envOfC qual scope s.heap.objs.size f cd :: outer
  ex := []
  calm := true
  fn := fun _ => true
  pn := []
  xe := fun e s' => wpAny (model P w) (A.deeper (envOfC qual scope s.heap.objs.size f cd)) (leaving (envOfC qual scope s.heap.objs.size f cd) e) (fun _ s'' => CX outer H s E e s'') (fun e' s'' => CX outer H s E e' s'') s'
theorem cell_has {sc : Scope} {n : Nat} {x : Str} (h : sc.names.lookup x = some .cell) : ∃ c, (cellsFrom n sc.names []).lookup x = some c := by
  have q := PySem.W.cellsFrom_some sc.names n [] (.inl h)
  exact Option.isSome_iff_exists.mp q
theorem inv_start {CX : CXT} {P : Program} {w : World} {K : PySem.W.Frag} {mg : Str -> Option Value} {base : Heap} {N ps : List Str} {qual : Str} {scope : Scope} {f : Addr} {cd : Value} {A : Around} {outer : List Env} {s s1 : Shared} {H : Hp} {E : XK} {us : List Value} {vs : List V}
    (S : FnScope N ps scope) (hd : A.handled = none) (e0 : Env0 P w K mg base A outer s H) (hl : vs.length = ps.length) (r : Vals vs us)
    (x : InCallC s s.heap.objs.size (bindL (envOfC qual scope s.heap.objs.size f cd).kindOf (ps.zip us) fun _ => none) (cellsFrom (s.heap.objs.size + 1) scope.names []) (bindC (envOfC qual scope s.heap.objs.size f cd).kindOf (ps.zip us) fun _ => none) s1) :
    Inv (cxOf CX P w K mg base N qual scope f cd A outer s H E) [] (start N vs) H s1 := by
  have hpl : ps.length <= N.length := by have := congrArg List.length S.pre; rw [List.length_take] at this; omega
  obtain ⟨h1, tk, rfl, hk⟩ := x.done
  have noA : ∀ b : Addr, b ∉ (cxOf CX P w K mg base N qual scope f cd A outer s H E).ex := fun b z => absurd (show b ∈ ([] : List Addr) from z) (by simp)
  refine ⟨⟨e0.mod, S.kind, rfl, rfl, Nat.le_refl _, fun y z c h1 h2 => ?_, fun y hy => ?_, fun y c _ h => ?_, fun _ => hd, Around.frames_deeper e0.frames, .inr ⟨rfl, rfl⟩, fun b z => absurd z (noA b), e0.bs, e0.bsz, fun b _ _ => noA b, fun b z => absurd z (noA b), e0.funs, e0.frf⟩,
    rfl, e0.bare, Un.kept hk, ⟨_, x.toInCall.ns, fun i y v h1 h2 h3 => ?_⟩, fun y c h => ⟨_, x.cell y c h⟩, e0.hok.fresh (Nat.le_refl _), fun y c h => ?_, fun p hp => absurd (show p ∈ ([] : List (Addr × Obj)) from hp) (by simp), e0.hok.kept hk, ?_⟩
  · exact name_of_addr x.apart (PySem.mem_of_lookup h1) (PySem.mem_of_lookup h2)
  · have hy : scope.names.lookup y = some .cell \/ scope.names.lookup y = some .free := hy
    rcases hy with hy | hy
    · exact cell_has hy
    · exact absurd rfl (S.nofree _ (PySem.mem_of_lookup hy))
  · exact Nat.le_of_lt (x.above y c (PySem.mem_of_lookup h))
  · have hi : i < vs.length := by
      unfold start at h2
      by_cases hi : i < vs.length
      · exact hi
      · rw [List.getElem?_append_right (by simpa using hi)] at h2
        rw [List.getElem?_replicate] at h2
        split at h2 <;> cases h2
    have ha : vs[i]? = some v := by
      unfold start at h2
      rw [List.getElem?_append_left (by simpa using hi), List.getElem?_map] at h2
      cases e : vs[i]? with
      | none => rw [e] at h2; cases h2
      | some a => rw [e] at h2; cases h2; rfl
    obtain ⟨u, hu, rv⟩ := r.get ha
    have hp : ps[i]? = some y := by
      rw [<- S.pre, List.getElem?_take_of_lt (by omega)]; exact h1
    have ndP : ps.Nodup := by rw [<- S.pre]; exact S.nd.sublist (List.take_sublist _ _)
    refine ⟨u, rv, ?_⟩
    rcases S.par y (List.mem_of_getElem? hp) with k | k
    · exact .inl ⟨k, bindL_get ndP hp hu k⟩
    · obtain ⟨c, e⟩ := cell_has (n := s.heap.objs.size + 1) k
      refine .inr ⟨.inl k, c, e, ?_⟩
      have q := x.cell y c e
      rw [bindC_get ndP hp hu (by show scope.names.lookup y ≠ _; rw [k]; decide)] at q
      exact q
  · exact e0.hok.fresh (Nat.le_of_lt (x.above y c (PySem.mem_of_lookup h)))
  · unfold start
    show _ = N.length
    rw [List.length_append, List.length_map, List.length_replicate]
    omega
theorem fn_of {CX : CXT} {P : Program} {w : World} {K : PySem.W.Frag} {mg : Str -> Option Value} {base : Heap} {k : Nat} {f : Addr} {name qual : Str} {params : Arguments} {body : List Stmt} {scope : Scope} {dV kV doc pm cdv ct oc : Value} {an od : Option Addr}
    {osl : Array (Option Value)} {N ps : List Str} {sp : Sp} (lk : K.lookup f = some ⟨oc, od, .func (PySem.W.fnOf name qual params body scope dV kV doc pm an cdv ct), osl⟩) (hcd : PySem.W.codeIn K cdv qual = true) (S : FnScope N ps scope)
    (len : ∀ vs H Q E, sp vs H Q E -> vs.length = ps.length)
    (hbody : ∀ (A : Around) (outer : List Env) (s : Shared) (H : Hp) (vs : List V) (Q : VK) (E : XK), Room k (A.deeper (envOfC qual scope s.heap.objs.size f cdv)) -> sp vs H Q E ->
      ∃ t, PSs (cxOf CX P w K mg base N qual scope f cdv A outer s H E) body t /\ t { nx := fun _ H' => Q .non H', rt := Q } (start N vs) H) :
    FnOk P w K mg base CX (k + 1) f (PySem.W.fnOf name qual params body scope dV kV doc pm an cdv ct) ps sp := by
  refine ⟨len, fun A outer s H args us vs Q E hr e0 hb r hsp => ?_⟩
  have hl := len _ _ _ _ hsp
  have KX : K.In s.heap := e0.mod.kin.keeps fun b o e => (e0.bs b o e).1
  have lim : s.heap.NoLimit := e0.mod.nolimit.keeps fun b o e => (e0.bs b o e).1
  have hkind : ∀ y ∈ ps.zip us, scope.names.lookup y.1 = some .local \/ (scope.names.lookup y.1 = some .cell /\ ((cellsFrom (s.heap.objs.size + 1) scope.names []).lookup y.1).isSome = true) := fun ⟨n, v⟩ hy => by
    rcases S.par n (List.of_mem_zip hy).1 with q | q
    · exact .inl q
    · exact .inr ⟨q, PySem.W.cellsFrom_some _ _ _ (.inl q)⟩
  refine codeAny_call_function hr.depth (KX _ _ lk) rfl S.co S.gen rfl (PySem.W.codeRec_of KX hcd) (hb _ _ _ _ ?_)
  refine wpAny_newFunctionEnv_cells S.kind hkind fun env he s1 x => ?_
  subst he
  refine ⟨lim.keeps x.toInCall.keep, codeAny_func ?_⟩
  obtain ⟨t, ht, hq⟩ := hbody A outer s H vs Q E (hr.deeper _) hsp
  have I : Inv (cxOf CX P w K mg base N qual scope f cdv A outer s H E) [] (start N vs) H s1 := inv_start S hr.hd e0 hl r x
  refine wpAny_mono (ht [] s1 (start N vs) H _ I hq) (fun fl s' hs => ?_) fun e s' hs => hs
  have fin : ∀ {σ' : St} {H' : Hp} {v : V} {u : Value}, Inv (cxOf CX P w K mg base N qual scope f cdv A outer s H E) [] σ' H' s' -> RelV v u -> Q v H' -> CE outer P w H s Q u s' :=
    fun {σ' H' v u} J rv q => ⟨v, H', J.os, J.bare, J.base, J.hok, rv, q⟩
  cases fl with
  | ret u =>
    obtain ⟨v, σ', H', J, rv, q⟩ := hs
    exact fin J rv q
  | next =>
    obtain ⟨σ', H', J, q⟩ := hs
    exact fin (v := V.non) (u := Value.none) J rfl q
  | brk =>
    obtain ⟨_, _, _, q⟩ := hs
    exact False.elim q
  | cont =>
    obtain ⟨_, _, _, q⟩ := hs
    exact False.elim q
end L2
namespace L2
open PySem PySem.Spec PyProof.Rows
section
variable {X : Cx} {x : Str} {p pos : Pos} {e : Expr} {es : List Expr} {t : TA} {id T : String} {r : List V -> Hp -> VK -> Prop}
def tCB (r : List V -> Hp -> VK -> Prop) (t : TA) : TE := fun σ H Q => t σ H fun vs H1 => r vs H1 Q
theorem pe_callB (hc : CallR X (.builtin id) r) (hg : Gl X x) (hm : X.mg x = none) (hv : bootBuiltins x = some (.builtin id)) (ha : PA X (e :: es) t) (hn : x ≠ "__name__" := by decide) (hdb : (x == ("__debug__" : Str)) = false := by decide)
    (he : starEach (e :: es) X.env = (false, eval e X.env) :: starEach es X.env := by rfl) (hpl : (backTo pos (starEach es X.env)).any (·.1) = false := by rfl) : PE X (.Call (.Name x p) (e :: es) [] pos) (tCB r t) := by
  intro pins s σ H Q I h
  refine wpAny_Call_Name_kw (ld_blt I hg hm hv ?_ hn hdb)
  exact PyProof.Rows.callWith_builtin1 (thn (ha pos pins s σ H _ I h) fun us s1 ⟨vs, H1, I1, r1, q1⟩ => hc pins s1 σ H1 vs us Q I1 r1 q1) he hpl
theorem pe_callTy (hc : CallR X (.type T) r) (hg : Gl X x) (hm : X.mg x = none) (hv : bootBuiltins x = some (.type T)) (ha : PA X (e :: es) t) (hn : x ≠ "__name__" := by decide) (hdb : (x == ("__debug__" : Str)) = false := by decide)
    (he : starEach (e :: es) X.env = (false, eval e X.env) :: starEach es X.env := by rfl) (hpl : (backTo pos (starEach es X.env)).any (·.1) = false := by rfl) : PE X (.Call (.Name x p) (e :: es) [] pos) (tCB r t) := by
  intro pins s σ H Q I h
  refine wpAny_Call_Name_kw (ld_blt I hg hm hv ?_ hn hdb)
  exact PyProof.Rows.callWith_type1 (thn (ha pos pins s σ H _ I h) fun us s1 ⟨vs, H1, I1, r1, q1⟩ => hc pins s1 σ H1 vs us Q I1 r1 q1) he hpl
end
end L2
namespace HT
open PySem PyProof.Rows
section
open PySem.SeqAt
open PySem.AutoSeq1 (wpAny_loadPart')
open PySem.MeetsSeq PySem.MeetsSeq2 PySem.MeetsSeq3
end
section
variable {prog : Program} {w : World} {A : Around} {E : Value -> Shared -> Prop} {s : Shared}
def sIx (n d : Nat) : Option Int -> Nat
  | none => d
  | some v => if v < 0 then (v + (n : Int)).toNat else min v.toNat n
end
end HT
namespace L2
open PySem PySem.Spec PyProof.Rows
abbrev TO := St -> Hp -> (Option Int -> Hp -> Prop) -> Prop
def PO (X : Cx) (e : Option Expr) (t : TO) : Prop :=
  ∀ (pins : List (Addr × Obj)) (s : Shared) (σ : St) (H : Hp) (Q : Option Int -> Hp -> Prop), Inv X pins σ H s -> t σ H Q ->
    wpAny (model X.prog X.w) X.A (evalPart e X.env) (fun u s' => ∃ o H', Inv X pins σ H' s' /\ IsPart u o /\ Q o H') X.xe s
def tNoPart : TO := fun _ H Q => Q none H
def tPart (t : TE) : TO := fun σ H Q => t σ H fun x H1 => ∃ i, x = .int i /\ Q (some i) H1
section
variable {X : Cx} {e : Expr} {te : TE} {lo hi : Option Expr} {tl th : TO} {pos p2 : Pos}
theorem po_none : PO X none tNoPart := by
  intro pins s σ H Q I h
  rw [evalPart_none]
  exact wpAny_pure ⟨none, H, I, .none, h⟩
theorem po_some (h : PE X e te) : PO X (some e) (tPart te) := by
  intro pins s σ H Q I hw
  rw [evalPart_some]
  refine thn (h pins s σ H _ I hw) fun u s1 ⟨x, H1, I1, r1, q1⟩ => ?_
  obtain ⟨i, rfl, q⟩ := q1
  obtain ⟨t, rfl⟩ := r1
  exact ⟨some i, H1, I1, .int i t, q⟩
def SlR (X : Cx) (r : V -> Option Int -> Option Int -> Hp -> VK -> Prop) : Prop :=
  ∀ (pins : List (Addr × Obj)) (s : Shared) (σ : St) (H : Hp) (x : V) (v vl vu : Value) (lo hi : Option Int) (sl : Addr) (Q : VK), Inv X pins σ H s -> RelV x v -> s.heap.IsSliceOf sl vl vu .none -> IsPart vl lo -> IsPart vu hi -> r x lo hi H Q ->
    ∃ T id, typeLookup (.type T) "__getitem__" = pure (some (.builtin id)) /\ s.TypeIs v T /\ wpAny (model X.prog X.w) X.A (getItem v (.ref sl)) (EP X pins σ Q) X.xe s
theorem SlR.or {r r' : V -> Option Int -> Option Int -> Hp -> VK -> Prop} (h : SlR X r) (h' : SlR X r') : SlR X (fun x lo hi H Q => r x lo hi H Q \/ r' x lo hi H Q) := by
  intro pins s σ H x v vl vu lo hi sl Q I rx hs pl pu q
  rcases q with q | q
  · exact h pins s σ H x v vl vu lo hi sl Q I rx hs pl pu q
  · exact h' pins s σ H x v vl vu lo hi sl Q I rx hs pl pu q
def tSl (r : V -> Option Int -> Option Int -> Hp -> VK -> Prop) (te : TE) (tl th : TO) : TE := fun σ H Q => te σ H fun x H1 => tl σ H1 fun l H2 => th σ H2 fun u H3 => r x l u H3 Q
theorem pe_slice {r : V -> Option Int -> Option Int -> Hp -> VK -> Prop} (hr : SlR X r) (he : PE X e te) (hl : PO X lo tl) (hu : PO X hi th) : PE X (.Subscript e (.Slice lo hi none p2) pos) (tSl r te tl th) := by
  intro pins s σ H Q I h
  refine Subscript_ (thn (he pins s σ H _ I h) fun v s1 ⟨x, H1, I1, r1, q1⟩ => ?_)
  refine wpAny_Slice (thn (hl pins s1 σ H1 _ I1 q1) fun vl s2 ⟨l, H2, I2, pl, q2⟩ => thn (hu pins s2 σ H2 _ I2 q2) fun vu s3 ⟨u, H3, I3, pu, q3⟩ => ?_)
  rw [evalPart_none]
  refine wpAny_pure ?_
  have I4 : Inv X pins σ H3 { s3 with heap := s3.heap.push { cls := .type "slice", data := .fields #[vl, vu, .none] } } := I3.kept (t' := s3.toks) fun b ob q => Heap.get?_push_of_some _ q
  obtain ⟨T, id, hT, ht, hg⟩ := hr pins { s3 with heap := s3.heap.push { cls := .type "slice", data := .fields #[vl, vu, .none] } } σ H3 x v vl vu l u s3.heap.objs.size Q I4 r1 (Heap.IsSliceOf.new ..) pl pu q3
  show wpAny (model X.prog X.w) X.A (subscriptTail e (.Slice lo hi none p2) v (.ref s3.heap.objs.size)) (EP X pins σ Q) X.xe { s3 with heap := s3.heap.push { cls := .type "slice", data := .fields #[vl, vu, .none] } }
  exact tail_any (ops := [.ref s3.heap.objs.size, v]) ht hT hg (by with_unfolding_all rfl)
def cutV (xs : List V) (lo hi : Option Int) : List V := (xs.drop (HT.sIx xs.length 0 lo)).take (HT.sIx xs.length xs.length hi - HT.sIx xs.length 0 lo)
theorem cutV_length (xs : List V) (lo hi : Option Int) : (cutV xs lo hi).length <= xs.length := by
  unfold cutV
  rw [List.length_take, List.length_drop]
  omega
end
end L2
namespace L2
open PySem PySem.Spec PyProof.Rows
def ixN (n : Nat) (i : Int) : Option Nat := if 0 <= i then (if i < n then some i.toNat else none) else if -(n : Int) <= i then some (i + n).toNat else none
def atI {α : Type} (xs : List α) (i : Int) : Option α := (ixN xs.length i).bind fun j => xs[j]?
theorem ixN_seq {n : Nat} {i : Int} {j : Nat} (h : ixN n i = some j) : seqIndex? i n = some j /\ j < n /\ -(n : Int) <= i /\ i < n := by
  unfold ixN at h
  by_cases h0 : 0 <= i
  · rw [if_pos h0] at h
    by_cases h1 : i < n
    · rw [if_pos h1] at h
      have e : i.toNat = j := Option.some.inj h
      exact ⟨by rw [seqIndex_of h0 h1, e], by omega, by omega, h1⟩
    · rw [if_neg h1] at h; cases h
  · rw [if_neg h0] at h
    by_cases h1 : -(n : Int) <= i
    · rw [if_pos h1] at h
      have e : (i + n).toNat = j := Option.some.inj h
      exact ⟨by rw [seqIndex_neg (by omega) h1, e], by omega, h1, by omega⟩
    · rw [if_neg h1] at h; cases h
theorem atI_get {α : Type} {xs : List α} {i : Int} {v : α} (h : atI xs i = some v) : ∃ j, seqIndex? i xs.length = some j /\ xs[j]? = some v /\ j < xs.length /\ -(xs.length : Int) <= i /\ i < xs.length := by
  unfold atI at h
  cases e : ixN xs.length i with
  | none => rw [e] at h; cases h
  | some j =>
    rw [e] at h
    obtain ⟨h1, h2, h3, h4⟩ := ixN_seq e
    exact ⟨j, h1, h, h2, h3, h4⟩
theorem atI_nat {α : Type} {xs : List α} {j : Nat} {v : α} (h : xs[j]? = some v) : atI xs (j : Int) = some v := by
  have hj : j < xs.length := (List.getElem?_eq_some_iff.mp h).1
  have e : ixN xs.length (j : Int) = some j := by
    unfold ixN
    rw [if_pos (by omega), if_pos (by omega)]; simp
  unfold atI; rw [e]; exact h
theorem atI_last {α : Type} (xs : List α) (v : α) : atI (xs ++ [v]) (-1) = some v := by
  have hl : (xs ++ [v]).length = xs.length + 1 := by simp
  have e : ixN (xs ++ [v]).length (-1) = some xs.length := by
    unfold ixN
    rw [hl, if_neg (by decide), if_pos (by omega)]
    congr 1
    omega
  unfold atI
  rw [e]
  show (xs ++ [v])[xs.length]? = some v
  simp
def PlainIx (b : Expr) : Prop := ∀ o i, subscripted b false o i = operate [o, i] (getItem o i)
def IxR (X : Cx) (r : R2) : Prop :=
  ∀ (value slice : Expr) (pins : List (Addr × Obj)) (s : Shared) (σ : St) (H : Hp) (x y : V) (v u : Value) (Q : VK), Inv X pins σ H s -> RelV x v -> RelV y u -> r x y H Q ->
    subscripted slice false v u = operate [v, u] (getItem v u) -> wpAny (model X.prog X.w) X.A (subscriptTail value slice v u) (EP X pins σ Q) X.xe s
def MtR (X : Cx) (id : String) (r : V -> List V -> Hp -> VK -> Prop) : Prop :=
  ∀ (pins : List (Addr × Obj)) (s : Shared) (σ : St) (H : Hp) (x : V) (xs : List V) (v : Value) (us : List Value) (Q : VK), Inv X pins σ H s -> RelV x v -> Vals xs us -> r x xs H Q ->
    wpAny (model X.prog X.w) X.A (call (.builtin id) (v :: us)) (EP X pins σ Q) X.xe s
section
variable {X : Cx} {a b : Expr} {ta tb : TE} {pos : Pos}
theorem IxR.or {r r' : R2} (h : IxR X r) (h' : IxR X r') : IxR X (fun x y H Q => r x y H Q \/ r' x y H Q) := by
  intro value slice pins s σ H x y v u Q I rx ry q hs
  rcases q with q | q
  · exact h value slice pins s σ H x y v u Q I rx ry q hs
  · exact h' value slice pins s σ H x y v u Q I rx ry q hs
theorem MtR.or {id : String} {r r' : V -> List V -> Hp -> VK -> Prop} (h : MtR X id r) (h' : MtR X id r') : MtR X id (fun x xs H Q => r x xs H Q \/ r' x xs H Q) := by
  intro pins s σ H x xs v us Q I rx rs q
  rcases q with q | q
  · exact h pins s σ H x xs v us Q I rx rs q
  · exact h' pins s σ H x xs v us Q I rx rs q
theorem pe_ix {r : R2} (hr : IxR X r) (ha : PE X a ta) (hb : PE X b tb) (hs : PlainIx b) : PE X (.Subscript a b pos) (tOp r ta tb) := by
  intro pins s σ H Q I h
  exact Subscript_ (binT ha hb I h fun v u s2 x y H2 I2 rx ry q => hr a b pins s2 σ H2 x y v u Q I2 rx ry q (hs _ _))
def rIxL (K : PySem.W.Frag) : R2 := fun x y H Q => ∃ p xs i v, x = .ref p /\ y = .int i /\ SqL K H p xs /\ atI xs i = some v /\ Q v H
def rIxS : R2 := fun x y H Q => ∃ z i c, x = .str z /\ y = .int i /\ z.length <= sizeLine /\ atI z.cps.toList i = some c /\ Q (.str ⟨#[c]⟩) H
theorem ix_list : IxR X (rIxL X.K) := by
  intro value slice pins s σ H x y v u Q I rx ry h hs
  obtain ⟨p, xs, i, z, rfl, rfl, hq, he, q⟩ := h
  cases rx
  obtain ⟨t, rfl⟩ := ry
  obtain ⟨its, r, pl, hz⟩ := I.list hq
  obtain ⟨j, h1, h2, h3, h4, h5⟩ := atI_get he
  obtain ⟨w, ew, rw'⟩ := r.get h2
  have hl := r.length
  have hn := line63
  have fin : EP X pins σ Q w s := ⟨z, H, I, rw', q⟩
  by_cases h0 : 0 <= i
  · have hj : i.toNat = j := by
      rw [seqIndex_of h0 h5] at h1
      exact Option.some.inj h1
    exact item_listR pl.isList h0 (by omega) (by rw [hj]; simpa using ew) fin hs
  · have hj : (i + (its.toArray.size : Int)).toNat = j := by
      rw [seqIndex_neg (by omega) h4] at h1
      rw [List.size_toArray, <- hl]
      exact Option.some.inj h1
    exact subscriptTail_builtinR (x := w) pl.isList.typeIs slot_list_getitem.lookup
      (wpAny_getItem_list_neg (Q := fun r s' => r = w /\ EP X pins σ Q r s') pl.isList (by omega) (by rw [List.size_toArray] <;> omega) (by omega) (by rw [hj]; simpa using ew) ⟨rfl, fin⟩) hs
theorem ix_str : IxR X rIxS := by
  intro value slice pins s σ H x y v u Q I rx ry h hs
  obtain ⟨z, i, c, rfl, rfl, hz, he, q⟩ := h
  obtain ⟨t, rfl⟩ := rx
  obtain ⟨t', rfl⟩ := ry
  obtain ⟨j, h1, h2, h3, h4, h5⟩ := atI_get he
  have hl : z.cps.toList.length = z.length := by simp [Str.length]
  rw [hl] at h1 h4 h5
  have hn := line63
  exact tail_any (typeIs_str s z t) slot_str_getitem.lookup (getItem_str (c := c) (by
    have e1 : decide (i < -(2 ^ 63 : Int)) = false := decide_eq_false (by omega)
    have e2 : decide (i ≥ 2 ^ 63) = false := decide_eq_false (by omega)
    rw [e1, e2, Bool.or_false]) (by rw [h1]; simpa using h2) ⟨.str ⟨#[c]⟩, H, I.tok _, ⟨_, rfl⟩, q⟩) hs
theorem Inv.lst {pins : List (Addr × Obj)} {σ : St} {H : Hp} {s : Shared} {p : Addr} {xs : List V} (I : Inv X pins σ H s) (h : H p = some (.lst xs)) :
    ∃ (its : List Value) (n : Nat), Vals xs its /\ s.heap.get? p = some { cls := .type "list", data := .seq its.toArray n } /\ xs.length <= sizeLine := by
  obtain ⟨z, its, n, r, e⟩ := I.hok p _ h
  exact ⟨its, n, r, e, z⟩
theorem slice_bounds (lo hi : Option Int) (n : Nat) : (sliceBounds lo hi none n).1 = ((HT.sIx n 0 lo : Nat) : Int) /\ (sliceBounds lo hi none n).2.1 = ((HT.sIx n n hi : Nat) : Int) /\ (sliceBounds lo hi none n).2.2 = 1 := by
  refine ⟨?_, ?_, rfl⟩
  · cases lo with
    | none => simp [sliceBounds, HT.sIx]
    | some i =>
      simp only [sliceBounds, HT.sIx, Option.getD_none, show (1 : Int) > 0 by decide, if_true]
      by_cases h : i < 0
      · simp only [h, if_true] <;> omega
      · simp only [h, if_false] <;> omega
  · cases hi with
    | none => simp [sliceBounds, HT.sIx]
    | some i =>
      simp only [sliceBounds, HT.sIx, Option.getD_none, show (1 : Int) > 0 by decide, if_true]
      by_cases h : i < 0
      · simp only [h, if_true] <;> omega
      · simp only [h, if_false] <;> omega
theorem slicePick_cut (its : List Value) (lo hi : Option Int) : slicePick its.toArray lo hi none = ((its.drop (HT.sIx its.length 0 lo)).take (HT.sIx its.length its.length hi - HT.sIx its.length 0 lo)).toArray := by
  obtain ⟨h1, h2, h3⟩ := slice_bounds lo hi its.toArray.size
  unfold slicePick
  rw [h1, h2, h3]
  simp only [sliceRange_one, pick_run, List.size_toArray] <;> rfl
def rSlL (K : PySem.W.Frag) : V -> Option Int -> Option Int -> Hp -> VK -> Prop := fun x lo hi H Q => ∃ a xs, x = .ref a /\ SqL K H a xs /\ ∀ p, H p = none -> Q (.ref p) (upd H p (.lst (cutV xs lo hi)))
theorem sl_list : SlR X (rSlL X.K) := by
  intro pins s σ H x v vl vu lo hi sl Q I rx hs pl pu h
  obtain ⟨a, xs, rfl, hx, q⟩ := h
  cases rx
  obtain ⟨its, r, ht, hz⟩ := I.list hx
  have hlen := r.length
  refine ⟨"list", _, slot_list_getitem.lookup, ht.isList.typeIs, ?_⟩
  refine wpAny_getItem_list_slice ht.isList hs pl pu .none (by simp) ?_ (by rw [List.size_toArray] <;> omega)
  rw [slicePick_cut, <- hlen]
  refine ⟨.ref s.heap.objs.size, _, I.laid (t' := s.toks) (o := .lst (cutV xs lo hi)) (fun b ob q => Heap.get?_push_of_some _ q) (Nat.le_refl _) ?_, rfl, q _ (I.hok.fresh (Nat.le_refl _))⟩
  exact ⟨Nat.le_trans (cutV_length xs lo hi) hz, _, 0, (r.drop (HT.sIx xs.length 0 lo)).take (HT.sIx xs.length xs.length hi - HT.sIx xs.length 0 lo), Heap.get?_push_size _ rfl⟩
def flatV : V -> Bool
  | .non => true
  | .bl _ => true
  | .int _ => true
  | .str _ => true
  | _ => false
def eqV : V -> V -> Bool
  | .non, .non => true
  | .bl a, .bl b => a == b
  | .bl a, .int b => (if a then 1 else 0) == b
  | .int a, .bl b => a == (if b then 1 else 0)
  | .int a, .int b => a == b
  | .str a, .str b => a == b
  | _, _ => false
theorem eqAt_V {A : Around} {s : Shared} {y x : V} {u v : Value} (ry : RelV y u) (rx : RelV x v) (fy : flatV y = true) (fx : flatV x = true) : SeqAt.EqAt A s u v (eqV y x) := by
  cases y with
  | non =>
    cases ry
    cases x with
    | non => cases rx; exact SeqAt.EqAt.same _
    | bl b => cases rx; exact SeqAt.EqAt.none_bool b
    | int b => obtain ⟨t, rfl⟩ := rx; exact SeqAt.EqAt.none_int b t
    | str b => obtain ⟨t, rfl⟩ := rx; exact SeqAt.EqAt.none_str b t
    | _ => exact absurd (show false = true from fx) Bool.false_ne_true
  | bl a =>
    cases ry
    cases x with
    | non => cases rx; exact SeqAt.EqAt.bool_none a
    | bl b => cases rx; exact SeqAt.EqAt.bool_bool a b
    | int b => obtain ⟨t, rfl⟩ := rx; exact SeqAt.EqAt.bool_int a b t
    | str b => obtain ⟨t, rfl⟩ := rx; exact SeqAt.EqAt.bool_str a b t
    | _ => exact absurd (show false = true from fx) Bool.false_ne_true
  | int a =>
    obtain ⟨t', rfl⟩ := ry
    cases x with
    | non => cases rx; exact SeqAt.EqAt.int_none a t'
    | bl b => cases rx; exact SeqAt.EqAt.int_bool a t' b
    | int b => obtain ⟨t, rfl⟩ := rx; exact SeqAt.EqAt.int_int a t' b t
    | str b => obtain ⟨t, rfl⟩ := rx; exact SeqAt.EqAt.int_str a t' b t
    | _ => exact absurd (show false = true from fx) Bool.false_ne_true
  | str a =>
    obtain ⟨t', rfl⟩ := ry
    cases x with
    | non => cases rx; exact SeqAt.EqAt.str_none a t'
    | bl b => cases rx; exact SeqAt.EqAt.str_bool a t' b
    | int b => obtain ⟨t, rfl⟩ := rx; exact SeqAt.EqAt.str_int a t' b t
    | str b => obtain ⟨t, rfl⟩ := rx; exact SeqAt.EqAt.str_str a t' b t
    | _ => exact absurd (show false = true from fx) Bool.false_ne_true
  | _ => exact absurd (show false = true from fy) Bool.false_ne_true
theorem call_len_seq : CallR X (.builtin "len") (fun xs H Q => ∃ p ys, xs = [.ref p] /\ (SqL X.K H p ys \/ SqT X.K H p ys) /\ Q (.int ys.length) H) := by
  intro pins s σ H xs us Q I r h
  obtain ⟨p, ys, rfl, hq, q⟩ := h
  obtain ⟨u, rfl, rx⟩ := vals1 r
  cases rx
  have hn := line63
  rcases hq with hq | hq
  · obtain ⟨its, r', pl, hz⟩ := I.list hq
    have hlen := r'.length
    exact Calls.call_len_list pl.isList (by simp only [List.size_toArray] <;> omega) ⟨.int ys.length, H, I.tok _, ⟨s.toks + 1, by rw [List.size_toArray, hlen]⟩, q⟩
  · obtain ⟨its, r', pl, hz⟩ := I.tuple hq
    have hlen := r'.length
    exact len_tuple pl (by simp only [List.size_toArray] <;> omega) ⟨.int ys.length, H, I.tok _, ⟨s.toks + 1, by rw [List.size_toArray, hlen]⟩, q⟩
theorem call_len_str : CallR X (.builtin "len") (fun xs H Q => ∃ z, xs = [.str z] /\ z.length <= sizeLine /\ Q (.int z.length) H) := by
  intro pins s σ H xs us Q I r h
  obtain ⟨z, rfl, hz, q⟩ := h
  obtain ⟨u, rfl, t, rfl⟩ := vals1 r
  have hn := line63
  exact len_str (by omega) ⟨.int z.length, H, I.tok _, ⟨_, rfl⟩, q⟩
theorem CallR.or {f : Value} {r r' : List V -> Hp -> VK -> Prop} (h : CallR X f r) (h' : CallR X f r') : CallR X f (fun xs H Q => r xs H Q \/ r' xs H Q) := by
  intro pins s σ H xs us Q I rs q
  rcases q with q | q
  · exact h pins s σ H xs us Q I rs q
  · exact h' pins s σ H xs us Q I rs q
theorem call_tuple_of : CallR X (.type "tuple") (fun xs H Q => ∃ p ys, xs = [.ref p] /\ ((SqL X.K H p ys /\ ∀ l, H l = none -> Q (.ref l) (upd H l (.tup ys))) \/ (SqT X.K H p ys /\ Q (.ref p) H))) := by
  intro pins s σ H xs us Q I r h
  obtain ⟨p, ys, rfl, h⟩ := h
  obtain ⟨u, rfl, rx⟩ := vals1 r
  cases rx
  rcases h with ⟨hq, q⟩ | ⟨hq, q⟩
  · obtain ⟨its, r', pl, hz⟩ := I.list hq
    have hlen := r'.length
    refine call_tuple_list pl.isList (fun h' kp => ?_) (by simp only [List.size_toArray] <;> omega)
    have I1 : Inv X pins σ H { s with heap := h' } := I.kept (t' := s.toks) kp
    have I2 : Inv X pins σ (upd H h'.objs.size (.tup ys)) { s with heap := h'.push { cls := .type "tuple", data := .seq its.toArray } } :=
      I1.laid (t' := s.toks) (fun b o e => Heap.get?_push_of_some _ e) (Nat.le_refl _) (show ObjOk X.prog X.w _ _ _ (.tup ys) from ⟨hz, its, r', IsTup.new _ _⟩)
    exact ⟨.ref h'.objs.size, _, I2, rfl, q _ (I1.hok.fresh (Nat.le_refl _))⟩
  · obtain ⟨its, r', pl, hz⟩ := I.tuple hq
    exact call_tuple_same pl ⟨.ref p, H, I, rfl, q⟩
def tyV (K : PySem.W.Frag) (T : String) (x : V) (H : Hp) : Prop := match x with
  | .str _ => T = "str"
  | .int _ => T = "int"
  | .ref p => (T = "list" /\ ∃ xs, SqL K H p xs) \/ (T = "tuple" /\ ∃ o, K.lookup p = some o /\ o.cls = .type "tuple" /\ o.dict = none) \/
      (T = "dict" /\ ((∃ kvs, H p = some (.dK kvs)) \/ ∃ kvs, H p = some (.dT kvs))) \/ (T = "set" /\ ∃ S n, H p = some (.set S n))
  | _ => False
theorem tyV_is {pins : List (Addr × Obj)} {σ : St} {H : Hp} {s : Shared} {T : String} {x : V} {v : Value} (I : Inv X pins σ H s) (r : RelV x v) (ty : tyV X.K T x H) :
    s.TypeIs v T /\ ∀ a, v = .ref a -> ∃ ob, s.heap.get? a = some ob /\ ob.dict = none := by
  cases x with
  | str z =>
    obtain ⟨t, rfl⟩ := r
    cases (show T = "str" from ty)
    exact ⟨typeIs_str s z t, fun _ e => nomatch e⟩
  | int i =>
    obtain ⟨t, rfl⟩ := r
    cases (show T = "int" from ty)
    exact ⟨typeIs_int s i t, fun _ e => nomatch e⟩
  | ref p =>
    cases r
    rcases ty with ⟨rfl, xs, hq⟩ | ⟨rfl, o, hk, hc, hd⟩ | ⟨rfl, hk⟩ | ⟨rfl, S, n, hk⟩
    · obtain ⟨its, _, pl, _⟩ := I.list hq
      refine ⟨pl.isList.typeIs, fun a e => ?_⟩
      cases e
      obtain ⟨o, n, e, c, hd, _⟩ := pl
      exact ⟨o, e, hd⟩
    · refine ⟨⟨o, I.kIn p o hk, hc⟩, fun a e => ?_⟩
      cases e
      exact ⟨o, I.kIn _ o hk, hd⟩
    · have z : ∃ o, s.heap.get? p = some o /\ o.ExactDict := by
        rcases hk with ⟨kvs, hk⟩ | ⟨kvs, hk⟩
        · obtain ⟨_, _, _, _, o, _, _, e, ex, _⟩ := I.hok p _ hk
          exact ⟨o, e, ex⟩
        · obtain ⟨_, _, _, _, o, _, _, e, ex, _⟩ := I.hok p _ hk
          exact ⟨o, e, ex⟩
      obtain ⟨o, e, ex⟩ := z
      refine ⟨⟨o, e, ex.1⟩, fun a e2 => ?_⟩
      cases e2
      exact ⟨o, e, ex.2.1⟩
    · obtain ⟨o, _, _, _, e, ex, _⟩ := I.hok p _ hk
      refine ⟨⟨o, e, ex.1⟩, fun a e2 => ?_⟩
      cases e2
      exact ⟨o, e, ex.2.1⟩
  | _ => exact False.elim ty
def tBM0 (K : PySem.W.Frag) (T : String) (r : V -> List V -> Hp -> VK -> Prop) (to : TE) : TE := fun σ H Q => to σ H fun x H1 => tyV K T x H1 /\ r x [] H1 Q
def tBM (K : PySem.W.Frag) (T : String) (r : V -> List V -> Hp -> VK -> Prop) (to : TE) (t : TA) : TE := fun σ H Q => to σ H fun x H1 => tyV K T x H1 /\ t σ H1 fun xs H2 => r x xs H2 Q
variable {o e : Expr} {es : List Expr} {to : TE} {t : TA} {name : Str} {apos cpos : Pos} {T id : String} {r : V -> List V -> Hp -> VK -> Prop}
theorem pe_bm0 (pa : PlainAttrs T) (slot : Slot T name id) (hty : typeOf (.builtin id) = pure (.type "method_descriptor")) (hm : MtR X id r) (ho : PE X o to)
    (hbase : attributeBase o name X.env (eval o X.env) = eval o X.env := by rfl) (hline : (apos.endLine == cpos.line) = true := by rfl) : PE X (.Call (.Attribute o name apos) [] [] cpos) (tBM0 X.K T r to) := by
  intro pins s σ H Q I h
  refine wpAny_Call_method0_late hbase hline (thn (ho pins s σ H _ I h) fun v s1 ⟨x, H1, I1, r1, ty, q1⟩ => ?_)
  obtain ⟨h1, h2⟩ := tyV_is I1 r1 ty
  exact ⟨T, id, pa, slot, hty, h1, h2, Calls.callWith_builtin rfl (PySem.evalArgs_none (hm pins s1 σ H1 x [] v [] Q I1 r1 .nil q1))⟩
theorem pe_bm (pa : PlainAttrs T) (slot : Slot T name id) (hty : typeOf (.builtin id) = pure (.type "method_descriptor")) (hm : MtR X id r) (ho : PE X o to) (ha : PA X (e :: es) t)
    (hbase : attributeBase o name X.env (eval o X.env) = eval o X.env := by rfl)
    (hfew : ((backTo cpos (starEach (e :: es) X.env)).all (fun x => !x.1) && (backToKw cpos (keywordEach [] X.env)).all (fun x => x.1.isSome)
      && decide ((e :: es).length + ([] : List Keyword).length + (if ([] : List Keyword).isEmpty then 0 else 1) < 30)) = true := by rfl)
    (hline : (apos.endLine == cpos.line) = true := by rfl) (hs : starEach (e :: es) X.env = (false, eval e X.env) :: starEach es X.env := by rfl) (hplain : (backTo cpos (starEach es X.env)).any (·.1) = false := by rfl) :
    PE X (.Call (.Attribute o name apos) (e :: es) [] cpos) (tBM X.K T r to t) := by
  intro pins s σ H Q I h
  refine wpAny_Call_method_late hbase hfew hline rfl (thn (ho pins s σ H _ I h) fun v s1 ⟨x, H1, I1, r1, ty, q1⟩ => ?_)
  obtain ⟨h1, h2⟩ := tyV_is I1 r1 ty
  refine ⟨T, id, pa, slot, hty, h1, h2, ?_⟩
  have hA := ha cpos pins s1 σ H1 _ I1 q1
  rw [hs] at hA ⊢
  refine Calls.callWith_builtin (by show (false || (backTo cpos (starEach es X.env)).any (·.1)) = false; rw [hplain] <;> rfl) (Calls.evalArgs_plain ?_)
  exact thn hA fun us s2 ⟨vs, H2, I2, r2, q2⟩ => hm pins s2 σ H2 x vs v us Q I2 r1 r2 q2
end
end L2
namespace L2
open PySem PySem.Spec PyProof.Rows
def MtM (X : Cx) (id : String) (r : V -> List V -> Hp -> VK -> Prop) : Prop :=
  ∀ (pins : List (Addr × Obj)) (s : Shared) (σ : St) (H : Hp) (x : V) (xs : List V) (v : Value) (us : List Value) (Q : VK), Inv X pins σ H s -> RelV x v -> Vals xs us -> r x xs H Q ->
    wpAny (model X.prog X.w) X.A (call (.builtin id) (v :: us)) (EP X pins σ Q) X.xe s
theorem Vals.one : ∀ {x : V} {us : List Value}, Vals [x] us -> ∃ u, us = [u] /\ RelV x u
  | _, _, .cons r .nil => ⟨_, rfl, r⟩
theorem Vals.two : ∀ {x y : V} {us : List Value}, Vals [x, y] us -> ∃ u v, us = [u, v] /\ RelV x u /\ RelV y v
  | _, _, _, .cons r (.cons q .nil) => ⟨_, _, rfl, r, q⟩
theorem Vals.zero : ∀ {us : List Value}, Vals [] us -> us = []
  | _, .nil => rfl
section
variable {X : Cx} {pins : List (Addr × Obj)} {σ : St} {H : Hp} {s : Shared} {l b : Addr} {xs ys zs : List V}
theorem Inv.lset {its its' : List Value} {n : Nat} {f : Array Value -> Array Value} {t' : Nat} (I : Inv X pins σ H s) (hH : H l = some (.lst xs))
    (e : s.heap.get? l = some { cls := .type "list", data := .seq its.toArray n }) (hf : f its.toArray = its'.toArray) (hv : Vals ys its') (hz : ys.length <= sizeLine) :
    Inv X pins σ (upd H l (.lst ys)) { s with heap := s.heap.update l (Obj.mapSeq f), toks := t' } := by
  have q := PySem.IsL.update e f
  rw [hf] at q
  refine I.write (x := l) (e := l) (by rw [hH]; exact trivial) (.inl rfl) (fun b' u hb hu => (Heap.get?_update_other s.heap (Obj.mapSeq f) (Ne.symm hb)).trans hu) ⟨_, q⟩ ?_
  exact ⟨hz, its', _, hv, q⟩
theorem Inv.fresh (I : Inv X pins σ H s) : H s.heap.objs.size = none := I.hok.fresh (Nat.le_refl _)
theorem Inv.lstM (I : Inv X pins σ H s) (hH : H l = some (.lst xs)) : xs.length <= sizeLine /\ ∃ (its : List Value) (n : Nat), Vals xs its /\ xs.length = its.length /\ s.heap.get? l = some { cls := .type "list", data := .seq its.toArray n } := by
  obtain ⟨z, its, n, r, e⟩ := I.hok l _ hH
  exact ⟨z, its, n, r, r.length, e⟩
theorem notLongL {n : Nat} (h : n <= sizeLine) : Builtin.List.listTooLong n = false := by
  unfold Builtin.List.listTooLong
  exact decide_eq_false (by omega)
end
section
variable {X : Cx}
def rAppend : V -> List V -> Hp -> VK -> Prop := fun x vs H Q => ∃ l xs y, x = .ref l /\ vs = [y] /\ H l = some (.lst xs) /\ xs.length < sizeLine /\ Q .non (upd H l (.lst (xs ++ [y])))
theorem mt_append : MtM X "list.append" rAppend := by
  intro pins s σ H x vs v us Q I rx rv h
  obtain ⟨l, xs, y, rfl, rfl, hH, hz, q⟩ := h
  cases rx
  obtain ⟨u, rfl, ru⟩ := rv.one
  obtain ⟨z, its, n, r, hl, e⟩ := I.lstM hH
  refine call_meets F.slot_list_append ⟨_, e, rfl⟩ F.entry_list_append (F.args_list_append_2 _ _) (PySem.list_append l its.toArray n u (by rw [List.size_toArray]; omega)) ⟨e, ?_⟩
  refine ⟨.non, _, I.lset (its' := its ++ [u]) hH e (by simp) (r.append (.cons ru .nil)) ?_, rfl, q⟩
  rw [List.length_append, List.length_singleton]
  omega
def rExtend : V -> List V -> Hp -> VK -> Prop := fun x vs H Q => ∃ l b xs zs, x = .ref l /\ vs = [.ref b] /\ H l = some (.lst xs) /\ H b = some (.lst zs) /\ xs.length + zs.length <= sizeLine /\ Q .non (upd H l (.lst (xs ++ zs)))
theorem mt_extend : MtM X "list.extend" rExtend := by
  intro pins s σ H x vs v us Q I rx rv h
  obtain ⟨l, b, xs, zs, rfl, rfl, hH, hB, hz, q⟩ := h
  cases rx
  obtain ⟨u, rfl, ru⟩ := rv.one
  cases ru
  obtain ⟨z, its, n, r, hl, e⟩ := I.lstM hH
  obtain ⟨z2, its2, n2, r2, hl2, e2⟩ := I.lstM hB
  have hsz : its.toArray.size + its2.toArray.size <= sizeLine := by rw [List.size_toArray, List.size_toArray]; omega
  have hlong : ¬ (!its.toArray.isEmpty && Builtin.List.listTooLong (its.toArray.size + its2.toArray.size)) = true := by
    rw [notLongL hsz, Bool.and_false]
    exact Bool.false_ne_true
  refine call_meets F.slot_list_extend ⟨_, e, rfl⟩ F.entry_list_extend (F.args_list_extend_2 _ _)
    (AutoSeq1.list_extend_list_list_0 l its.toArray n b its2.toArray n2 hlong (by rw [List.size_toArray]; omega) (by omega)) ⟨e, e2, ?_⟩
  refine ⟨.non, _, I.lset (its' := its ++ its2) hH e (by simp) (r.append r2) ?_, rfl, q⟩
  rw [List.length_append]
  omega
end
section
variable {prog : Program} {w : World} {A : Around} {E : Value -> Shared -> Prop} {s : Shared}
end
section
variable {X : Cx}
end
end L2
namespace Att
open PySem PySem.W PySem.Calls PyProof.Rows
theorem ints_of_wellAll {P : Params} {h : Heap} : ∀ (ns : List Int) (vs : List Value), WellAll P h vs (ns.map WData.int) -> IntsAre vs ns := by
  intro ns
  induction ns with
  | nil =>
    intro vs w
    rw [List.map_nil] at w
    cases w
    exact .nil
  | cons n ns ih =>
    intro vs w
    rw [List.map_cons] at w
    cases w with
    | cons a b =>
      cases a
      exact .cons _ _ (ih _ b)
theorem script_of {l : OpenLaw} {n : Nat} (hn : l.most = some n) {P : Params} {h : Heap} {args : List WData} {vals : List Value}
    (hpre : l.row.toRowW.claim.pre args = true) (hwl : WellAll P h vals args) :
    ∃ a vs ns, vals = [Value.ref a] /\ args = [WData.list (ns.map WData.int)] /\ h.get? a = some { cls := .type "list", data := .seq vs.toArray } /\ IntsAre vs ns /\ ns.length <= n := by
  have hsh : WShape.hasAll [] args [.list .int] = true := (pre_splitW hpre).1
  have hc : l.pre.holds [] { args := args } = true := (pre_splitW hpre).2
  obtain ⟨d, r, rfl, h1, h2⟩ := hasAllW_cons hsh
  obtain rfl := hasAllW_nil h2
  obtain ⟨xs, rfl, h3⟩ := hasW_list h1
  obtain ⟨ns, rfl⟩ := items_int h3
  have hlen : ns.length <= n := by
    unfold OpenLaw.pre at hc
    have h4 : (WTm.not (.lt (.lit (.int (n : Int))) (.len (.arg 0)))).holds [] { args := [.list (ns.map .int)] } = true := by
      have h4 := (holds_andW hc).1
      rw [hn] at h4
      exact h4
    have h5 := condW_of h4 (w_not (w_lt w_lit (w_len_list (w_arg rfl))))
    rw [List.length_map] at h5
    refine Nat.le_of_not_lt fun q => ?_
    have q' : (n : Int) < ((ns.length : Nat) : Int) := by omega
    first
      | (rw [decide_eq_true q'] at h5; exact absurd h5 (by decide))
      | (simp at h5; omega)
  cases hwl with
  | cons w1 w2 =>
    cases w2
    cases w1 with
    | list ho hall => exact ⟨_, _, ns, rfl, rfl, ho, ints_of_wellAll ns _ hall, hlen⟩
theorem post_true (l : OpenLaw) (args : List WData) : l.row.toRowW.claim.post args (.bool true) args = true :=
  postW_of (r := l.row.toRowW) (X := (true == true))
    (show WShape.has [] (.bool true) .bool = true by first | rfl | decide | simp [WShape.has, WShape.arms, WShape.armsAll])
    (show (WTm.eq .res (.lit (.bool true))).value [] { args := args, res := some (.bool true), after := args } = some (.bool (true == true)) from w_eq_bool (w_res rfl) w_lit) rfl
theorem attach_call {l : OpenLaw} {n : Nat} {q : Program} {loose : List Str} {XP : (Str -> Option Value) -> Heap -> Prop} {YP : World -> Heap -> Prop} {d : DefRec}
    (hn : l.most = some n) (hdf : d.params.defaults = [])
    (call : ∀ (w : World) (s₀ s₁ : Shared) (mg mb : Str -> Option Value) (fa : Addr) (o : Obj) (pm cd doc : Value) (a : Addr) (vs : List Value) (ns : List Int),
      Ground q loose [] XP w s₀ mg mb s₁.heap -> YP w s₁.heap ->
      s₁.heap.get? fa = some o -> o.data = .func (docDef d.name d.params d.body d.scope pm cd doc) -> s₁.heap.CodeRec cd d.name -> mg d.name = some (.ref fa) ->
      s₁.heap.get? a = some { cls := .type "list", data := .seq vs.toArray } -> IntsAre vs ns -> ns.length <= n -> s₁.gens = #[] ->
      codeAny (model l.prog w) callerA (.call (.ref fa) ⟨[.ref a], []⟩) (fun r s' => r = .ok (.ret (.bool true)) /\ OldK s₁.heap s'.heap /\ s'.os = s₁.os /\ AllBare s'.gens) s₁) :
    WalkO q loose XP YP l.row.toRowW d [] (fun f vs => PySem.call f vs) := by
  intro w s₀ s₁ mg mb G Y fa o pm cd doc dV kV ho hd hcd hD hmg hg args vals as hpre hlay hrd hwl hlo
  obtain rfl : dV = .none := Dflts.none hD hdf
  obtain rfl : kV = .none := Dflts.noKw hD
  obtain ⟨a, vs, ns, rfl, rfl, hobj, hints, hlen⟩ := script_of hn hpre hwl
  refine enter_call (codeAny_mono (call w s₀ s₁ mg mb fa o pm cd doc a vs ns G Y ho (fd_plain hd) hcd hmg hobj hints hlen hg) fun r s' hq => ?_)
  obtain ⟨rfl, h2, h3, h4⟩ := hq
  exact ⟨.inl ⟨.bool true, .bool true, [], rfl, fun _ => rfl, .bool true, post_true l _, fun _ => ⟨List.Pairwise.nil, fun _ hm => (nomatch hm)⟩⟩, h2, h3, h4⟩
section
variable {prog : Program} {w : World} {A : Around} {E : Value -> Shared -> Prop} {s : Shared} {K : Frag}
def ledger (h : Heap) (L d : Addr) : List (Addr × Obj) := (List.range h.objs.size).filterMap fun a => if a = L \/ a = d then none else (h.get? a).map fun o => (a, o)
end
end Att
namespace L2
open PySem PySem.Spec PyProof.Rows
theorem vals_ints : ∀ {vs : List Value} {ns : List Int}, IntsAre vs ns -> Vals (ns.map V.int) vs
  | _, _, .nil => .nil
  | _, _, .cons n t h => .cons ⟨t, rfl⟩ (vals_ints h)
def Only (H : Hp) : Prop := ∀ b, H b = none \/ ∃ o xs, H b = some (.frz o (.lst xs))
theorem law_call {P : Program} {w : World} {K : PySem.W.Frag} {mg mb : Str -> Option Value} {CX : CXT} {k : Nat} {fa a : Addr} {fd : FuncData} {x : Str} {sp : Sp} {s₁ : Shared} {vs : List Value} {ns : List Int}
    (KX : K.In s₁.heap) (hns : s₁.heap.Ns mainGlobals mg) (hb : s₁.heap.Ns builtinsNs mb) (hbb : ∀ x : Str, x ≠ "__name__" -> mb x = bootBuiltins x) (hlim : s₁.heap.NoLimit) (hg : s₁.gens = #[])
    (ha : s₁.heap.get? a = some { cls := .type "list", data := .seq vs.toArray }) (hi : IntsAre vs ns) (hl : ns.length <= sizeLine) (hr : Room k callerA)
    (F : ∀ base : Heap, K.In base -> base.Ns mainGlobals mg -> FnOk P w K mg base CX k fa fd [x] sp) (hbind : ∀ (s : Shared) (u : Value), BindsTo s fd ⟨[u], []⟩ [(x, u)])
    (hsp : ∀ H : Hp, Only H -> SqL K H a (ns.map V.int) -> sp [.ref a] H (fun v _ => v = .bl true) fun _ _ _ => False)
    (hCX : ∀ H e s', CX [] H s₁ (fun _ _ _ => False) e s' -> False) :
    codeAny (model P w) callerA (.call (.ref fa) ⟨[.ref a], []⟩) (fun r s' => r = .ok (.ret (.bool true)) /\ OldK s₁.heap s'.heap /\ s'.os = s₁.os /\ AllBare s'.gens) s₁ := by
  have rv := vals_ints hi
  have lenV := hi.length
  -- from an abstract heap in which nothing but the script may be tracked
  have core : ∀ H : Hp, Only H -> SqL K H a (ns.map V.int) -> HOk P w H s₁.heap -> (∀ b, H b ≠ none -> b = a) -> (H a ≠ none -> K.lookup a = none) ->
      codeAny (model P w) callerA (.call (.ref fa) ⟨[.ref a], []⟩) (fun r s' => r = .ok (.ret (.bool true)) /\ OldK s₁.heap s'.heap /\ s'.os = s₁.os /\ AllBare s'.gens) s₁ := by
    intro H hO hS hok hA hK
    have base_of : ∀ {b : Addr} {o : Obj}, s₁.heap.get? b = some o -> H b = none -> (hidT s₁.heap H).get? b = some o := fun e n => hidT_get e n
    have noA : ∀ {b : Addr} {o : Obj} {es : Array DictEntry} {ep : Nat}, s₁.heap.get? b = some o -> o.data = .dict es ep -> H b = none := fun {b o es ep} e d => by
      cases q : H b with
      | none => rfl
      | some u =>
        have e' : b = a := hA b (by rw [q]; simp)
        subst e'
        rw [ha] at e; cases e
        have d' : Data.seq vs.toArray _ = Data.dict es ep := d
        cases d'
    have nsK : ∀ {b : Addr} {m : Str -> Option Value}, s₁.heap.Ns b m -> (hidT s₁.heap H).Ns b m := fun {b m} ⟨o, es, ep, e, d, r⟩ => ⟨o, es, ep, base_of e (noA e d), d, r⟩
    have hKb : K.In (hidT s₁.heap H) := fun b o e => base_of (KX b o e) (by
      cases q : H b with
      | none => rfl
      | some u =>
        have e' : b = a := hA b (by rw [q]; simp)
        subst e'
        rw [hK (by rw [q]; simp)] at e; cases e)
    have hM : Mod K mg (hidT s₁.heap H) := ⟨hKb, nsK hns, ⟨mb, nsK hb, hbb⟩, let ⟨mc, h1, h2⟩ := hlim; ⟨mc, nsK h1, h2⟩⟩
    have e0 : Env0 P w K mg (hidT s₁.heap H) callerA [] s₁ H := ⟨rfl, hM, fun b o e => of_hidT e, Nat.le_of_eq (hidT_size _ _), trivial, fun b hb => absurd (show b ∈ ([] : List Addr) from hb) (by simp), hok, .of_eq hg⟩
    refine codeAny_mono ((F _ hKb (nsK hns)).run callerA [] s₁ H ⟨[.ref a], []⟩ [.ref a] [.ref a] _ _ hr e0 (hbind s₁ (.ref a)) (.cons rfl .nil) (hsp H hO hS)) fun r s' h => ?_
    cases r with
    | error e => exact (hCX H e s' h).elim
    | ok fl =>
      cases fl with
      | next => exact False.elim h
      | brk => exact False.elim h
      | cont => exact False.elim h
      | ret u =>
        obtain ⟨v, H', os, bare, un, hok', r', q⟩ := h
        have q' : v = .bl true := q
        subst q'
        obtain rfl : u = Value.bool true := r'
        refine ⟨rfl, OldK.of_keep fun b o e => ?_, os, bare⟩
        cases q : H b with
        | none => exact un.keep b o e q (by intro z; exact absurd (show b ∈ ([] : List Addr) from z) (by simp)) (by simp)
        | some u =>
          rcases hO b with z | ⟨ob, xs, z⟩
          · rw [q] at z; cases z
          · have z2 := un.frzs b ob _ z
            obtain ⟨e1, _⟩ := hok b _ z
            obtain ⟨e2, _⟩ := hok' b _ z2
            rw [e] at e1; cases e1
            exact e2
  cases hk : K.lookup a with
  | some o =>
    -- the script is one of the module's own objects
    have e := KX a o hk
    rw [ha] at e
    cases e
    refine core (fun _ => none) (fun _ => .inl rfl) (.inr ⟨_, vs.toArray, _, hk, rfl, rfl, rfl, by rw [List.size_toArray, lenV]; exact hl, by simpa using rv⟩) (fun b u z => by have z' : (none : Option HO) = some u := z; cases z') (fun b z => absurd rfl z) fun z => absurd rfl z
  | none =>
    refine core (fun b => if b = a then some (.frz { cls := .type "list", data := .seq vs.toArray } (.lst (ns.map V.int))) else none) (fun b => ?_) (.inl (.inr ⟨{ cls := .type "list", data := .seq vs.toArray }, if_pos rfl⟩)) (fun b u z => ?_) (fun b z => ?_) fun _ => hk
    · by_cases hb : b = a
      · exact .inr ⟨_, _, if_pos hb⟩
      · exact .inl (if_neg hb)
    · by_cases hb : b = a
      · have z' := (if_pos hb).symm.trans z
        cases z'
        subst hb
        exact ⟨ha, by rw [List.length_map]; exact hl, vs, _, rv, ha⟩
      · have z' := (if_neg hb).symm.trans z
        cases z'
    · by_cases hb : b = a
      · exact hb
      · exact absurd (if_neg hb) z
end L2
namespace L2
open PySem PySem.Spec PyProof.Rows
theorem walk_of {l : PySem.W.OpenLaw} {n k : Nat} {q : Program} {loose : List Str} {XP : (Str -> Option Value) -> Heap -> Prop} {YP : World -> Heap -> Prop} {d : DefRec} {K : Params -> PySem.W.Frag} {CX : World -> CXT} {sp : World -> Sp} {x : Str}
    (hn : l.most = some n) (hn2 : n <= sizeLine) (hdf : d.params.defaults = []) (hr : Room k callerA)
    (hY : ∀ (w : World) (h : Heap), YP w h -> (K w.params).In h)
    (F : ∀ (w : World) (mg : Str -> Option Value) (fa : Addr) (h : Heap), (K w.params).In h -> h.Ns mainGlobals mg -> mg d.name = some (.ref fa) ->
      ∃ fd : FuncData, (∀ (s : Shared) (u : Value), BindsTo s fd ⟨[u], []⟩ [(x, u)]) /\
        ∀ base : Heap, (K w.params).In base -> base.Ns mainGlobals mg -> FnOk l.prog w (K w.params) mg base (CX w) k fa fd [x] (sp w))
    (hsp : ∀ (w : World) (H : Hp) (a : Addr) (ns : List Int), ns.length <= n -> Only H -> SqL (K w.params) H a (ns.map V.int) -> sp w [.ref a] H (fun v _ => v = .bl true) fun _ _ _ => False)
    (hCX : ∀ (w : World) (H : Hp) (s : Shared) (e : Value) (s' : Shared), CX w [] H s (fun _ _ _ => False) e s' -> False) :
    PySem.W.WalkO q loose XP YP l.row.toRowW d [] (fun f vs => PySem.call f vs) := by
  refine Att.attach_call hn hdf fun w s₀ s₁ mg mb fa o pm cd doc a vs ns G Y ho hd hcd hmg hobj hints hlen hg => ?_
  have KX := hY w _ Y
  obtain ⟨fd, hb, hF⟩ := F w mg fa _ KX G.T.g hmg
  exact law_call KX G.T.g G.T.b G.T.builtins G.T.nolimit hg hobj hints (Nat.le_trans hlen hn2) hr hF hb (fun H hO hS => hsp w H a ns hlen hO hS) fun H e s' => hCX w H s₁ e s'
end L2
/- THE LAST THEOREM (shape; LID, My.* are yours):
   My.Adr: a structure of the addresses that your layer names (classes, functions); My.Txt K t: a structure (Prop) of the equations over K;
   My.txt_mk : {K} {implicit addresses ..} (e1 : nsIn K mainGlobals "law" = some (some (.ref f))) (e2 : K.lookup f = some ⟨oc, od, .func (fnOf "law" "law" params body scope dV kV doc pm an cdv ct), sl⟩) (e3 : codeIn K cdv "law" = true) .. : ∃ t, My.Txt K t
set_option maxRecDepth 100000 in
set_option maxHeartbeats 0 in
theorem PySem.Challenge.cw_LID_holds : PySem.Challenge.rw_LID.Holds := by
  w_on; o_law; k_head; (case hw => w_witness2)
  k_fill
  refine L2.walk_of (l := PySem.Challenge.rw_LID) (n := 63) (k := 40) (x := "script") (CX := fun w => ..) (sp := fun _ => My.sp_law) rfl (by decide) rfl ⟨rfl, by decide, by decide⟩ (fun w h Y => PySem.W.kIn_of Y) ?F ?S ?C
  case F =>
    intro w mg fa h KX G hmg
    have T : ∃ t, My.Txt (L2.KOf KX) t := by
      dsimp only [L2.KOf]                          -- K must stand as «<heap const> w.params» for k_is
      refine' My.txt_mk ?e1 ?e2 ?e3 ..
      (case e1 => PySem.W.k_is)                    -- in the order: a name -> its address -> its object -> its parts
      (case e2 => PySem.W.k_is)
      ..
    obtain ⟨t, T⟩ := T
    have e0 := hmg.symm.trans (PySem.W.mg_of KX G T.law)
    cases e0                                       -- fa is the law's own address
    exact ⟨_, fun s u => .of_eq rfl, fun base kb nb => My.law_fn T kb nb⟩     -- if «.of_eq rfl» comes too early: refine' ⟨_, ?b, fun base kb nb => My.law_fn T kb nb⟩; exact fun s u => .of_eq rfl
  case S => exact fun w H a ns hl hO hS => ..
  case C => exact ..
(the tactic k_is has no namespace: write k_is) -/
namespace L2
open PySem PySem.Spec PyProof.Rows
def defArgs (s : Stmt) : Arguments := match s with
  | .FunctionDef _ a _ _ _ _ _ _ _ _ => a
  | _ => { posonlyargs := [], args := [], vararg := none, kwonlyargs := [], kw_defaults := [], kwarg := none, defaults := [] }
def defBody (s : Stmt) : List Stmt := match s with
  | .FunctionDef _ _ b _ _ _ _ _ _ _ => b
  | _ => []
def defScope (s : Stmt) : Scope := match s with
  | .FunctionDef _ _ _ _ _ _ sc _ _ _ => sc
  | _ => { kind := .function, names := [], isGenerator := false, isCoroutine := false }
abbrev CX0 : CXT := fun _ _ _ _ _ _ => False
abbrev E0 : XK := fun _ _ _ => False
theorem pass0 {X : Cx} : Passes CX0 X E0 := fun _ _ _ _ _ _ _ h => h.elim
structure Fun (K : PySem.W.Frag) (x qual : Str) (st : Stmt) (f : Addr) (fd : FuncData) : Prop where
  ex : ∃ (oc : Value) (od : Option Addr) (kV doc pm : Value) (an : Option Addr) (cdv ct : Value) (osl : Array (Option Value)),
    fd = PySem.W.fnOf x qual (defArgs st) (defBody st) (defScope st) .none kV doc pm an cdv ct /\ K.lookup f = some ⟨oc, od, .func fd, osl⟩ /\ PySem.W.codeIn K cdv qual = true
  kp : PySem.W.keepIn K (.ref f) = true
section
variable {P : Program} {w : World} {K : PySem.W.Frag} {mg : Str -> Option Value} {base : Heap}
theorem Fun.ok {x qual : Str} {st : Stmt} {f : Addr} {fd : FuncData} {N ps : List Str} {k : Nat} {sp : Sp} (F : Fun K x qual st f fd) (S : FnScope N ps (defScope st)) (len : ∀ vs H Q E, sp vs H Q E -> vs.length = ps.length)
    (hbody : ∀ (cdv : Value) (A : Around) (outer : List Env) (s : Shared) (H : Hp) (vs : List V) (Q : VK) (E : XK), Room k (A.deeper (envOfC qual (defScope st) s.heap.objs.size f cdv)) -> sp vs H Q E ->
      ∃ t, PSs (cxOf CX0 P w K mg base N qual (defScope st) f cdv A outer s H E).nox (defBody st) t /\ t { nx := fun _ H' => Q .non H', rt := Q } (start N vs) H) : FnOk P w K mg base CX0 (k + 1) f fd ps sp := by
  obtain ⟨oc, od, kV, doc, pm, an, cdv, ct, osl, rfl, lk, hcd⟩ := F.ex
  refine fn_of lk hcd S len fun A outer s H vs Q E hr hsp => ?_
  obtain ⟨t, h, q⟩ := hbody cdv A outer s H vs Q E hr hsp
  exact ⟨t, h.nox, q⟩
theorem Fun.binds {x qual : Str} {st : Stmt} {f : Addr} {fd : FuncData} {ps : List Str} (F : Fun K x qual st f fd)
    (h : ∀ (kV doc pm : Value) (an : Option Addr) (cdv ct : Value) (us : List Value), us.length = ps.length -> bindArgs (PySem.W.fnOf x qual (defArgs st) (defBody st) (defScope st) .none kV doc pm an cdv ct) ⟨us, []⟩ = pure (ps.zip us)) : Binds K fd ps [] := by
  obtain ⟨oc, od, kV, doc, pm, an, cdv, ct, osl, rfl, lk, hcd⟩ := F.ex
  exact .all (h kV doc pm an cdv ct)
theorem fun_mk {x qual : Str} {st : Stmt} {f : Addr} {oc : Value} {od an : Option Addr} {osl : Array (Option Value)} {kV doc pm cdv ct : Value} (l : K.lookup f = some ⟨oc, od, .func (PySem.W.fnOf x qual (defArgs st) (defBody st) (defScope st) .none kV doc pm an cdv ct), osl⟩)
    (c : PySem.W.codeIn K cdv qual = true) (k : PySem.W.keepIn K (.ref f) = true) : Fun K x qual st f (PySem.W.fnOf x qual (defArgs st) (defBody st) (defScope st) .none kV doc pm an cdv ct) := ⟨⟨oc, od, kV, doc, pm, an, cdv, ct, osl, rfl, l, c⟩, k⟩
end
section
variable {X : Cx}
theorem pv (i : Nat) {x : Str} {pos : Pos} (hN : X.N[i]? = some x := by rfl) (hv : Vis X.env.scope x := by first | exact Or.inl rfl | exact Or.inr (Or.inl rfl) | exact Or.inr (Or.inr rfl)) (hd : (x == ("__debug__" : Str)) = false := by decide)
    (hcd : (x == ("__classdict__" : Str)) = false := by decide) : PE X (.Name x pos) (tVar i) := pe_var hN hv hd hcd
end
theorem iteF {A B : Prop} (h : B) : if false = true then A else B := by
  rw [if_neg Bool.false_ne_true]
  exact h
theorem iteT {A B : Prop} (h : A) : if true = true then A else B := by
  rw [if_pos rfl]
  exact h
theorem ite2 {c A B : Prop} [Decidable c] (h1 : c -> A) (h2 : ¬ c -> B) : if c then A else B := by
  by_cases h : c
  · rw [if_pos h]
    exact h1 h
  · rw [if_neg h]
    exact h2 h
def Same (H H' : Hp) : Prop := ∀ b o, H b = some o -> H' b = some o
theorem Same.refl (H : Hp) : Same H H := fun _ _ h => h
theorem Same.trans {H H1 H2 : Hp} (a : Same H H1) (b : Same H1 H2) : Same H H2 := fun c o h => b c o (a c o h)
theorem Same.free {H H' : Hp} (e : Same H H') {l : Addr} (h : H' l = Option.none) : H l = Option.none := by
  cases q : H l with
  | none => rfl
  | some o =>
    rw [e l o q] at h
    cases h
theorem Same.seq {K : PySem.W.Frag} {H H' : Hp} {a : Addr} {xs : List V} (e : Same H H') (h : SqL K H a xs) : SqL K H' a xs := by
  rcases h with (h | ⟨o, h⟩) | h
  · exact .inl (.inl (e _ _ h))
  · exact .inl (.inr ⟨o, e _ _ h⟩)
  · exact .inr h
end L2
namespace L2
open PySem PySem.Spec PyProof.Rows
def AllIn (env : Env) : List (Str × Addr) -> Prop
  | [] => True
  | p :: r => env.cells.lookup p.1 = some p.2 /\ AllIn env r
theorem AllIn.get {env : Env} : ∀ {cl : List (Str × Addr)} {y : Str} {c : Addr}, AllIn env cl -> cl.lookup y = some c -> env.cells.lookup y = some c
  | [], _, _, _, h => by simp at h
  | (n, a) :: r, y, c, ⟨e, t⟩, h => by
    rw [List.lookup_cons] at h
    by_cases q : y = n
    · subst q
      rw [beq_self_eq_true] at h
      cases h
      exact e
    · have q' : (y == n) = false := beq_eq_false_iff_ne.mpr q
      rw [q'] at h
      exact AllIn.get t h
def blank : List Nat -> St -> St
  | [], σ => σ
  | i :: S, σ => blank S (σ.set i none)
theorem blank_len : ∀ (S : List Nat) (σ : St), (blank S σ).length = σ.length
  | [], _ => rfl
  | i :: S, σ => by rw [blank, blank_len S, List.length_set]
theorem blank_get : ∀ (S : List Nat) (σ : St) {j : Nat} {v : V}, (blank S σ)[j]? = some (some v) -> σ[j]? = some (some v) /\ j ∉ S
  | [], _, _, _, h => ⟨h, by simp⟩
  | i :: S, σ, j, v, h => by
    obtain ⟨h1, h2⟩ := blank_get S (σ.set i none) h
    rw [List.getElem?_set] at h1
    by_cases e : i = j
    · rw [if_pos e] at h1
      split at h1 <;> cases h1
    · rw [if_neg e] at h1
      exact ⟨h1, fun z => (List.mem_cons.mp z).elim (fun z => e z.symm) h2⟩
structure LcOk (X : Cx) (scope : Scope) (cl : List (Str × Addr)) (S : List Nat) : Prop where
  clos : closureFor scope X.env = pure cl
  kind : scope.kind = .function
  noC : scope.names.all (fun y => y.2 != .cell) = true
  loc : scope.names.all (fun y => y.2 != .local || scope.names.lookup y.1 == some .local) = true
  own : X.N.zipIdx.all (fun y => S.contains y.2 || scope.names.lookup y.1 != some .local) = true
  sub : AllIn X.env cl
  has : scope.names.all (fun p => p.2 != .free || ((cl.lookup p.1).isSome && (X.env.kindOf p.1 == some .cell || X.env.kindOf p.1 == some .free))) = true
section
variable {X : Cx} {scope : Scope} {cl : List (Str × Addr)} {S : List Nat}
theorem LcOk.nocell (L : LcOk X scope cl S) : ∀ y ∈ scope.names, y.2 ≠ .cell := fun y hy => by
  have h := List.all_eq_true.mp L.noC y hy
  exact bne_iff_ne.mp h
theorem LcOk.locs (L : LcOk X scope cl S) : ∀ y ∈ scope.names, y.2 = .local -> scope.names.lookup y.1 = some .local := fun y hy e => by
  have h := List.all_eq_true.mp L.loc y hy
  rw [e] at h
  simpa using h
theorem LcOk.apart (L : LcOk X scope cl S) : ∀ (i : Nat) (y : Str), X.N[i]? = some y -> i ∉ S -> scope.names.lookup y ≠ some .local := fun i y hy hi => by
  have h := List.all_eq_true.mp L.own (y, i) (List.mem_zipIdx_iff_getElem?.mpr hy)
  have hc : S.contains i = false := by simpa using hi
  rw [hc, Bool.false_or] at h
  exact bne_iff_ne.mp h
theorem LcOk.free (L : LcOk X scope cl S) {y : Str} (h : scope.names.lookup y = some .free) : (∃ c, cl.lookup y = some c) /\ (X.env.kindOf y = some .cell \/ X.env.kindOf y = some .free) := by
  have h1 := List.all_eq_true.mp L.has _ (PySem.mem_of_lookup h)
  simp only [bne_self_eq_false, Bool.false_or, Bool.and_eq_true, Bool.or_eq_true, beq_iff_eq] at h1
  exact ⟨Option.isSome_iff_exists.mp h1.1, h1.2⟩
theorem lookup_relabel (names : List (Str × NameKind)) (env : Env) (y : Str) :
    (names.map fun (n, k) => if (k == NameKind.free && env.scope.kind == .function && env.kindOf n == some .cell) then (n, NameKind.cell) else (n, k)).lookup y =
      (names.lookup y).map fun k => if (k == NameKind.free && env.scope.kind == .function && env.kindOf y == some .cell) then NameKind.cell else k := by
  induction names with
  | nil => rfl
  | cons p r ih =>
    obtain ⟨n, k⟩ := p
    rw [List.map_cons]
    by_cases q : y = n
    · subst q
      by_cases hc : (k == NameKind.free && env.scope.kind == .function && env.kindOf y == some .cell) = true
      · show List.lookup y ((if (k == NameKind.free && env.scope.kind == .function && env.kindOf y == some .cell) = true then (y, NameKind.cell) else (y, k)) :: _) = _
        rw [if_pos hc, List.lookup_cons, List.lookup_cons, beq_self_eq_true]
        show some NameKind.cell = some (if _ then _ else _)
        rw [if_pos hc]
      · show List.lookup y ((if (k == NameKind.free && env.scope.kind == .function && env.kindOf y == some .cell) = true then (y, NameKind.cell) else (y, k)) :: _) = _
        rw [if_neg hc, List.lookup_cons, List.lookup_cons, beq_self_eq_true]
        show some k = some (if _ then _ else _)
        rw [if_neg hc]
    · have q' : (y == n) = false := beq_eq_false_iff_ne.mpr q
      by_cases hc : (k == NameKind.free && env.scope.kind == .function && env.kindOf n == some .cell) = true
      · show List.lookup y ((if (k == NameKind.free && env.scope.kind == .function && env.kindOf n == some .cell) = true then (n, NameKind.cell) else (n, k)) :: _) = _
        rw [if_pos hc, List.lookup_cons, List.lookup_cons, q']
        exact ih
      · show List.lookup y ((if (k == NameKind.free && env.scope.kind == .function && env.kindOf n == some .cell) = true then (n, NameKind.cell) else (n, k)) :: _) = _
        rw [if_neg hc, List.lookup_cons, List.lookup_cons, q']
        exact ih
theorem LcOk.kinds (L : LcOk X scope cl S) {y : Str} (h : (relabel scope X.env).names.lookup y = some .cell \/ (relabel scope X.env).names.lookup y = some .free) : scope.names.lookup y = some .free := by
  have e : (relabel scope X.env).names.lookup y = (scope.names.lookup y).map fun k => if (k == NameKind.free && X.env.scope.kind == .function && X.env.kindOf y == some .cell) then NameKind.cell else k := lookup_relabel scope.names X.env y
  rw [e] at h
  cases q : scope.names.lookup y with
  | none => rw [q] at h; rcases h with h | h <;> cases h
  | some k =>
    have hk : k ≠ .cell := L.nocell _ (PySem.mem_of_lookup q)
    rw [q] at h
    by_cases hf : k = .free
    · rw [hf]
    · have z : (k == NameKind.free) = false := beq_eq_false_iff_ne.mpr hf
      rw [Option.map_some, z, Bool.false_and, Bool.false_and, if_neg Bool.false_ne_true] at h
      rcases h with h | h
      · exact absurd (Option.some.inj h) hk
      · exact absurd (Option.some.inj h) hf
def cxLC (X : Cx) (scope : Scope) (cl : List (Str × Addr)) (M : List Str) (C : Addr) (s₀ : Shared) (H₀ : Hp) (ex : List Addr) (E : Value -> Shared -> Prop) : Cx where
  prog := X.prog
  w := X.w
  K := X.K
  mg := X.mg
  base := X.base
  A := X.A
  N := X.N ++ M
  s₀ := s₀
  H₀ := H₀
  env := compEnvC scope cl C X.env
  outer := X.stack
  stack := X.stack
  ex := ex
  fn := fun _ => false
  calm := X.calm
  pn := []
  xe := E
variable {pins : List (Addr × Obj)} {σ : St} {H : Hp} {s : Shared} {ex : List Addr} {M : List Str} {C : Addr}
theorem lc_start {E : Value -> Shared -> Prop} {h1 : Heap} {tk : Nat} {m : Str -> Option Value} (I : Inv X pins σ H s) (L : LcOk X scope cl S) (hf : ∀ b ∈ ex, FpOk X pins H b) (hlt : ∀ b ∈ ex, b < s.heap.objs.size)
    (hk : ∀ b o, s.heap.get? b = some o -> h1.get? b = some o) (hC : s.heap.objs.size <= C) (hns : h1.Ns C m) :
    Inv (cxLC X scope cl M C s H ex E) [] (blank S σ ++ List.replicate M.length none) H { s with heap := h1, toks := tk } := by
  refine ⟨⟨I.ok.mod, L.kind, I.ok.glob, I.ok.blt, hC, fun x y c a b => I.ok.inj x y c (L.sub.get a) (L.sub.get b), fun y hy => (L.free (L.kinds hy)).1, (fun x c z => nomatch z), I.ok.hd, I.ok.frames, .inl rfl, fun b hb => ⟨?_, fun x c e => ?_⟩,
      I.bs, Nat.le_trans I.ok.bsz I.sz, fun b o e hb => ?_, fun b hb z => ?_, I.stack, I.stkFree⟩,
    rfl, I.bare, Un.kept hk, ⟨m, hns, fun i y v e1 e2 e3 => ?_⟩, fun y c e => ?_, I.hok.fresh hC, fun y c e => I.freeC y c (L.sub.get e), fun p hp => absurd (show p ∈ ([] : List (Addr × Obj)) from hp) (by simp), I.hok.kept hk, ?_⟩
  · exact Nat.ne_of_lt (Nat.lt_of_lt_of_le (hlt b hb) hC)
  · exact (hf b hb).2.2.2.2.1 x c (L.sub.get e)
  · rcases (hf b hb).2.2.2.1 with z | z
    · exact I.ok.noex b o e z
    · exact absurd (Nat.lt_of_lt_of_le (Heap.lt_size e) (Nat.le_trans I.ok.bsz z)) (Nat.lt_irrefl _)
  · rcases List.mem_cons.mp (I.stkSub b z) with q | q
    · exact (hf b hb).2.1 q
    · exact (hf b hb).2.2.1 q
  · have e1' : (X.N ++ M)[i]? = some y := e1
    by_cases hi : i < σ.length
    · rw [List.getElem?_append_left (by rw [blank_len]; exact hi)] at e2
      obtain ⟨e2, hiS⟩ := blank_get S σ e2
      rw [List.getElem?_append_left (by rw [<- I.len]; exact hi)] at e1'
      obtain ⟨m0, hn0, hl⟩ := I.loc
      have hy : scope.names.lookup y = some .free := by
        rcases e3 with e3 | e3
        · have q := lookup_relabel scope.names X.env y
          have e3' : (relabel scope X.env).names.lookup y = some .local := e3
          cases z : scope.names.lookup y with
          | none =>
            rw [z] at q
            have q' : (relabel scope X.env).names.lookup y = none := q
            rw [e3'] at q'; cases q'
          | some k =>
            have hk1 : k ≠ .local := fun w => L.apart i y e1' hiS (w ▸ z)
            rw [z, Option.map_some] at q
            have q' : some NameKind.local = some (if (k == NameKind.free && X.env.scope.kind == .function && X.env.kindOf y == some .cell) = true then NameKind.cell else k) := e3'.symm.trans q
            have q2 := Option.some.inj q'
            by_cases hc : (k == NameKind.free && X.env.scope.kind == .function && X.env.kindOf y == some .cell) = true
            · rw [if_pos hc] at q2; cases q2
            · rw [if_neg hc] at q2; exact absurd q2.symm hk1
        · exact L.kinds e3
      obtain ⟨⟨c, hc⟩, hk2⟩ := L.free hy
      obtain ⟨u, r, l⟩ := hl i y v e1' e2 (.inr hk2)
      refine ⟨u, r, .inr ⟨?_, c, hc, ?_⟩⟩
      · have q := lookup_relabel scope.names X.env y
        rw [hy, Option.map_some] at q
        have q' : (relabel scope X.env).names.lookup y = some (if (NameKind.free == NameKind.free && X.env.scope.kind == .function && X.env.kindOf y == some .cell) = true then NameKind.cell else NameKind.free) := q
        by_cases hc : (NameKind.free == NameKind.free && X.env.scope.kind == .function && X.env.kindOf y == some .cell) = true
        · rw [if_pos hc] at q'; exact .inl q'
        · rw [if_neg hc] at q'; exact .inr q'
      · rcases l with ⟨l1, _⟩ | ⟨_, c', e', z⟩
        · rcases hk2 with w | w <;> (rw [l1] at w; cases w)
        · have ec : c' = c := by
            have w := L.sub.get hc
            rw [e'] at w
            exact Option.some.inj w
          subst ec
          obtain ⟨o, ho, hd⟩ := z
          exact ⟨o, hk _ _ ho, hd⟩
    · rw [List.getElem?_append_right (by rw [blank_len]; exact Nat.not_lt.mp hi), List.getElem?_replicate] at e2
      split at e2 <;> cases e2
  · obtain ⟨v, o, ho, hd⟩ := I.cell y c (L.sub.get e)
    exact ⟨v, o, hk _ _ ho, hd⟩
  · show (blank S σ ++ List.replicate M.length none).length = (X.N ++ M).length
    rw [List.length_append, List.length_append, List.length_replicate, blank_len, I.len]
def PTs (X : Cx) (ifs : List Expr) (t : TT) : Prop :=
  ∀ (pins : List (Addr × Obj)) (s : Shared) (σ : St) (H : Hp) (Q : Bool -> Hp -> Prop), Inv X pins σ H s -> t σ H Q ->
    wpAny (model X.prog X.w) X.A (forIn ifs true fun c r => if r = true then do let ok <- isTrue c X.env (eval c X.env); pure (ForInStep.yield ok) else pure (ForInStep.yield r)) (TP X pins σ Q) X.xe s
def tYes : TT := fun _ H Q => Q true H
theorem pts_nil {X : Cx} : PTs X [] tYes := fun _ _ _ H _ I h => wpAny_tests_nil ⟨H, I, h⟩
def lcBy (J : It) (g : TG) (tt : TT) (te : TE) (Q : VK) (W : Nat -> Nat -> St -> List V -> Hp -> Prop) : Prop := ∀ i m τ ys H, W i m τ ys H ->
  (J.stop i H /\ ∀ p, H p = none -> Q (.ref p) (upd H p (.lst ys))) \/
  (J.go i H /\ ∃ N : St -> List V -> Hp -> Prop, (∀ τ' ys' H', N τ' ys' H' -> ∃ m', m' < m /\ W (i + 1) m' τ' ys' H') /\ ∀ x H', J.yld i H x H' -> g x τ H' fun τ2 H2 => tt τ2 H2 fun b H3 =>
    if b = true then te τ2 H3 fun y H4 => ys.length < sizeLine /\ N τ2 (ys ++ [y]) H4 else N τ2 ys H3)
def tLCS (S : List Nat) (wi : TI) (g : TG) (tt : TT) (te : TE) (n : Nat) : TE := fun σ H Q => wi σ H fun J H1 => ∃ W, (∃ m, W 0 m (blank S σ ++ List.replicate n none) [] H1) /\ lcBy J g tt te Q W
theorem lc_core {tg elt iter : Expr} {ifs : List Expr} {pos : Pos} {g : TG} {tt : TT} {te : TE} {J : It} {fp : List Addr} {it : Addr} {tn : Nat -> Heap -> Prop} {Q : VK} {E : Value -> Shared -> Prop} {R : Value -> Addr -> Result -> Shared -> Prop}
    {W : Nat -> Nat -> St -> List V -> Hp -> Prop} {m0 : Nat} (L : LcOk X scope cl S) (hc : X.calm = true) (I : Inv X pins σ H s) (T : Turn X.prog X.w X.K tg J fp it tn) (st : tn 0 s.heap) (hf : ∀ b ∈ fp, FpOk X pins H b)
    (hg : ∀ C s H ex E, PG (cxLC X scope cl M C s H ex E) tg g) (ht : ∀ C s H ex E, PTs (cxLC X scope cl M C s H ex E) ifs tt) (he : ∀ C s H ex E, PE (cxLC X scope cl M C s H ex E) elt te)
    (w0 : W 0 m0 (blank S σ ++ List.replicate M.length none) [] H) (turn : lcBy J g tt te Q W)
    (hR : ∀ D C s' H' ys m, Inv X pins σ (upd H' D (.lst ys)) s' -> FpOk X pins (upd H' D (.lst ys)) C -> s'.heap.Ns C m -> Q (.ref D) (upd H' D (.lst ys)) -> R (.ref D) C (.ok .next) s') :
    wpAny (model X.prog X.w) X.A (newList []) (fun acc s₃ => wpAny (model X.prog X.w) X.A (newFunctionEnv scope X.env.globals cl [] X.env.qual none .none (some X.env)) (fun cenv s₄ =>
      codeAny (model X.prog X.w) X.A (.compStart (.ListComp elt [⟨tg, iter, ifs, 0⟩] scope pos) 0 (.ref it) acc { cenv with scope := relabel scope X.env }) (R acc cenv.locals) s₄) E s₃) E s := by
  refine wpAny_newObj_type (wpAny_newFunctionEnv L.nocell (by intro y hy; simp at hy) (fun h₁ hns₁ hsb₁ => ?_) L.kind)
  dsimp only at hns₁ hsb₁ ⊢
  generalize hG : s.heap.push { cls := .type "list", dict := none, data := .seq ([] : List Value).toArray } = G at hns₁ hsb₁ ⊢
  have hC : G.objs.size = s.heap.objs.size + 1 := by rw [<- hG, Heap.size_push]
  have hDC : s.heap.objs.size ≠ G.objs.size := by rw [hC]; exact Nat.ne_of_lt (Nat.lt_succ_self _)
  have hCle : s.heap.objs.size <= G.objs.size := by rw [hC]; exact Nat.le_succ _
  have old : ∀ b o, s.heap.get? b = some o -> h₁.get? b = some o := fun b o e =>
    hsb₁.extBut b o (by rw [hC]; exact Nat.ne_of_lt (Nat.lt_succ_of_lt (Heap.lt_size e))) (Heap.get?_push_of_some _ (hG ▸ Heap.get?_push_of_some _ e))
  have hacc : h₁.get? s.heap.objs.size = some { cls := .type "list", data := .seq ([] : List Value).toArray } := hsb₁.extBut _ _ hDC (Heap.get?_push_of_some _ (hG ▸ Heap.get?_push_size _ rfl))
  have fpo : ∀ b ∈ fp, b < s.heap.objs.size := fun b hb => let ⟨o, e, _⟩ := T.obj 0 _ st b hb; Heap.lt_size e
  have st1 : tn 0 h₁ := T.keep 0 _ _ st fun b _ o e => old b o e
  have nofs : s.heap.objs.size ∉ frs X.stack := fun z => by
    rcases List.mem_cons.mp (I.stkSub _ z) with q | q
    · exact absurd (q ▸ I.lt) (Nat.lt_irrefl _)
    · exact I.nofs (Nat.le_refl _) q
  have nocl : ∀ y c, cl.lookup y = some c -> c ≠ s.heap.objs.size := fun y c e z => by
    obtain ⟨v, o, ho, _⟩ := I.cell y c (L.sub.get e)
    exact absurd (z ▸ Heap.lt_size ho) (Nat.lt_irrefl _)
  have loop : ∀ s₃ : Shared, s₃ = { s with heap := h₁, toks := s.toks + ([] : List (Str × Value)).length } ->
      codeAny (model X.prog X.w) X.A (.compLoop (.ListComp elt [⟨tg, iter, ifs, 0⟩] scope pos) 0 (.ref it) (.ref s.heap.objs.size) (compEnvC scope cl G.objs.size X.env)) (R (.ref s.heap.objs.size) G.objs.size) s₃ := by
    rintro s₃ rfl
    generalize hE : notedBy (model X.prog X.w) X.A (compEnvC scope cl G.objs.size X.env) (fun e s' => R (.ref s.heap.objs.size) G.objs.size (.error e) s') = E'
    have IY : Inv (cxLC X scope cl M G.objs.size s H fp E') [] (blank S σ ++ List.replicate M.length none) H { s with heap := h₁, toks := s.toks + ([] : List (Str × Value)).length } := lc_start I L hf fpo old hCle hns₁
    refine codeAny_loop rfl (fun n s' => ∃ (i : Nat) (τ : St) (H' : Hp) (ys : List V) (its : List Value) (k : Nat), Inv (cxLC X scope cl M G.objs.size s H fp E') [] τ H' s' /\ tn i s'.heap /\ (∀ b ∈ fp, H' b = none) /\
      s'.heap.get? s.heap.objs.size = some { cls := .type "list", data := .seq its.toArray k } /\ H' s.heap.objs.size = none /\ Vals ys its /\ ys.length <= sizeLine /\ W i n τ ys H') (fun n s' hI => ?_) m0
      ⟨0, _, H, [], [], _, IY, st1, fun b hb => (hf b hb).1, hacc, I.hok.fresh (Nat.le_refl _), .nil, Nat.zero_le _, w0⟩
    obtain ⟨i, τ, H1, ys, its, k, I1, st1, fr1, eD, fD, rv, hz, w1⟩ := hI
    show wpAny _ X.A ((compTurn (.ListComp elt [⟨tg, iter, ifs, 0⟩] scope pos) 0 (.ref it) (.ref s.heap.objs.size) (compEnvC scope cl G.objs.size X.env)).onRaise (fun x => do noteFrame x (compEnvC scope cl G.objs.size X.env); theTreesLotGoes x)) _ _ s'
    refine wpAny_noted ?_
    rw [hE, compTurn_list]
    have I1' : Inv (cxLC X scope cl M G.objs.size s H fp E') [(s.heap.objs.size, { cls := .type "list", data := .seq its.toArray k })] τ H1 s' := I1.pins_of fun p hp => by
      have e : p = (s.heap.objs.size, { cls := .type "list", data := .seq its.toArray k }) := by simpa using hp
      subst e
      exact ⟨eD, fD, hDC, nofs, (fun v z => nomatch z)⟩
    have stat : ∀ {H' : Hp}, (∀ b ∈ fp, H' b = none) -> ∀ b ∈ fp, FpOk (cxLC X scope cl M G.objs.size s H fp E') [(s.heap.objs.size, { cls := .type "list", data := .seq its.toArray k })] H' b := fun hn b hb => by
      refine ⟨hn b hb, ?_, ?_, .inl hb, fun x c e => (hf b hb).2.2.2.2.1 x c (L.sub.get e), fun p hp z => ?_⟩
      · exact Nat.ne_of_lt (Nat.lt_of_lt_of_le (fpo b hb) hCle)
      · intro z
        rcases List.mem_cons.mp (I.stkSub b z) with q | q
        · exact (hf b hb).2.1 q
        · exact (hf b hb).2.2.1 q
      · have e : p = (s.heap.objs.size, { cls := .type "list", data := .seq its.toArray k }) := by
          have hp' : p ∈ [(s.heap.objs.size, ({ cls := .type "list", data := .seq its.toArray k } : Obj))] := hp
          simpa using hp'
        subst e
        exact absurd (z ▸ fpo b hb) (Nat.lt_irrefl _)
    refine wpAny_bind (wpAny_standAt (wpAny_bind ?_))
    rcases turn i n τ ys H1 w1 with ⟨stop, q⟩ | ⟨go, N, hN, step⟩
    · refine thn (T.done (cxLC X scope cl M G.objs.size s H fp E') rfl rfl rfl hc i _ s' τ H1 E' I1' (stat fr1) st1 stop) fun r s4 ⟨hr, I4⟩ => ?_
      subst hr
      refine wpAny_pure ?_
      obtain ⟨eD4, _, _⟩ := I4.pin (s.heap.objs.size, { cls := .type "list", data := .seq its.toArray k }) (List.mem_append_right _ List.mem_cons_self)
      have base4 : Un (frs X.stack) fp H H1 s.heap s4.heap := I4.base
      have un : Un (frs X.stack) fp H (upd H1 s.heap.objs.size (.lst ys)) s.heap s4.heap := ⟨base4.keep, base4.slot, fun b o e n hx => by rw [upd_ne (Nat.ne_of_lt (Heap.lt_size e))]; exact base4.free b o e n hx, base4.there,
        fun b xs e => by rw [upd_ne (ne_of_none (base4.tups b xs e) fD)]; exact base4.tups b xs e, fun b o u e => by rw [upd_ne (ne_of_none (base4.frzs b o u e) fD)]; exact base4.frzs b o u e,
        fun b ps e => by
          obtain ⟨more, w⟩ := base4.tbls b ps e
          exact ⟨more, by rw [upd_ne (ne_of_none w fD)]; exact w⟩⟩
      have hok : HOk X.prog X.w (upd H1 s.heap.objs.size (.lst ys)) s4.heap := fun b u e => by
        by_cases hb : b = s.heap.objs.size
        · subst hb
          rw [upd_same] at e
          cases e
          exact ⟨hz, its, k, rv, eD4⟩
        · rw [upd_ne hb] at e
          exact (I4.hok b u e).stay (fun c v _ q => q) (fun c q => by rw [upd_ne (ne_of_none q fD)]; exact q) fun c xs q => by rw [upd_ne (ne_of_none q fD)]; exact q
      have IX : Inv X pins σ (upd H1 s.heap.objs.size (.lst ys)) s4 := I.call' I4.os un hok I4.bare fun b hb => ⟨(hf b hb).2.2.2.1, (hf b hb).2.1, (hf b hb).2.2.2.2.1, (hf b hb).2.2.2.2.2⟩
      have fC : H1 G.objs.size = none := I4.free
      obtain ⟨m4, n4, _⟩ := I4.loc
      exact hR _ _ s4 H1 ys m4 IX (I.fpOk hCle (by rw [upd_ne (Ne.symm hDC)]; exact fC)) n4 (q _ fD)
    · refine thn (T.item (cxLC X scope cl M G.objs.size s H fp E') rfl rfl rfl hc i _ s' τ H1 E' I1' (stat fr1) st1 go) fun r s4 ⟨u, hr, h4⟩ => ?_
      subst hr
      refine wpAny_bind (thn h4 fun _ s5 ⟨x, H5, I5, r5, y5, st5, fr5⟩ => ?_)
      have I5' := I5.pinned (stat fr5) (T.obj _ _ st5)
      -- what holds behind a turn
      have kept : ∀ {τ6 : St} {H6 : Hp} {s6 : Shared}, Inv (cxLC X scope cl M G.objs.size s H fp E') ([(s.heap.objs.size, { cls := .type "list", data := .seq its.toArray k })] ++ pinsAt fp s5.heap) τ6 H6 s6 ->
          Inv (cxLC X scope cl M G.objs.size s H fp E') [] τ6 H6 s6 /\ tn (i + 1) s6.heap /\ (∀ b ∈ fp, H6 b = none) /\ s6.heap.get? s.heap.objs.size = some { cls := .type "list", data := .seq its.toArray k } /\ H6 s.heap.objs.size = none := fun {τ6 H6 s6} I6 => by
        have pin : ∀ b ∈ fp, ∀ o, s5.heap.get? b = some o -> s6.heap.get? b = some o /\ H6 b = none := fun b hb o e =>
          let w := I6.pin (b, o) (List.mem_append_right _ (List.mem_append_right _ (mem_pinsAt hb e)))
          ⟨w.1, w.2.1⟩
        have pD := I6.pin (s.heap.objs.size, { cls := .type "list", data := .seq its.toArray k }) (List.mem_append_right _ (List.mem_append_left _ List.mem_cons_self))
        refine ⟨I6.pins_of (fun p hp => nomatch hp), T.keep _ _ _ st5 fun b hb o e => (pin b hb o e).1, fun b hb => ?_, pD.1, pD.2.1⟩
        obtain ⟨o, e, _⟩ := T.obj _ _ st5 b hb
        exact (pin b hb o e).2
      refine wpAny_bind (thn (hg _ _ _ _ _ _ s5 τ H5 x u _ I5' r5 (step x H5 y5)) fun _ s6 ⟨σ6, H6, I6, q6⟩ => ?_)
      refine wpAny_bind (thn (ht _ _ _ _ _ _ s6 σ6 H6 _ I6 q6) fun ok s7 ⟨H7, I7, q7⟩ => ?_)
      cases ok with
      | false =>
        have q7' : N σ6 ys H7 := by simpa using q7
        obtain ⟨m', hm, w7⟩ := hN _ _ _ q7'
        obtain ⟨K1, K2, K3, K4, K5⟩ := kept I7
        exact wpAny_pure ⟨rfl, m', hm, i + 1, σ6, H7, ys, its, k, K1, K2, K3, K4, K5, rv, hz, w7⟩
      | true =>
        have q7' : te σ6 H7 fun y H4 => ys.length < sizeLine /\ N σ6 (ys ++ [y]) H4 := by simpa using q7
        refine wpAny_bind (wpAny_bind (thn (he _ _ _ _ _ _ s7 σ6 H7 _ I7 q7') fun y s8 ⟨v8, H8, I8, r8, hz8, n8⟩ => ?_))
        obtain ⟨m', hm, w8⟩ := hN _ _ _ n8
        obtain ⟨K1, K2, K3, K4, K5⟩ := kept I8
        have hl := rv.length
        refine wpAny_bind (wpAny_list_append_plain (hsz := by rw [List.size_toArray]; omega) ⟨k, K4⟩ fun h9 hl9 hs9 => wpAny_pure (wpAny_pure ⟨rfl, m', hm, ?_⟩))
        obtain ⟨k9, e9⟩ := hl9
        have I9 : Inv (cxLC X scope cl M G.objs.size s H fp E') [] σ6 H8 { s8 with heap := h9 } := K1.turned (t' := s8.toks) (it := s.heap.objs.size) (fun b o hb e => (hs9.2 b hb).trans e) K5 hDC (.inr (Nat.le_refl _))
          (fun y c e => nocl y c e) fun p hp => nomatch hp
        refine ⟨i + 1, σ6, H8, ys ++ [v8], its ++ [y], k9, I9, T.keep _ _ _ K2 fun b hb o e => (hs9.2 b (Nat.ne_of_lt (fpo b hb))).trans e, K3, ?_, K5, rv.append (.cons r8 .nil), ?_, w8⟩
        · rw [e9]
          simp
        · rw [List.length_append, List.length_singleton]
          omega
  exact codeAny_compStart_list (loop _ rfl) (T.self X.A 0 _ _ _ st1 (loop _ rfl))
variable {tg elt iter : Expr} {ifs : List Expr} {pos : Pos} {wi : TI} {g : TG} {tt : TT} {te : TE}
theorem pe_lc (L : LcOk X scope cl S) (hc : X.calm = true) (hi : PI X tg iter wi) (hg : ∀ C s H ex E, PG (cxLC X scope cl M C s H ex E) tg g) (ht : ∀ C s H ex E, PTs (cxLC X scope cl M C s H ex E) ifs tt) (he : ∀ C s H ex E, PE (cxLC X scope cl M C s H ex E) elt te)
    (hs : ∀ x, foldedSetIterable iter X.env x = pure x := by intro _; rfl) : PE X (.ListComp elt [⟨tg, iter, ifs, 0⟩] scope pos) (tLCS S wi g tt te M.length) := by
  intro pins s σ H Q I h
  rw [eval_ListComp]
  refine wpAny_comprehension_free (use := none) rfl hs L.clos L.kind L.locs (thn (hi pins s σ H _ I h) fun v s1 h1 => thn h1 fun itv s2 h2 => ?_)
  obtain ⟨it, fp, tn, J, H2, rfl, I2, T, st2, f2, W, ⟨m0, w0⟩, turn⟩ := h2
  refine lc_core (R := fun acc C => compPost (model X.prog X.w) X.A X.xe none (EP X pins σ Q) acc C) L hc I2 T st2 f2 hg ht he w0 turn ?_
  intro D C s' H' ys m IX fC ns q
  exact ⟨m, ns, fun h' sb => ⟨.ref D, _, IX.turned (t' := s'.toks) (fun b o hb e => (sb.2 b hb).trans e) fC.1 fC.2.1 fC.2.2.2.1 fC.2.2.2.2.1 fC.2.2.2.2.2, rfl, q⟩⟩
end
def clOf (scope : Scope) (env : Env) : List (Str × Addr) := scope.names.foldl (fun cs p => if p.2 == .free then (match env.cells.lookup p.1 with | some a => (p.1, a) :: cs | none => cs) else cs) []
theorem clOf_in (env : Env) : ∀ (names : List (Str × NameKind)) (acc : List (Str × Addr)), AllIn env acc -> AllIn env (names.foldl (fun cs p => if p.2 == .free then (match env.cells.lookup p.1 with | some a => (p.1, a) :: cs | none => cs) else cs) acc)
  | [], _, h => h
  | (n, k) :: r, acc, h => by
    rw [List.foldl_cons]
    refine clOf_in env r _ ?_
    by_cases hk : (k == NameKind.free) = true
    · rw [if_pos hk]
      cases e : env.cells.lookup n with
      | none => exact h
      | some a => exact ⟨e, h⟩
    · rw [if_neg hk]
      exact h
section
variable {X : Cx} {scope : Scope} {M : List Str} {tg elt iter : Expr} {ifs : List Expr} {pos : Pos} {wi : TI} {g : TG} {tt : TT} {te : TE}
theorem lcOkS {S : List Nat} (h1 : closureFor scope X.env = pure (clOf scope X.env)) (h2 : scope.kind = .function) (h3 : scope.names.all (fun y => y.2 != .cell) = true) (h4 : scope.names.all (fun y => y.2 != .local || scope.names.lookup y.1 == some .local) = true)
    (h5 : X.N.zipIdx.all (fun y => S.contains y.2 || scope.names.lookup y.1 != some .local) = true) (h6 : scope.names.all (fun p => p.2 != .free || (((clOf scope X.env).lookup p.1).isSome && (X.env.kindOf p.1 == some .cell || X.env.kindOf p.1 == some .free))) = true) :
    LcOk X scope (clOf scope X.env) S := ⟨h1, h2, h3, h4, h5, clOf_in X.env scope.names [] trivial, h6⟩
theorem pe_compS (S : List Nat) (M : List Str) (hc : X.calm = true) (hi : PI X tg iter wi) (hg : ∀ C s H ex E, PG (cxLC X scope (clOf scope X.env) M C s H ex E) tg g) (ht : ∀ C s H ex E, PTs (cxLC X scope (clOf scope X.env) M C s H ex E) ifs tt)
    (he : ∀ C s H ex E, PE (cxLC X scope (clOf scope X.env) M C s H ex E) elt te) (hs : ∀ x, foldedSetIterable iter X.env x = pure x := by intro _; rfl)
    (h1 : closureFor scope X.env = pure (clOf scope X.env) := by with_unfolding_all rfl) (h2 : scope.kind = .function := by rfl) (h3 : scope.names.all (fun y => y.2 != .cell) = true := by rfl) (h4 : scope.names.all (fun y => y.2 != .local || scope.names.lookup y.1 == some .local) = true := by rfl)
    (h5 : X.N.zipIdx.all (fun y => S.contains y.2 || scope.names.lookup y.1 != some .local) = true := by rfl) (h6 : scope.names.all (fun p => p.2 != .free || (((clOf scope X.env).lookup p.1).isSome && (X.env.kindOf p.1 == some .cell || X.env.kindOf p.1 == some .free))) = true := by rfl) :
    PE X (.ListComp elt [⟨tg, iter, ifs, 0⟩] scope pos) (tLCS S wi g tt te M.length) := pe_lc (lcOkS h1 h2 h3 h4 h5 h6) hc hi hg ht he hs
end
section
variable {g : TG} {tt : TT} {te : TE} {Q : VK} {σ : St} {H : Hp}
theorem lc_list {K : PySem.W.Frag} {a : Addr} {xs : List V} (Pv : Nat -> St -> List V -> Hp -> Prop) (h0 : Pv 0 σ [] H) (hl : ∀ i τ ys H, i <= xs.length -> Pv i τ ys H -> SqL K H a xs)
    (hs : ∀ i x τ ys H, xs[i]? = some x -> Pv i τ ys H -> g x τ H fun τ2 H2 => tt τ2 H2 fun b H3 => if b = true then te τ2 H3 fun y H4 => ys.length < sizeLine /\ Pv (i + 1) τ2 (ys ++ [y]) H4 else Pv (i + 1) τ2 ys H3)
    (hd : ∀ τ ys H, Pv xs.length τ ys H -> ∀ p, H p = none -> Q (.ref p) (upd H p (.lst ys))) : ∃ W, (∃ m, W 0 m σ [] H) /\ lcBy (Itl K a) g tt te Q W := by
  refine ⟨fun i m τ ys H => m = xs.length - i /\ i <= xs.length /\ Pv i τ ys H, ⟨xs.length, by simp, Nat.zero_le _, h0⟩, ?_⟩
  rintro i m τ ys H ⟨rfl, hi, p⟩
  have q := hl i τ ys H hi p
  by_cases hlt : i < xs.length
  · refine .inr ⟨⟨xs, xs[i], q, by simp [hlt]⟩, Pv (i + 1), fun τ' ys' H' p' => ⟨xs.length - (i + 1), by omega, rfl, hlt, p'⟩, fun x H' y => ?_⟩
    obtain ⟨e, y⟩ := y
    subst e
    exact hs i x τ ys _ (y xs q) p
  · have e : i = xs.length := by omega
    subst e
    exact .inl ⟨⟨xs, q, Nat.le_refl _⟩, hd τ ys H p⟩
end
end L2
namespace L2
open PySem PySem.Spec PyProof.Rows Builtin Builtin.Str
section
variable {X : Cx} {tg : Expr}
theorem call_isinst : CallR X (.builtin "isinstance") (fun xs H Q => ∃ x t T b, xs = [x, .ty T] /\ TyOf X.K H x t /\ PySem.W.kitOne X.K t (.type T) = some b /\ Q (.bl b) H) := by
  intro pins s σ H xs us Q I r h
  obtain ⟨x, t, T, b, rfl, ty, e, q⟩ := h
  obtain ⟨u, u', rfl, rx, ru⟩ := vals2 r
  cases ru
  exact isinst_ok I rx ty e fun tk => ⟨.bl b, H, I.tok tk, rfl, q⟩
end
end L2
namespace L2
open PySem PySem.Spec PyProof.Rows
def isStar : Expr -> Bool
  | .Starred .. => true
  | _ => false
theorem star_cons {e : Expr} {es : List Expr} {env : Env} (h : isStar e = false) : starEach (e :: es) env = (false, eval e env) :: starEach es env := by
  cases e <;> first
    | rfl
    | exact absurd (show true = false from h) (by decide)
theorem star_any {env : Env} {pos : Pos} : ∀ {es : List Expr}, es.all (fun e => !isStar e) = true -> (backTo pos (starEach es env)).any (·.1) = false
  | [], _ => rfl
  | e :: es, h => by
    rw [List.all_cons, Bool.and_eq_true] at h
    have h1 : isStar e = false := by simpa using h.1
    rw [star_cons h1]
    show (false || (backTo pos (starEach es env)).any (·.1)) = false
    rw [star_any h.2]
    rfl
section
variable {X : Cx} {CX : CXT} {k : Nat} {f C : Addr} {fd : FuncData} {ps : List Str} {sp : Sp} {dvs : List V} {ds : List Value} {E : XK} {x m : Str} {p pos apos : Pos} {e o : Expr} {es : List Expr} {te ta : TE} {t : TA} {id T : String} {r : List V -> Hp -> VK -> Prop}
theorem pa_c (ha : PE X e te) (hr : PA X es t) (h : isStar e = false := by rfl) : PA X (e :: es) (tCons te t) := pa_cons ha hr (star_cons h)
theorem pe_fn (F : FnOk X.prog X.w X.K X.mg X.base CX k f fd ps sp) (hr : Room k X.A) (hg : Gl X x) (hm : X.mg x = some (.ref f)) (hk : PySem.W.keepIn X.K (.ref f) = true) (hb : Binds X.K fd ps ds) (hd : Vals dvs ds) (hx : Passes CX X E)
    (ha : PA X (e :: es) t) (hdb : (x == ("__debug__" : Str)) = false := by decide) (h1 : isStar e = false := by rfl) (h2 : es.all (fun e => !isStar e) = true := by rfl) :
    PE X (.Call (.Name x p) (e :: es) [] pos) (tCall sp dvs E t) := pe_call F hr hg hm hk hb hd hx ha hdb (star_cons h1) (star_any h2)
theorem pe_fnB (hc : CallR X (.builtin id) r) (hg : Gl X x) (hm : X.mg x = none) (hv : bootBuiltins x = some (.builtin id)) (ha : PA X (e :: es) t) (hn : x ≠ "__name__" := by decide) (hdb : (x == ("__debug__" : Str)) = false := by decide)
    (h1 : isStar e = false := by rfl) (h2 : es.all (fun e => !isStar e) = true := by rfl) : PE X (.Call (.Name x p) (e :: es) [] pos) (tCB r t) := pe_callB hc hg hm hv ha hn hdb (star_cons h1) (star_any h2)
theorem pe_fnTy (hc : CallR X (.type T) r) (hg : Gl X x) (hm : X.mg x = none) (hv : bootBuiltins x = some (.type T)) (ha : PA X (e :: es) t) (hn : x ≠ "__name__" := by decide) (hdb : (x == ("__debug__" : Str)) = false := by decide)
    (h1 : isStar e = false := by rfl) (h2 : es.all (fun e => !isStar e) = true := by rfl) : PE X (.Call (.Name x p) (e :: es) [] pos) (tCB r t) := pe_callTy hc hg hm hv ha hn hdb (star_cons h1) (star_any h2)
end
end L2
namespace L2
open PySem PySem.Spec PyProof.Rows
structure jE (X : Cx) (e : Expr) (t : TE) : Prop where
  out : PE X e t
structure jT (X : Cx) (e : Expr) (t : TT) : Prop where
  out : PT X e t
structure jW (X : Cx) (e : Expr) (t : TT) : Prop where
  out : PW X e t
structure jA (X : Cx) (es : List Expr) (t : TA) : Prop where
  out : PA X es t
structure jS (X : Cx) (st : Stmt) (t : TS) : Prop where
  out : PS X st t
structure jSs (X : Cx) (sts : List Stmt) (t : TS) : Prop where
  out : PSs X sts t
structure jG (X : Cx) (tg : Expr) (t : TG) : Prop where
  out : PG X tg t
structure jGs (X : Cx) (tg : List Expr) (t : TGs) : Prop where
  out : PGs X tg t
structure jI (X : Cx) (tg iter : Expr) (t : TI) : Prop where
  out : PI X tg iter t
structure jO (X : Cx) (e : Option Expr) (t : TO) : Prop where
  out : PO X e t
structure jTs (X : Cx) (ifs : List Expr) (t : TT) : Prop where
  out : PTs X ifs t
structure jOp (X : Cx) (f : Value -> Value -> Sem Value) (r : R2) : Prop where
  out : OpR X f r
structure jIx (X : Cx) (r : R2) : Prop where
  out : IxR X r
structure jSl (X : Cx) (r : V -> Option Int -> Option Int -> Hp -> VK -> Prop) : Prop where
  out : SlR X r
structure jMt (X : Cx) (id : String) (r : V -> List V -> Hp -> VK -> Prop) : Prop where
  out : MtR X id r
structure jCa (X : Cx) (f : Value) (r : List V -> Hp -> VK -> Prop) : Prop where
  out : CallR X f r
section
variable {X : Cx} {a b c e o : Expr} {es rest : List Expr} {ta tb tc te to : TE} {t u : TA} {tA tB' : TT} {pos p p2 apos cpos px : Pos} {x y m : Str} {op op' : CmpOp} {bop : Operator} {r r' : R2}
theorem jv (i : Nat) (hN : X.N[i]? = some x := by rfl) (hv : Vis X.env.scope x := by first | exact Or.inl rfl | exact Or.inr (Or.inl rfl) | exact Or.inr (Or.inr rfl)) (hd : (x == ("__debug__" : Str)) = false := by decide)
    (hcd : (x == ("__classdict__" : Str)) = false := by decide) : jE X (.Name x pos) (tVar i) := ⟨pv i hN hv hd hcd⟩
theorem je_int {i j} : jE X (.Constant (.int i) j pos) (tC (.int i)) := ⟨pe_int⟩
theorem je_bl {b j} : jE X (.Constant (.bool b) j pos) (tC (.bl b)) := ⟨pe_bl⟩
theorem je_str {x j} : jE X (.Constant (.str x) j pos) (tC (.str x)) := ⟨pe_str⟩
theorem je_bltn {v : V} {w : Value} (hg : Gl X x) (hm : X.mg x = none) (hv : bootBuiltins x = some w) (r : RelV v w) (hn : x ≠ "__name__" := by decide) (hd : (x == ("__debug__" : Str)) = false := by decide) : jE X (.Name x pos) (tC v) := ⟨pe_bltn hg hm hv r hn hd⟩
theorem je_op (ho : jOp X (binaryOp bop) r) (ha : jE X a ta) (hb : jE X b tb) : jE X (.BinOp a bop b pos) (tOp r ta tb) := ⟨pe_op ho.out ha.out hb.out⟩
theorem je_neg (ha : jE X a ta) : jE X (.UnaryOp .USub a pos) (tUn (rU fun i => .int (-i)) ta) := ⟨pe_un un_neg ha.out⟩
theorem jt_cmpR (ho : jOp X (compareOp op) r) (ha : jE X a ta) (hb : jE X b tb) (hm : behindInMarks op b = false) : jT X (.Compare a [op] [b] pos) (tTest (tOp r ta tb)) := ⟨pt_cmpR ho.out ha.out hb.out hm⟩
theorem jt_val (h : jE X e te) (he : ∀ whole, isTrue e X.env whole = (do let v <- whole; standAt e.pos; holding [v] (truthy v)) := by intro _; rfl) : jT X e (tB te) := ⟨pt_val h.out he⟩
theorem jw_and1 (ha : jT X a tA) : jW X (.BoolOp .And [a] pos) tA := ⟨pw_and1 ha.out⟩
theorem jw_or1 (ha : jT X a tA) : jW X (.BoolOp .Or [a] pos) tA := ⟨pw_or1 ha.out⟩
theorem jw_and (ha : jT X a tA) (hb : jW X (.BoolOp .And (b :: rest) pos) tB') : jW X (.BoolOp .And (a :: b :: rest) pos) (tAnd tA tB') := ⟨pw_and ha.out hb.out⟩
theorem jw_or (ha : jT X a tA) (hb : jW X (.BoolOp .Or (b :: rest) pos) tB') : jW X (.BoolOp .Or (a :: b :: rest) pos) (tOr tA tB') := ⟨pw_or ha.out hb.out⟩
theorem jW.pt (h : jW X e tA) : jT X e tA := ⟨PW.pt h.out⟩
theorem jt_not (ha : jT X a tA) : jT X (.UnaryOp .Not a pos) (tNot tA) := ⟨pt_not ha.out⟩
theorem je_one {op} (h : jE X a te) : jE X (.BoolOp op [a] pos) te := ⟨pe_one h.out⟩
theorem je_and (ha : jE X a ta) (hb : jE X (.BoolOp .And (b :: rest) pos) tb) : jE X (.BoolOp .And (a :: b :: rest) pos) (tAndV ta tb) := ⟨pe_and ha.out hb.out⟩
theorem ja_nil : jA X [] tNil := ⟨pa_nil⟩
theorem ja_c (ha : jE X e te) (hr : jA X es t) (h : isStar e = false := by rfl) : jA X (e :: es) (tCons te t) := ⟨pa_c ha.out hr.out h⟩
theorem je_lst (h : jA X es t) : jE X (.List es pos) (tLst t) := ⟨pe_lst h.out⟩
theorem je_tup {x1} (h : jA X es t) : jE X (.Tuple es x1 pos) (tTup t) := ⟨pe_tup h.out⟩
theorem je_ix (hr : jIx X r) (ha : jE X a ta) (hb : jE X b tb) (hs : PlainIx b) : jE X (.Subscript a b pos) (tOp r ta tb) := ⟨pe_ix hr.out ha.out hb.out hs⟩
theorem jo_none : jO X none tNoPart := ⟨po_none⟩
theorem jo_some (h : jE X e te) : jO X (some e) (tPart te) := ⟨po_some h.out⟩
theorem je_slice {r : V -> Option Int -> Option Int -> Hp -> VK -> Prop} {lo hi : Option Expr} {tl th : TO} (hr : jSl X r) (he : jE X e te) (hl : jO X lo tl) (hu : jO X hi th) : jE X (.Subscript e (.Slice lo hi none p2) pos) (tSl r te tl th) := ⟨pe_slice hr.out he.out hl.out hu.out⟩
variable {CX : CXT} {k : Nat} {f C : Addr} {fd : FuncData} {ps : List Str} {sp : Sp} {dvs : List V} {ds : List Value} {E : XK} {id T : String} {rc : List V -> Hp -> VK -> Prop} {rm : V -> List V -> Hp -> VK -> Prop}
theorem je_fn (F : FnOk X.prog X.w X.K X.mg X.base CX k f fd ps sp) (hr : Room k X.A) (hg : Gl X x) (hm : X.mg x = some (.ref f)) (hk : PySem.W.keepIn X.K (.ref f) = true) (hb : Binds X.K fd ps ds) (hd : Vals dvs ds) (hx : Passes CX X E)
    (ha : jA X (e :: es) t) (hdb : (x == ("__debug__" : Str)) = false := by decide) (h1 : isStar e = false := by rfl) (h2 : es.all (fun e => !isStar e) = true := by rfl) :
    jE X (.Call (.Name x p) (e :: es) [] pos) (tCall sp dvs E t) := ⟨pe_fn F hr hg hm hk hb hd hx ha.out hdb h1 h2⟩
theorem je_fnB (hc : jCa X (.builtin id) rc) (hg : Gl X x) (hm : X.mg x = none) (hv : bootBuiltins x = some (.builtin id)) (ha : jA X (e :: es) t) (hn : x ≠ "__name__" := by decide) (hdb : (x == ("__debug__" : Str)) = false := by decide)
    (h1 : isStar e = false := by rfl) (h2 : es.all (fun e => !isStar e) = true := by rfl) : jE X (.Call (.Name x p) (e :: es) [] pos) (tCB rc t) := ⟨pe_fnB hc.out hg hm hv ha.out hn hdb h1 h2⟩
theorem je_fnTy (hc : jCa X (.type T) rc) (hg : Gl X x) (hm : X.mg x = none) (hv : bootBuiltins x = some (.type T)) (ha : jA X (e :: es) t) (hn : x ≠ "__name__" := by decide) (hdb : (x == ("__debug__" : Str)) = false := by decide)
    (h1 : isStar e = false := by rfl) (h2 : es.all (fun e => !isStar e) = true := by rfl) : jE X (.Call (.Name x p) (e :: es) [] pos) (tCB rc t) := ⟨pe_fnTy hc.out hg hm hv ha.out hn hdb h1 h2⟩
theorem je_bm0 {name : Str} (pa : PlainAttrs T) (slot : Slot T name id) (hty : typeOf (.builtin id) = pure (.type "method_descriptor")) (hm : jMt X id rm) (ho : jE X o to)
    (hbase : attributeBase o name X.env (eval o X.env) = eval o X.env := by rfl) (hline : (apos.endLine == cpos.line) = true := by rfl) : jE X (.Call (.Attribute o name apos) [] [] cpos) (tBM0 X.K T rm to) := ⟨pe_bm0 pa slot hty hm.out ho.out hbase hline⟩
theorem je_bm {name : Str} (pa : PlainAttrs T) (slot : Slot T name id) (hty : typeOf (.builtin id) = pure (.type "method_descriptor")) (hm : jMt X id rm) (ho : jE X o to) (ha : jA X (e :: es) t)
    (hbase : attributeBase o name X.env (eval o X.env) = eval o X.env := by rfl)
    (hfew : ((backTo cpos (starEach (e :: es) X.env)).all (fun x => !x.1) && (backToKw cpos (keywordEach [] X.env)).all (fun x => x.1.isSome)
      && decide ((e :: es).length + ([] : List Keyword).length + (if ([] : List Keyword).isEmpty then 0 else 1) < 30)) = true := by rfl)
    (hline : (apos.endLine == cpos.line) = true := by rfl) (h1 : isStar e = false := by rfl) (h2 : es.all (fun e => !isStar e) = true := by rfl) :
    jE X (.Call (.Attribute o name apos) (e :: es) [] cpos) (tBM X.K T rm to t) := ⟨pe_bm pa slot hty hm.out ho.out ha.out hbase hfew hline (star_cons h1) (star_any h2)⟩
variable {st : Stmt} {sts : List Stmt} {s1 s2 : TS} {tg iter elt : Expr} {g : TG} {wi : TI} {tb1 : TS} {ifs : List Expr} {tt : TT}
theorem jss_nil : jSs X [] tNext := ⟨pss_nil⟩
theorem jss_cons (h1 : jS X st s1) (h2 : jSs X sts s2) : jSs X (st :: sts) (tSeq s1 s2) := ⟨pss_cons h1.out h2.out⟩
theorem jss_one (h1 : jS X st s1) : jSs X [st] s1 := ⟨pss_one h1.out⟩
theorem js_expr (he : jE X e te) (hs : swapsWith e none pos.line X.env = pure false := by rfl) : jS X (.Expr e pos) (tDrop te) := ⟨ps_expr he.out hs⟩
theorem js_ret (he : jE X e te) : jS X (.Return (some e) pos) (tRet te) := ⟨ps_ret he.out⟩
theorem js_if {A B : List Stmt} (hc : jT X c tA) (ha : jSs X A s1) (hb : jSs X B s2) : jS X (.If c A B pos) (tIfS tA s1 s2) := ⟨ps_if hc.out ha.out hb.out⟩
theorem js_set {i : Nat} {pos' : Pos} (hN : X.N.Nodup) (hi : X.N[i]? = some x) (hx : Loc X.env.scope x) (he : jE X e te) (hs : swapsWith e (some (.Name x pos')) pos.line X.env = pure false := by rfl)
    (hf : X.fn x = true \/ X.env.scope.names.lookup x = some .local := by first | exact .inl rfl | exact .inr rfl | assumption) : jS X (.Assign [.Name x pos'] e pos) (tAsg te (gName i)) := ⟨ps_set hN hi hx he.out hs hf⟩
theorem jg_name {i : Nat} (hN : X.N.Nodup) (hi : X.N[i]? = some x) (hx : Loc X.env.scope x) (hf : X.fn x = true \/ X.env.scope.names.lookup x = some .local := by first | exact .inl rfl | exact .inr rfl | assumption) : jG X (.Name x pos) (gName i) := ⟨pg_name hN hi hx hf⟩
theorem jgs_nil : jGs X [] gNil := ⟨pgs_nil⟩
theorem jgs_cons {g : TG} {gs : TGs} (h1 : jG X e g) (h2 : jGs X es gs) (hs : (assignEach (e :: es) X.env).map (·.2) = assign e X.env :: (assignEach es X.env).map (·.2) := by rfl) : jGs X (e :: es) (gCons g gs) := ⟨pgs_cons h1.out h2.out hs⟩
theorem jg_tup {k : Nat} {gs : TGs} {n : Nat} (hc : X.calm = true) (h : jGs X es gs) (hn : (assignEach es X.env).length = n := by rfl) (hst : (assignEach es X.env).findIdx? (·.1) = none := by rfl) : jG X (.Tuple es k pos) (gTup X.K n gs) := ⟨pg_tup hc h.out hn hst⟩
theorem ji_list {l : Expr} {tl : TE} (hl : jE X l tl) : jI X tg l (iList X.K tl) := ⟨pi_list hl.out⟩
theorem ji_tup {l : Expr} {tl : TE} (hl : jE X l tl) : jI X tg l (iTup X.K tl) := ⟨pi_tup hl.out⟩
theorem ji_range1 (hg : Gl X "range") (hm : X.mg "range" = none) (ha : jA X [a] t) (h : isStar a = false := by rfl) : jI X tg (.Call (.Name "range" p) [a] [] pos) (iRng1 t) := ⟨pi_range1 hg hm ha.out (star_cons h)⟩
theorem js_for (hp : PassesOwn (model X.prog X.w) X.A X.env X.xe) (hc : X.calm = true) (hi : jI X tg iter wi) (hg : jG X tg g) (hb : jSs X sts tb1) (hs : ∀ x, foldedSetIterable iter X.env x = pure x := by intro _; rfl) : jS X (.For tg iter sts [] pos) (tFor wi g tb1) := ⟨ps_for hp hc hi.out hg.out hb.out hs⟩
theorem jts_nil : jTs X [] tYes := ⟨pts_nil⟩
theorem je_compS {scope : Scope} (S : List Nat) (M : List Str) (hc : X.calm = true) (hi : jI X tg iter wi) (hg : ∀ C s H ex E, jG (cxLC X scope (clOf scope X.env) M C s H ex E) tg g) (ht : ∀ C s H ex E, jTs (cxLC X scope (clOf scope X.env) M C s H ex E) ifs tt)
    (he : ∀ C s H ex E, jE (cxLC X scope (clOf scope X.env) M C s H ex E) elt te) (hs : ∀ x, foldedSetIterable iter X.env x = pure x := by intro _; rfl)
    (h1 : closureFor scope X.env = pure (clOf scope X.env) := by with_unfolding_all rfl) (h2 : scope.kind = .function := by rfl) (h3 : scope.names.all (fun y => y.2 != .cell) = true := by rfl) (h4 : scope.names.all (fun y => y.2 != .local || scope.names.lookup y.1 == some .local) = true := by rfl)
    (h5 : X.N.zipIdx.all (fun y => S.contains y.2 || scope.names.lookup y.1 != some .local) = true := by rfl) (h6 : scope.names.all (fun p => p.2 != .free || (((clOf scope X.env).lookup p.1).isSome && (X.env.kindOf p.1 == some .cell || X.env.kindOf p.1 == some .free))) = true := by rfl) :
    jE X (.ListComp elt [⟨tg, iter, ifs, 0⟩] scope pos) (tLCS S wi g tt te M.length) := ⟨pe_compS S M hc hi.out (fun C s H ex E => (hg C s H ex E).out) (fun C s H ex E => (ht C s H ex E).out) (fun C s H ex E => (he C s H ex E).out) hs h1 h2 h3 h4 h5 h6⟩
theorem jo_mul : jOp X (binaryOp .Mult) (rI CMul fun i j => .int (i * j)) := ⟨op_mul⟩
theorem jo_fdiv : jOp X (binaryOp .FloorDiv) (rI CDiv fun i j => .int (i / j)) := ⟨op_fdiv⟩
theorem jo_mod : jOp X (binaryOp .Mod) (rI (fun _ j => 0 < j) fun i j => .int (i % j)) := ⟨op_mod⟩
theorem jo_pow : jOp X (binaryOp .Pow) (rI CPow fun i j => .int (i ^ j.toNat)) := ⟨op_pow⟩
theorem jo_eq : jOp X (compareOp .Eq) rEq := ⟨op_eq⟩
theorem jo_lt : jOp X (compareOp .Lt) (rI0 fun i j => .bl (decide (i < j))) := ⟨op_lt⟩
theorem jo_add_str : jOp X (binaryOp .Add) (fun x y H Q => ∃ i j, x = .str i /\ y = .str j /\ i.length + j.length <= sizeLine /\ Q (.str (i ++ j)) H) := ⟨op_add_str⟩
theorem jx_list : jIx X (rIxL X.K) := ⟨ix_list⟩
theorem jx_str : jIx X rIxS := ⟨ix_str⟩
theorem jl_list : jSl X (rSlL X.K) := ⟨sl_list⟩
theorem jm_append : jMt X "list.append" rAppend := ⟨mt_append⟩
theorem jm_extend : jMt X "list.extend" rExtend := ⟨mt_extend⟩
theorem jc_len_str : jCa X (.builtin "len") (fun xs H Q => ∃ z, xs = [.str z] /\ z.length <= sizeLine /\ Q (.int z.length) H) := ⟨call_len_str⟩
theorem jc_len_seq : jCa X (.builtin "len") (fun xs H Q => ∃ p ys, xs = [.ref p] /\ (SqL X.K H p ys \/ SqT X.K H p ys) /\ Q (.int ys.length) H) := ⟨call_len_seq⟩
theorem jc_isinst : jCa X (.builtin "isinstance") (fun xs H Q => ∃ x t T b, xs = [x, .ty T] /\ TyOf X.K H x t /\ PySem.W.kitOne X.K t (.type T) = some b /\ Q (.bl b) H) := ⟨call_isinst⟩
theorem jc_tuple_of : jCa X (.type "tuple") (fun xs H Q => ∃ p ys, xs = [.ref p] /\ ((SqL X.K H p ys /\ ∀ l, H l = none -> Q (.ref l) (upd H l (.tup ys))) \/ (SqT X.K H p ys /\ Q (.ref p) H))) := ⟨call_tuple_of⟩
end
section
variable {P : Program} {w : World} {K : PySem.W.Frag} {mg : Str -> Option Value} {base : Heap}
theorem Fun.by {x qual : Str} {st : Stmt} {f : Addr} {fd : FuncData} {N ps : List Str} {k : Nat} {sp : Sp} (F : Fun K x qual st f fd) (S : FnScope N ps (defScope st)) (len : ∀ vs H Q E, sp vs H Q E -> vs.length = ps.length)
    (hbody : ∀ (cdv : Value) (A : Around) (outer : List Env) (s : Shared) (H : Hp) (vs : List V) (Q : VK) (E : XK), Room k (A.deeper (envOfC qual (defScope st) s.heap.objs.size f cdv)) -> sp vs H Q E ->
      ∃ t, jSs (cxOf CX0 P w K mg base N qual (defScope st) f cdv A outer s H E).nox (defBody st) t /\ t { nx := fun _ H' => Q .non H', rt := Q } (start N vs) H) : FnOk P w K mg base CX0 (k + 1) f fd ps sp :=
  F.ok S len fun cdv A outer s H vs Q E hr h => let ⟨t, b, q⟩ := hbody cdv A outer s H vs Q E hr h; ⟨t, b.out, q⟩
end
end L2
namespace L2
open PySem
structure Mv (fs xs : List Addr) (h h' : Heap) : Prop where
  keep : ∀ b o, h.get? b = some o -> b ∉ fs -> b ∉ xs -> h'.get? b = some o
  slot : ∀ b o, h.get? b = some o -> b ∉ xs -> ∃ sl, h'.get? b = some { o with slots := sl }
  there : ∀ b o, h.get? b = some o -> ∃ o', h'.get? b = some o'
theorem Mv.refl {fs xs : List Addr} {h : Heap} : Mv fs xs h h := ⟨fun _ _ e _ _ => e, fun _ o e _ => ⟨o.slots, e⟩, fun _ o e => ⟨o, e⟩⟩
theorem Mv.trans {fs xs : List Addr} {h h1 h2 : Heap} (a : Mv fs xs h h1) (b : Mv fs xs h1 h2) : Mv fs xs h h2 :=
  ⟨fun c o e f x => b.keep c o (a.keep c o e f x) f x, fun c o e x => let ⟨_, e1⟩ := a.slot c o e x; let ⟨sl, e2⟩ := b.slot c _ e1 x; ⟨sl, e2⟩, fun c o e => let ⟨o1, e1⟩ := a.there c o e; b.there c o1 e1⟩
structure Tr (h : Heap) (e : Addr) (C : Value) (dx : Option Addr) (T : Addr) (fl : Value) : Prop where
  ex : ∃ oe vs, h.get? e = some oe /\ oe.cls = C /\ oe.dict = dx /\ oe.data = .fields vs /\ vs[1]? = some (.ref T)
  tb : ∃ ot ts, h.get? T = some ot /\ ot.data = .fields ts /\ ts[3]? = some fl
  ne : T ≠ e
section
variable {M : Model} {A : Around} {E : Value -> Shared -> Prop} {s : Shared} {base : Heap} {env : Env} {outer : List Env} {L e T : Addr} {C : Value} {dx : Option Addr} {Q : Unit -> Shared -> Prop}
end
end L2
namespace L2
open PySem PySem.Spec PyProof.Rows
section
variable {P : Program} {w : World} {K : PySem.W.Frag} {mg : Str -> Option Value} {base : Heap} {N : List Str} {qual : Str} {scope : Scope} {f : Addr} {cd : Value} {A : Around} {outer : List Env} {s : Shared} {H : Hp} {E : XK}
end
end L2
namespace L2
open PySem
section
variable {M : Model} {A : Around} {E : Value -> Shared -> Prop} {env : Env} {nm q : Str} {C N : Addr} {bs bm : List Value} {hdct : Bool} {sn : List Str} {sub : List Value} {ab : Bool} {col : Option Bool} {dd : Option Addr} {k0 k1 k2 k3 k5 : Option Value} {newId : String}
end
section
variable {prog : Program} {w : World} {A : Around} {E : Value -> Shared -> Prop} {h : Heap} {g : Array GenState} {d : Drawn} {t : Nat} {os : OsState}
variable {nm q : Str} {C N f : Addr} {bs bm bmB : List Value} {hdct : Bool} {sn : List Str} {sub : List Value} {ab : Bool} {col : Option Bool} {dd : Option Addr} {k0 k1 k2 k3 k5 : Option Value} {B Bn newId nid initId inN : String} {bmN : List Value}
end
end L2
namespace L2
open PySem PySem.W PySem.Calls PyProof.Rows Builtin Builtin.ObjectAttr
def bmV : List Value := [.type "ValueError", .type "Exception", .type "BaseException", .type "object"]
def overV : List Value -> Bool
  | [] => false
  | v :: r => (v :: r) == bmV || (match v with
    | .ref _ => overV r
    | _ => false)
def overIn (K : Frag) (C : Addr) : Bool := (clsIn K C).any fun cd => overV cd.mro
section
variable {prog : Program} {w : World} {A : Around} {E : Value -> Shared -> Prop} {K : Frag} {C e : Addr} {s : Shared} {ox : Obj} {od : Option Obj} {name : Str} {R : Result -> Shared -> Prop}
end
end L2
namespace L2
open PySem PySem.Spec PyProof.Rows
def XO (e C : Addr) (dx : Option Addr) : HO := .ext fun h => ∃ oe vs t0, h.get? e = some oe /\ oe.cls = .ref C /\ oe.dict = dx /\ oe.data = .fields vs /\ vs[0]? = some (.ref t0) /\ vs[1]? = some .none
theorem XO.ok {P : Program} {w : World} {H : Hp} {h : Heap} {e C : Addr} {dx : Option Addr} (p : ∃ oe vs t0, h.get? e = some oe /\ oe.cls = .ref C /\ oe.dict = dx /\ oe.data = .fields vs /\ vs[0]? = some (.ref t0) /\ vs[1]? = some .none) : ObjOk P w H h e (XO e C dx) :=
  ⟨p, let ⟨oe, _, _, q, _⟩ := p; ⟨oe, q⟩, fun _ _ ⟨oe, vs, t0, a, r⟩ k => ⟨oe, vs, t0, k oe a, r⟩⟩
theorem XO.get {P : Program} {w : World} {H : Hp} {h : Heap} {e C : Addr} {dx : Option Addr} (x : HOk P w H h) (q : H e = some (XO e C dx)) : ∃ oe vs t0, h.get? e = some oe /\ oe.cls = .ref C /\ oe.dict = dx /\ oe.data = .fields vs /\ vs[0]? = some (.ref t0) /\ vs[1]? = some .none :=
  (show ObjOk P w H h e (.ext _) from x e _ q).1
def XD (d : Addr) (fs : List (Str × V)) : HO := .ext fun h => ∃ mA, h.Ns1 d mA /\ (∀ f, RelO (fs.lookup f) (mA f)) /\ PySem.Within mA (fs.map (·.1)) /\ fs.length <= 1000
theorem XD.ok {P : Program} {w : World} {H : Hp} {h : Heap} {d : Addr} {fs : List (Str × V)} (p : ∃ mA, h.Ns1 d mA /\ (∀ f, RelO (fs.lookup f) (mA f)) /\ PySem.Within mA (fs.map (·.1)) /\ fs.length <= 1000) : ObjOk P w H h d (XD d fs) :=
  ⟨p, let ⟨_, ⟨o, _, _, q, _⟩, _⟩ := p; ⟨o, q⟩, fun _ _ ⟨mA, n, r⟩ k => ⟨mA, n.at k, r⟩⟩
theorem XD.get {P : Program} {w : World} {H : Hp} {h : Heap} {d : Addr} {fs : List (Str × V)} (x : HOk P w H h) (q : H d = some (XD d fs)) : ∃ mA, h.Ns1 d mA /\ (∀ f, RelO (fs.lookup f) (mA f)) /\ PySem.Within mA (fs.map (·.1)) /\ fs.length <= 1000 :=
  (show ObjOk P w H h d (.ext _) from x d _ q).1
def xIn (K : PySem.W.Frag) (C f : Addr) : Bool := match K.lookup C with
  | some ⟨.type "type", _, .cls cd, sl⟩ => (match cd.mro, sl.toList with
    | .ref C' :: bm, [_, _, _, _, some (.builtin n), _] => C' == C && n == "ValueError.__new__" && !cd.hasDel && PySem.W.tailIn K bmV bm && PySem.W.nsOkIn K cd.ns && PySem.W.nsIn K cd.ns "__init__" == some (some (.ref f)) && bm.contains (.type "BaseException")
    | _, _ => false)
  | _ => false
structure XCl (K : PySem.W.Frag) (C f : Addr) : Prop where
  cls : xIn K C f = true
  fn : PySem.W.typeIn K (.ref f) = some (.type "function")
  kp : PySem.W.keepIn K (.ref C) = true
  over : overIn K C = true
  sa : PySem.W.findIn K (.ref C) "__setattr__" = some (some (.builtin "object.__setattr__"))
  hd : (PySem.W.clsIn K C).any (·.hasDict) = true
  ga : PySem.W.findIn K (.ref C) "__getattribute__" = some (some (.builtin "BaseException.__getattribute__"))
  ha : PySem.W.findIn K (.ref C) "__getattr__" = some none
  sb : PySem.W.subIn K (.ref C) (.type "BaseException") = some true
theorem ns_some {K : PySem.W.Frag} {h : Heap} {N : Addr} {mg : Str -> Option Value} {n : Str} {v : Value} (X : K.In h) (G : h.Ns N mg) (e : PySem.W.nsIn K N n = some (some v)) : mg n = some v := by
  obtain ⟨o, es, ep, ho, hd, _, hf⟩ := G
  unfold PySem.W.nsIn at e
  split at e
  · rename_i c d es' n' sl q
    have := X _ _ q
    rw [ho] at this
    cases this
    cases hd
    split at e
    · rename_i en he
      cases e
      rw [<- hf]
      unfold nsFind findBy
      rw [<- Array.find?_toList, he]
      rfl
    · split at e <;> cases e
  · cases e
theorem XCl.at {K : PySem.W.Frag} {C f : Addr} (c : XCl K C f) {h : Heap} (X : K.In h) : ∃ nm q N bs bm hdct sn sub ab col dd k0 k1 k2 k3 k5 mN, h.get? C = some (excClassObj nm q C N bs bm hdct sn sub ab col dd k0 k1 k2 k3 k5 "ValueError.__new__") /\
    OwnTail h bmV bm /\ h.Ns N mN /\ mN "__init__" = some (.ref f) /\ bm.contains (.type "BaseException") = true := by
  have q := c.cls
  unfold xIn at q
  split at q
  · rename_i dd cd sl ho
    split at q
    · rename_i C' bm k0 k1 k2 k3 n k5 hm hs
      simp only [Bool.and_eq_true, beq_iff_eq, Bool.not_eq_true'] at q
      obtain ⟨⟨⟨⟨⟨⟨rfl, rfl⟩, hdel⟩, ht⟩, hok⟩, hi⟩, hb⟩ := q
      obtain ⟨nm, bs, mro, ns, qn, hd, sn, sub, ab, col, del⟩ := cd
      dsimp only at hm hdel hok hi
      subst hm hdel
      have es : sl = #[k0, k1, k2, k3, some (.builtin "ValueError.__new__"), k5] := by
        obtain ⟨l⟩ := sl
        simp only at hs
        rw [hs]
      subst es
      have nN := PySem.Heap.Ns.of_isNs (PySem.W.isNs_of_in X hok)
      exact ⟨nm, qn, ns, bs, bm, hd, sn, sub, ab, col, dd, k0, k1, k2, k3, k5, _, X _ _ ho, PySem.W.tail_of_in X ht, nN, ns_some X nN hi, hb⟩
    · cases q
  · cases q
def drp (H : Hp) (e : Addr) : Hp := fun b => if b = e then none else H b
theorem drp_same {H : Hp} {e : Addr} : drp H e e = none := if_pos rfl
theorem drp_ne {H : Hp} {e b : Addr} (h : b ≠ e) : drp H e b = H b := if_neg h
theorem Inv.drop {X : Cx} {pins : List (Addr × Obj)} {σ : St} {H : Hp} {s : Shared} {e : Addr} {φ : Heap -> Prop} (I : Inv X pins σ H s) (he : H e = some (.ext φ)) : Inv X pins σ (drp H e) s := by
  have no : ∀ b, H b = none -> drp H e b = none := fun b h => by
    by_cases q : b = e
    · rw [q]
      exact drp_same
    · rw [drp_ne q]
      exact h
  have nx : ∀ (b : Addr) (o : HO), H b = some o -> (∀ ψ, o ≠ .ext ψ) -> drp H e b = some o := fun b o h n => by
    have q : b ≠ e := fun z => by
      rw [z, he] at h
      cases h
      exact n _ rfl
    rw [drp_ne q]
    exact h
  refine ⟨I.ok, I.os, I.bare, ⟨I.base.keep, I.base.slot, fun b o q n x => no b (I.base.free b o q n x), I.base.there, fun b xs q => nx _ _ (I.base.tups b xs q) (by intro ψ z; cases z), fun b o u q => nx _ _ (I.base.frzs b o u q) (by intro ψ z; cases z), fun b ps q => ?_⟩, I.loc, I.cell, no _ I.free, fun x c q => no _ (I.freeC x c q), fun p hp => ?_, fun a o q => ?_, I.len⟩
  · obtain ⟨m, r⟩ := I.base.tbls b ps q
    exact ⟨m, nx _ _ r (by intro ψ z; cases z)⟩
  · obtain ⟨a, b, c⟩ := I.pin p hp
    exact ⟨a, no _ b, c⟩
  · have na : a ≠ e := fun z => by
      rw [z, drp_same] at q
      cases q
    rw [drp_ne na] at q
    exact (I.hok a o q).stay (fun _ _ _ z => z) (fun b z => nx b _ z (by intro ψ y; cases y)) fun b xs z => nx b _ z (by intro ψ y; cases y)
section
variable {X : Cx} {k : Nat} {f C : Addr} {fd : FuncData} {ps : List Str} {sp : Sp} {E : XK} {x : Str} {np cpos pos : Pos} {a : Expr} {as : List Expr} {t : TA}
end
structure XBase (K : PySem.W.Frag) (R : Addr) : Prop where
  sp : PySem.W.specialIn K (.ref R) "__getattribute__" = some (some (.builtin "type.__getattribute__"))
  rd : PySem.W.readsIn K R (.type "type") = true
  fi : PySem.W.findCls K (.ref R) (.type "type") "__init__" = some (.val (.builtin "ValueError.__init__"))
section
variable {X : Cx} {f C R : Addr} {x m : Str} {np apos pos pos' : Pos} {a o e value : Expr} {as : List Expr} {t : TA} {ta tv te : TE}
end
end L2
namespace L2
open PySem PySem.Spec PyProof.Rows
section
variable {X : Cx} {pins : List (Addr × Obj)} {σ : St} {H : Hp} {s : Shared} {h' : Heap} {xs : List Addr}
theorem Inv.apart (I : Inv X pins σ H s) {b : Addr} {o : Obj} {vs : Array Value} (q : s.heap.get? b = some o) (d : o.data = .fields vs) : b ≠ X.env.locals /\ ∀ x c, X.env.cells.lookup x = some c -> c ≠ b := by
  refine ⟨fun z => ?_, fun x c e z => ?_⟩
  · obtain ⟨m, ⟨o', es, ep, ho, hd, _⟩, _⟩ := I.loc
    rw [z, ho] at q
    cases q
    rw [hd] at d
    cases d
  · obtain ⟨v, o', ho, hd⟩ := I.cell x c e
    rw [z, q] at ho
    cases ho
    rw [d] at hd
    cases hd
end
abbrev Ends.behind (D : Ends) (i : Nat) : Ends := { nx := fun σ H => D.nx (σ.set i none) H, rt := D.rt, bk := fun σ H => D.bk (σ.set i none) H, ct := fun σ H => D.ct (σ.set i none) H }
section
variable {X : Cx} {Ch : Addr} {x n : Str} {i : Nat} {np hpos tpos : Pos} {b0 : Stmt} {suite : List Stmt} {th : Addr -> Obj -> TS}
variable {k : Nat} {f : Addr} {fd : FuncData} {ps : List Str} {sp : Sp} {y : Str} {p cpos epos : Pos} {a : Expr} {as : List Expr} {t : TA}
end
end L2
namespace L2
open PySem PySem.Spec PyProof.Rows
section
variable {X : Cx} {pins : List (Addr × Obj)} {σ : St} {H : Hp} {s : Shared} {h' : Heap}
theorem Inv.turns {t' : Nat} {ch : List Addr} (I : Inv X pins σ H s) (k : ∀ b o, b ∉ ch -> s.heap.get? b = some o -> h'.get? b = some o) (hf : ∀ b ∈ ch, FpOk X pins H b) : Inv X pins σ H { s with heap := h', toks := t' } := by
  have nit : ∀ b u, H b = some u -> b ∉ ch := fun b u e z => by rw [(hf b z).1] at e; cases e
  refine I.call (g' := s.gens) (d' := s.drawn) (t' := t') (ch := ch) ⟨fun b o q _ _ x => k b o x q, fun b o q _ _ x => ⟨o.slots, k b o x q⟩, fun _ _ _ n _ => n, fun b o q x => ⟨o, k b o x q⟩, fun _ _ q => q, fun _ _ _ q => q, fun _ ps q => ⟨#[], by rw [q]; simp⟩⟩
    (fun b u e => (I.hok b u e).stay (fun c v hc q => k c v ?_ q) (fun _ q => q) fun _ _ q => q) I.bare fun b hb => ?_
  · rcases hc with z | z
    · rw [z]; exact nit b u e
    · exact nit c _ z
  · obtain ⟨f0, f1, f2, f3, f4, f5⟩ := hf b hb
    exact ⟨f3, f1, f4, f5⟩
theorem Inv.turnsLaid {t' : Nat} {ch : List Addr} {a : Addr} {o : HO} (I : Inv X pins σ H s) (k : ∀ b o, b ∉ ch -> s.heap.get? b = some o -> h'.get? b = some o) (hf : ∀ b ∈ ch, FpOk X pins H b) (hp : s.heap.objs.size <= a) (new : ObjOk X.prog X.w (upd H a o) h' a o) :
    Inv X pins σ (upd H a o) { s with heap := h', toks := t' } := by
  have hn := I.hok.fresh hp
  have nit : ∀ b u, H b = some u -> b ∉ ch := fun b u e z => by rw [(hf b z).1] at e; cases e
  refine I.call (g' := s.gens) (d' := s.drawn) (t' := t') (ch := ch) ⟨fun b o q _ _ x => k b o x q, fun b o q _ _ x => ⟨o.slots, k b o x q⟩, fun b u q n _ => by rw [upd_ne (Nat.ne_of_lt (Nat.lt_of_lt_of_le (Heap.lt_size q) hp))]; exact n, fun b o q x => ⟨o, k b o x q⟩,
      fun b xs q => by rw [upd_ne (ne_of_none q hn)]; exact q, fun b u xs q => by rw [upd_ne (ne_of_none q hn)]; exact q, fun b ps q => ⟨#[], by rw [upd_ne (ne_of_none q hn), q]; simp⟩⟩
    (fun b u e => ?_) I.bare fun b hb => ?_
  · by_cases hb : b = a
    · subst hb
      rw [upd_same] at e
      cases e
      exact new
    · rw [upd_ne hb] at e
      refine (I.hok b u e).stay (fun c v hc q => k c v ?_ q) (fun c q => by rw [upd_ne (ne_of_none q hn)]; exact q) fun c xs q => by rw [upd_ne (ne_of_none q hn)]; exact q
      rcases hc with z | z
      · rw [z]; exact nit b u e
      · exact nit c _ z
  · obtain ⟨f0, f1, f2, f3, f4, f5⟩ := hf b hb
    exact ⟨f3, f1, f4, f5⟩
end
def Ite (K : PySem.W.Frag) (a : Addr) : It :=
  ⟨fun i H => ∃ xs x, SqL K H a xs /\ xs[i]? = some x, fun i H x H' => ∃ T v, x = .ref T /\ H T = none /\ H' = upd H T (.tup [.int i, v]) /\ ∀ xs, SqL K H a xs -> xs[i]? = some v, fun i H => ∃ xs, SqL K H a xs /\ xs.length <= i⟩
theorem turn_enum {P : Program} {w : World} {K : PySem.W.Frag} {elts : List Expr} {k : Nat} {pos : Pos} {a e it : Addr} (hne : e ≠ it) : Turn P w K (.Tuple elts k pos) (Ite K a) [e, it] e (fun i h => (∃ old, IsEnum h e it (i : Int) old) /\ h.IsListIter it a i) where
  mem := by simp
  obj := fun i h st b hb => by
    obtain ⟨⟨old, he⟩, hit⟩ := st
    have e' : b = e \/ b = it := by simpa using hb
    rcases e' with z | z
    · subst z
      exact ⟨_, he, fun v z => by cases z⟩
    · subst z
      obtain ⟨o, e, c, d⟩ := hit
      exact ⟨o, e, fun v z => by rw [d] at z; cases z⟩
  keep := fun i h h' st k => ⟨st.1.imp fun old he => k e (by simp) _ he, st.2.at fun o x => k it (by simp) o x⟩
  item := by
    intro X hP hw hK hc i pins s σ H E I hf st hg
    subst hP hw hK
    obtain ⟨xs, x, hq, hx⟩ := hg
    obtain ⟨its, rv, p, hz⟩ := I.list hq
    obtain ⟨u, hu, ru⟩ := rv.get hx
    obtain ⟨⟨old, he⟩, hit⟩ := st
    refine wpAny_pyNext_enum_item he hit p.isList (x := u) (by simpa using hu) hne fun h' ho hit' hT hsz hk => ?_
    have new : ObjOk X.prog X.w (upd H s.heap.objs.size (.tup [.int i, x])) h' s.heap.objs.size (.tup [.int i, x]) := ⟨by show 2 <= sizeLine; decide, [.int i s.toks, u], .cons ⟨_, rfl⟩ (.cons ru .nil), ⟨_, hT, rfl, _, rfl⟩⟩
    have I1 : Inv X pins σ (upd H s.heap.objs.size (.tup [.int i, x])) { s with heap := h', toks := s.toks + 1 } := I.turnsLaid (ch := [e, it]) (fun b o hb q => hk b o (fun z => hb (by simp [z])) (fun z => hb (by simp [z])) q) hf (Nat.le_refl _) new
    have hlt : ∀ b ∈ [e, it], b ≠ s.heap.objs.size := fun b hb => by
      have e' : b = e \/ b = it := by simpa using hb
      rcases e' with z | z
      · rw [z]; exact Nat.ne_of_lt (Heap.lt_size he)
      · rw [z]; obtain ⟨o, q, _⟩ := hit; exact Nat.ne_of_lt (Heap.lt_size q)
    have hn : ∀ b ∈ [e, it], upd H s.heap.objs.size (.tup [.int i, x]) b = none := fun b hb => by rw [upd_ne (hlt b hb)]; exact (hf b hb).1
    have hf1 : ∀ b ∈ [e, it], FpOk X pins (upd H s.heap.objs.size (.tup [.int i, x])) b := fun b hb => ⟨hn b hb, (hf b hb).2⟩
    refine ⟨_, rfl, wpAny_letOwnedTupleGo_enum (s := { s with heap := h', toks := s.toks + 1 }) ho fun h'' he' hs' => ?_⟩
    have I2 : Inv X pins σ (upd H s.heap.objs.size (.tup [.int i, x])) { s with heap := h'', toks := s.toks + 1 } := Inv.turns (s := { s with heap := h', toks := s.toks + 1 }) (t' := s.toks + 1) (ch := [e, it]) I1 (fun b o hb q => (hs'.2 b fun z => hb (by simp [z])).trans q) hf1
    refine ⟨.ref s.heap.objs.size, _, I2, rfl, ⟨_, x, rfl, I.fresh, rfl, fun ys hy => by rw [I.list_inj hy hq]; exact hx⟩, ⟨⟨u, ?_⟩, hit'.at fun o q => (hs'.2 it hne.symm).trans q⟩, hn⟩
    have e1 : (((i + 1 : Nat)) : Int) = (i : Int) + 1 := by omega
    rw [e1]
    exact he'
  done := by
    intro X hP hw hK hc i pins s σ H E I hf st hg
    subst hP hw hK
    obtain ⟨xs, hq, hx⟩ := hg
    obtain ⟨its, rv, p, hz⟩ := I.list hq
    have hl := rv.length
    obtain ⟨⟨old, he⟩, hit⟩ := st
    exact wpAny_pyNext_enum_end (I.ok.hd hc) he hit p.isList (by simp; omega) fun h' eb => ⟨rfl, I.turns (t' := s.toks) (ch := [e, it]) (fun b o hb q => eb b o (fun z => hb (by simp [z])) q) hf⟩
  self := fun _ _ _ _ _ st h => by
    obtain ⟨⟨old, he⟩, _⟩ := st
    exact wpAny_pyIter_enum he h
section
variable {X : Cx} {elts : List Expr} {k : Nat} {tpos : Pos}
def iEnum (K : PySem.W.Frag) (ta : TA) : TI := fun σ H R => ta σ H fun vs H1 => ∃ a, vs = [.ref a] /\ (∃ xs, SqL K H1 a xs) /\ R (Ite K a) H1
theorem pi_enum {a : Expr} {ta : TA} {p pos : Pos} (hg : Gl X "enumerate") (hm : X.mg "enumerate" = none) (ha : PA X [a] ta) (hs : starEach [a] X.env = [(false, eval a X.env)] := by rfl) : PI X (.Tuple elts k tpos) (.Call (.Name "enumerate" p) [a] [] pos) (iEnum X.K ta) := by
  intro pins s σ H R I h
  refine Call_ (ld_blt I hg hm boot_enumerate (PyProof.Rows.callWith_type1 (thn (ha pos pins s σ H _ I h) fun us s1 ⟨vs, H1, I1, r1, q1⟩ => ?_) hs rfl))
  obtain ⟨l, e, ⟨xs, hq⟩, q⟩ := q1
  subst e
  obtain ⟨u, rfl, rx⟩ := vals1 r1
  cases rx
  obtain ⟨its, rv, pl, hz⟩ := I1.list hq
  refine call_enumerate_list pl.isList fun h' hE hI hsz hk => ?_
  refine wpAny_pyIter_enum hE ?_
  refine ⟨s1.heap.objs.size + 1, [s1.heap.objs.size + 1, s1.heap.objs.size], _, _, H1, rfl, I1.kept (t' := s1.toks) hk, turn_enum (a := l) (Nat.succ_ne_self _), ⟨⟨_, hE⟩, hI⟩, fun b hb => ?_, q⟩
  have e : b = s1.heap.objs.size + 1 \/ b = s1.heap.objs.size := by simpa using hb
  rcases e with e | e
  · subst e
    exact I1.fpOk (Nat.le_succ _) (I1.hok.fresh (Nat.le_succ _))
  · subst e
    exact I1.fpOk (Nat.le_refl _) (I1.hok.fresh (Nat.le_refl _))
theorem ji_enum {a : Expr} {t : TA} {p pos : Pos} (hg : Gl X "enumerate") (hm : X.mg "enumerate" = none) (ha : jA X [a] t) (h : isStar a = false := by rfl) : jI X (.Tuple elts k tpos) (.Call (.Name "enumerate" p) [a] [] pos) (iEnum X.K t) := ⟨pi_enum hg hm ha.out (star_cons h)⟩
end
end L2
namespace L2
open PySem PySem.Spec PyProof.Rows
section
variable {X : Cx} {tg : Expr}
end
section
variable {g : TG} {tt : TT} {te : TE} {Q : VK} {σ : St} {H : Hp}
end
theorem old {H : Hp} {p q : Addr} {o u : HO} (hp : H p = none) (h : H q = some u) : upd H p o q = some u := by rw [upd_ne (ne_of_none h hp)]; exact h
theorem Same.new {H H1 : Hp} {p : Addr} {o : HO} (s : Same H H1) (hp : H1 p = none) : Same H (upd H1 p o) := fun b u q => old hp (s b u q)
theorem Same.put {H H1 : Hp} {p : Addr} {o : HO} (s : Same H H1) (hp : H p = none) : Same H (upd H1 p o) := fun b u q => by rw [upd_ne (ne_of_none q hp)]; exact s b u q
end L2
namespace L2
open PySem PySem.Spec PyProof.Rows
theorem eqV_self {x : V} (h : flatV x = true) : eqV x x = true := by
  cases x <;> first
    | rfl
    | (show ((_ : Bool) == _) = true; simp)
    | (show ((_ : Int) == _) = true; simp)
    | (show ((_ : Str) == _) = true; simp)
    | (cases h)
section
variable {X : Cx}
theorem eq_items {A : Around} {s : Shared} {xs : List V} {us us' : List Value} (r : Vals xs us) (r' : Vals xs us') (f : xs.all flatV = true) (j : Nat) (h1 : j < us.toArray.size) (h2 : j < us'.toArray.size) : SeqAt.EqAt A s us.toArray[j] us'.toArray[j] true := by
  have l1 := r.length
  have l2 := r'.length
  simp at h1 h2
  have hx : xs[j]? = some (xs[j]'(by omega)) := List.getElem?_eq_getElem _
  obtain ⟨u, e1, rx⟩ := r.get hx
  obtain ⟨u', e2, rx'⟩ := r'.get hx
  have g1 : us.toArray[j] = u := by
    have := List.getElem?_eq_some_iff.mp e1
    simpa using this.2
  have g2 : us'.toArray[j] = u' := by
    have := List.getElem?_eq_some_iff.mp e2
    simpa using this.2
  rw [g1, g2]
  have fx : flatV (xs[j]'(by omega)) = true := List.all_eq_true.mp f _ (List.getElem_mem _)
  have k := eqAt_V (A := A) (s := s) rx rx' fx fx
  rw [eqV_self fx] at k
  exact k
end
section
variable {X : Cx}
end
end L2
namespace L2
open PySem PySem.Spec PyProof.Rows Builtin Builtin.Str
section
variable {X : Cx}
def rEqE (K : PySem.W.Frag) (neg : Bool) : R2 := fun x y H Q => ∃ p p' xs, x = .ref p /\ y = .ref p' /\ SqL K H p xs /\ SqL K H p' [] /\ Q (.bl (if neg then !xs.isEmpty else xs.isEmpty)) H
theorem op_eqE (hu : X.A.units < cLine) : OpR X (compareOp .Eq) (rEqE X.K false) := by
  intro pins s σ H x y v u Q I rx ry h
  obtain ⟨p, p', xs, rfl, rfl, h1, h2, q⟩ := h
  cases rx
  cases ry
  obtain ⟨its, r, pl, _⟩ := I.list h1
  obtain ⟨its', r', pl', _⟩ := I.list h2
  cases r'
  cases r with
  | nil => exact SeqAt.eq_listAt (e := fun _ => true) pl.isList pl'.isList rfl hu (fun j h => absurd h (Nat.not_lt_zero _)) ⟨.bl true, H, I, rfl, q⟩
  | cons a b => exact SeqAt.eq_list_lengthsAt pl.isList pl'.isList rfl hu ⟨.bl false, H, I, rfl, q⟩
theorem jo_eqE {k : Nat} (hr : Room k X.A) : jOp X (compareOp .Eq) (rEqE X.K false) := ⟨op_eqE hr.units0⟩
end
end L2
namespace L2
open PySem PySem.Spec PyProof.Rows
def Sq (k : Bool) (h : Heap) (l : Addr) (xs : Array Value) : Prop := match k with
  | true => h.IsList l xs
  | false => h.IsTuple l xs
def SqI (k : Bool) (h : Heap) (j l : Addr) (n : Nat) : Prop := match k with
  | true => h.IsListIter j l n
  | false => h.IsTupleIter j l n
def SqN (k : Bool) : String := if k then "list_iterator" else "tuple_iterator"
theorem Sq.at {k : Bool} {h h' : Heap} {l : Addr} {xs : Array Value} (x : Sq k h l xs) (e : ∀ o, h.get? l = some o -> h'.get? l = some o) : Sq k h' l xs := by
  cases k <;> obtain ⟨o, ho, r⟩ := x <;> exact ⟨o, e _ ho, r⟩
theorem SqI.at {k : Bool} {h h' : Heap} {j l : Addr} {n : Nat} (x : SqI k h j l n) (e : ∀ o, h.get? j = some o -> h'.get? j = some o) : SqI k h' j l n := by
  cases k <;> obtain ⟨o, ho, r⟩ := x <;> exact ⟨o, e _ ho, r⟩
theorem SqI.ex {k : Bool} {h : Heap} {j l : Addr} {n : Nat} (x : SqI k h j l n) : ∃ o, h.get? j = some o /\ o.cls = .type (SqN k) /\ o.data = .fields #[.ref l, .int n 0] := by
  cases k <;> exact x
theorem SqI.of {k : Bool} {h : Heap} {j l : Addr} {n : Nat} (x : ∃ o, h.get? j = some o /\ o.cls = .type (SqN k) /\ o.data = .fields #[.ref l, .int n 0]) : SqI k h j l n := by
  cases k <;> exact x
section
variable {P : Program} {w : World} {A : Around} {E : Value -> Shared -> Prop} {s : Shared}
end
structure ZS (k m : Bool) (h : Heap) (B l r : Nat) (n : Nat) (f g : Value) : Prop where
  z : h.get? (B + 4) = some { cls := .type "zip", data := .fields #[f, g, .bool false, .ref (B + 2), .ref (B + 3)] }
  ti : IsPair h (B + 2) (.ref B) (.ref (B + 1))
  to : ∃ a b, IsPair h (B + 3) a b
  i : SqI k h B l n
  j : SqI m h (B + 1) r n
theorem ZS.at {k m : Bool} {h h' : Heap} {B l r : Nat} {n : Nat} {f g : Value} (x : ZS k m h B l r n f g) (e : ∀ (b : Nat) o, B <= b -> b <= B + 4 -> h.get? b = some o -> h'.get? b = some o) : ZS k m h' B l r n f g where
  z := e _ _ (by omega) (by omega) x.z
  ti := e _ _ (by omega) (by omega) x.ti
  to := let ⟨a, b, y⟩ := x.to; ⟨a, b, e _ _ (by omega) (by omega) y⟩
  i := x.i.at fun o => e _ o (by omega) (by omega)
  j := x.j.at fun o => e _ o (by omega) (by omega)
def KeptZ (B : Nat) (h h' : Heap) : Prop := ∀ (c : Nat) o, (c < B \/ B + 4 < c) -> h.get? c = some o -> h'.get? c = some o
section
variable {P : Program} {w : World} {A : Around} {E : Value -> Shared -> Prop} {s : Shared} {k m : Bool} {B l r : Nat} {n : Nat} {xs ys : Array Value} {x y f g : Value}
end
end L2
namespace L2
open PySem PySem.Spec PyProof.Rows
def ZF (B : Nat) (h : Heap) (f g : Value) : Prop := f = .none \/ ∃ (T : Nat) (c : Bool) (o : Obj), f = rawInt T /\ g = .bool c /\ h.get? T = some o /\ B + 5 < T
section
variable {P : Program} {w : World} {A : Around} {E : Value -> Shared -> Prop} {s : Shared} {k m : Bool} {B l r : Nat} {n : Nat} {xs ys : Array Value} {x y f g : Value}
end
structure ZL (k m : Bool) (h0 h : Heap) (B l r n : Nat) (xs ys acc : Array Value) (c : Nat) (f g : Value) : Prop where
  zs : ZS k m h B l r n f g
  zf : ZF B h f g
  hl : Sq k h l xs
  hr : Sq m h r ys
  sz : h.objs.size = B + 6 + n
  lst : h.get? (B + 5) = some { cls := .type "list", data := .seq acc c }
  asz : acc.size = n
  par : ∀ i x y, i < n -> xs[i]? = some x -> ys[i]? = some y -> acc[i]? = some (.ref (B + 6 + i)) /\ IsPair h (B + 6 + i) x y
  old : ∀ (b : Nat) o, b < B -> h0.get? b = some o -> h.get? b = some o
section
variable {P : Program} {w : World} {A : Around} {R : Result -> Shared -> Prop} {h0 : Heap} {k m : Bool} {B l r N : Nat} {xs ys : Array Value} {res : Value}
end
end L2
namespace L2
open PySem PySem.Spec PyProof.Rows
section
variable {P : Program} {w : World} {A : Around} {E : Value -> Shared -> Prop} {s : Shared} {k m : Bool} {B l r N : Nat} {xs ys : Array Value}
end
section
variable {X : Cx} {a b : Expr} {ta : TA} {p1 p2 pos1 pos2 : Pos}
end
end L2
namespace L2
open PySem PySem.Spec PyProof.Rows
def SqK (k : Bool) (K : PySem.W.Frag) (H : Hp) (a : Addr) (xs : List V) : Prop := match k with
  | true => SqL K H a xs
  | false => SqT K H a xs
theorem KeptZ.of {B : Nat} {h h' : Heap} (z : KeptZ B h h') : ∀ (b : Nat) o, b ∉ [B, B + 1, B + 2, B + 3, B + 4] -> h.get? b = some o -> h'.get? b = some o := fun b o n e => z b o (by simp only [List.mem_cons, List.not_mem_nil, or_false, not_or] at n; omega) e
section
variable {X : Cx} {elts : List Expr} {n : Nat} {tpos : Pos}
end
end L2
namespace L2
open PySem PySem.Spec PyProof.Rows
structure Ca (P : Program) (w : World) (K : PySem.W.Frag) (mg : Str -> Option Value) (base : Heap) (CX : CXT) (k : Nat) (x : Str) (ps : List Str) (sp : Sp) : Prop where
  ex : ∃ f fd, FnOk P w K mg base CX k f fd ps sp /\ Binds K fd ps [] /\ PySem.W.keepIn K (.ref f) = true /\ mg x = some (.ref f)
structure Me (P : Program) (w : World) (K : PySem.W.Frag) (mg : Str -> Option Value) (base : Heap) (CX : CXT) (k : Nat) (C : Addr) (m : Str) (ps : List Str) (sp : Sp) : Prop where
  ex : ∃ f fd, FnOk P w K mg base CX k f fd ps sp /\ Binds K fd ps [] /\ Meth K C m f
structure Ma (P : Program) (w : World) (K : PySem.W.Frag) (mg : Str -> Option Value) (base : Heap) (CX : CXT) (k : Nat) (x : Str) (C : Addr) (ps : List Str) (sp : Sp) : Prop where
  ex : ∃ f fd, Mk K C f /\ FnOk P w K mg base CX k f fd ps sp /\ Binds K fd ps [] /\ mg x = some (.ref C)
structure Xa (P : Program) (w : World) (K : PySem.W.Frag) (mg : Str -> Option Value) (base : Heap) (k : Nat) (x : Str) (C : Addr) (ps : List Str) (sp : Sp) : Prop where
  ex : ∃ f fd, XCl K C f /\ FnOk P w K mg base CX0 k f fd ps sp /\ Binds K fd ps [] /\ mg x = some (.ref C)
section
variable {P : Program} {w : World} {K : PySem.W.Frag} {mg : Str -> Option Value} {base : Heap} {CX : CXT} {k j : Nat} {x m : Str} {C : Addr} {ps : List Str} {sp sp' : Sp}
end
section
variable {X : Cx} {CX : CXT} {k i : Nat} {C : Addr} {ps : List Str} {sp : Sp} {E : XK} {x m n f : Str} {p pos apos cpos np pos' epos hpos tpos : Pos} {e o a value : Expr} {es as : List Expr} {ta te tv to t1 t2 : TE} {t : TA}
theorem je_ca (F : Ca X.prog X.w X.K X.mg X.base CX k x ps sp) (hr : Room k X.A) (hg : Gl X x) (hx : Passes CX X E) (ha : jA X (e :: es) t) (hdb : (x == ("__debug__" : Str)) = false := by decide) (h1 : isStar e = false := by rfl) (h2 : es.all (fun e => !isStar e) = true := by rfl) :
    jE X (.Call (.Name x p) (e :: es) [] pos) (tCall sp [] E t) := let ⟨_, _, G, b, kp, mg⟩ := F.ex; je_fn G hr hg mg kp b .nil hx ha hdb h1 h2
end
theorem FnOk.no {P : Program} {w : World} {K : PySem.W.Frag} {mg : Str -> Option Value} {base : Heap} {CX : CXT} {k : Nat} {f : Addr} {fd : FuncData} {ps : List Str} : FnOk P w K mg base CX k f fd ps (fun _ _ _ _ => False) :=
  ⟨fun _ _ _ _ h => h.elim, fun _ _ _ _ _ _ _ _ _ _ _ _ _ h => h.elim⟩
end L2
namespace L2
open PySem PySem.Spec PySem.Calls PyProof.Rows
section
variable {P : Program} {w : World} {A : Around} {E : Value -> Shared -> Prop} {s : Shared} {K : PySem.W.Frag}
end
section
variable {X : Cx} {e C : Addr} {oe : Obj} {ex : Expr} {te : TE} {name : Str} {pos : Pos} {f : Addr}
end
section
variable {X : Cx} {Ch : Addr} {x n : Str} {i k : Nat} {np hpos tpos : Pos} {b0 : Stmt} {suite : List Stmt} {th : Addr -> Obj -> TS} {ps : List Str} {sp : Sp} {y : Str} {p cpos epos : Pos} {a : Expr} {as : List Expr} {t : TA}
end
end L2
namespace L2
open PySem PySem.Spec PyProof.Rows
section
variable {P : Program} {w : World} {A : Around} {E : Value -> Shared -> Prop}
end
section
variable {X : Cx} {pos : Pos}
end
end L2
namespace L2
open PySem
theorem line0 : sizeLine = 16777216 := by decide
def FnIn (K : PySem.W.Frag) (x qual : Str) (st : Stmt) (f : Addr) : Prop := ∃ (oc : Value) (od : Option Addr) (kV doc pm : Value) (an : Option Addr) (cdv ct : Value) (osl : Array (Option Value)), K.lookup f = some ⟨oc, od, .func (PySem.W.fnOf x qual (defArgs st) (defBody st) (defScope st) .none kV doc pm an cdv ct), osl⟩ /\ PySem.W.codeIn K cdv qual = true /\ PySem.W.keepIn K (.ref f) = true
theorem FnIn.fn {K : PySem.W.Frag} {x qual : Str} {st : Stmt} {f : Addr} (h : FnIn K x qual st f) : ∃ fd, Fun K x qual st f fd /\ PySem.W.keepIn K (.ref f) = true := by
  obtain ⟨_, _, _, _, _, _, _, _, _, l, c, k⟩ := h
  exact ⟨_, fun_mk l c k, k⟩
def DfIn (K : PySem.W.Frag) (x : Str) (st : Stmt) : Prop := ∃ f, PySem.W.nsIn K mainGlobals x = some (some (.ref f)) /\ FnIn K x x st f
def MeIn (K : PySem.W.Frag) (C : Addr) (x qual : Str) (st : Stmt) : Prop := ∃ f, PySem.W.findIn K (.ref C) x = some (some (.ref f)) /\ PySem.W.isFn K (.ref f) = true /\ FnIn K x qual st f
def TpIn (K : PySem.W.Frag) (x : Str) (l : List Str) : Prop := ∃ (a : Addr) (d : Option Addr) (it : Array Value) (n : Nat) (sl : Array (Option Value)), PySem.W.nsIn K mainGlobals x = some (some (.ref a)) /\ K.lookup a = some ⟨.type "tuple", d, .seq it n, sl⟩ /\ it.toList.map absV = l.map fun x => some (.str x)
theorem DfIn.ca {P : Program} {w : World} {K : PySem.W.Frag} {mg : Str -> Option Value} {base h : Heap} {CX : CXT} {k : Nat} {x : Str} {st : Stmt} {ps : List Str} {sp : Sp} (X : K.In h) (G : h.Ns mainGlobals mg) (d : DfIn K x st) (hb : ∀ (kV doc pm : Value) (an : Option Addr) (cdv ct : Value) (us : List Value), us.length = ps.length -> bindArgs (PySem.W.fnOf x x (defArgs st) (defBody st) (defScope st) .none kV doc pm an cdv ct) ⟨us, []⟩ = pure (ps.zip us))
    (ok : ∀ f fd, Fun K x x st f fd -> FnOk P w K mg base CX k f fd ps sp) : Ca P w K mg base CX k x ps sp := by
  obtain ⟨f, a, g⟩ := d
  obtain ⟨fd, F, kp⟩ := g.fn
  exact ⟨f, fd, ok f fd F, F.binds hb, kp, PySem.W.mg_of X G a⟩
theorem DfIn.mk {K : PySem.W.Frag} {x : Str} {st : Stmt} {f : Addr} {oc : Value} {od : Option Addr} {kV doc pm : Value} {an : Option Addr} {cdv ct : Value} {osl : Array (Option Value)} (a : PySem.W.nsIn K mainGlobals x = some (some (.ref f))) (l : K.lookup f = some ⟨oc, od, .func (PySem.W.fnOf x x (defArgs st) (defBody st) (defScope st) .none kV doc pm an cdv ct), osl⟩) (c : PySem.W.codeIn K cdv x = true) (k : PySem.W.keepIn K (.ref f) = true) : DfIn K x st := ⟨f, a, oc, od, kV, doc, pm, an, cdv, ct, osl, l, c, k⟩
theorem MeIn.mk {K : PySem.W.Frag} {C : Addr} {x qual : Str} {st : Stmt} {f : Addr} {oc : Value} {od : Option Addr} {kV doc pm : Value} {an : Option Addr} {cdv ct : Value} {osl : Array (Option Value)} (a : PySem.W.findIn K (.ref C) x = some (some (.ref f))) (l : K.lookup f = some ⟨oc, od, .func (PySem.W.fnOf x qual (defArgs st) (defBody st) (defScope st) .none kV doc pm an cdv ct), osl⟩) (c : PySem.W.codeIn K cdv qual = true) (k : PySem.W.keepIn K (.ref f) = true) (n : PySem.W.isFn K (.ref f) = true) : MeIn K C x qual st := ⟨f, a, n, oc, od, kV, doc, pm, an, cdv, ct, osl, l, c, k⟩
theorem TpIn.mk {K : PySem.W.Frag} {x : Str} {l : List Str} {b : Addr} {d : Option Addr} {it : Array Value} {n : Nat} {sl : Array (Option Value)} (a : PySem.W.nsIn K mainGlobals x = some (some (.ref b))) (k : K.lookup b = some ⟨.type "tuple", d, .seq it n, sl⟩) (v : it.toList.map absV = l.map fun x => some (.str x)) : TpIn K x l := ⟨b, d, it, n, sl, a, k, v⟩
theorem GlIn.mk {K : PySem.W.Frag} {x : Str} {z : Str} {v : Value} {t : Tok} (a : PySem.W.nsIn K mainGlobals x = some (some v)) (e : v = .str z t) : ∃ t, PySem.W.nsIn K mainGlobals x = some (some (.str z t)) := ⟨t, by rw [a, e]⟩
theorem GiIn.mk {K : PySem.W.Frag} {x : Str} {i : Int} {v : Value} {t : Tok} (a : PySem.W.nsIn K mainGlobals x = some (some v)) (e : v = .int i t) : ∃ t, PySem.W.nsIn K mainGlobals x = some (some (.int i t)) := ⟨t, by rw [a, e]⟩
theorem XcIn.mk {K : PySem.W.Frag} {C f : Addr} (a : PySem.W.findIn K (.ref C) "__init__" = some (some (.ref f))) (b : xIn K C f = true) (c : PySem.W.typeIn K (.ref f) = some (.type "function")) : ∃ f, PySem.W.findIn K (.ref C) "__init__" = some (some (.ref f)) /\ xIn K C f = true /\ PySem.W.typeIn K (.ref f) = some (.type "function") := ⟨f, a, b, c⟩
structure OwnIn (K : PySem.W.Frag) (x : Str) (C : Addr) : Prop where
  n : PySem.W.nsIn K mainGlobals x = some (some (.ref C))
  pg : PySem.W.plainGet K C Str.empty = true
  hd : PySem.W.hasDictIn K C = true
  po : PySem.W.plainOver K C = true
  sa : PySem.W.findIn K (.ref C) "__setattr__" = some (some (.builtin "object.__setattr__"))
  mks : PySem.W.makesIn K C = true
  kp : PySem.W.keepIn K (.ref C) = true
theorem OwnIn.cls {K : PySem.W.Frag} {x : Str} {C : Addr} (o : OwnIn K x C) : Cls K C := ⟨o.pg, o.hd, o.po, o.sa⟩
def spTop (K : PySem.W.Frag) : Sp := fun vs H Q _ => ∃ (a : Addr) (ns : List Int), vs = [.ref a] /\ SqL K H a (ns.map V.int) /\ ns.length <= 63 /\ ∀ H', Q (.bl true) H'
theorem law_in {l : PySem.W.OpenLaw} {w : World} {K : PySem.W.Frag} {h : Heap} {mg : Str -> Option Value} {fa : Addr} {st : Stmt} {k : Nat} (d : DfIn K "law" st) (X : K.In h) (G : h.Ns mainGlobals mg) (hfa : mg "law" = some (.ref fa))
    (hb : ∀ (kV doc pm : Value) (an : Option Addr) (cdv ct : Value) (s : Shared) (u : Value), BindsTo s (PySem.W.fnOf "law" "law" (defArgs st) (defBody st) (defScope st) .none kV doc pm an cdv ct) ⟨[u], []⟩ [("_law_script", u)])
    (ok : ∀ (base : Heap) (fd : FuncData), Fun K "law" "law" st fa fd -> FnOk l.prog w K mg base CX0 k fa fd ["_law_script"] (spTop K)) :
    ∃ fd : FuncData, (∀ (s : Shared) (u : Value), BindsTo s fd ⟨[u], []⟩ [("_law_script", u)]) /\ ∀ base : Heap, K.In base -> base.Ns mainGlobals mg -> FnOk l.prog w K mg base CX0 k fa fd ["_law_script"] (spTop K) := by
  obtain ⟨fl, al, oc, od, kV, doc, pm, an, cdv, ct, osl, lk, cc, kk⟩ := d
  have e : fl = fa := by
    have := PySem.W.mg_of X G al
    rw [hfa] at this
    injection this with this
    injection this with this
    exact this.symm
  subst e
  exact ⟨_, fun s v => hb _ _ _ _ _ _ s v, fun base _ _ => ok base _ (fun_mk (st := st) lk cc kk)⟩
theorem walk1 {l : PySem.W.OpenLaw} {q : Program} {loose : List Str} {XP : (Str -> Option Value) -> Heap -> Prop} {YP : World -> Heap -> Prop} {d : DefRec} {K : Params -> PySem.W.Frag} {k : Nat} (hn : l.most = some 63) (hr : Room k callerA) (hdf : d.params.defaults = []) (hnm : d.name = "law")
    (hY : ∀ (w : World) (h : Heap), YP w h -> (K w.params).In h)
    (F : ∀ (w : World) (mg : Str -> Option Value) (fa : Addr) (h : Heap), (K w.params).In h -> h.Ns mainGlobals mg -> mg "law" = some (.ref fa) -> ∃ fd : FuncData, (∀ (s : Shared) (u : Value), BindsTo s fd ⟨[u], []⟩ [("_law_script", u)]) /\ ∀ base : Heap, (K w.params).In base -> base.Ns mainGlobals mg -> FnOk l.prog w (K w.params) mg base CX0 k fa fd ["_law_script"] (spTop (K w.params))) :
    PySem.W.WalkO q loose XP YP l.row.toRowW d [] (fun f vs => PySem.call f vs) :=
  L2.walk_of (n := 63) (k := k) (x := "_law_script") (CX := fun _ => CX0) (sp := fun w => spTop (K w.params)) hn (by decide) hdf hr hY (fun w mg fa h X G hm => F w mg fa h X G (by rw [hnm] at hm; exact hm)) (fun _ _ a ns hl _ hS => ⟨a, ns, rfl, hS, hl, fun _ => rfl⟩) fun _ _ _ _ _ z => z
end L2
namespace L2
open PySem PySem.Spec PyProof.Rows
end L2
namespace L2
open PySem PySem.Spec PyProof.Rows
section
variable (P : Program) (w : World)
end
section
variable {P : Program} {w : World} {H H' : Hp} {h h' : Heap} {a : Addr} {o : HO}
end
section
variable {P : Program} {w : World} {H : Hp} {h h' : Heap} {x e : Addr} {o' : HO}
end
section
variable {fs fs' ex ex' : List Addr} {H H1 H2 : Hp} {h h1 h2 h' : Heap} {a x e : Addr} {o : HO}
end
end L2
namespace L2
open PySem PySem.Spec PyProof.Rows
section
variable {X : Cx} {pins : List (Addr × Obj)} {σ : List (Option V)} {H H' : Hp} {s : Shared} {h' : Heap}
end
end L2
namespace L2
open PySem PySem.Spec PyProof.Rows
section
variable {X : Cx}
variable {a b : Expr} {ta tb : TE} {pos : Pos}
variable {tA tB' : TT} {rest : List Expr}
end
end L2
namespace L2
open PySem PySem.Spec PyProof.Rows
section
variable {X : Cx} {pins : List (Addr × Obj)} {σ : St} {H : Hp} {s : Shared} {a : Addr} {xs ys : List V}
end
section
variable {X : Cx} {pins : List (Addr × Obj)} {σ : St} {H : Hp} {s : Shared} {E : Value -> Shared -> Prop}
end
section
variable {X : Cx} {st : Stmt} {rest : List Stmt} {t u : TS} {e : Expr} {te : TE} {pos : Pos}
end
section
variable {X : Cx} {pos : Pos}
end
section
variable {X : Cx} {pos : Pos}
end
end L2
namespace L2
open PySem PySem.Spec PyProof.Rows
section
variable {X : Cx} {tg : Expr}
end
end L2
namespace L2
open PySem PySem.Spec PyProof.Rows
section
variable {X : Cx} {a b c : Expr} {ta tb tc : TE} {pos : Pos}
end
section
variable {X : Cx} {a b c : Expr} {ta tb tc : TE} {pos : Pos}
end
end L2
namespace L2
open PySem PySem.Spec PyProof.Rows
section
variable {prog : Program} {w : World} {A : Around} {E : Value -> Shared -> Prop} {s : Shared} {K : PySem.W.Frag} {x dx C f : Addr} {mA : Str -> Option Value} {name : Str} {v : Value}
end
section
variable {P : Program} {w : World} {H H' : Hp} {h h' : Heap} {a C dx : Addr} {fs fs' : List (Str × V)}
end
section
variable {X : Cx} {pins : List (Addr × Obj)} {σ : St} {H : Hp} {s : Shared} {a C dx : Addr} {fs : List (Str × V)} {f : Str} {v : V} {A : Around} {E : Value -> Shared -> Prop}
end
section
variable {X : Cx} {o e value : Expr} {f : Str} {pos pos' tpos : Pos} {ta tv : TE}
end
section
variable {X : Cx} {pins : List (Addr × Obj)} {σ : St} {H : Hp} {s : Shared} {A : Around} {E : Value -> Shared -> Prop} {Q : Value -> Shared -> Prop} {c : Value} {b : Bool}
end
end L2
namespace L2
open PySem PySem.Spec PyProof.Rows
section
variable {X : Cx} {e : Expr} {es : List Expr} {te : TE} {t : TA} {pos : Pos}
end
section
variable {X : Cx} {pins : List (Addr × Obj)} {σ : St} {H : Hp} {s s' : Shared}
end
section
variable {X : Cx} {CX : CXT} {k : Nat} {f C : Addr} {fd : FuncData} {ps : List Str} {sp : Sp} {dvs : List V} {ds : List Value} {E : XK} {x m : Str} {p pos apos : Pos} {e o : Expr} {es : List Expr} {ta : TE} {t : TA}
end
section
variable {X : Cx} {CX : CXT} {k : Nat} {f C : Addr} {fd : FuncData} {ps ks : List Str} {sp : Sp} {E : XK} {x m : Str} {p pos apos kpos : Pos} {e o : Expr} {es : List Expr} {kws : List Keyword} {te ta : TE} {t tk : TA} {nm : Option Str}
variable {g : List Value -> List Value -> List Value} {gV : List V -> List V -> List V}
end
end L2
namespace L2
open PySem PySem.Spec PyProof.Rows
section
variable {X : Cx} {x : Str} {p pos : Pos} {e : Expr} {es : List Expr} {t : TA} {id T : String} {r : List V -> Hp -> VK -> Prop}
end
end L2
namespace L2
open PySem PySem.Spec PyProof.Rows
section
variable {κ : Type} [DecidableEq κ]
def valV (kvs : List (κ × V)) (k : κ) : Option V := (kvs.find? fun kv => decide (kv.1 = k)).map (·.2)
def putK (kvs : List (κ × V)) (k : κ) (v : V) : List (κ × V) :=
  if (kvs.any fun kv => decide (kv.1 = k)) = true then kvs.map (fun kv => if kv.1 = k then (kv.1, v) else kv) else kvs ++ [(k, v)]
def dropK (kvs : List (κ × V)) (k : κ) : List (κ × V) := kvs.filter fun kv => decide (kv.1 ≠ k)
theorem valV_pos {p : κ × V} {r : List (κ × V)} {k : κ} (e : p.1 = k) : valV (p :: r) k = some p.2 := by simp [valV, List.find?_cons, e]
theorem valV_neg {p : κ × V} {r : List (κ × V)} {k : κ} (e : ¬ p.1 = k) : valV (p :: r) k = valV r k := by simp [valV, List.find?_cons, e]
theorem valV_any (k : κ) : ∀ kvs : List (κ × V), (kvs.any fun kv => decide (kv.1 = k)) = (valV kvs k).isSome
  | [] => rfl
  | p :: r => by
    rw [List.any_cons]
    by_cases e : p.1 = k
    · simp only [valV_pos e, decide_eq_true e, Bool.true_or, Option.isSome_some]
    · rw [valV_neg e, decide_eq_false e, Bool.false_or]; exact valV_any k r
theorem length_putK (kvs : List (κ × V)) (k : κ) (v : V) : (putK kvs k v).length <= kvs.length + 1 := by
  unfold putK
  split
  · rw [List.length_map]; omega
  · rw [List.length_append, List.length_cons, List.length_nil]; omega
theorem putK_new {kvs : List (κ × V)} {k : κ} (v : V) (h : valV kvs k = none) : putK kvs k v = kvs ++ [(k, v)] := by
  unfold putK
  rw [valV_any, h]
  exact if_neg (by decide)
theorem RelO.isSome_eq {o : Option V} {u : Option Value} (r : RelO o u) : o.isSome = u.isSome := by
  cases o with
  | none => cases u with
    | none => rfl
    | some _ => exact (show False from r).elim
  | some _ => cases u with
    | none => exact (show False from r).elim
    | some _ => rfl
theorem RelO.getD {o : Option V} {u : Option Value} {d : V} {d' : Value} (r : RelO o u) (rd : RelV d d') : RelV (o.getD d) (u.getD d') := by
  cases o with
  | none => cases u with
    | none => exact rd
    | some _ => exact (show False from r).elim
  | some _ => cases u with
    | none => exact (show False from r).elim
    | some _ => exact r
theorem KV.val {kvs : List (κ × V)} {vs : List (κ × Value)} (r : KV kvs vs) (k : κ) : RelO (valV kvs k) (valueAt vs k) := by
  unfold KV at r
  induction r with
  | nil => exact True.intro
  | @cons p q ps qs h t ih =>
    obtain ⟨h1, h2⟩ := h
    by_cases e : p.1 = k
    · have e' : q.1 = k := h1.symm.trans e
      have b : valueAt (q :: qs) k = some q.2 := by simp [valueAt, List.find?_cons, e']
      rw [valV_pos e, b]; exact h2
    · have e' : ¬ q.1 = k := fun z => e (h1.trans z)
      have b : valueAt (q :: qs) k = valueAt qs k := by simp [valueAt, List.find?_cons, e']
      rw [valV_neg e, b]; exact ih
theorem KV.any {kvs : List (κ × V)} {vs : List (κ × Value)} (r : KV kvs vs) (k : κ) : (kvs.any fun kv => decide (kv.1 = k)) = vs.any fun kv => decide (kv.1 = k) := by
  unfold KV at r
  induction r with
  | nil => rfl
  | cons h t ih => rw [List.any_cons, List.any_cons, ih, h.1]
theorem KV.repl {kvs : List (κ × V)} {vs : List (κ × Value)} (r : KV kvs vs) (k : κ) {y : V} {u : Value} (ry : RelV y u) :
    KV (kvs.map fun kv => if kv.1 = k then (kv.1, y) else kv) (vs.map fun kv => if kv.1 = k then (kv.1, u) else kv) := by
  unfold KV at r ⊢
  induction r with
  | nil => exact .nil
  | @cons p q ps qs h t ih =>
    rw [List.map_cons, List.map_cons]
    refine .cons ?_ ih
    obtain ⟨h1, h2⟩ := h
    by_cases e : p.1 = k
    · rw [if_pos e, if_pos (h1.symm.trans e)]; exact ⟨h1, ry⟩
    · rw [if_neg e, if_neg (fun z => e (h1.trans z))]; exact ⟨h1, h2⟩
theorem KV.put {kvs : List (κ × V)} {vs : List (κ × Value)} (r : KV kvs vs) (k : κ) {y : V} {u : Value} (ry : RelV y u) : KV (putK kvs k y) (stored vs k u) := by
  unfold putK stored
  rw [r.any k]
  by_cases e : (vs.any fun kv => decide (kv.1 = k)) = true
  · rw [if_pos e, if_pos e]; exact r.repl k ry
  · rw [if_neg e, if_neg e]; exact Paired.snoc r ⟨rfl, ry⟩
theorem KV.drop {kvs : List (κ × V)} {vs : List (κ × Value)} (r : KV kvs vs) (k : κ) : KV (dropK kvs k) (without vs k) := by
  unfold KV at r ⊢
  unfold dropK without
  induction r with
  | nil => exact .nil
  | @cons p q ps qs h t ih =>
    obtain ⟨h1, h2⟩ := h
    rw [List.filter_cons, List.filter_cons]
    by_cases e : p.1 = k
    · have a : ¬ decide (p.1 ≠ k) = true := by simp [e]
      have b : ¬ decide (q.1 ≠ k) = true := by simp [h1.symm.trans e]
      rw [if_neg a, if_neg b]; exact ih
    · have e' : ¬ q.1 = k := fun z => e (h1.trans z)
      have a : decide (p.1 ≠ k) = true := by simp [e]
      have b : decide (q.1 ≠ k) = true := by simp [e']
      rw [if_pos a, if_pos b]; exact .cons ⟨h1, h2⟩ ih
theorem KV.keys {kvs : List (κ × V)} {vs : List (κ × Value)} (r : KV kvs vs) : kvs.map (·.1) = vs.map (·.1) := by
  unfold KV at r
  induction r with
  | nil => rfl
  | cons h t ih => rw [List.map_cons, List.map_cons, ih, h.1]
theorem KV.length {kvs : List (κ × V)} {vs : List (κ × Value)} (r : KV kvs vs) : kvs.length = vs.length := Paired.length r
end
theorem kV_is {P : Program} {w : World} {k : Key} {u : Value} (r : RelV (kV k) u) : (mixKind P w).is k u = true := by
  cases k with
  | inl i => obtain ⟨t, e⟩ := (show ∃ t, u = Value.int i t from r); subst e; exact mixKind_int P w i t
  | inr x => obtain ⟨t, e⟩ := (show ∃ t, u = Value.str x t from r); subst e; exact mixKind_str P w x t
theorem items_are {P : Program} {w : World} : ∀ {ks : List Key} {us : List Value}, Vals (ks.map kV) us -> ItemsAre (mixKind P w) ks us
  | [], _, r => by rw [List.map_nil] at r; cases r; exact .nil
  | k :: ks, _, r => by
    rw [List.map_cons] at r
    cases r with
    | cons h t => exact .cons (kV_is h) (items_are t)
abbrev KT (H : Hp) : List (List Key × V) -> List (List Key × Addr × Value) -> Prop := Paired fun p q => p.1 = q.1 /\ H q.2.1 = some (.tup (p.1.map kV)) /\ RelV p.2 q.2.2
theorem KT.val {H : Hp} {kvs : List (List Key × V)} {xs : List (List Key × Addr × Value)} (r : KT H kvs xs) (k : List Key) : RelO (valV kvs k) ((atKey xs k).map (·.2)) := by
  induction r with
  | nil => exact True.intro
  | @cons p q ps qs h t ih =>
    obtain ⟨h1, _, h2⟩ := h
    by_cases e : p.1 = k
    · have e' : q.1 = k := h1.symm.trans e
      have b : atKey (q :: qs) k = some q.2 := by simp [atKey, List.find?_cons, e']
      rw [valV_pos e, b]; exact h2
    · have e' : ¬ q.1 = k := fun z => e (h1.trans z)
      have b : atKey (q :: qs) k = atKey qs k := by simp [atKey, List.find?_cons, e']
      rw [valV_neg e, b]; exact ih
theorem KT.repl {H : Hp} {kvs : List (List Key × V)} {xs : List (List Key × Addr × Value)} (r : KT H kvs xs) (k : List Key) {y : V} {u : Value} (ry : RelV y u) :
    KT H (kvs.map fun kv => if kv.1 = k then (kv.1, y) else kv) (xs.map (putAt k u)) := by
  induction r with
  | nil => exact .nil
  | @cons p q ps qs h t ih =>
    rw [List.map_cons, List.map_cons]
    refine .cons ?_ ih
    obtain ⟨h1, h2, h3⟩ := h
    unfold putAt
    by_cases e : p.1 = k
    · rw [if_pos e, if_pos (h1.symm.trans e)]; exact ⟨h1, h2, ry⟩
    · rw [if_neg e, if_neg (fun z => e (h1.trans z))]; exact ⟨h1, h2, h3⟩
theorem KT.put {H : Hp} {kvs : List (List Key × V)} {xs : List (List Key × Addr × Value)} (r : KT H kvs xs) (k : List Key) {b : Addr} {y : V} {u : Value} (hb : H b = some (.tup (k.map kV))) (ry : RelV y u) :
    KT H (putK kvs k y) (storedH xs k b u) := by
  have e : (kvs.any fun kv => decide (kv.1 = k)) = (atKey xs k).isSome := by
    rw [valV_any, (r.val k).isSome_eq, Option.isSome_map]
  unfold putK storedH
  rw [e]
  by_cases q : (atKey xs k).isSome = true
  · rw [if_pos q, if_pos q]; exact r.repl k ry
  · rw [if_neg q, if_neg q]; exact Paired.snoc r ⟨rfl, hb, ry⟩
theorem KT.keeps {H H' : Hp} {kvs : List (List Key × V)} {xs : List (List Key × Addr × Value)} (r : KT H kvs xs) (ht : ∀ b ys, H b = some (.tup ys) -> H' b = some (.tup ys)) : KT H' kvs xs :=
  Paired.mapP r fun _ _ z => ⟨z.1, ht _ _ z.2.1, z.2.2⟩
section
variable {P : Program} {w : World} {H : Hp} {h : Heap} {a : Addr}
theorem rd_of {u : HO} (ok : HOk P w H h) (e : Rd H a u) : ObjOk P w H h a u := e.ok ok
theorem dk_rd {kvs : List (Key × V)} (ok : HOk P w H h) (e : Rd H a (.dK kvs)) : kvs.length <= sizeLine /\ (a == sysModules) = false /\ ∃ vs, KV kvs vs /\ h.DictOf (mixKind P w) a vs :=
  show ObjOk P w H h a (.dK kvs) from rd_of ok e
theorem dk_of {kvs : List (Key × V)} (ok : HOk P w H h) (e : H a = some (.dK kvs)) : kvs.length <= sizeLine /\ (a == sysModules) = false /\ ∃ vs, KV kvs vs /\ h.DictOf (mixKind P w) a vs := dk_rd ok (.inl e)
theorem key_of {ks : List Key} (ok : HOk P w H h) (e : H a = some (.tup (ks.map kV))) : (tupleKind (mixKind P w)).is h ks a := by
  obtain ⟨_, its, r, o, h1, h2, n, h3⟩ := (show ObjOk P w H h a (.tup (ks.map kV)) from ok a _ e)
  exact ⟨o, its.toArray, n, h1, h2, h3, by simpa using items_are r⟩
theorem dt_rd {kvs : List (List Key × V)} (ok : HOk P w H h) (e : Rd H a (.dT kvs)) : kvs.length <= sizeLine /\ (a == sysModules) = false /\
    ∃ xs, KT H kvs xs /\ h.DictOfH (tupleKind (mixKind P w)) a xs := by
  obtain ⟨z, y, xs, r, o, es, ep, h1, h2, h3, h4, h5⟩ := (show ObjOk P w H h a (.dT kvs) from rd_of ok e)
  refine ⟨z, y, xs, r, o, es, ep, h1, h2, h3, h4, fun x hx => ?_, h5⟩
  have all : ∀ {l : List (List Key × V)} {m : List (List Key × Addr × Value)}, KT H l m -> ∀ x ∈ m, (tupleKind (mixKind P w)).is h x.1 x.2.1 := by
    intro l m q
    induction q with
    | nil => intro x hx; exact nomatch hx
    | @cons p q ps qs hq t ih =>
      intro x hx
      rcases List.mem_cons.mp hx with e | hx
      · subst e
        exact key_of ok (by rw [<- hq.1]; exact hq.2.1)
      · exact ih x hx
  exact all r x hx
theorem dt_of {kvs : List (List Key × V)} (ok : HOk P w H h) (e : H a = some (.dT kvs)) : kvs.length <= sizeLine /\ (a == sysModules) = false /\
    ∃ xs, KT H kvs xs /\ h.DictOfH (tupleKind (mixKind P w)) a xs := dt_rd ok (.inl e)
end
def DGet (H : Hp) (a : Addr) (y : V) (r : Option V) : Prop :=
  (∃ kvs k, Rd H a (.dK kvs) /\ y = kV k /\ r = valV kvs k) \/ ∃ kvs k b, Rd H a (.dT kvs) /\ y = .ref b /\ H b = some (.tup (k.map kV)) /\ r = valV kvs k
def DPut (H : Hp) (a : Addr) (y v : V) (H' : Hp) : Prop :=
  (∃ kvs k, H a = some (.dK kvs) /\ y = kV k /\ kvs.length < sizeLine /\ H' = upd H a (.dK (putK kvs k v))) \/
  ∃ kvs k b, H a = some (.dT kvs) /\ y = .ref b /\ H b = some (.tup (k.map kV)) /\ kvs.length < sizeLine /\ H' = upd H a (.dT (putK kvs k v))
theorem DGet.k {H : Hp} {a : Addr} {kvs : List (Key × V)} {k : Key} (e : H a = some (.dK kvs)) : DGet H a (kV k) (valV kvs k) := .inl ⟨kvs, k, .inl e, rfl, rfl⟩
theorem DGet.t {H : Hp} {a b : Addr} {kvs : List (List Key × V)} {k : List Key} (e : H a = some (.dT kvs)) (eb : H b = some (.tup (k.map kV))) : DGet H a (.ref b) (valV kvs k) := .inr ⟨kvs, k, b, .inl e, rfl, eb, rfl⟩
theorem DPut.k {H : Hp} {a : Addr} {kvs : List (Key × V)} {k : Key} {v : V} (e : H a = some (.dK kvs)) (hl : kvs.length < sizeLine) : DPut H a (kV k) v (upd H a (.dK (putK kvs k v))) := .inl ⟨kvs, k, e, rfl, hl, rfl⟩
theorem DPut.t {H : Hp} {a b : Addr} {kvs : List (List Key × V)} {k : List Key} {v : V} (e : H a = some (.dT kvs)) (eb : H b = some (.tup (k.map kV))) (hl : kvs.length < sizeLine) :
    DPut H a (.ref b) v (upd H a (.dT (putK kvs k v))) := .inr ⟨kvs, k, b, e, rfl, eb, hl, rfl⟩
section
variable {X : Cx} {pins : List (Addr × Obj)} {σ : St} {H : Hp} {s : Shared} {a : Addr} {y v : V} {u r : Value} {o : Option V} {A : Around} {E : Value -> Shared -> Prop}
theorem Inv.big (I : Inv X pins σ H s) : sysModules < s.heap.objs.size := by
  have h : mainGlobals < s.heap.objs.size := (I.mod.glob.keeps I.bk).lt
  exact Nat.lt_trans (by decide) h
theorem d_write {h' : Heap} {t' : Nat} {ob : HO} (I : Inv X pins σ H s) (mu : Mut (H a)) (hs : Heap.SameBut a s.heap h') (he : ∃ q, h'.get? a = some q) (new : ObjOk X.prog X.w (upd H a ob) h' a ob) :
    Inv X pins σ (upd H a ob) { s with heap := h', toks := t' } :=
  I.write (x := a) (e := a) mu (.inl rfl) (fun b q hb z => (hs.2 b hb).trans z) he new
theorem dk_new {P : Program} {w : World} {H' : Hp} {h' : Heap} {kvs : List (Key × V)} {vs : List (Key × Value)} (z : kvs.length <= sizeLine) (hd : (a == sysModules) = false) (rel : KV kvs vs) (dd : h'.DictOf (mixKind P w) a vs) :
    ObjOk P w H' h' a (.dK kvs) := ⟨z, hd, vs, rel, dd⟩
theorem d_setItem {H' : Hp} {Q : Unit -> Shared -> Prop} (hu : A.units + 1 < cLine) (I : Inv X pins σ H s) (g : DPut H a y v H') (ry : RelV y u) (rv : RelV v r) (h : ∀ s', Inv X pins σ H' s' -> Q () s') :
    wpAny (model X.prog X.w) A (setItem (.ref a) u r) Q E s := by
  rcases g with ⟨kvs, k, e, ey, l, eH⟩ | ⟨kvs, k, b, e, ey, eb, l, eH⟩
  · subst ey eH
    obtain ⟨z, hd, vs, rel, dd⟩ := dk_of I.hok e
    have hz : vs.length <= sizeLine := by rw [<- rel.length]; exact z
    have hl : (putK kvs k v).length <= sizeLine := by have := length_putK kvs k v; omega
    refine wpAny_setItem_pairs (hsz := hz) (kV_is ry) dd fun h' dd' hs => h _ ?_
    have he : ∃ q, h'.get? a = some q := let ⟨q, _, _, hq, _⟩ := dd'; ⟨q, hq⟩
    exact d_write I (by rw [e]; exact True.intro) hs he (dk_new hl hd (rel.put k rv) dd')
  · subst ey eH
    cases (show u = Value.ref b from ry)
    obtain ⟨z, hd, xs, rel, dd⟩ := dt_of I.hok e
    have hz : xs.length <= sizeLine := by rw [<- Paired.length rel]; exact z
    have hl : (putK kvs k v).length <= sizeLine := by have := length_putK kvs k v; omega
    refine wpAny_setItem_heap (hsz := hz) (tupleKind_room_in1 hu) (key_of I.hok eb) dd fun h' dd' hs => h _ ?_
    obtain ⟨q, es, ep, hq, h2, h3, h4, _, h5⟩ := dd'
    refine d_write I (by rw [e]; exact True.intro) hs ⟨q, hq⟩ ⟨hl, hd, _, (rel.put k eb rv).keeps fun c ys ec => ?_, q, es, ep, hq, h2, h3, h4, h5⟩
    rw [upd_ne (ne_of ec e (fun z => nomatch z))]
    exact ec
end
section
variable {X : Cx} {pins : List (Addr × Obj)} {σ : St} {H : Hp} {s : Shared} {a : Addr} {kvs : List (Key × V)} {k : Key} {u : Value} {A : Around} {E : Value -> Shared -> Prop}
theorem d_clear {Q : Value -> Shared -> Prop} (I : Inv X pins σ H s) (e : H a = some (.dK kvs)) (h : ∀ s', Inv X pins σ (upd H a (.dK [])) s' -> Q .none s') : wpAny (model X.prog X.w) A (call (.builtin "dict.clear") [.ref a]) Q E s := by
  obtain ⟨z, hd, vs, rel, dd⟩ := dk_of I.hok e
  refine call_meetsIn PySem.F.slot_dict_clear dd.typeIs PySem.F.entry_dict_clear (PySem.F.args_dict_clear_1 _) (meets_dict_clear (mixKind X.prog X.w) a) ⟨vs, dd, by rw [<- rel.length]; exact z, fun h' dd' hs => h _ ?_⟩
  have he : ∃ q, h'.get? a = some q := let ⟨q, _, _, hq, _⟩ := dd'; ⟨q, hq⟩
  exact d_write (t' := s.toks) I (by rw [e]; exact True.intro) hs he (dk_new (Nat.zero_le _) hd .nil dd')
end
def sDPut (td ty tv : TE) : TS := fun D σ H => tv σ H fun v H1 => td σ H1 fun x H2 => ty σ H2 fun y H3 => ∃ a H4, x = .ref a /\ DPut H3 a y v H4 /\ D.nx σ H4
section
variable {X : Cx} {o i e value : Expr} {pos pos' tpos : Pos} {td ty tv : TE}
theorem ps_dput (hu : X.A.units + 1 < cLine) (ho : PE X o td) (hi : PE X i ty) (hv : PE X value tv) (hs : swapsWith value (some (.Subscript o i pos')) pos.line X.env = pure false) :
    PS X (.Assign [.Subscript o i pos'] value pos) (sDPut td ty tv) := by
  intro pins s σ H D I h
  refine wpAny_Assign_Subscript (thn (hv pins s σ H _ I h) fun r s1 ⟨v, H1, I1, rv, q1⟩ => thn (ho pins s1 σ H1 _ I1 q1) fun u s2 ⟨x, H2, I2, rx, q2⟩ => thn (hi pins s2 σ H2 _ I2 q2) fun iv s3 ⟨y, H3, I3, ry, a, H4, ex, g, q3⟩ => ?_) hs
  subst ex
  obtain rfl : u = Value.ref a := rx
  exact d_setItem hu I3 g ry rv fun s4 I4 => ⟨σ, H4, I4, q3⟩
end
theorem dk_empty {P : Program} {w : World} {H : Hp} (h : Heap) (hb : sysModules < h.objs.size) : ObjOk P w H (h.push { cls := .type "dict", data := .dict #[] }) h.objs.size (.dK []) :=
  ⟨Nat.zero_le _, beq_eq_false_iff_ne.mpr (Ne.symm (Nat.ne_of_lt hb)), [], .nil, Heap.DictOf.new h⟩
def tDNewK : TE := fun _ H Q => ∀ p, H p = none -> Q (.ref p) (upd H p (.dK []))
section
variable {X : Cx} {pos : Pos}
theorem pe_dnewK : PE X (.Dict [] [] pos) tDNewK := fun pins s σ H Q I h =>
  wpAny_Dict_empty ⟨.ref s.heap.objs.size, _, I.laid (a := s.heap.objs.size) (o := .dK []) (t' := s.toks) (fun _ _ q => Heap.get?_push_of_some _ q) (Nat.le_refl _) (dk_empty s.heap I.big), rfl, h _ (I.hok.fresh (Nat.le_refl _))⟩
end
structure M1 (X : Cx) (o : Expr) (m : Str) (apos : Pos) (e : Expr) (cpos : Pos) : Prop where
  base : attributeBase o m X.env (eval o X.env) = eval o X.env
  few : ((backTo cpos (starEach [e] X.env)).all (fun x => !x.1) && (backToKw cpos (keywordEach [] X.env)).all (fun x => x.1.isSome)
    && decide (([e] : List Expr).length + ([] : List Keyword).length + (if ([] : List Keyword).isEmpty then 0 else 1) < 30)) = true
  line : (apos.endLine == cpos.line) = true
  trees : backTo cpos (starEach [e] X.env) = [(false, eval e X.env)]
structure M2 (X : Cx) (o : Expr) (m : Str) (apos : Pos) (e f : Expr) (cpos : Pos) : Prop where
  base : attributeBase o m X.env (eval o X.env) = eval o X.env
  few : ((backTo cpos (starEach [e, f] X.env)).all (fun x => !x.1) && (backToKw cpos (keywordEach [] X.env)).all (fun x => x.1.isSome)
    && decide (([e, f] : List Expr).length + ([] : List Keyword).length + (if ([] : List Keyword).isEmpty then 0 else 1) < 30)) = true
  line : (apos.endLine == cpos.line) = true
  trees : backTo cpos (starEach [e, f] X.env) = [(false, eval e X.env), (false, eval f X.env)]
section
variable {X : Cx} {pins : List (Addr × Obj)} {σ : St} {H : Hp} {s : Shared} {a : Addr} {y d : V} {u r : Value} {o : Option V} {A : Around} {E : Value -> Shared -> Prop}
end
section
variable {X : Cx} {o e f : Expr} {apos cpos : Pos} {td ty tx : TE}
end
section
variable {X : Cx} {pins : List (Addr × Obj)} {σ : St} {H : Hp} {s : Shared} {a : Addr} {kvs : List (Key × V)} {A : Around} {E : Value -> Shared -> Prop}
end
section
variable {X : Cx} {pins : List (Addr × Obj)} {σ : St} {H : Hp} {s : Shared} {a : Addr} {y : V} {u : Value} {A : Around} {E : Value -> Shared -> Prop}
end
end L2
namespace Att
open PySem PySem.W PySem.Calls PyProof.Rows
section
variable {prog : Program} {w : World} {A : Around} {E : Value -> Shared -> Prop} {s : Shared} {K : Frag}
end
end Att
namespace L2
open PySem PySem.Spec PyProof.Rows
end L2
namespace L2
open PySem PySem.Spec PyProof.Rows
end L2
namespace L2
open PySem PySem.Spec PyProof.Rows
section
variable {P : Program} {w : World} {K : PySem.W.Frag} {mg : Str -> Option Value} {base : Heap}
end
section
variable {X : Cx}
end
section
variable {κ : Type} [DecidableEq κ]
end
end L2
namespace L2
open PySem PySem.Spec PyProof.Rows
section
variable {X : Cx} {pos : Pos}
theorem je_dnewK : jE X (.Dict [] [] pos) tDNewK := ⟨pe_dnewK⟩
end
theorem SqK.l {K : PySem.W.Frag} {H : Hp} {a : Addr} {xs : List V} (h : H a = some (.lst xs)) : SqK true K H a xs := SqL.of h
theorem SqK.t {K : PySem.W.Frag} {H : Hp} {a : Addr} {xs : List V} (h : H a = some (.tup xs)) : SqK false K H a xs := SqT.of h
end L2
namespace K11
open PySem
def sg (c : Nat) : Str := ⟨#[c]⟩
end K11
namespace K11
open PySem PySem.Spec PyProof.Rows Builtin Builtin.Str
abbrev cl (z : Str) : List Nat := z.cps.toList
theorem cl_len (z : Str) : (cl z).length = z.length := by simp [Str.length]
theorem cl_app (x y : Str) : cl (x ++ y) = cl x ++ cl y := by
  show (x.cps ++ y.cps).toList = _
  simp
end K11
namespace KD
open PySem L2
def top (i : Nat) : Stmt := PySem.Challenge.pw_reusewise_k21_sizes.main.body.getD i (.Pass ⟨0, 0, 0, 0⟩)
abbrev sSizes : Stmt := top 1
abbrev sCellAt : Stmt := top 3
abbrev sStem : Stmt := top 4
abbrev sNm : Stmt := top 5
abbrev sKinds : Stmt := top 6
abbrev sGood : Stmt := top 7
abbrev sLaw : Stmt := top 8
end KD
namespace KD
open PySem L2 K11
theorem same_new {H : Hp} {p : Addr} (h : H p = none) (o : HO) : Same H (upd H p o) := fun b u q => by rw [upd_ne (ne_of_none q h)]; exact q
def LET : Str := "abcdefghijklmnopqrstuvwxyz"
theorem let_cl : cl LET = (List.range 26).map (97 + ·) := by decide +kernel
def lt (i : Nat) : Str := sg (97 + i)
theorem let_at {i : Nat} (h : i < 26) : atI LET.cps.toList (i : Int) = some (97 + i) := by
  refine atI_nat ?_
  show (cl LET)[i]? = _
  rw [let_cl, List.getElem?_map, List.getElem?_range h]
  rfl
theorem let_atI {m : Int} (h0 : 0 <= m) (h : m < 26) : atI LET.cps.toList m = some (97 + m.toNat) := by
  have e := let_at (i := m.toNat) (by omega)
  rw [Int.toNat_of_nonneg h0] at e
  exact e
theorem let_len : LET.length = 26 := by decide +kernel
def core (k : Nat) : Str := lt (k % 26) ++ ("z" : Str) ++ lt (k / 26 % 26)
def nm (st : Str) (k : Nat) : Str := if st = "" /\ k < 26 then lt k else if st.length % 2 = 0 then core k ++ st else st ++ core k
theorem cl_core (k : Nat) : cl (core k) = [97 + k % 26, 122, 97 + k / 26 % 26] := by
  unfold core
  rw [cl_app, cl_app]
  rfl
theorem nm_inj {st : Str} {j k : Nat} (hj : j < 676) (hk : k < 676) (h : nm st j = nm st k) : j = k := by
  have cinj : cl (core j) = cl (core k) -> j = k := fun e => by
    rw [cl_core, cl_core] at e
    injection e with e1 e2
    injection e2 with _ e3
    injection e3 with e3 _
    omega
  have hl : ∀ i : Nat, (cl (core i)).length = 3 := fun i => by rw [cl_core]; rfl
  unfold nm at h
  by_cases c1 : st = "" /\ j < 26
  · rw [if_pos c1] at h
    by_cases c2 : st = "" /\ k < 26
    · rw [if_pos c2] at h
      have e := congrArg cl h
      have e' : [97 + j] = [97 + k] := e
      injection e' with e' _
      omega
    · rw [if_neg c2] at h
      have e : (cl _).length = (cl _).length := congrArg (fun z => (cl z).length) h
      rw [show (cl (lt j)).length = 1 from rfl] at e
      split at e <;> rw [cl_app, List.length_append, hl] at e <;> omega
  · rw [if_neg c1] at h
    by_cases c2 : st = "" /\ k < 26
    · rw [if_pos c2] at h
      have e : (cl _).length = (cl _).length := congrArg (fun z => (cl z).length) h
      rw [show (cl (lt k)).length = 1 from rfl] at e
      split at e <;> rw [cl_app, List.length_append, hl] at e <;> omega
    · rw [if_neg c2] at h
      have e := congrArg cl h
      split at e
      · rw [cl_app, cl_app] at e
        exact cinj (List.append_inj_left e (by rw [hl, hl]))
      · rw [cl_app, cl_app] at e
        exact cinj (List.append_inj_right e rfl)
def pl (k : Nat) : Nat := 37 * k % 676
theorem pl_lt (k : Nat) : pl k < 676 := Nat.mod_lt _ (by decide)
theorem pl_inj {j k : Nat} (hj : j < 676) (hk : k < 676) (h : pl j = pl k) : j = k := by
  unfold pl at h
  omega
def spCellAt (K : PySem.W.Frag) : Sp := fun vs H Q _ => ∃ (a : Addr) (ns : List Int) (k : Nat), vs = [.ref a, .int (k : Nat)] /\ SqL K H a (ns.map V.int) /\ ∀ c : Int, Q (.int c) H
def spStem : Sp := fun vs H Q _ => ∃ c : Int, vs = [.int c] /\ ∀ z : Str, z.length <= 9 -> Q (.str z) H
def spNm : Sp := fun vs H Q _ => ∃ (z : Str) (k : Nat), vs = [.str z, .int (k : Nat)] /\ z.length <= 9 /\ k < 676 /\ Q (.str (nm z k)) H
section
variable {P : Program} {w : World} {K : PySem.W.Frag} {mg : Str -> Option Value} {base : Heap} {f : Addr} {fd : FuncData}
theorem scCellAt : FnScope ["_law_script", "_law_k"] ["_law_script", "_law_k"] (defScope sCellAt) := ⟨rfl, rfl, rfl, by decide +kernel, rfl, by decide +kernel, by decide +kernel⟩
theorem ok_cellat (F : Fun K "_law_cell_at" "_law_cell_at" sCellAt f fd) (m_len : mg "len" = none) : FnOk P w K mg base CX0 1 f fd ["_law_script", "_law_k"] (spCellAt K) := by
  refine F.by scCellAt (fun vs H Q E h => ?_) (fun cdv A outer s H vs Q E hr h => ?_)
  · obtain ⟨a, ns, k, rfl, _⟩ := h
    rfl
  obtain ⟨a, ns, k, rfl, hS, q⟩ := h
  refine ⟨_,
    (jss_cons (js_if (jt_cmpR jo_lt (jv 1) (je_fnB jc_len_seq rfl m_len PySem.boot_len (ja_c (jv 0) ja_nil)) (nomark _))
      (jss_one (js_ret (je_ix jx_list (jv 0) (jv 1) (fun _ _ => rfl)))) jss_nil)
    (jss_one (js_ret je_int))), ?_⟩
  refine ⟨_, rfl, _, rfl, _, _, rfl, .inl hS, _, _, rfl, rfl, _, rfl, ?_⟩
  refine ite2 (fun c => ?_) (fun _ => q 0)
  rw [decide_eq_true_eq, List.length_map] at c
  have hk : k < ns.length := by omega
  have hx : (ns.map V.int)[k]? = some (.int ns[k]) := by rw [List.getElem?_map, List.getElem?_eq_getElem hk]; rfl
  exact ⟨_, rfl, _, rfl, a, _, _, _, rfl, rfl, hS, atI_nat hx, q _⟩
theorem scStem : FnScope ["_law_cell", "_law_letters", "_law_word", "_law_number", "_law_k"] ["_law_cell"] (defScope sStem) := ⟨rfl, rfl, rfl, by decide +kernel, rfl, by decide +kernel, by decide +kernel⟩
theorem ok_stem (F : Fun K "_law_stem" "_law_stem" sStem f fd) (m_range : mg "range" = none) : FnOk P w K mg base CX0 1 f fd ["_law_cell"] spStem := by
  refine F.by scStem (fun vs H Q E h => ?_) (fun cdv A outer s H vs Q E hr h => ?_)
  · obtain ⟨c, rfl, _⟩ := h
    rfl
  obtain ⟨c, rfl, q⟩ := h
  refine ⟨_,
    (jss_cons (js_set (i := 1) scStem.nd rfl (Or.inl rfl) je_str)
    (jss_cons (js_set (i := 2) scStem.nd rfl (Or.inl rfl) je_str)
    (jss_cons (js_set (i := 3) scStem.nd rfl (Or.inl rfl) (je_op jo_mod (je_op jo_fdiv (jv 0) je_int) (je_op jo_pow je_int je_int)))
    (jss_cons (js_for PassesOwn.never rfl (ji_range1 rfl m_range (ja_c (je_op jo_mod (jv 0) je_int) ja_nil)) (jg_name (i := 4) scStem.nd rfl (Or.inl rfl))
      (jss_cons (js_set (i := 2) scStem.nd rfl (Or.inl rfl) (je_op jo_add_str (jv 2) (je_ix jx_str (jv 1) (je_op jo_mod (jv 3) je_int) (fun _ _ => rfl))))
      (jss_one (js_set (i := 3) scStem.nd rfl (Or.inl rfl) (je_op jo_fdiv (jv 3) je_int)))))
    (jss_one (js_ret (jv 2))))))), ?_⟩
  have sl := line0
  have b0 := Int.emod_nonneg c (show (10 : Int) ≠ 0 by decide)
  have b1 := Int.emod_lt_of_pos c (show (0 : Int) < 10 by decide)
  refine ⟨_, rfl, _, _, rfl, rfl, ⟨by decide, by decide⟩, _, _, rfl, rfl, ⟨by decide, by decide, by decide⟩, _, _, rfl, rfl, (by show (0 : Int) < _; decide), ?_⟩
  refine ⟨_, rfl, _, _, rfl, rfl, (by show (0 : Int) < _; decide), _, rfl, by omega, by omega, for_range (n := (c % 10).toNat) (fun i σ H' => H' = H /\ ∃ (z : Str) (n : Int) (x : Option V), σ = [some (.int c), some (.str LET), some (.str z), some (.int n), x] /\ z.length = i) ⟨rfl, "", _, none, rfl, rfl⟩ ?_ ?_⟩
  · rintro i σ H1 hi ⟨rfl, z, n, x, rfl, hz⟩
    have c0 := Int.emod_nonneg n (show (26 : Int) ≠ 0 by decide)
    have c1 := Int.emod_lt_of_pos n (show (0 : Int) < 26 by decide)
    refine ⟨_, rfl, _, rfl, _, rfl, _, _, rfl, rfl, (by show (0 : Int) < _; decide), LET, _, _, rfl, rfl, by rw [let_len]; decide, let_atI c0 c1, _, _, rfl, rfl, ?_, ?_⟩
    · show z.length + 1 <= sizeLine
      omega
    refine ⟨_, rfl, _, _, rfl, rfl, ⟨by decide, by decide⟩, rfl, _, _, _, rfl, ?_⟩
    rw [<- cl_len, cl_app, List.length_append, cl_len, hz]
    rfl
  · rintro σ H1 ⟨rfl, z, n, x, rfl, hz⟩
    exact ⟨_, rfl, q z (by omega)⟩
theorem scNm : FnScope ["_law_stem_here", "_law_k", "_law_letters", "_law_core"] ["_law_stem_here", "_law_k"] (defScope sNm) := ⟨rfl, rfl, rfl, by decide +kernel, rfl, by decide +kernel, by decide +kernel⟩
theorem ok_nm (F : Fun K "_law_name" "_law_name" sNm f fd) (m_len : mg "len" = none) : FnOk P w K mg base CX0 1 f fd ["_law_stem_here", "_law_k"] spNm := by
  refine F.by scNm (fun vs H Q E h => ?_) (fun cdv A outer s H vs Q E hr h => ?_)
  · obtain ⟨z, k, rfl, _⟩ := h
    rfl
  obtain ⟨z, k, rfl, hz, hk, q⟩ := h
  refine ⟨_,
    (jss_cons (js_set (i := 2) scNm.nd rfl (Or.inl rfl) je_str)
    (jss_cons (js_set (i := 3) scNm.nd rfl (Or.inl rfl) (je_op jo_add_str (je_op jo_add_str (je_ix jx_str (jv 2) (je_op jo_mod (jv 1) je_int) (fun _ _ => rfl)) je_str) (je_ix jx_str (jv 2) (je_op jo_mod (je_op jo_fdiv (jv 1) je_int) je_int) (fun _ _ => rfl))))
    (jss_cons (js_if (jW.pt (jw_and (jt_cmpR jo_eq (jv 0) je_str (nomark _)) (jw_and1 (jt_cmpR jo_lt (jv 1) je_int (nomark _)))))
      (jss_one (js_ret (je_ix jx_str (jv 2) (jv 1) (fun _ _ => rfl)))) jss_nil)
    (jss_cons (js_if (jt_cmpR jo_eq (je_op jo_mod (je_fnB jc_len_str rfl m_len PySem.boot_len (ja_c (jv 0) ja_nil)) je_int) je_int (nomark _))
      (jss_one (js_ret (je_op jo_add_str (jv 3) (jv 0)))) jss_nil)
    (jss_one (js_ret (je_op jo_add_str (jv 0) (jv 3)))))))), ?_⟩
  have sl := line0
  have e1 : ((k : Nat) : Int) % 26 = ((k % 26 : Nat) : Int) := by omega
  have e2 : ((k : Nat) : Int) / 26 % 26 = ((k / 26 % 26 : Nat) : Int) := by omega
  have cl3 : (core k).length = 3 := by rw [<- cl_len, cl_core]; rfl
  have ec : (⟨#[97 + (((k : Nat) : Int) % 26).toNat]⟩ : Str) ++ ("z" : Str) ++ (⟨#[97 + (((k : Nat) : Int) / 26 % 26).toNat]⟩ : Str) = core k := by
    rw [e1, e2]
    rfl
  suffices rest : ∀ c3 : Str, c3 = core k -> (tSeq _ _ : TS) { nx := fun _ H' => Q .non H', rt := Q } [some (.str z), some (.int (k : Nat)), some (.str LET), some (.str c3)] H by
    exact ⟨_, rfl, _, rfl, _, _, rfl, rfl, (by show (0 : Int) < _; decide), LET, _, _, rfl, rfl, by rw [let_len]; decide, let_atI (by omega) (by omega), _, _, rfl, rfl, by show 1 + 1 <= sizeLine; decide, _, rfl, _, rfl, _, _, rfl, rfl, ⟨by decide, by decide⟩, _, _, rfl, rfl, (by show (0 : Int) < _; decide), LET, _, _, rfl, rfl, by rw [let_len]; decide, let_atI (by omega) (by omega), _, _, rfl, rfl, by show 2 + 1 <= sizeLine; decide, rest _ ec⟩
  rintro _ rfl
  suffices tail : ¬ (z = "" /\ k < 26) -> (tSeq _ _ : TS) { nx := fun _ H' => Q .non H', rt := Q } [some (.str z), some (.int (k : Nat)), some (.str LET), some (.str (core k))] H by
    refine ⟨_, rfl, rfl, _, rfl, ?_⟩
    refine ite2 (fun c => ?_) (fun c => ?_)
    · rw [decide_eq_true_eq] at c
      injection c with c
      refine ⟨_, rfl, _, _, rfl, rfl, _, rfl, ?_⟩
      refine ite2 (fun c2 => ?_) (fun c2 => ?_)
      · rw [decide_eq_true_eq] at c2
        unfold nm at q
        rw [if_pos ⟨c, by omega⟩] at q
        exact ⟨_, rfl, _, rfl, LET, _, _, rfl, rfl, by rw [let_len]; decide, let_at (by omega), q⟩
      · rw [decide_eq_true_eq] at c2
        exact tail (fun e => c2 (by omega))
    · rw [decide_eq_true_eq] at c
      exact iteF (tail (fun e => c (by rw [e.1])))
  intro hn
  unfold nm at q
  rw [if_neg hn] at q
  refine ⟨_, rfl, z, rfl, by omega, _, _, rfl, rfl, (by show (0 : Int) < _; decide), rfl, _, rfl, ?_⟩
  refine ite2 (fun c => ?_) (fun c => ?_)
  · rw [decide_eq_true_eq] at c
    injection c with c
    rw [if_pos (by omega)] at q
    exact ⟨_, rfl, _, rfl, _, _, rfl, rfl, by omega, q⟩
  · rw [decide_eq_true_eq] at c
    have c' : ¬ z.length % 2 = 0 := fun e => c (show V.int (((z.length : Nat) : Int) % 2) = V.int 0 by rw [show ((z.length : Nat) : Int) % 2 = 0 by omega])
    rw [if_neg c'] at q
    exact ⟨_, rfl, _, rfl, _, _, rfl, rfl, by omega, q⟩
end
end KD
namespace L2
open PySem
theorem for_enum {K : PySem.W.Frag} {a : Addr} {xs : List V} {g : TG} {tb : TS} {D : Ends} {σ : St} {H : Hp} (Pv : Nat -> St -> Hp -> Prop) (h0 : Pv 0 σ H) (hl : ∀ i σ H, i <= xs.length -> Pv i σ H -> SqL K H a xs)
    (hs : ∀ i x T σ H, xs[i]? = some x -> H T = none -> Pv i σ H -> g (.ref T) σ (upd H T (.tup [.int (i : Nat), x])) fun σ2 H2 => tb { D with nx := Pv (i + 1), ct := Pv (i + 1), bk := D.nx } σ2 H2) (hd : ∀ σ H, Pv xs.length σ H -> D.nx σ H) :
    ∃ W : Nat -> Nat -> St -> Hp -> Prop, (∃ m, W 0 m σ H) /\ ∀ i m σ H, W i m σ H ->
      ((Ite K a).stop i H /\ D.nx σ H) \/ ((Ite K a).go i H /\ ∃ N : St -> Hp -> Prop, (∀ σ' H', N σ' H' -> ∃ m', m' < m /\ W (i + 1) m' σ' H') /\ ∀ x H', (Ite K a).yld i H x H' -> g x σ H' fun σ2 H2 => tb { D with nx := N, ct := N, bk := D.nx } σ2 H2) := by
  refine ⟨fun i m σ H => m = xs.length - i /\ i <= xs.length /\ Pv i σ H, ⟨xs.length, by simp, Nat.zero_le _, h0⟩, ?_⟩
  rintro i m σ H ⟨rfl, hi, p⟩
  have q := hl i σ H hi p
  by_cases hlt : i < xs.length
  · refine .inr ⟨⟨xs, xs[i], q, by simp [hlt]⟩, Pv (i + 1), fun σ' H' p' => ⟨xs.length - (i + 1), by omega, rfl, hlt, p'⟩, fun x H' y => ?_⟩
    obtain ⟨T, v, rfl, hT, rfl, e⟩ := y
    exact hs i v T σ H (e xs q) hT p
  · have e : i = xs.length := by omega
    subst e
    exact .inl ⟨⟨xs, q, Nat.le_refl _⟩, hd σ H p⟩
end L2
theorem L2.nxt {D : L2.Ends} {σ : L2.St} {H : L2.Hp} (h : D.nx σ H) : L2.tNext D σ H := h
namespace KD
open PySem L2 K11
inductive Tps (H : Hp) : List (Str × Int) -> List Addr -> Prop
  | nil : Tps H [] []
  | cons {a : Str} {s : Int} {t : Addr} {l : List (Str × Int)} {ts : List Addr} : H t = some (.tup [.str a, .int s]) -> Tps H l ts -> Tps H ((a, s) :: l) (t :: ts)
def Row (H : Hp) (l : List (Str × Int)) (q : Addr) : Prop := ∃ ts, H q = some (.lst (ts.map V.ref)) /\ Tps H l ts
inductive Kds (H : Hp) : List (List (Str × Int)) -> List Addr -> Prop
  | nil : Kds H [] []
  | cons {k : List (Str × Int)} {p : Addr} {ks : List (List (Str × Int))} {ps : List Addr} : Row H k p -> Kds H ks ps -> Kds H (k :: ks) (p :: ps)
def Tups (H H' : Hp) : Prop := ∀ p xs, H p = some (.tup xs) -> H' p = some (.tup xs)
theorem Tps.keep {H H' : Hp} (t : Tups H H') {l : List (Str × Int)} {ts : List Addr} (h : Tps H l ts) : Tps H' l ts := by
  induction h with
  | nil => exact .nil
  | cons a _ ih => exact .cons (t _ _ a) ih
theorem Tps.app {H : Hp} {a b : List (Str × Int)} {p q : List Addr} (h : Tps H a p) (g : Tps H b q) : Tps H (a ++ b) (p ++ q) := by
  induction h with
  | nil => exact g
  | cons x _ ih => exact .cons x ih
theorem Tps.len {H : Hp} {l : List (Str × Int)} {ts : List Addr} (h : Tps H l ts) : l.length = ts.length := by
  induction h with
  | nil => rfl
  | cons _ _ ih => rw [List.length_cons, List.length_cons, ih]
theorem Tps.get {H : Hp} : ∀ {l : List (Str × Int)} {ts : List Addr} {i : Nat} {t : Addr}, Tps H l ts -> ts[i]? = some t -> ∃ a s, l[i]? = some (a, s) /\ H t = some (.tup [.str a, .int s])
  | _, _, _, _, .nil, e => by simp at e
  | _, _, 0, _, .cons a _, e => by
    simp at e
    subst e
    exact ⟨_, _, rfl, a⟩
  | _, _, i + 1, _, .cons _ b, e => by
    obtain ⟨a, s, h1, h2⟩ := Tps.get (i := i) b (by simpa using e)
    exact ⟨a, s, by simpa using h1, h2⟩
theorem Row.keep {H H' : Hp} (s : Same H H') {l : List (Str × Int)} {q : Addr} (h : Row H l q) : Row H' l q := by
  obtain ⟨ts, h1, h2⟩ := h
  exact ⟨ts, s _ _ h1, h2.keep fun p xs z => s _ _ z⟩
theorem Kds.keep {H H' : Hp} (s : Same H H') {ks : List (List (Str × Int))} {ps : List Addr} (h : Kds H ks ps) : Kds H' ks ps := by
  induction h with
  | nil => exact .nil
  | cons a _ ih => exact .cons (a.keep s) ih
theorem Kds.app {H : Hp} {a b : List (List (Str × Int))} {p q : List Addr} (h : Kds H a p) (g : Kds H b q) : Kds H (a ++ b) (p ++ q) := by
  induction h with
  | nil => exact g
  | cons x _ ih => exact .cons x ih
theorem Kds.len {H : Hp} {l : List (List (Str × Int))} {ts : List Addr} (h : Kds H l ts) : l.length = ts.length := by
  induction h with
  | nil => rfl
  | cons _ _ ih => rw [List.length_cons, List.length_cons, ih]
theorem Kds.get {H : Hp} : ∀ {l : List (List (Str × Int))} {ts : List Addr} {i : Nat} {t : Addr}, Kds H l ts -> ts[i]? = some t -> ∃ k, l[i]? = some k /\ Row H k t
  | _, _, _, _, .nil, e => by simp at e
  | _, _, 0, _, .cons a _, e => by
    simp at e
    subst e
    exact ⟨_, rfl, a⟩
  | _, _, i + 1, _, .cons _ b, e => by
    obtain ⟨k, h1, h2⟩ := Kds.get (i := i) b (by simpa using e)
    exact ⟨k, by simpa using h1, h2⟩
theorem Kds.off {H : Hp} {z : Addr} {o : HO} (hz : ∃ xs, H z = some (.lst xs)) {ks : List (List (Str × Int))} {ps : List Addr} (h : Kds H ks ps) (hn : z ∉ ps) : Kds (upd H z o) ks ps := by
  obtain ⟨xs, hz⟩ := hz
  have tp : Tups H (upd H z o) := fun p ys hp => by rw [upd_ne (ne_of hp hz (by intro e; cases e))]; exact hp
  induction h with
  | nil => exact .nil
  | @cons k p ks ps a _ ih =>
    obtain ⟨ts, h1, h2⟩ := a
    refine .cons ⟨ts, ?_, h2.keep tp⟩ (ih fun e => hn (List.mem_cons_of_mem _ e))
    rw [upd_ne (fun e => hn (by rw [e]; exact List.mem_cons_self))]
    exact h1
theorem Kds.mem {H : Hp} {ks : List (List (Str × Int))} {ps : List Addr} (h : Kds H ks ps) : ∀ p ∈ ps, ∃ xs, H p = some (.lst xs) := by
  induction h with
  | nil => intro p hp; cases hp
  | cons a _ ih =>
    intro q hq
    rcases List.mem_cons.mp hq with e | hq
    · rw [e]
      obtain ⟨ts, h1, _⟩ := a
      exact ⟨_, h1⟩
    · exact ih q hq
def tagsOf (ks : List (List (Str × Int))) : List Str := ks.flatten.map (·.1)
structure KOk (ns : List Int) (st : Str) (ks : List (List (Str × Int))) : Prop where
  tags : tagsOf ks = (List.range ns.length).map fun j => nm st (pl j)
  ne : ∀ k ∈ ks, k ≠ []
  size : ∀ p ∈ ks.flatten, 0 <= p.2 /\ p.2 <= 9
  few : ks.length <= ns.length
theorem KOk.nodup {ns : List Int} {st : Str} {ks : List (List (Str × Int))} (h : KOk ns st ks) (hn : ns.length <= 63) : (tagsOf ks).Nodup := by
  rw [h.tags]
  unfold List.Nodup
  rw [List.pairwise_map]
  refine List.Pairwise.imp_of_mem (fun {i j} hi hj hlt e => ?_) List.pairwise_lt_range
  rw [List.mem_range] at hi hj
  have := pl_inj (by omega) (by omega) (nm_inj (pl_lt i) (pl_lt j) e)
  omega
theorem ne_empty {ps : List Addr} (h : ps ≠ []) : (ps.map V.ref).isEmpty = false := by
  cases ps with
  | nil => exact absurd rfl h
  | cons _ _ => rfl
theorem Kds.unsnoc {H : Hp} : ∀ {ks : List (List (Str × Int))} {ps : List Addr}, Kds H ks ps -> ps ≠ [] -> ∃ ks0 k ps0 p, ks = ks0 ++ [k] /\ ps = ps0 ++ [p] /\ Kds H ks0 ps0 /\ Row H k p
  | _, _, .nil, h => absurd rfl h
  | _, _, .cons (k := k) (p := p) r .nil, _ => ⟨[], k, [], p, rfl, rfl, .nil, r⟩
  | _, _, .cons (k := k) (p := p) r (.cons a b), _ => by
    obtain ⟨ks0, k', ps0, p', e1, e2, h1, h2⟩ := Kds.unsnoc (.cons a b) (by simp)
    exact ⟨k :: ks0, k', p :: ps0, p', by rw [e1]; rfl, by rw [e2]; rfl, .cons r h1, h2⟩
def spKinds (K : PySem.W.Frag) : Sp := fun vs H Q _ => ∃ (a : Addr) (ns : List Int), vs = [.ref a] /\ SqL K H a (ns.map V.int) /\ ns.length <= 63 /\ ∀ (H' : Hp) (pk : Addr) (ps : List Addr) (ks : List (List (Str × Int))) (st : Str), Same H H' -> H' pk = some (.lst (ps.map V.ref)) -> Kds H' ks ps -> KOk ns st ks -> st.length <= 9 -> Q (.ref pk) H'
section
variable {P : Program} {w : World} {K : PySem.W.Frag} {mg : Str -> Option Value} {base : Heap} {f : Addr} {fd : FuncData}
theorem scKinds : FnScope ["_law_script", "_law_stem_here", "_law_kinds_here", "_law_k", "_law_cell"] ["_law_script"] (defScope sKinds) := ⟨rfl, rfl, rfl, by decide +kernel, rfl, by decide +kernel, by decide +kernel⟩
theorem ok_kinds (F : Fun K "_law_kinds" "_law_kinds" sKinds f fd) (GC : Ca P w K mg base CX0 1 "_law_cell_at" ["_law_script", "_law_k"] (spCellAt K)) (GS : Ca P w K mg base CX0 1 "_law_stem" ["_law_cell"] spStem) (GN : Ca P w K mg base CX0 1 "_law_name" ["_law_stem_here", "_law_k"] spNm) (m_enumerate : mg "enumerate" = none) (m_len : mg "len" = none) : FnOk P w K mg base CX0 2 f fd ["_law_script"] (spKinds K) := by
  refine F.by scKinds (fun vs H Q E h => ?_) (fun cdv A outer s H vs Q E hr h => ?_)
  · obtain ⟨a, ns, rfl, _⟩ := h
    rfl
  obtain ⟨a, ns, rfl, hS, h63, q⟩ := h
  refine ⟨_,
    (jss_cons (js_set (i := 1) scKinds.nd rfl (Or.inl rfl) (je_ca GS hr rfl pass0 (ja_c (je_op jo_fdiv (je_ca GC hr rfl pass0 (ja_c (jv 0) (ja_c je_int ja_nil))) je_int) ja_nil)))
    (jss_cons (js_set (i := 2) scKinds.nd rfl (Or.inl rfl) (je_lst ja_nil))
    (jss_cons (js_for PassesOwn.never rfl (ji_enum rfl m_enumerate (ja_c (je_slice jl_list (jv 0) jo_none (jo_some je_int)) ja_nil)) (jg_tup rfl (jgs_cons (jg_name (i := 3) scKinds.nd rfl (Or.inl rfl)) (jgs_cons (jg_name (i := 4) scKinds.nd rfl (Or.inl rfl)) jgs_nil)))
      (jss_cons (js_if (jW.pt (jw_or (jt_cmpR (jo_eqE hr) (jv 2) (je_lst ja_nil) (nomark _)) (jw_or1 (jW.pt (jw_and (jt_cmpR jo_eq (je_op jo_mod (je_op jo_fdiv (jv 4) je_int) je_int) je_int (nomark _)) (jw_and1 (jt_cmpR jo_lt (je_fnB jc_len_seq rfl m_len PySem.boot_len (ja_c (jv 2) ja_nil)) je_int (nomark _))))))))
        (jss_one (js_expr (je_bm PySem.F.plainAttrs_list PySem.F.slot_list_append PySem.F.type_list_append jm_append (jv 2) (ja_c (je_lst ja_nil) ja_nil)))) jss_nil)
      (jss_one (js_expr (je_bm PySem.F.plainAttrs_list PySem.F.slot_list_append PySem.F.type_list_append jm_append (je_ix jx_list (jv 2) (je_neg je_int) (fun _ _ => rfl)) (ja_c (je_tup (ja_c (je_ca GN hr rfl pass0 (ja_c (jv 1) (ja_c (je_op jo_mod (je_op jo_mul je_int (jv 3)) je_int) ja_nil))) (ja_c (je_op jo_mod (jv 4) je_int) ja_nil))) ja_nil))))))
    (jss_one (js_ret (jv 2)))))), ?_⟩
  have sl := line0
  refine ⟨_, rfl, a, ns, 0, rfl, hS, fun c0 => ?_⟩
  refine ⟨_, _, rfl, rfl, ⟨by decide, by decide⟩, _, rfl, fun st hst => ?_⟩
  refine ⟨by show 0 <= sizeLine; decide, fun pk h1 => ?_⟩
  have s1 := same_new (o := .lst []) h1
  refine ⟨_, rfl, _, rfl, _, _, rfl, s1.seq hS, fun pc h2 => ?_⟩
  have ecut : cutV (ns.map V.int) none (some 110) = ns.map V.int := by
    unfold cutV
    rw [List.length_map]
    have c1 : HT.sIx ns.length 0 none = 0 := rfl
    have c2 : HT.sIx ns.length ns.length (some 110) = ns.length := by
      show (if (110 : Int) < 0 then ((110 : Int) + (ns.length : Nat)).toNat else min (110 : Int).toNat ns.length) = ns.length
      rw [if_neg (by decide)]
      show min 110 ns.length = ns.length
      omega
    rw [c1, c2, List.drop_zero, Nat.sub_zero, List.take_of_length_le (by rw [List.length_map]; exact Nat.le_refl _)]
  rw [ecut]
  have s2 := s1.new (o := .lst (ns.map V.int)) h2
  have npk : H pk = none := h1
  have npc : pc ≠ pk := (ne_of_none upd_same h2).symm
  have hpc : upd (upd H pk (.lst [])) pc (.lst (ns.map V.int)) pc = some (.lst (ns.map V.int)) := upd_same
  have hpk : upd (upd H pk (.lst [])) pc (.lst (ns.map V.int)) pk = some (.lst []) := old h2 upd_same
  have fpc : H pc = none := s1.free h2
  generalize upd (upd H pk (.lst [])) pc (.lst (ns.map V.int)) = H2 at *
  refine ⟨_, rfl, ⟨_, SqL.of hpc⟩, for_enum (xs := ns.map V.int) (fun i σ H' => ∃ (ps : List Addr) (ks : List (List (Str × Int))) (x y : Option V), σ = [some (.ref a), some (.str st), some (.ref pk), x, y] /\ Same H H' /\ H' pc = some (.lst (ns.map V.int)) /\ H' pk = some (.lst (ps.map V.ref)) /\ Kds H' ks ps /\ ps.Nodup /\ (∀ p ∈ ps, H p = none /\ p ≠ pk /\ p ≠ pc) /\ KOk (ns.take i) st ks)
    ⟨[], [], none, none, rfl, s2, hpc, hpk, .nil, List.nodup_nil, (fun p hp => by cases hp), ⟨rfl, (fun k hk => by cases hk), (fun p hp => by cases hp), Nat.zero_le _⟩⟩ (fun i σ H' _ h => ?_) ?_ ?_⟩
  · obtain ⟨_, _, _, _, _, _, h, _⟩ := h
    exact SqL.of h
  · rintro i x T σ H3 hx hT ⟨ps, ks, y, z, rfl, s3, hpc3, hpk3, hK, hnd, hfr, hok⟩
    rw [List.getElem?_map] at hx
    obtain ⟨c, hc, rfl⟩ := Option.map_eq_some_iff.mp hx
    have hi : i < ns.length := (List.getElem?_eq_some_iff.mp hc).1
    have hlen : (ns.take i).length = i := by rw [List.length_take]; omega
    have hkl := hK.len
    have hfew := hok.few
    rw [hlen] at hfew
    refine ⟨_, _, rfl, SqT.of upd_same, rfl, _, _, rfl, _, _, rfl, rfl, ?_⟩
    have s4 := s3.new (o := .tup [.int (i : Nat), .int c]) hT
    have n4 := same_new (o := .tup [.int (i : Nat), .int c]) hT
    have hpc4 := n4 _ _ hpc3
    have hpk4 := n4 _ _ hpk3
    have hK4 := hK.keep n4
    generalize upd H3 T (.tup [.int (i : Nat), .int c]) = H4 at *
    refine (show ∀ (u : TS) (D : Ends), (∀ (H5 : Hp) (ps0 : List Addr) (p : Addr) (ks0 : List (List (Str × Int))) (k : List (Str × Int)), Same H H5 -> H5 pc = some (.lst (ns.map V.int)) -> H5 pk = some (.lst ((ps0 ++ [p]).map V.ref)) -> Kds H5 ks0 ps0 -> Row H5 k p -> (ps0 ++ [p]).Nodup -> (∀ r ∈ ps0 ++ [p], H r = none /\ r ≠ pk /\ r ≠ pc) -> tagsOf (ks0 ++ [k]) = tagsOf ks -> (∀ r ∈ ks0, r ≠ []) -> (∀ r ∈ (ks0 ++ [k]).flatten, 0 <= r.2 /\ r.2 <= 9) -> ks0.length <= i -> u D [some (.ref a), some (.str st), some (.ref pk), some (.int (i : Nat)), some (.int c)] H5) -> (tSeq _ u : TS) D [some (.ref a), some (.str st), some (.ref pk), some (.int (i : Nat)), some (.int c)] H4 from ?key) _ _ ?rest
    case key =>
      intro u D rest
      suffices new : ∀ H5, Same H H5 -> H5 pc = some (.lst (ns.map V.int)) -> H5 pk = some (.lst (ps.map V.ref)) -> Kds H5 ks ps -> (tDrop _ : TS) _ [some (.ref a), some (.str st), some (.ref pk), some (.int (i : Nat)), some (.int c)] H5 by
        refine ⟨_, rfl, by show 0 <= sizeLine; decide, fun pe h5 => ?_⟩
        refine ⟨_, _, _, rfl, rfl, SqL.of (old h5 hpk4), SqL.of upd_same, _, rfl, ?_⟩
        obtain ⟨H5, eH5⟩ : ∃ X, X = upd H4 pe (.lst []) := ⟨_, rfl⟩
        have n5 : Same H4 H5 := by rw [eH5]; exact same_new h5 _
        have s5 := s4.trans n5
        have hpc5 := n5 _ _ hpc4
        have hpk5 := n5 _ _ hpk4
        have hK5 := hK4.keep n5
        rw [<- eH5]
        by_cases hps : ps = []
        · have e0 : (ps.map V.ref).isEmpty = true := by rw [hps]; rfl
          show if (if false = true then !(ps.map V.ref).isEmpty else (ps.map V.ref).isEmpty) = true then _ else _
          rw [e0]
          exact iteT (iteT (new H5 s5 hpc5 hpk5 hK5))
        · have e0 := ne_empty hps
          show if (if false = true then !(ps.map V.ref).isEmpty else (ps.map V.ref).isEmpty) = true then _ else _
          rw [e0]
          refine iteF ?_
          obtain ⟨ks0, k, ps0, p, ek, ep, hk0, hr0⟩ := hK5.unsnoc hps
          have hl0 : ks0.length <= i := by
            have := congrArg List.length ek
            rw [List.length_append] at this
            omega
          refine ⟨_, rfl, _, _, rfl, rfl, ⟨by decide, by decide⟩, _, _, rfl, rfl, (by show (0 : Int) < _; decide), rfl, _, rfl, ?_⟩
          refine ite2 (fun _ => ?_) (fun _ => iteF (nxt (rest H5 ps0 p ks0 k s5 hpc5 (by rw [<- ep]; exact hpk5) hk0 hr0 (by rw [<- ep]; exact hnd) (by rw [<- ep]; exact hfr) (by rw [<- ek]) (fun r hr => hok.ne r (by rw [ek]; exact List.mem_append_left _ hr)) (by rw [<- ek]; exact hok.size) hl0)))
          refine ⟨_, rfl, _, _, rfl, .inl (SqL.of hpk5), _, _, rfl, rfl, _, rfl, ?_⟩
          refine ite2 (fun _ => new H5 s5 hpc5 hpk5 hK5) (fun _ => nxt (rest H5 ps0 p ks0 k s5 hpc5 (by rw [<- ep]; exact hpk5) hk0 hr0 (by rw [<- ep]; exact hnd) (by rw [<- ep]; exact hfr) (by rw [<- ek]) (fun r hr => hok.ne r (by rw [ek]; exact List.mem_append_left _ hr)) (by rw [<- ek]; exact hok.size) hl0))
      intro H4 s4 hpc4 hpk4 hK4
      refine ⟨_, rfl, .inl ⟨rfl, _, SqL.of hpk4⟩, by show 0 <= sizeLine; decide, fun pn h5 => ?_⟩
      refine ⟨_, _, _, rfl, rfl, old h5 hpk4, by rw [List.length_map]; omega, ?_⟩
      have npn : pn ≠ pk := (ne_of_none hpk4 h5).symm
      have npn2 : pn ≠ pc := (ne_of_none hpc4 h5).symm
      have fpn : H pn = none := s4.free h5
      have nps : pn ∉ ps := fun e => by
        obtain ⟨xs, hx⟩ := hK4.mem pn e
        rw [h5] at hx
        cases hx
      refine rest _ ps pn ks [] ((s4.new h5).put npk) (by rw [upd_ne npc]; exact old h5 hpc4) (by rw [upd_same]; simp) ((hK4.keep (same_new h5 _)).off ⟨_, old h5 hpk4⟩ fun e => (hfr _ e).2.1 rfl) ⟨[], by rw [upd_ne npn]; exact upd_same, .nil⟩ ?_ ?_ ?_ hok.ne ?_ hfew
      · rw [List.nodup_append]
        refine ⟨hnd, by simp, fun r hr r' hr' => ?_⟩
        rw [List.mem_singleton.mp hr']
        exact fun e => nps (e ▸ hr)
      · intro r hr
        rcases List.mem_append.mp hr with e | e
        · exact hfr r e
        · rw [List.mem_singleton.mp e]
          exact ⟨fpn, npn, npn2⟩
      · unfold tagsOf
        simp
      · intro r hr
        refine hok.size r ?_
        simpa using hr
    case rest =>
    intro H5 ps0 p ks0 k s5 hpc5 hpk5 hK5 hR5 hnd5 hfr5 etag hne5 hsz5 hl5
    obtain ⟨ts, hp5, hT5⟩ := hR5
    have hp := hfr5 p (by simp)
    have e37 : (37 * ((i : Nat) : Int)) % 676 = ((pl i : Nat) : Int) := by unfold pl; omega
    have atl : atI ((ps0 ++ [p]).map V.ref) (-1) = some (.ref p) := by rw [List.map_append]; exact atI_last _ _
    have c0 := Int.emod_nonneg c (show (10 : Int) ≠ 0 by decide)
    have c1 := Int.emod_lt_of_pos c (show (0 : Int) < 10 by decide)
    have htl := hT5.len
    have hkk : k.length <= 63 := by
      have e := congrArg List.length etag
      rw [hok.tags] at e
      unfold tagsOf at e
      rw [List.length_map, List.length_map, List.length_range, hlen, List.flatten_append, List.length_append] at e
      simp at e
      omega
    refine ⟨_, rfl, _, rfl, pk, _, _, _, rfl, rfl, SqL.of hpk5, atl, .inl ⟨rfl, _, SqL.of hp5⟩, _, rfl, _, rfl, _, _, rfl, rfl, .inl ⟨by decide, by decide⟩, _, _, rfl, rfl, (by show (0 : Int) < _; decide), ?_⟩
    refine ⟨st, pl i, (by show [V.str st, V.int (37 * ((i : Nat) : Int) % 676)] = [V.str st, V.int ((pl i : Nat) : Int)]; rw [e37]), hst, pl_lt i, _, rfl, _, _, rfl, rfl, (by show (0 : Int) < _; decide), by show 2 <= sizeLine; decide, fun pt h6 => ?_⟩
    refine ⟨_, _, _, rfl, rfl, old h6 hp5, by rw [List.length_map]; omega, ?_⟩
    have npt : pt ≠ p := (ne_of_none hp5 h6).symm
    refine ⟨ps0 ++ [p], ks0 ++ [k ++ [(nm st (pl i), c % 10)]], _, _, rfl, (s5.new h6).put hp.1, ?_, ?_, ?_, hnd5, hfr5, ⟨?_, ?_, ?_, ?_⟩⟩
    · rw [upd_ne hp.2.2.symm]
      exact old h6 hpc5
    · rw [upd_ne hp.2.1.symm]
      exact old h6 hpk5
    · have hpn : p ∉ ps0 := fun e => by
        rw [List.nodup_append] at hnd5
        exact hnd5.2.2 p e p (by simp) rfl
      refine ((hK5.keep (same_new h6 _)).off ⟨_, old h6 hp5⟩ hpn).app (.cons ⟨ts ++ [pt], by rw [upd_same]; simp, ?_⟩ .nil)
      have tp : Tups H5 (upd (upd H5 pt (.tup [.str (nm st (pl i)), .int (c % 10)])) p (.lst (ts.map V.ref ++ [.ref pt]))) := fun z xs hz => by
        rw [upd_ne (ne_of hz hp5 (by intro e; cases e))]
        exact old h6 hz
      exact (hT5.keep tp).app (.cons (by rw [upd_ne npt]; exact upd_same) .nil)
    · have el : (ns.take (i + 1)).length = i + 1 := by rw [List.length_take]; omega
      rw [el, List.range_succ, List.map_append]
      have e2 := hok.tags
      rw [hlen] at e2
      rw [<- e2, <- etag]
      unfold tagsOf
      simp
    · intro r hr
      rcases List.mem_append.mp hr with e | e
      · exact hne5 r e
      · rw [List.mem_singleton.mp e]
        simp
    · intro r hr
      rw [List.flatten_append] at hr
      rcases List.mem_append.mp hr with e | e
      · exact hsz5 r (by rw [List.flatten_append]; exact List.mem_append_left _ e)
      · have e' : r ∈ k ++ [(nm st (pl i), c % 10)] := by simpa using e
        rcases List.mem_append.mp e' with e | e
        · exact hsz5 r (by rw [List.flatten_append]; exact List.mem_append_right _ (by simpa using e))
        · rw [List.mem_singleton.mp e]
          exact ⟨c0, by show c % 10 <= 9; omega⟩
    · rw [List.length_append, List.length_take]
      show _ + 1 <= _
      omega
  · rintro σ H3 ⟨ps, ks, y, z, rfl, s3, hpc3, hpk3, hK, hnd, hfr, hok⟩
    rw [List.length_map, List.take_of_length_le (Nat.le_refl _)] at hok
    exact ⟨_, rfl, q _ pk ps ks st s3 hpk3 hK hok hst⟩
end
end KD
namespace L2
open PySem PySem.Spec PyProof.Rows
section
variable {X : Cx} {pos : Pos}
theorem jc_tuple_ofK (K : PySem.W.Frag) (h : X.K = K := by rfl) : jCa X (.type "tuple") (fun xs H Q => ∃ p ys, xs = [.ref p] /\ ((SqL K H p ys /\ ∀ l, H l = none -> Q (.ref l) (upd H l (.tup ys))) \/ (SqT K H p ys /\ Q (.ref p) H))) := h ▸ jc_tuple_of
end
end L2
namespace L2
open PySem PySem.Spec PyProof.Rows
def lay (H : Hp) : List (Addr × HO) -> Hp
  | [] => H
  | p :: r => upd (lay H r) p.1 p.2
theorem lay_off {H : Hp} : ∀ {l : List (Addr × HO)} {b : Addr}, b ∉ l.map (·.1) -> lay H l b = H b
  | [], _, _ => rfl
  | p :: r, b, h => by
    rw [List.map_cons, List.mem_cons, not_or] at h
    show upd (lay H r) p.1 p.2 b = _
    rw [upd_ne h.1]
    exact lay_off h.2
theorem lay_at {H : Hp} : ∀ {l : List (Addr × HO)} {p : Addr × HO}, (l.map (·.1)).Nodup -> p ∈ l -> lay H l p.1 = some p.2
  | q :: r, p, hn, hm => by
    rw [List.map_cons, List.nodup_cons] at hn
    show upd (lay H r) q.1 q.2 p.1 = _
    rcases List.mem_cons.mp hm with e | e
    · subst e
      exact upd_same
    · rw [upd_ne fun z => hn.1 (by rw [<- z]; exact List.mem_map_of_mem e)]
      exact lay_at hn.2 e
section
variable {X : Cx} {pins : List (Addr × Obj)} {σ : St} {H : Hp} {s : Shared} {h' : Heap}
theorem Inv.lays {l : List (Addr × HO)} {t' : Nat} (I : Inv X pins σ H s) (k : ∀ b u, s.heap.get? b = some u -> h'.get? b = some u) (hp : ∀ p ∈ l, s.heap.objs.size <= p.1) (hn : (l.map (·.1)).Nodup) (new : ∀ p ∈ l, ObjOk X.prog X.w (lay H l) h' p.1 p.2) :
    Inv X pins σ (lay H l) { s with heap := h', toks := t' } := by
  have off : ∀ b, b < s.heap.objs.size -> lay H l b = H b := fun b hb => lay_off fun z => by
    obtain ⟨p, h1, h2⟩ := List.mem_map.mp z
    have := hp p h1
    rw [h2] at this
    exact absurd hb (Nat.not_lt.mpr this)
  have st : ∀ b u, H b = some u -> lay H l b = some u := fun b u e => by rw [off b (I.hok.lt e)]; exact e
  refine I.un ⟨fun b u q _ _ _ => k b u q, fun b u q _ _ _ => ⟨u.slots, k b u q⟩, fun b u q n _ => by rw [off b (Heap.lt_size q)]; exact n, fun b u q _ => ⟨u, k b u q⟩, fun b xs q => st b _ q, fun b o u q => st b _ q, fun b ps q => ⟨#[], by rw [st b _ q]; simp⟩⟩ fun b u e => ?_
  by_cases hb : b ∈ l.map (·.1)
  · obtain ⟨p, h1, rfl⟩ := List.mem_map.mp hb
    rw [lay_at hn h1] at e
    cases e
    exact new p h1
  · rw [lay_off hb] at e
    exact (I.hok b u e).stay (fun c v _ q => k c v q) (fun c q => st c _ q) fun c xs q => st c _ q
end
theorem kV_of {P : Program} {w : World} {k : Key} {u : Value} (h : (mixKind P w).is k u = true) : RelV (kV k) u := by
  rw [mixKind_is] at h
  rcases keyIs_shape h with ⟨i, t, rfl, rfl⟩ | ⟨x, t, rfl, rfl⟩
  · exact ⟨t, rfl⟩
  · exact ⟨t, rfl⟩
section
variable {X : Cx}
abbrev Prs (H : Hp) : List (Key × V) -> List Addr -> Prop := Paired fun kv t => H t = some (.tup [kV kv.1, kv.2])
def rItems : V -> List V -> Hp -> VK -> Prop := fun x vs H Q => ∃ d kvs, x = .ref d /\ vs = [] /\ H d = some (.dK kvs) /\ ∀ p, H p = none -> Q (.ref p) (upd H p (.ext fun h => h.IsItemsView p d))
theorem mt_items : MtM X "dict.items" rItems := by
  intro pins s σ H x vs v us Q I rx rv h
  obtain ⟨d, kvs, rfl, rfl, hd, q⟩ := h
  cases rx
  have hus := rv.zero
  subst hus
  obtain ⟨z, hs, ws, rel, dd⟩ := dk_of I.hok hd
  refine call_meetsIn PySem.F.slot_dict_items dd.typeIs PySem.F.entry_dict_items (PySem.F.args_dict_items_1 _) (meets_dict_items (mixKind X.prog X.w) d hs) ⟨⟨ws, dd⟩, ?_⟩
  have e := Heap.get?_push_size (h := s.heap) (o := { cls := .type "dict_items", data := .fields #[.ref d] }) rfl
  refine ⟨.ref _, _, I.laid (t' := s.toks) (fun b o e => Heap.get?_push_of_some _ e) (Nat.le_refl _) ?_, rfl, q _ (I.hok.fresh (Nat.le_refl _))⟩
  refine ⟨⟨_, e, rfl, rfl⟩, ⟨_, e⟩, fun h1 h2 ⟨o, a, b⟩ k => ⟨o, k o a, b⟩⟩
theorem jm_items : jMt X "dict.items" rItems := ⟨mt_items⟩
def rDClear : V -> List V -> Hp -> VK -> Prop := fun x vs H Q => ∃ d kvs, x = .ref d /\ vs = [] /\ H d = some (.dK kvs) /\ Q .non (upd H d (.dK []))
theorem mt_dclear : MtM X "dict.clear" rDClear := by
  intro pins s σ H x vs v us Q I rx rv h
  obtain ⟨d, kvs, rfl, rfl, hd, q⟩ := h
  cases rx
  have hus := rv.zero
  subst hus
  exact d_clear I hd fun s' I' => ⟨.non, _, I', rfl, q⟩
theorem jm_dclear : jMt X "dict.clear" rDClear := ⟨mt_dclear⟩
theorem js_dput {o i value : Expr} {td ty tv : TE} {pos pos' : Pos} {k : Nat} (hr : Room k X.A) (ho : jE X o td) (hi : jE X i ty) (hv : jE X value tv) (hs : swapsWith value (some (.Subscript o i pos')) pos.line X.env = pure false := by rfl) :
    jS X (.Assign [.Subscript o i pos'] value pos) (sDPut td ty tv) := ⟨ps_dput (by have := hr.units; omega) ho.out hi.out hv.out hs⟩
theorem prs_of {P : Program} {w : World} {H' : Hp} : ∀ {kvs : List (Key × V)} {ws : List (Key × Value)} {as : List Addr}, KV kvs ws -> as.length = ws.length -> (∀ (j : Nat) (a : Addr) (kv : Key × V), as[j]? = some a -> kvs[j]? = some kv -> H' a = some (.tup [kV kv.1, kv.2])) -> Prs H' kvs as
  | [], _, as, r, hl, _ => by
    cases r
    cases as with
    | nil => exact .nil
    | cons _ _ => simp at hl
  | kv :: kvs, _, as, r, hl, h => by
    cases r with
    | cons _ t =>
      cases as with
      | nil => simp at hl
      | cons a as => exact .cons (h 0 a kv rfl rfl) (prs_of (P := P) (w := w) t (by simpa using hl) fun j b kv h1 h2 => h (j + 1) b kv (by simpa using h1) (by simpa using h2))
def rListItems : List V -> Hp -> VK -> Prop := fun xs H Q => ∃ v d kvs, xs = [.ref v] /\ H v = some (.ext fun h => h.IsItemsView v d) /\ H d = some (.dK kvs) /\ kvs.length <= 1000 /\
  ∀ H' l ts, Same H H' -> H l = none -> H' l = some (.lst (ts.map V.ref)) -> Prs H' kvs ts -> Q (.ref l) H'
theorem KV.get {kvs : List (Key × V)} {ws : List (Key × Value)} (r : KV kvs ws) {j : Nat} {k : Key} {x : Value} (h : ws[j]? = some (k, x)) : ∃ y, kvs[j]? = some (k, y) /\ RelV y x := by
  unfold KV at r
  induction r generalizing j with
  | nil => simp at h
  | @cons p q ps qs hh t ih =>
    cases j with
    | zero =>
      simp at h
      subst h
      obtain ⟨p1, p2⟩ := p
      have e : p1 = k := hh.1
      subst e
      exact ⟨p2, rfl, hh.2⟩
    | succ j =>
      obtain ⟨y, h1, h2⟩ := ih (j := j) (by simpa using h)
      exact ⟨y, by simpa using h1, h2⟩
theorem vals_refsA : ∀ (as : List Addr), Vals (as.map V.ref) (as.map Value.ref)
  | [] => .nil
  | a :: as => .cons rfl (vals_refsA as)
theorem call_list_items (hc : X.calm = true) : CallR X (.type "list") rListItems := by
  intro pins s σ H xs us Q I r h
  obtain ⟨v, d, kvs, rfl, hv, hd, hl, q⟩ := h
  obtain ⟨u, rfl, rx⟩ := vals1 r
  cases rx
  obtain ⟨z, hs, ws, rel, dd⟩ := dk_of I.hok hd
  obtain ⟨ep, da⟩ := dd.dictAt
  have hvw : s.heap.IsItemsView v d := (I.hok v _ hv).1
  have wl := rel.length
  have sl : sizeLine = 16777216 := by unfold sizeLine; rfl
  refine PySem.W.kdx_call (knd := mixKind X.prog X.w) (kvs := ws) (ep := ep) (I.ok.hd hc) hvw da (by omega) fun h' tk acc c as hk hS hal hG hacc => ?_
  have hG2 := fun j a hj => hG.pairs j a hj
  have lt : ∀ a ∈ as, s.heap.objs.size < a := hG.above
  have hnd : as.Nodup := hG.rise.imp fun h => Nat.ne_of_lt h
  -- the new objects
  let L : List (Addr × HO) := (s.heap.objs.size, HO.lst (as.map V.ref)) :: (as.zip kvs).map fun p => (p.1, HO.tup [kV p.2.1, p.2.2])
  have hm : L.map (·.1) = s.heap.objs.size :: as := by
    show _ :: ((as.zip kvs).map _).map _ = _
    rw [List.map_map]
    congr 1
    exact List.map_fst_zip (by omega)
  have hmn : (L.map (·.1)).Nodup := by
    rw [hm, List.nodup_cons]
    exact ⟨fun z => Nat.lt_irrefl _ (lt _ z), hnd⟩
  have hL0 : lay H L s.heap.objs.size = some (.lst (as.map V.ref)) := lay_at (p := (s.heap.objs.size, HO.lst (as.map V.ref))) hmn List.mem_cons_self
  have hLj : ∀ (j : Nat) (a : Addr) (kv : Key × V), as[j]? = some a -> kvs[j]? = some kv -> lay H L a = some (.tup [kV kv.1, kv.2]) := fun j a kv h1 h2 => by
    refine lay_at (p := (a, HO.tup [kV kv.1, kv.2])) hmn (List.mem_cons_of_mem _ (List.mem_map.mpr ⟨(a, kv), ?_, rfl⟩))
    exact List.mem_of_getElem? (i := j) (by rw [List.getElem?_zip_eq_some]; exact ⟨h1, h2⟩)
  refine ⟨.ref s.heap.objs.size, lay H L, I.lays (t' := tk) hk ?_ hmn ?_, rfl, q _ _ as ?_ (I.hok.fresh (Nat.le_refl _)) hL0 (prs_of (P := X.prog) (w := X.w) rel hal hLj)⟩
  · intro p hp
    have : p.1 ∈ L.map (·.1) := List.mem_map_of_mem hp
    rw [hm] at this
    rcases List.mem_cons.mp this with e | e
    · exact Nat.le_of_eq e.symm
    · exact Nat.le_of_lt (lt _ e)
  · intro p hp
    rcases List.mem_cons.mp hp with e | e
    · subst e
      refine ⟨by rw [List.length_map]; omega, as.map Value.ref, c, vals_refsA as, ?_⟩
      rw [hS, <- hacc]
    · obtain ⟨⟨a, kv⟩, h1, rfl⟩ := List.mem_map.mp e
      obtain ⟨j, hj⟩ := List.mem_iff_getElem?.mp h1
      rw [List.getElem?_zip_eq_some] at hj
      obtain ⟨key, k, x, e1, e2, e3⟩ := hG2 j a hj.1
      obtain ⟨y, e4, e5⟩ := rel.get e1
      rw [hj.2] at e4
      cases e4
      exact ⟨by show 2 <= sizeLine; omega, [key, x], .cons (kV_of e2) (.cons e5 .nil), _, e3, rfl, 0, rfl⟩
  · intro b u e
    rw [lay_off (fun z => ?_)]
    · exact e
    · rw [hm] at z
      have := I.hok.lt e
      rcases List.mem_cons.mp z with w | w
      · exact absurd w (Nat.ne_of_lt this)
      · exact absurd (lt _ w) (Nat.not_lt.mpr (Nat.le_of_lt this))
theorem jc_list_items (hc : X.calm = true) : jCa X (.type "list") rListItems := ⟨call_list_items hc⟩
def rSameP (K : PySem.W.Frag) (b : Bool) : R2 := fun x y H Q => ∃ (p p' : Addr) (ts ts' : List Addr), x = .ref p /\ y = .ref p' /\ SqL K H p (ts.map V.ref) /\ SqL K H p' (ts'.map V.ref) /\ ts.length = ts'.length /\
  (∀ (j : Nat) (t t' : Addr), ts[j]? = some t -> ts'[j]? = some t' -> ∃ xs : List V, xs.all flatV = true /\ H t = some (.tup xs) /\ H t' = some (.tup xs)) /\ Q (.bl b) H
theorem op_neP (hu : X.A.units + 64 < cLine) : OpR X (compareOp .NotEq) (rSameP X.K false) := by
  intro pins s σ H x y v u Q I rx ry h
  obtain ⟨p, p', ts, ts', rfl, rfl, h1, h2, hl, f, q⟩ := h
  cases rx
  cases ry
  obtain ⟨its, r, pl, _⟩ := I.list h1
  obtain ⟨its', r', pl', _⟩ := I.list h2
  have l1 := r.length
  have l2 := r'.length
  rw [List.length_map] at l1 l2
  refine SeqAt.RcNeAt.lists (e := fun _ => true) pl.isList pl'.isList (by simp; omega) (by omega) (fun j a b => ?_) _ _ _ _ ?_
  · simp at a b
    have g1 : ts[j]? = some (ts[j]'(by omega)) := List.getElem?_eq_getElem _
    have g2 : ts'[j]? = some (ts'[j]'(by omega)) := List.getElem?_eq_getElem _
    obtain ⟨xs, fl, t1, t2⟩ := f j _ _ g1 g2
    obtain ⟨w1, e1, rw1⟩ := r.get (x := .ref (ts[j]'(by omega))) (i := j) (by rw [List.getElem?_map, g1]; rfl)
    obtain ⟨w2, e2, rw2⟩ := r'.get (x := .ref (ts'[j]'(by omega))) (i := j) (by rw [List.getElem?_map, g2]; rfl)
    cases rw1
    cases rw2
    have k1 : its.toArray[j] = Value.ref (ts[j]'(by omega)) := by
      have := List.getElem?_eq_some_iff.mp e1
      simpa using this.2
    have k2 : its'.toArray[j] = Value.ref (ts'[j]'(by omega)) := by
      have := List.getElem?_eq_some_iff.mp e2
      simpa using this.2
    rw [k1, k2]
    by_cases hne : ts[j]'(by omega) = ts'[j]'(by omega)
    · rw [hne]
      exact SeqAt.EqAt.same _
    · obtain ⟨i1, v1, m1, _⟩ := I.tuple (SqT.of (K := X.K) t1)
      obtain ⟨i2, v2, m2, _⟩ := I.tuple (SqT.of (K := X.K) t2)
      have n1 := v1.length
      have n2 := v2.length
      have main := SeqAt.RcAt.tuples (A := X.A.in1) (e := fun _ => true) m1 m2 (by show X.A.units + 1 < cLine; omega) (fun j a b => eq_items v1 v2 fl j a b)
      have eb : ((List.range (min i1.toArray.size i2.toArray.size)).all (fun _ => true) && i1.toArray.size == i2.toArray.size) = true := by
        rw [show (List.range (min i1.toArray.size i2.toArray.size)).all (fun _ => true) = true from List.all_eq_true.mpr fun _ _ => rfl]
        simp
        omega
      rw [eb] at main
      exact SeqAt.EqAt.of_refs hne main
  · rw [show ((List.range its.toArray.size).all fun _ => true) = true from List.all_eq_true.mpr fun _ _ => rfl]
    exact ⟨.bl false, H, I, rfl, q⟩
theorem jo_neP {k : Nat} (hr : Room k X.A) : jOp X (compareOp .NotEq) (rSameP X.K false) := ⟨op_neP hr.units⟩
end
end L2
namespace KD
open PySem L2 K11
theorem Tups.of {H H' : Hp} (s : Same H H') : Tups H H' := fun p xs h => s p _ h
def RowT (H : Hp) (l : List (Str × Int)) (q : Addr) : Prop := ∃ ts, H q = some (.tup (ts.map V.ref)) /\ Tps H l ts
inductive KdsT (H : Hp) : List (List (Str × Int)) -> List Addr -> Prop
  | nil : KdsT H [] []
  | cons {k : List (Str × Int)} {p : Addr} {ks : List (List (Str × Int))} {ps : List Addr} : RowT H k p -> KdsT H ks ps -> KdsT H (k :: ks) (p :: ps)
theorem KdsT.keep {H H' : Hp} (t : Tups H H') {ks : List (List (Str × Int))} {ps : List Addr} (h : KdsT H ks ps) : KdsT H' ks ps := by
  induction h with
  | nil => exact .nil
  | cons a _ ih =>
    obtain ⟨ts, h1, h2⟩ := a
    exact .cons ⟨ts, t _ _ h1, h2.keep t⟩ ih
theorem KdsT.app {H : Hp} {a b : List (List (Str × Int))} {p q : List Addr} (h : KdsT H a p) (g : KdsT H b q) : KdsT H (a ++ b) (p ++ q) := by
  induction h with
  | nil => exact g
  | cons x _ ih => exact .cons x ih
theorem KdsT.len {H : Hp} {l : List (List (Str × Int))} {ts : List Addr} (h : KdsT H l ts) : l.length = ts.length := by
  induction h with
  | nil => rfl
  | cons _ _ ih => rw [List.length_cons, List.length_cons, ih]
theorem KdsT.get {H : Hp} : ∀ {l : List (List (Str × Int))} {ts : List Addr} {i : Nat} {t : Addr}, KdsT H l ts -> ts[i]? = some t -> ∃ k, l[i]? = some k /\ RowT H k t
  | _, _, _, _, .nil, e => by simp at e
  | _, _, 0, _, .cons a _, e => by
    simp at e
    subst e
    exact ⟨_, rfl, a⟩
  | _, _, i + 1, _, .cons _ b, e => by
    obtain ⟨k, h1, h2⟩ := KdsT.get (i := i) b (by simpa using e)
    exact ⟨k, by simpa using h1, h2⟩
structure Few (ks : List (List (Str × Int))) : Prop where
  n : ks.length <= 1000
  k : ks.flatten.length <= 1000
  nd : (tagsOf ks).Nodup
def ents (l : List (Str × Int)) : List (Key × V) := l.map fun a => (.inr a.1, .int a.2)
theorem ents_app (a b : List (Str × Int)) : ents (a ++ b) = ents a ++ ents b := List.map_append
theorem ents_none : ∀ {l : List (Str × Int)} {t : Str}, t ∉ l.map (·.1) -> valV (ents l) (.inr t) = none
  | [], _, _ => rfl
  | a :: l, t, h => by
    rw [List.map_cons, List.mem_cons, not_or] at h
    show valV ((Sum.inr a.1, V.int a.2) :: ents l) (.inr t) = none
    rw [valV_neg (fun e => h.1 (Sum.inr.inj e).symm)]
    exact ents_none h.2
theorem take_snoc {α : Type} {l : List α} {i : Nat} {x : α} (h : l[i]? = some x) : l.take i ++ [x] = l.take (i + 1) := by
  rw [List.take_add_one, h]
  rfl
theorem fl_take {ks : List (List (Str × Int))} {i : Nat} {k : List (Str × Int)} (h : ks[i]? = some k) : (ks.take (i + 1)).flatten = (ks.take i).flatten ++ k := by
  rw [<- take_snoc h, List.flatten_append]
  simp
theorem fl_len {ks : List (List (Str × Int))} {i : Nat} {k : List (Str × Int)} (h : ks[i]? = some k) : (ks.take i).flatten.length + k.length <= ks.flatten.length := by
  have e : ks.flatten = (ks.take (i + 1)).flatten ++ (ks.drop (i + 1)).flatten := by rw [<- List.flatten_append, List.take_append_drop]
  rw [e, List.length_append, fl_take h, List.length_append]
  omega
theorem tag_new {ks : List (List (Str × Int))} {i j : Nat} {k : List (Str × Int)} {a : Str × Int} (hn : (tagsOf ks).Nodup) (h : ks[i]? = some k) (g : k[j]? = some a) : a.1 ∉ ((ks.take i).flatten ++ k.take j).map (·.1) := by
  have e : ks.flatten = ((ks.take i).flatten ++ k.take j ++ [a]) ++ (k.drop (j + 1) ++ (ks.drop (i + 1)).flatten) := by
    have e1 : ks.flatten = (ks.take (i + 1)).flatten ++ (ks.drop (i + 1)).flatten := by rw [<- List.flatten_append, List.take_append_drop]
    have ek : k = k.take j ++ [a] ++ k.drop (j + 1) := by rw [take_snoc g, List.take_append_drop]
    rw [e1, fl_take h]
    conv => lhs; rw [ek]
    simp only [List.append_assoc]
  unfold tagsOf at hn
  rw [e, List.map_append, List.map_append, List.append_assoc] at hn
  rw [List.nodup_append] at hn
  exact fun z => hn.2.2 a.1 z a.1 (by simp) rfl
def spSizes : Sp := fun vs H Q _ => ∃ (p : Addr) (qs : List Addr) (ks : List (List (Str × Int))), vs = [.ref p] /\ H p = some (.tup (qs.map V.ref)) /\ KdsT H ks qs /\ Few ks /\ ∀ (H' : Hp) (d : Addr), Same H H' -> H d = none -> H' d = some (.dK (ents ks.flatten)) -> Q (.ref d) H'
section
variable {P : Program} {w : World} {K : PySem.W.Frag} {mg : Str -> Option Value} {base : Heap} {f : Addr} {fd : FuncData}
theorem scSizes : FnScope ["kinds", "found", "kind", "tag", "size"] ["kinds"] (defScope sSizes) := ⟨rfl, rfl, rfl, by decide +kernel, rfl, by decide +kernel, by decide +kernel⟩
theorem ok_sizes (F : Fun K "sizes" "sizes" sSizes f fd) : FnOk P w K mg base CX0 1 f fd ["kinds"] spSizes := by
  refine F.by scSizes (fun vs H Q E h => ?_) (fun cdv A outer s H vs Q E hr h => ?_)
  · obtain ⟨p, qs, ks, rfl, _⟩ := h
    rfl
  obtain ⟨p, qs, ks, rfl, hp, hK, hF, q⟩ := h
  refine ⟨_,
    (jss_cons (js_set (i := 1) scSizes.nd rfl (Or.inl rfl) je_dnewK)
    (jss_cons (js_for PassesOwn.never rfl (ji_tup (jv 0)) (jg_name (i := 2) scSizes.nd rfl (Or.inl rfl))
      (jss_one (js_for PassesOwn.never rfl (ji_tup (jv 2)) (jg_tup rfl (jgs_cons (jg_name (i := 3) scSizes.nd rfl (Or.inl rfl)) (jgs_cons (jg_name (i := 4) scSizes.nd rfl (Or.inl rfl)) jgs_nil)))
        (jss_one (js_dput hr (jv 1) (jv 3) (jv 4))))))
    (jss_one (js_ret (jv 1))))), ?_⟩
  have sl := line0
  have hlen := hK.len
  intro d hd
  have s1 := same_new (o := .dK []) hd
  refine ⟨_, rfl, _, rfl, ⟨_, SqT.of (s1 _ _ hp)⟩, for_tup (xs := qs.map V.ref) (fun i σ H' => Same H H' /\ H' d = some (.dK (ents (ks.take i).flatten)) /\ ∃ x y z, σ = [some (.ref p), some (.ref d), x, y, z]) ⟨s1, upd_same, none, none, none, rfl⟩ (fun i σ H' _ h => SqT.of (h.1 _ _ hp)) ?_ ?_⟩
  · rintro i v σ H1 hv ⟨s1, hd1, x, y, z, rfl⟩
    rw [List.getElem?_map] at hv
    obtain ⟨qq, hq, rfl⟩ := Option.map_eq_some_iff.mp hv
    obtain ⟨k, hk, ts, hts, hT⟩ := hK.get hq
    have hl := fl_len hk
    have hkl := hF.k
    have htl := hT.len
    refine ⟨_, rfl, _, rfl, ⟨_, SqT.of (s1 _ _ hts)⟩, for_tup (xs := ts.map V.ref) (fun j σ H' => Same H H' /\ H' d = some (.dK (ents ((ks.take i).flatten ++ k.take j))) /\ ∃ y z, σ = [some (.ref p), some (.ref d), some (.ref qq), y, z]) ⟨s1, by rw [List.take_zero, List.append_nil]; exact hd1, _, _, rfl⟩ (fun i σ H' _ h => SqT.of (h.1 _ _ hts)) ?_ ?_⟩
    · rintro j v σ H2 hv ⟨s2, hd2, y, z, rfl⟩
      rw [List.getElem?_map] at hv
      obtain ⟨tt, ht, rfl⟩ := Option.map_eq_some_iff.mp hv
      obtain ⟨a, n, e1, e2⟩ := hT.get ht
      have hj : j < k.length := (List.getElem?_eq_some_iff.mp e1).1
      refine ⟨_, _, rfl, SqT.of (s2 _ _ e2), rfl, _, _, rfl, _, _, rfl, rfl, _, rfl, _, rfl, _, rfl, d, _, rfl, DPut.k (k := .inr a) hd2 ?_, s2.put hd, ?_, _, _, rfl⟩
      · unfold ents
        rw [List.length_map, List.length_append, List.length_take]
        omega
      · rw [upd_same, putK_new _ (ents_none (tag_new hF.nd hk e1)), <- take_snoc e1, <- List.append_assoc, ents_app (_ ++ _) [(a, n)]]
        rfl
    · rintro σ H2 ⟨s2, hd2, y, z, rfl⟩
      rw [List.length_map, <- htl, List.take_of_length_le (Nat.le_refl _), <- fl_take hk] at hd2
      exact ⟨s2, hd2, _, _, _, rfl⟩
  · rintro σ H1 ⟨s1, hd1, x, y, z, rfl⟩
    rw [List.length_map, <- hlen, List.take_of_length_le (Nat.le_refl _)] at hd1
    exact ⟨_, rfl, q _ d s1 hd hd1⟩
end
end KD
namespace KD
open PySem L2 K11
theorem prs_get {H : Hp} : ∀ {kvs : List (Key × V)} {ts : List Addr} {j : Nat} {t : Addr} {kv : Key × V}, Prs H kvs ts -> ts[j]? = some t -> kvs[j]? = some kv -> H t = some (.tup [kV kv.1, kv.2])
  | _, _, _, _, _, .nil, e, _ => by simp at e
  | _, _, 0, _, _, .cons a _, e, g => by
    simp at e g
    subst e
    subst g
    exact a
  | _, _, j + 1, _, _, .cons _ b, e, g => prs_get (j := j) b (by simpa using e) (by simpa using g)
theorem prs_len {H : Hp} {kvs : List (Key × V)} {ts : List Addr} (h : Prs H kvs ts) : kvs.length = ts.length := Paired.length h
theorem ents_get {l : List (Str × Int)} {j : Nat} {a : Str} {n : Int} (h : l[j]? = some (a, n)) : (ents l)[j]? = some (.inr a, .int n) := by
  unfold ents
  rw [List.getElem?_map, h]
  rfl
def spGood : Sp := fun vs H Q _ => ∃ (pk : Addr) (ps : List Addr) (ks : List (List (Str × Int))), vs = [.ref pk] /\ H pk = some (.lst (ps.map V.ref)) /\ Kds H ks ps /\ Few ks /\ ∀ H', Same H H' -> Q (.bl true) H'
section
variable {P : Program} {w : World} {K : PySem.W.Frag} {mg : Str -> Option Value} {base : Heap} {f : Addr} {fd : FuncData}
theorem scGood : FnScope ["_law_kinds_here", "_law_due", "_law_kind", "_law_found", "_law_tag", "_law_size"] ["_law_kinds_here"] (defScope sGood) := ⟨rfl, rfl, rfl, by decide +kernel, rfl, by decide +kernel, by decide +kernel⟩
theorem ok_good (F : Fun K "_law_good" "_law_good" sGood f fd) (GL : Ca P w K mg base CX0 1 "sizes" ["kinds"] spSizes) (m_list : mg "list" = none) (m_tuple : mg "tuple" = none) (m_isinstance : mg "isinstance" = none) (m_str : mg "str" = none) (m_int : mg "int" = none) (m_bool : mg "bool" = none) (m_dict : mg "dict" = none) : FnOk P w K mg base CX0 2 f fd ["_law_kinds_here"] spGood := by
  refine F.by scGood (fun vs H Q E h => ?_) (fun cdv A outer s H vs Q E hr h => ?_)
  · obtain ⟨pk, ps, ks, rfl, _⟩ := h
    rfl
  obtain ⟨pk, ps, ks, rfl, hpk, hK, hF, q⟩ := h
  refine ⟨_,
    (jss_cons (js_set (i := 1) scGood.nd rfl (Or.inl rfl) (je_lst ja_nil))
    (jss_cons (js_for PassesOwn.never rfl (ji_list (jv 0)) (jg_name (i := 2) scGood.nd rfl (Or.inl rfl))
      (jss_one (js_expr (je_bm PySem.F.plainAttrs_list PySem.F.slot_list_extend PySem.F.type_list_extend jm_extend (jv 1) (ja_c (jv 2) ja_nil)))))
    (jss_cons (js_set (i := 3) scGood.nd rfl (Or.inl rfl) (je_ca GL hr rfl pass0 (ja_c (je_fnTy jc_tuple_of rfl m_tuple PyProof.Rows.boot_tuple (ja_c (je_compS [2] [] rfl (ji_list (jv 0)) (fun _ _ _ _ _ => (jg_name (i := 2) scGood.nd rfl (Or.inl rfl))) (fun _ _ _ _ _ => jts_nil) (fun _ _ _ _ _ => (je_fnTy (jc_tuple_ofK K) rfl m_tuple PyProof.Rows.boot_tuple (ja_c (jv 2) ja_nil)))) ja_nil)) ja_nil)))
    (jss_cons (js_if (jW.pt (jw_or (jt_not (jt_val (je_fnB jc_isinst rfl m_isinstance PyProof.Rows.boot_isinstance (ja_c (jv 3) (ja_c (je_bltn (v := .ty "dict") rfl m_dict PyProof.Rows.boot_dict rfl) ja_nil))))) (jw_or1 (jt_cmpR (jo_neP hr) (je_fnTy (jc_list_items rfl) rfl m_list PyProof.Rows.boot_list (ja_c (je_bm0 PySem.F.plainAttrs_dict PySem.F.slot_dict_items PySem.F.type_dict_items jm_items (jv 3)) ja_nil)) (jv 1) (nomark _)))))
      (jss_one (js_ret je_bl)) jss_nil)
    (jss_cons (js_for PassesOwn.never rfl (ji_list (je_fnTy (jc_list_items rfl) rfl m_list PyProof.Rows.boot_list (ja_c (je_bm0 PySem.F.plainAttrs_dict PySem.F.slot_dict_items PySem.F.type_dict_items jm_items (jv 3)) ja_nil))) (jg_tup rfl (jgs_cons (jg_name (i := 4) scGood.nd rfl (Or.inl rfl)) (jgs_cons (jg_name (i := 5) scGood.nd rfl (Or.inl rfl)) jgs_nil)))
      (jss_one (js_if (jW.pt (jw_or (jt_not (jt_val (je_fnB jc_isinst rfl m_isinstance PyProof.Rows.boot_isinstance (ja_c (jv 4) (ja_c (je_bltn (v := .ty "str") rfl m_str PyProof.Rows.boot_str rfl) ja_nil))))) (jw_or (jt_not (jt_val (je_fnB jc_isinst rfl m_isinstance PyProof.Rows.boot_isinstance (ja_c (jv 5) (ja_c (je_bltn (v := .ty "int") rfl m_int PyProof.Rows.boot_int rfl) ja_nil))))) (jw_or1 (jt_val (je_fnB jc_isinst rfl m_isinstance PyProof.Rows.boot_isinstance (ja_c (jv 5) (ja_c (je_bltn (v := .ty "bool") rfl m_bool PyProof.Rows.boot_bool rfl) ja_nil))))))))
        (jss_one (js_ret je_bl)) jss_nil)))
    (jss_cons (js_expr (je_bm0 PySem.F.plainAttrs_dict PySem.F.slot_dict_clear PySem.F.type_dict_clear jm_dclear (jv 3)))
    (jss_one (js_ret je_bl)))))))), ?_⟩
  have sl := line0
  have hkl := hK.len
  have hfn := hF.n
  have hfk := hF.k
  refine ⟨by show 0 <= sizeLine; decide, fun pd h1 => ?_⟩
  have s1 := same_new (o := .lst []) h1
  refine ⟨_, rfl, _, rfl, ⟨_, SqL.of (s1 _ _ hpk)⟩, for_list (xs := ps.map V.ref) (fun i σ H' => ∃ (as : List Addr) (x : Option V), σ = [some (.ref pk), some (.ref pd), x, none, none, none] /\ Same H H' /\ H' pd = some (.lst (as.map V.ref)) /\ Tps H' (ks.take i).flatten as)
    ⟨[], none, rfl, s1, upd_same, .nil⟩ (fun i σ H' _ h => ?_) ?_ ?_⟩
  · obtain ⟨_, _, _, s2, _⟩ := h
    exact SqL.of (s2 _ _ hpk)
  · rintro i v σ H2 hv ⟨as, x, rfl, s2, hpd, hA⟩
    rw [List.getElem?_map] at hv
    obtain ⟨p, hp, rfl⟩ := Option.map_eq_some_iff.mp hv
    obtain ⟨k, hk, tt, htt, hT⟩ := hK.get hp
    have hl := fl_len hk
    have htl := hT.len
    have hal := hA.len
    have htt2 := s2 _ _ htt
    have hT2 := hT.keep (Tups.of s2)
    have tp : Tups H2 (upd H2 pd (.lst (as.map V.ref ++ tt.map V.ref))) := fun z xs hz => by
      rw [upd_ne (ne_of hz hpd (by intro e; cases e))]
      exact hz
    refine ⟨_, rfl, .inl ⟨rfl, _, SqL.of hpd⟩, _, rfl, pd, p, _, _, rfl, rfl, hpd, htt2, by rw [List.length_map, List.length_map]; omega, as ++ tt, _, rfl, s2.put h1, by rw [upd_same, List.map_append], ?_⟩
    rw [fl_take hk]
    exact (hA.keep tp).app (hT2.keep tp)
  rintro σ H2 ⟨as, x, rfl, s2, hpd, hA⟩
  rw [List.length_map, <- hkl, List.take_of_length_le (Nat.le_refl _)] at hA
  refine ⟨_, rfl, _, rfl, ⟨_, SqL.of (s2 _ _ hpk)⟩, lc_list (xs := ps.map V.ref) (fun i τ ys H' => Same H2 H' /\ (∃ u, τ = [some (.ref pk), some (.ref pd), u, none, none, none]) /\ ∃ qs, ys = qs.map V.ref /\ KdsT H' (ks.take i) qs) ⟨Same.refl _, ⟨none, rfl⟩, [], rfl, .nil⟩ (fun i τ ys H' _ h => SqL.of (h.1 _ _ (s2 _ _ hpk))) ?_ ?_⟩
  · rintro i v τ ys H4 hv ⟨s4, ⟨u, rfl⟩, qs, rfl, hq⟩
    rw [List.getElem?_map] at hv
    obtain ⟨p, hp, rfl⟩ := Option.map_eq_some_iff.mp hv
    obtain ⟨k, hk, tt, htt, hT⟩ := hK.get hp
    have hi : i < ks.length := (List.getElem?_eq_some_iff.mp hk).1
    have hql := hq.len
    rw [List.length_take] at hql
    have s34 := s2.trans s4
    refine ⟨_, rfl, p, _, rfl, .inl ⟨SqL.of (s34 _ _ htt), fun l hl => ⟨?_, s4.new hl, ⟨_, rfl⟩, qs ++ [l], ?_, ?_⟩⟩⟩
    · rw [List.length_map]
      omega
    · simp
    · rw [List.take_add_one, hk]
      exact (hq.keep (Tups.of (same_new hl _))).app (.cons ⟨tt, upd_same, hT.keep (Tups.of (s34.new hl))⟩ .nil)
  rintro τ ys H4 ⟨s4, _, qs, rfl, hq⟩ pl hpl
  rw [List.length_map, <- hkl, List.take_of_length_le (Nat.le_refl _)] at hq
  refine ⟨pl, _, rfl, .inl ⟨SqL.of upd_same, fun pq hpq => ?_⟩⟩
  have s5 := (s4.new (o := .lst (qs.map V.ref)) hpl).new (o := .tup (qs.map V.ref)) hpq
  have hq5 := hq.keep (Tups.of ((same_new hpl (.lst (qs.map V.ref))).new (o := .tup (qs.map V.ref)) hpq))
  have hpq5 := upd_same (H := upd H4 pl (.lst (qs.map V.ref))) (a := pq) (o := .tup (qs.map V.ref))
  generalize upd (upd H4 pl (.lst (qs.map V.ref))) pq (.tup (qs.map V.ref)) = H5 at *
  refine ⟨pq, qs, ks, rfl, hpq5, hq5, hF, fun H6 d s6 fr hd6 => ?_⟩
  have s26 := s5.trans s6
  have s06 := s2.trans s26
  have hpd6 := s26 _ _ hpd
  have hA6 := hA.keep (Tups.of s26)
  have fd0 : H d = none := (s2.trans s5).free fr
  refine ⟨_, rfl, _, _, _, _, rfl, .dK hd6, rfl, _, rfl, iteF ?_⟩
  have el : (ents ks.flatten).length = ks.flatten.length := by unfold ents; rw [List.length_map]
  refine ⟨_, rfl, .inr (.inr (.inl ⟨rfl, .inl ⟨_, hd6⟩⟩)), d, _, rfl, rfl, hd6, fun pv h7 => ?_⟩
  refine ⟨pv, d, _, rfl, upd_same, old h7 hd6, by omega, fun H8 l ts s8 hl hlst hprs => ?_⟩
  have s68 := (same_new h7 (.ext fun h => h.IsItemsView pv d)).trans s8
  have hal := hA.len
  have hpl' := prs_len hprs
  have hA8 := hA6.keep (Tups.of s68)
  refine ⟨_, rfl, l, pd, ts, as, rfl, rfl, SqL.of hlst, SqL.of (s68 _ _ hpd6), by omega, fun j t t' e1 e2 => ?_, _, rfl, iteF ?_⟩
  · obtain ⟨a, n, e3, e4⟩ := hA8.get e2
    exact ⟨_, rfl, prs_get hprs e1 (ents_get e3), e4⟩
  have hd8 := s68 _ _ hd6
  have s08 := s06.trans s68
  refine ⟨_, rfl, .inr (.inr (.inl ⟨rfl, .inl ⟨_, hd8⟩⟩)), d, _, rfl, rfl, hd8, fun pv2 h9 => ?_⟩
  refine ⟨pv2, d, _, rfl, upd_same, old h9 hd8, by omega, fun H10 l2 ts2 s10 hl2 hlst2 hprs2 => ?_⟩
  have s810 := (same_new h9 (.ext fun h => h.IsItemsView pv2 d)).trans s10
  have hd10 := s810 _ _ hd8
  have s010 := s08.trans s810
  have hpl2 := prs_len hprs2
  refine ⟨l2, rfl, ⟨_, SqL.of hlst2⟩, for_list (xs := ts2.map V.ref) (fun i σ H' => H' = H10 /\ ∃ x y z, σ = [some (.ref pk), some (.ref pd), x, some (.ref d), y, z]) ⟨rfl, _, none, none, rfl⟩ (fun i σ H' _ h => by rw [h.1]; exact SqL.of hlst2) ?_ ?_⟩
  · rintro i v σ H7 hv ⟨rfl, x, y, z, rfl⟩
    rw [List.getElem?_map] at hv
    obtain ⟨tt, ht, rfl⟩ := Option.map_eq_some_iff.mp hv
    have hi : i < ks.flatten.length := by
      have := (List.getElem?_eq_some_iff.mp ht).1
      omega
    obtain ⟨⟨a, n⟩, ha⟩ : ∃ p, ks.flatten[i]? = some p := ⟨_, List.getElem?_eq_getElem hi⟩
    have e2 : H7 tt = some (.tup [.str a, .int n]) := prs_get hprs2 ht (ents_get ha)
    refine ⟨_, _, rfl, SqT.of e2, rfl, _, _, rfl, _, _, rfl, rfl, ?_⟩
    refine ⟨_, rfl, _, _, _, _, rfl, .str _, rfl, _, rfl, iteF ?_⟩
    refine ⟨_, rfl, _, _, _, _, rfl, .int _, rfl, _, rfl, iteF ?_⟩
    exact ⟨_, rfl, _, _, _, _, rfl, .int _, rfl, _, rfl, iteF ⟨rfl, _, _, _, rfl⟩⟩
  · rintro σ H7 ⟨rfl, x, y, z, rfl⟩
    refine ⟨_, rfl, .inr (.inr (.inl ⟨rfl, .inl ⟨_, hd10⟩⟩)), d, _, rfl, rfl, hd10, ?_⟩
    exact q _ (s010.put fd0)
end
theorem KOk.ok {ns : List Int} {st : Str} {ks : List (List (Str × Int))} (h : KOk ns st ks) (hn : ns.length <= 63) : Few ks := by
  have hl : ks.flatten.length = ns.length := by
    have e := congrArg List.length h.tags
    unfold tagsOf at e
    rw [List.length_map, List.length_map, List.length_range] at e
    exact e
  exact ⟨by have := h.few; omega, by omega, h.nodup hn⟩
theorem Few.drop {ks : List (List (Str × Int))} (h : Few ks) : Few (ks.drop 1) := by
  cases ks with
  | nil => exact h
  | cons k r =>
    have h1 := h.n
    have h2 := h.k
    have h3 := h.nd
    unfold tagsOf at h3
    rw [List.flatten_cons, List.map_append, List.nodup_append] at h3
    rw [List.flatten_cons, List.length_append] at h2
    rw [List.length_cons] at h1
    exact ⟨by show r.length <= _; omega, by show r.flatten.length <= _; omega, h3.2.1⟩
theorem Kds.drop {H : Hp} {ks : List (List (Str × Int))} {ps : List Addr} (h : Kds H ks ps) : Kds H (ks.drop 1) (ps.drop 1) := by
  cases h with
  | nil => exact .nil
  | cons _ b => exact b
theorem cut1 (ps : List Addr) : cutV (ps.map V.ref) (some 1) none = (ps.drop 1).map V.ref := by
  unfold cutV
  have c2 : HT.sIx (ps.map V.ref).length (ps.map V.ref).length none = (ps.map V.ref).length := rfl
  have c1 : HT.sIx (ps.map V.ref).length 0 (some 1) = min 1 (ps.map V.ref).length := by
    show (if (1 : Int) < 0 then ((1 : Int) + ((ps.map V.ref).length : Nat)).toNat else min (1 : Int).toNat (ps.map V.ref).length) = _
    rw [if_neg (by decide)]
    rfl
  rw [c1, c2]
  cases ps with
  | nil => rfl
  | cons p r =>
    have e : min 1 ((p :: r).map V.ref).length = 1 := by rw [List.length_map, List.length_cons]; omega
    rw [e]
    show (r.map V.ref).take (((p :: r).map V.ref).length - 1) = r.map V.ref
    exact List.take_of_length_le (by simp)
section
variable {P : Program} {w : World} {K : PySem.W.Frag} {mg : Str -> Option Value} {base : Heap} {f : Addr} {fd : FuncData}
theorem scLaw : FnScope ["_law_script", "_law_kinds_here"] ["_law_script"] (defScope sLaw) := ⟨rfl, rfl, rfl, by decide +kernel, rfl, by decide +kernel, by decide +kernel⟩
theorem ok_law (F : Fun K "law" "law" sLaw f fd) (GK : Ca P w K mg base CX0 2 "_law_kinds" ["_law_script"] (spKinds K)) (GG : Ca P w K mg base CX0 2 "_law_good" ["_law_kinds_here"] spGood) : FnOk P w K mg base CX0 3 f fd ["_law_script"] (spTop K) := by
  refine F.by scLaw (fun vs H Q E h => ?_) (fun cdv A outer s H vs Q E hr h => ?_)
  · obtain ⟨a, ns, rfl, _⟩ := h
    rfl
  obtain ⟨a, ns, rfl, hS, h63, q⟩ := h
  refine ⟨_,
    (jss_cons (js_set (i := 1) scLaw.nd rfl (Or.inl rfl) (je_ca GK hr rfl pass0 (ja_c (jv 0) ja_nil)))
    (jss_one (js_ret (je_and (je_ca GG hr rfl pass0 (ja_c (jv 1) ja_nil)) (je_and (je_ca GG hr rfl pass0 (ja_c (je_slice jl_list (jv 1) (jo_some je_int) jo_none) ja_nil)) (je_one (je_ca GG hr rfl pass0 (ja_c (jv 1) ja_nil)))))))), ?_⟩
  refine ⟨_, rfl, a, ns, rfl, hS, h63, fun H1 pk ps ks st s1 hpk hK hok hst => ?_⟩
  have hF := hok.ok h63
  refine ⟨_, rfl, pk, ps, ks, rfl, hpk, hK, hF, fun H2 s2 => ⟨_, rfl, iteT ?_⟩⟩
  refine ⟨_, rfl, _, rfl, _, _, rfl, SqL.of (s2 _ _ hpk), fun p3 h3 => ?_⟩
  rw [cut1]
  have n3 := same_new (o := .lst ((ps.drop 1).map V.ref)) h3
  refine ⟨p3, ps.drop 1, ks.drop 1, rfl, upd_same, ((hK.keep s2).keep n3).drop, hF.drop, fun H4 s4 => ⟨_, rfl, iteT ?_⟩⟩
  have s24 := (s2.trans n3).trans s4
  exact ⟨_, rfl, pk, ps, ks, rfl, s24 _ _ hpk, hK.keep s24, hF, fun H5 _ => q _⟩
end
end KD
namespace KD
open PySem L2 K11
structure TopK (K : PySem.W.Frag)  : Prop where
  d_sizes : DfIn K "sizes" sSizes
  d__law_cell_at : DfIn K "_law_cell_at" sCellAt
  d__law_stem : DfIn K "_law_stem" sStem
  d__law_name : DfIn K "_law_name" sNm
  d__law_kinds : DfIn K "_law_kinds" sKinds
  d__law_good : DfIn K "_law_good" sGood
  d_law : DfIn K "law" sLaw
  z_len : PySem.W.nsIn K mainGlobals "len" = some none
  z_range : PySem.W.nsIn K mainGlobals "range" = some none
  z_enumerate : PySem.W.nsIn K mainGlobals "enumerate" = some none
  z_list : PySem.W.nsIn K mainGlobals "list" = some none
  z_tuple : PySem.W.nsIn K mainGlobals "tuple" = some none
  z_isinstance : PySem.W.nsIn K mainGlobals "isinstance" = some none
  z_str : PySem.W.nsIn K mainGlobals "str" = some none
  z_int : PySem.W.nsIn K mainGlobals "int" = some none
  z_bool : PySem.W.nsIn K mainGlobals "bool" = some none
  z_dict : PySem.W.nsIn K mainGlobals "dict" = some none
theorem top_ok {l : PySem.W.OpenLaw} {w : World} {K : PySem.W.Frag} {h : Heap} {mg : Str -> Option Value} {fa  : Addr} (T : TopK K ) (X : K.In h) (G : h.Ns mainGlobals mg) (hfa : mg "law" = some (.ref fa)) :
    ∃ fd : FuncData, (∀ (s : Shared) (u : Value), BindsTo s fd ⟨[u], []⟩ [("_law_script", u)]) /\ ∀ base : Heap, K.In base -> base.Ns mainGlobals mg -> FnOk l.prog w K mg base CX0 3 fa fd ["_law_script"] (spTop K) := by
  refine law_in T.d_law X G hfa (fun _ _ _ _ _ _ s v => .of_eq rfl) fun base fd FL => ?_
  have z_len : mg "len" = none := PySem.W.mg_none_of X G T.z_len
  have z_range : mg "range" = none := PySem.W.mg_none_of X G T.z_range
  have z_enumerate : mg "enumerate" = none := PySem.W.mg_none_of X G T.z_enumerate
  have z_list : mg "list" = none := PySem.W.mg_none_of X G T.z_list
  have z_tuple : mg "tuple" = none := PySem.W.mg_none_of X G T.z_tuple
  have z_isinstance : mg "isinstance" = none := PySem.W.mg_none_of X G T.z_isinstance
  have z_str : mg "str" = none := PySem.W.mg_none_of X G T.z_str
  have z_int : mg "int" = none := PySem.W.mg_none_of X G T.z_int
  have z_bool : mg "bool" = none := PySem.W.mg_none_of X G T.z_bool
  have z_dict : mg "dict" = none := PySem.W.mg_none_of X G T.z_dict
  have G1 := DfIn.ca (P := l.prog) (w := w) (base := base) X G T.d_sizes (ps := ["kinds"]) (fun _ _ _ _ _ _ us hl => match us, hl with | [_], _ => rfl) fun f fd F => ok_sizes F
  have L1 := DfIn.ca (P := l.prog) (w := w) (base := base) X G T.d__law_cell_at (ps := ["_law_script", "_law_k"]) (fun _ _ _ _ _ _ us hl => match us, hl with | [_, _], _ => rfl) fun f fd F => ok_cellat F z_len
  have L2' := DfIn.ca (P := l.prog) (w := w) (base := base) X G T.d__law_stem (ps := ["_law_cell"]) (fun _ _ _ _ _ _ us hl => match us, hl with | [_], _ => rfl) fun f fd F => ok_stem F z_range
  have L3 := DfIn.ca (P := l.prog) (w := w) (base := base) X G T.d__law_name (ps := ["_law_stem_here", "_law_k"]) (fun _ _ _ _ _ _ us hl => match us, hl with | [_, _], _ => rfl) fun f fd F => ok_nm F z_len
  have L4 := DfIn.ca (P := l.prog) (w := w) (base := base) X G T.d__law_kinds (ps := ["_law_script"]) (fun _ _ _ _ _ _ us hl => match us, hl with | [_], _ => rfl) fun f fd F => ok_kinds F L1 L2' L3 z_enumerate z_len
  have L6 := DfIn.ca (P := l.prog) (w := w) (base := base) X G T.d__law_good (ps := ["_law_kinds_here"]) (fun _ _ _ _ _ _ us hl => match us, hl with | [_], _ => rfl) fun f fd F => ok_good F G1 z_list z_tuple z_isinstance z_str z_int z_bool z_dict
  exact ok_law FL L4 L6
end KD
open PySem PySem.W PyProof.Rows
set_option maxRecDepth 100000 in
set_option maxHeartbeats 0 in
theorem PySem.Challenge.cw_reusewise_k21_sizes_holds : PySem.Challenge.rw_reusewise_k21_sizes.Holds := by
  w_on; o_law; k_head; (case hw => w_witness2)
  k_fill
  refine L2.walk1 (l := PySem.Challenge.rw_reusewise_k21_sizes) (k := 3) rfl ⟨rfl, by decide, by decide⟩ rfl rfl (fun w h Y => PySem.W.kIn_of Y) ?F
  case F =>
    intro w mg fa h KX G hm
    refine' KD.top_ok (KD.TopK.mk ?d_sizes ?d__law_cell_at ?d__law_stem ?d__law_name ?d__law_kinds ?d__law_good ?d_law ?z_len ?z_range ?z_enumerate ?z_list ?z_tuple ?z_isinstance ?z_str ?z_int ?z_bool ?z_dict) KX G hm
    (case d_sizes => (refine' L2.DfIn.mk ?a ?l ?c ?k; (case a => k_is); (case l => k_is); (case c => k_is); (case k => k_is)))
    (case d__law_cell_at => (refine' L2.DfIn.mk ?a ?l ?c ?k; (case a => k_is); (case l => k_is); (case c => k_is); (case k => k_is)))
    (case d__law_stem => (refine' L2.DfIn.mk ?a ?l ?c ?k; (case a => k_is); (case l => k_is); (case c => k_is); (case k => k_is)))
    (case d__law_name => (refine' L2.DfIn.mk ?a ?l ?c ?k; (case a => k_is); (case l => k_is); (case c => k_is); (case k => k_is)))
    (case d__law_kinds => (refine' L2.DfIn.mk ?a ?l ?c ?k; (case a => k_is); (case l => k_is); (case c => k_is); (case k => k_is)))
    (case d__law_good => (refine' L2.DfIn.mk ?a ?l ?c ?k; (case a => k_is); (case l => k_is); (case c => k_is); (case k => k_is)))
    (case d_law => (refine' L2.DfIn.mk ?a ?l ?c ?k; (case a => k_is); (case l => k_is); (case c => k_is); (case k => k_is)))
    (case z_len => k_is)
    (case z_range => k_is)
    (case z_enumerate => k_is)
    (case z_list => k_is)
    (case z_tuple => k_is)
    (case z_isinstance => k_is)
    (case z_str => k_is)
    (case z_int => k_is)
    (case z_bool => k_is)
    (case z_dict => k_is)
#print axioms PySem.Challenge.cw_reusewise_k21_sizes_holds
