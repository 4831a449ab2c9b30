import PyProof.Rows.All
import Wide.All
import OpenK.AllK
import Wide.FinOn
import Lean
import PyProof.EqAt
import PyProof.EqKinds
import PyProof.TupleCall
import PyProof.StrBlockL
import PyProof.StrBlockI
import PyProof.StrBlock2
import PyProof.StrLawsIn
import PyProof.StrLawsTight
import PyProof.StrLawsChain
import PyProof.Rows.StrLast
import PyProof.Rows.StrItems
import KE.IntTextText
import KE.KIntText
import PyProof.PassesOwn
import PyProof.StationsW
import OpenK.KCls
import PyProof.ExcAttrAll.ValueError
import PyProof.ExcClass3
import PyProof.WalksEnum
import PyProof.EnumMake
import PyProof.EnumFor
import PyProof.EnumStmt
import PyProof.MeetsStr
import PyProof.NeKinds
import PyProof.Rows.SumAny
import PyProof.SeqI3
import PyProof.ZipIter
import PyProof.WalksMore
import PyProof.ListNew
import KE.KRevIter
import PyProof.Rows.Range3
import PySem.Challenge.RW_reusewise_k14_whole_there_and_back
set_option Elab.async false
set_option linter.all false
set_option maxRecDepth 100000
set_option maxHeartbeats 4000000
namespace L2
open PySem PySem.Spec PyProof.Rows
abbrev Key := Sum Int Str
def keyIs : Key -> Value -> Bool
  | .inl k, v => Value.isInt k v
  | .inr x, v => Value.isStrOf x v
def keyH (w : World) : Key -> Int
  | .inl k => hashInt k
  | .inr x => hashStr w x
theorem keyIs_shape : ∀ {k : Key} {v : Value}, keyIs k v = true -> (∃ i t, k = Sum.inl i /\ v = Value.int i t) \/ (∃ x t, k = Sum.inr x /\ v = Value.str x t)
  | .inl i, v, h => by
    obtain ⟨t, e⟩ := Value.isInt_shape (k := i) (v := v) h
    exact .inl ⟨i, t, rfl, e⟩
  | .inr x, v, h => by
    obtain ⟨t, e⟩ := Value.isStrOf_shape (x := x) (v := v) h
    exact .inr ⟨x, t, rfl, e⟩
theorem key_ll (a b : Int) : decide ((Sum.inl a : Key) = Sum.inl b) = (a == b) := by
  by_cases e : a = b
  · subst e; simp
  · have h : ¬ (Sum.inl a : Key) = Sum.inl b := fun q => e (Sum.inl.inj q)
    rw [decide_eq_false h]
    exact (beq_eq_false_iff_ne.mpr e).symm
theorem key_rr (a b : Str) : decide ((Sum.inr a : Key) = Sum.inr b) = decide (a = b) := by
  by_cases e : a = b
  · subst e; simp
  · have h : ¬ (Sum.inr a : Key) = Sum.inr b := fun q => e (Sum.inr.inj q)
    rw [decide_eq_false h, decide_eq_false e]
theorem key_lr (a : Int) (b : Str) : decide ((Sum.inl a : Key) = Sum.inr b) = false := decide_eq_false (fun q => nomatch q)
theorem key_rl (a : Str) (b : Int) : decide ((Sum.inr a : Key) = Sum.inl b) = false := decide_eq_false (fun q => nomatch q)
def mixKind (prog : Program) (w : World) : PySem.KeyKind prog w Key where
  is := keyIs
  hash := keyH w
  inj := fun v a b ha hb => by
    rcases keyIs_shape ha with ⟨i, t, rfl, rfl⟩ | ⟨x, t, rfl, rfl⟩
    · rcases keyIs_shape hb with ⟨j, u, rfl, e⟩ | ⟨y, u, rfl, e⟩
      · injection e with e1 _; rw [e1]
      · exact nomatch e
    · rcases keyIs_shape hb with ⟨j, u, rfl, e⟩ | ⟨y, u, rfl, e⟩
      · exact nomatch e
      · injection e with e1 _; rw [e1]
  byValue := fun k v h => by
    rcases keyIs_shape h with ⟨i, t, rfl, rfl⟩ | ⟨x, t, rfl, rfl⟩ <;> rfl
  pyHash := fun hv h => by
    rcases keyIs_shape hv with ⟨i, t, rfl, rfl⟩ | ⟨x, t, rfl, rfl⟩
    · exact wpAny_pyHash_int h
    · exact wpAny_pyHash_str h
  eqBool := fun hu hv h => by
    rcases keyIs_shape hu with ⟨i, t, rfl, rfl⟩ | ⟨x, t, rfl, rfl⟩
    · rcases keyIs_shape hv with ⟨j, u, rfl, rfl⟩ | ⟨y, u, rfl, rfl⟩
      · rw [key_ll] at h; exact wpAny_eqBool_int h
      · rw [key_lr] at h; exact SeqAt.EqAt.int_str i t y u _ _ _ _ h
    · rcases keyIs_shape hv with ⟨j, u, rfl, rfl⟩ | ⟨y, u, rfl, rfl⟩
      · rw [key_rl] at h; exact SeqAt.EqAt.str_int x t j u _ _ _ _ h
      · rw [key_rr] at h; exact wpAny_eqBool_str h
  «strs» := fun k x t v h => by
    rcases keyIs_shape h with ⟨i, u, rfl, e⟩ | ⟨y, u, rfl, e⟩
    · exact nomatch e
    · injection e with e1 _
      subst e1
      cases v <;> rfl
end L2
namespace L2
open PySem PySem.Spec PyProof.Rows
inductive V where
  | non | bl (b : Bool) | int (i : Int) | str (x : Str) | byt (b : Array UInt8) | flt (b : UInt64) | ref (a : Addr) | ty (n : String)
  deriving DecidableEq
def RelV : V -> Value -> Prop
  | .non, u => u = Value.none
  | .bl b, u => u = Value.bool b
  | .int i, u => ∃ t, u = Value.int i t
  | .str x, u => ∃ t, u = Value.str x t
  | .byt b, u => ∃ t, u = Value.bytes b t
  | .flt b, u => ∃ t, u = Value.float b t
  | .ref a, u => u = Value.ref a
  | .ty n, u => u = Value.type n
abbrev Vals : List V -> List Value -> Prop := Paired RelV
theorem Vals.length {xs : List V} {us : List Value} (r : Vals xs us) : xs.length = us.length := Paired.length r
theorem Vals.get : ∀ {xs : List V} {us : List Value} {i : Nat} {x : V}, Vals xs us -> xs[i]? = some x -> ∃ u, us[i]? = some u /\ RelV x u
  | _, _, _, _, .nil, e => by simp at e
  | _, _, 0, _, .cons r _, e => by simp at e; subst e; exact ⟨_, rfl, r⟩
  | _, _, i + 1, x, .cons _ t, e => by
    obtain ⟨u, h1, h2⟩ := Vals.get (i := i) (x := x) t (by simpa using e)
    exact ⟨u, by simpa using h1, h2⟩
theorem Vals.set {x : V} {u : Value} (r : RelV x u) : ∀ {xs : List V} {us : List Value} (i : Nat), Vals xs us -> Vals (xs.set i x) (us.set i u)
  | _, _, _, .nil => .nil
  | _, _, 0, .cons _ t => .cons r t
  | _, _, i + 1, .cons q t => .cons q (Vals.set r i t)
theorem Vals.append : ∀ {xs ys : List V} {us ws : List Value}, Vals xs us -> Vals ys ws -> Vals (xs ++ ys) (us ++ ws)
  | _, _, _, _, .nil, s => s
  | _, _, _, _, .cons r t, s => .cons r (Vals.append t s)
theorem Vals.take : ∀ {xs : List V} {us : List Value} (n : Nat), Vals xs us -> Vals (xs.take n) (us.take n)
  | _, _, 0, _ => .nil
  | _, _, _ + 1, .nil => .nil
  | _, _, n + 1, .cons r t => .cons r (Vals.take n t)
theorem Vals.drop : ∀ {xs : List V} {us : List Value} (n : Nat), Vals xs us -> Vals (xs.drop n) (us.drop n)
  | _, _, 0, r => r
  | _, _, _ + 1, .nil => .nil
  | _, _, n + 1, .cons _ t => Vals.drop n t
theorem Vals.none_of : ∀ {xs : List V} {us : List Value} {i : Nat}, Vals xs us -> xs[i]? = none -> us[i]? = none := fun {xs us i} r e => by
  have h1 := r.length
  have h2 : xs.length <= i := List.getElem?_eq_none_iff.mp e
  exact List.getElem?_eq_none_iff.mpr (by omega)
def RelO : Option V -> Option Value -> Prop
  | some v, some u => RelV v u
  | none, none => True
  | _, _ => False
def KV {κ : Type} : List (κ × V) -> List (κ × Value) -> Prop := Paired fun (p : κ × V) (q : κ × Value) => p.1 = q.1 /\ RelV p.2 q.2
def kV : Key -> V
  | .inl i => .int i
  | .inr x => .str x
inductive HO where
  | lst (xs : List V)
  | tup (xs : List V)
  | dK (kvs : List (Key × V)) | dT (kvs : List (List Key × V))
  | set (S : Int -> Bool) (n : Nat)
  | ins (C dx : Addr) (fs : List (Str × V))
  | own (x : Addr)
  | xd (fs : List (Str × V))
  | met (f x : Addr)
  | rng (lo hi : Int)
  | frz (o : Obj) (u : HO)
  | tbl (ps : Array Value)
  | ext (φ : Heap -> Prop)
abbrev Hp := Addr -> Option HO
def upd (H : Hp) (a : Addr) (o : HO) : Hp := fun b => if b = a then some o else H b
theorem upd_same {H : Hp} {a : Addr} {o : HO} : upd H a o a = some o := by unfold upd; rw [if_pos rfl]
theorem upd_ne {H : Hp} {a b : Addr} {o : HO} (h : b ≠ a) : upd H a o b = H b := by unfold upd; rw [if_neg h]
theorem ne_of {H : Hp} {a b : Addr} {o u : HO} (h : H a = some o) (h' : H b = some u) (d : o ≠ u) : a ≠ b := by
  intro e; subst e; rw [h] at h'; exact d (Option.some.inj h')
theorem ne_of_none {H : Hp} {a b : Addr} {o : HO} (h : H a = some o) (h' : H b = none) : a ≠ b := by
  intro e; subst e; rw [h] at h'; cases h'
section
variable (P : Program) (w : World)
def ObjOk (H : Hp) (h : Heap) (a : Addr) : HO -> Prop
  | .lst xs => xs.length <= sizeLine /\ ∃ (its : List Value) (n : Nat), Vals xs its /\ h.get? a = some { cls := .type "list", data := .seq its.toArray n }
  | .tup xs => xs.length <= sizeLine /\ ∃ its : List Value, Vals xs its /\ IsTup h a its.toArray
  | .dK kvs => kvs.length <= sizeLine /\ (a == sysModules) = false /\ ∃ vs, KV kvs vs /\ h.DictOf (mixKind P w) a vs
  | .dT kvs => kvs.length <= sizeLine /\ (a == sysModules) = false /\ ∃ xs : List (List Key × Addr × Value),
      Paired (fun (p : List Key × V) (q : List Key × Addr × Value) => p.1 = q.1 /\ H q.2.1 = some (.tup (p.1.map kV)) /\ RelV p.2 q.2.2) kvs xs /\
      ∃ o es ep, h.get? a = some o /\ o.ExactDict /\ o.data = .dict es ep /\ es.toList = xs.map (entryOfKey (tupleKind (mixKind P w))) /\ (xs.map (·.1)).Nodup
  | .set S n => h.SetOf (intKind P w) a S n
  | .ins C dx fs => H dx = some (.own a) /\ fs.length <= 1000 /\ dx ≠ a /\ h.get? a = some (PySem.W.instObj C dx) /\
      ∃ mA, h.Ns1 dx mA /\ (∀ f, RelO (fs.lookup f) (mA f)) /\ PySem.Within mA (fs.map (·.1))
  | .own _ => ∃ o, h.get? a = some o
  | .xd fs => ∃ mA, h.Ns1 a mA /\ ∀ f, RelO (fs.lookup f) (mA f)
  | .rng lo hi => ∃ t u v, h.get? a = some { cls := .type "range", data := .fields #[.int lo t, .int hi u, .int 1 v] }
  | .frz o u => h.get? a = some o /\ ObjOk H h a u
  | .tbl ps => h.get? a = some { cls := .none, data := .fields ps }
  | .met f x => h.get? a = some (PySem.W.methodObj (.ref f) (.ref x))
  | .ext φ => φ h /\ (∃ o, h.get? a = some o) /\ ∀ h1 h2 : Heap, φ h1 -> (∀ o, h1.get? a = some o -> h2.get? a = some o) -> φ h2
def HOk (H : Hp) (h : Heap) : Prop := ∀ a o, H a = some o -> ObjOk P w H h a o
end
section
variable {P : Program} {w : World} {H H' : Hp} {h h' : Heap} {a : Addr} {o : HO}
theorem ObjOk.lt (x : ObjOk P w H h a o) : a < h.objs.size := by
  cases o with
  | lst xs => obtain ⟨_, _, _, _, e⟩ := x; exact Heap.lt_size e
  | tup xs => obtain ⟨_, _, _, p⟩ := x; exact p.lt
  | dK kvs => obtain ⟨_, _, _, _, o, _, _, e, _⟩ := x; exact Heap.lt_size e
  | dT kvs => obtain ⟨_, _, _, _, o, _, _, e, _⟩ := x; exact Heap.lt_size e
  | set S n => obtain ⟨o, _, _, _, e, _⟩ := x; exact Heap.lt_size e
  | ins C dx fs => obtain ⟨_, _, _, e, _⟩ := x; exact Heap.lt_size e
  | own y => obtain ⟨_, e⟩ := x; exact Heap.lt_size e
  | xd fs => obtain ⟨_, ⟨_, _, _, e, _⟩, _⟩ := x; exact Heap.lt_size e
  | rng lo hi => obtain ⟨_, _, _, e⟩ := x; exact Heap.lt_size e
  | frz ob u => obtain ⟨e, _⟩ := x; exact Heap.lt_size e
  | tbl ps => exact Heap.lt_size (show h.get? a = some _ from x)
  | met f y => exact Heap.lt_size (show h.get? a = some _ from x)
  | ext φ => obtain ⟨_, ⟨_, e⟩, _⟩ := x; exact Heap.lt_size e
theorem Paired.mapP {α β : Type} {F G : α -> β -> Prop} : ∀ {l₁ : List α} {l₂ : List β}, Paired F l₁ l₂ -> (∀ a b, F a b -> G a b) -> Paired G l₁ l₂
  | _, _, .nil, _ => .nil
  | _, _, .cons r t, f => .cons (f _ _ r) (Paired.mapP t f)
theorem ObjOk.stay (x : ObjOk P w H h a o) (k : ∀ b u, (b = a \/ H b = some (.own a)) -> h.get? b = some u -> h'.get? b = some u)
    (ho : ∀ b, H b = some (.own a) -> H' b = some (.own a)) (ht : ∀ b xs, H b = some (.tup xs) -> H' b = some (.tup xs)) : ObjOk P w H' h' a o := by
  induction o with
  | lst xs => obtain ⟨z, its, n, r, e⟩ := x; exact ⟨z, its, n, r, k _ _ (.inl rfl) e⟩
  | tup xs => obtain ⟨z, its, r, ob, e, c⟩ := x; exact ⟨z, its, r, ob, k _ _ (.inl rfl) e, c⟩
  | dK kvs => obtain ⟨z, y, vs, r, ob, es, ep, e, c⟩ := x; exact ⟨z, y, vs, r, ob, es, ep, k _ _ (.inl rfl) e, c⟩
  | dT kvs =>
    obtain ⟨z, y, xs, r, ob, es, ep, e, c⟩ := x
    exact ⟨z, y, xs, Paired.mapP r fun p q z => ⟨z.1, ht _ _ z.2.1, z.2.2⟩, ob, es, ep, k _ _ (.inl rfl) e, c⟩
  | set S n => obtain ⟨ob, es, ep, t, e, c⟩ := x; exact ⟨ob, es, ep, t, k _ _ (.inl rfl) e, c⟩
  | ins C dx fs =>
    obtain ⟨d, z, ne, e, mA, ⟨od, es, ep, e2, c⟩, r⟩ := x
    exact ⟨ho _ d, z, ne, k _ _ (.inl rfl) e, mA, ⟨od, es, ep, k _ _ (.inr d) e2, c⟩, r⟩
  | own y => obtain ⟨ob, e⟩ := x; exact ⟨ob, k _ _ (.inl rfl) e⟩
  | xd fs => obtain ⟨mA, ⟨od, es, ep, e, c⟩, r⟩ := x; exact ⟨mA, ⟨od, es, ep, k _ _ (.inl rfl) e, c⟩, r⟩
  | rng lo hi => obtain ⟨t, u, v, e⟩ := x; exact ⟨t, u, v, k _ _ (.inl rfl) e⟩
  | frz ob u ih => obtain ⟨e, q⟩ := x; exact ⟨k _ _ (.inl rfl) e, ih q⟩
  | tbl ps =>
    have e : h.get? a = some { cls := .none, data := .fields ps } := x
    show h'.get? a = some { cls := .none, data := .fields ps }
    exact k a _ (.inl rfl) e
  | met f y =>
    have e : h.get? a = some (PySem.W.methodObj (.ref f) (.ref y)) := x
    show h'.get? a = some (PySem.W.methodObj (.ref f) (.ref y))
    exact k a _ (.inl rfl) e
  | ext φ => obtain ⟨p, ⟨o, e⟩, st⟩ := x; exact ⟨st _ _ p fun o q => k _ _ (.inl rfl) q, ⟨o, k _ _ (.inl rfl) e⟩, st⟩
theorem HOk.lt (x : HOk P w H h) (e : H a = some o) : a < h.objs.size := (x a o e).lt
theorem HOk.fresh (x : HOk P w H h) (e : h.objs.size <= a) : H a = none := by
  cases q : H a with
  | none => rfl
  | some u => exact absurd (Nat.lt_of_lt_of_le (x.lt q) e) (Nat.lt_irrefl _)
theorem HOk.kept (x : HOk P w H h) (k : ∀ b u, h.get? b = some u -> h'.get? b = some u) : HOk P w H h' := fun a o e =>
  (x a o e).stay (fun b u _ q => k b u q) (fun _ q => q) fun _ _ q => q
theorem HOk.laid (x : HOk P w H h) (k : ∀ b u, h.get? b = some u -> h'.get? b = some u) (hp : h.objs.size <= a) (new : ObjOk P w (upd H a o) h' a o) : HOk P w (upd H a o) h' := fun b u e => by
  have hn := x.fresh hp
  by_cases hb : b = a
  · subst hb; rw [upd_same] at e; cases e; exact new
  · rw [upd_ne hb] at e
    exact (x b u e).stay (fun c v _ q => k c v q) (fun c q => by rw [upd_ne (ne_of_none q hn)]; exact q) fun c xs q => by rw [upd_ne (ne_of_none q hn)]; exact q
end
def Rd (H : Hp) (a : Addr) (u : HO) : Prop := H a = some u \/ ∃ o, H a = some (.frz o u)
theorem Rd.of {H : Hp} {a : Addr} {u : HO} (h : H a = some u) : Rd H a u := .inl h
theorem Rd.ok {P : Program} {w : World} {H : Hp} {h : Heap} {a : Addr} {u : HO} (r : Rd H a u) (x : HOk P w H h) : ObjOk P w H h a u := by
  rcases r with r | ⟨o, r⟩
  · exact x a u r
  · obtain ⟨_, q⟩ := x a _ r
    exact q
def Mut : Option HO -> Prop
  | some (.lst _) => True
  | some (.dK _) => True
  | some (.dT _) => True
  | some (.set _ _) => True
  | some (.ins _ _ _) => True
  | some (.ext _) => True
  | _ => False
section
variable {P : Program} {w : World} {H : Hp} {h h' : Heap} {x e : Addr} {o' : HO}
theorem HOk.write (ok : HOk P w H h) (mu : Mut (H x)) (he : e = x \/ H e = some (.own x)) (k : ∀ b u, b ≠ e -> h.get? b = some u -> h'.get? b = some u) (heo : ∃ u, h'.get? e = some u)
    (new : ObjOk P w (upd H x o') h' x o') : HOk P w (upd H x o') h' := fun b u q => by
  have nown : ∀ c y, H c = some (.own y) -> c ≠ x := fun c y r z => by subst z; rw [r] at mu; exact mu
  have ntup : ∀ c xs, H c = some (.tup xs) -> c ≠ x := fun c xs r z => by subst z; rw [r] at mu; exact mu
  by_cases hb : b = x
  · subst hb; rw [upd_same] at q; cases q; exact new
  · rw [upd_ne hb] at q
    by_cases hbe : b = e
    · have q' : H b = some (.own x) := by
        rcases he with z | z
        · exact absurd (hbe.trans z) hb
        · rw [hbe]; exact z
      rw [q] at q'; cases q'
      obtain ⟨v, hv⟩ := heo
      exact ⟨v, by rw [hbe]; exact hv⟩
    · refine (ok b u q).stay (fun c v hc r => k c v ?_ r) (fun c r => by rw [upd_ne (nown c b r)]; exact r) fun c xs r => by rw [upd_ne (ntup c xs r)]; exact r
      rcases hc with rfl | hc
      · exact hbe
      · rintro rfl
        rcases he with z | z
        · exact nown c b hc z
        · rw [hc] at z; cases z; exact hb rfl
end
structure Un (fs ex : List Addr) (H H' : Hp) (h h' : Heap) : Prop where
  keep : ∀ b o, h.get? b = some o -> H b = none -> b ∉ fs -> b ∉ ex -> h'.get? b = some o
  slot : ∀ b o, h.get? b = some o -> H b = none -> b ∈ fs -> b ∉ ex -> ∃ sl, h'.get? b = some { o with slots := sl }
  free : ∀ b o, h.get? b = some o -> H b = none -> b ∉ ex -> H' b = none
  there : ∀ b o, h.get? b = some o -> b ∉ ex -> ∃ o', h'.get? b = some o'
  tups : ∀ b xs, H b = some (.tup xs) -> H' b = some (.tup xs)
  frzs : ∀ b o u, H b = some (.frz o u) -> H' b = some (.frz o u)
  tbls : ∀ b ps, H b = some (.tbl ps) -> ∃ more, H' b = some (.tbl (ps ++ more))
section
variable {fs fs' ex ex' : List Addr} {H H1 H2 : Hp} {h h1 h2 h' : Heap} {a x e : Addr} {o : HO}
theorem Un.any (u : Un fs ex H H1 h h1) {b : Addr} {ob : Obj} (q : h.get? b = some ob) (n : H b = none) (hx : b ∉ ex) : ∃ sl, h1.get? b = some { ob with slots := sl } := by
  by_cases hb : b ∈ fs
  · exact u.slot b ob q n hb hx
  · exact ⟨ob.slots, u.keep b ob q n hb hx⟩
theorem Un.trans (a : Un fs ex H H1 h h1) (b : Un fs ex H1 H2 h1 h2) : Un fs ex H H2 h h2 where
  keep := fun c ob q n hc hx => b.keep c ob (a.keep c ob q n hc hx) (a.free c ob q n hx) hc hx
  slot := fun c ob q n hc hx => by
    obtain ⟨sl, e1⟩ := a.slot c ob q n hc hx
    obtain ⟨sl', e2⟩ := b.slot c _ e1 (a.free c ob q n hx) hc hx
    exact ⟨sl', e2⟩
  free := fun c ob q n hx => by
    obtain ⟨o', e1⟩ := a.there c ob q hx
    exact b.free c o' e1 (a.free c ob q n hx) hx
  there := fun c ob q hx => by
    obtain ⟨o', e1⟩ := a.there c ob q hx
    exact b.there c o' e1 hx
  tups := fun c xs q => b.tups c xs (a.tups c xs q)
  frzs := fun c ob xs q => b.frzs c ob xs (a.frzs c ob xs q)
  tbls := fun c ps q => by
    obtain ⟨m1, e1⟩ := a.tbls c ps q
    obtain ⟨m2, e2⟩ := b.tbls c _ e1
    exact ⟨m1 ++ m2, by rw [e2, Array.append_assoc]⟩
theorem Un.kept (k : ∀ b u, h.get? b = some u -> h'.get? b = some u) : Un fs ex H H h h' :=
  ⟨fun b ob q _ _ _ => k b ob q, fun b ob q _ _ _ => ⟨ob.slots, k b ob q⟩, fun _ _ _ n _ => n, fun b ob q _ => ⟨ob, k b ob q⟩, fun _ _ q => q, fun _ _ _ q => q, fun _ ps q => ⟨#[], by rw [q]; simp⟩⟩
theorem Un.refl : Un fs ex H H h h := Un.kept fun _ _ q => q
theorem Un.laid (k : ∀ b u, h.get? b = some u -> h'.get? b = some u) (hp : h.objs.size <= a) (hn : H a = none) : Un fs ex H (upd H a o) h h' where
  keep := fun b u q _ _ _ => k b u q
  slot := fun b u q _ _ _ => ⟨u.slots, k b u q⟩
  free := fun b u q n _ => by rw [upd_ne (Nat.ne_of_lt (Nat.lt_of_lt_of_le (Heap.lt_size q) hp))]; exact n
  there := fun b u q _ => ⟨u, k b u q⟩
  tups := fun b xs q => by rw [upd_ne (ne_of_none q hn)]; exact q
  frzs := fun b u xs q => by rw [upd_ne (ne_of_none q hn)]; exact q
  tbls := fun b ps q => ⟨#[], by rw [upd_ne (ne_of_none q hn), q]; simp⟩
theorem Un.write (mu : Mut (H x)) (he : e = x \/ H e = some (.own x)) (k : ∀ b u, b ≠ e -> h.get? b = some u -> h'.get? b = some u) (heo : ∃ u, h'.get? e = some u) : Un fs ex H (upd H x o) h h' := by
  have hx : ∀ b, H b = none -> b ≠ x := fun b n z => by subst z; rw [n] at mu; exact mu
  have hb : ∀ b, H b = none -> b ≠ e := fun b n z => by
    subst z
    rcases he with r | r
    · exact hx b n r
    · rw [n] at r; cases r
  have hm : ∀ b u, H b = some u -> ¬ Mut (some u) -> b ≠ x := fun b u q nm z => by subst z; rw [q] at mu; exact nm mu
  refine ⟨fun b u q n _ _ => k b u (hb b n) q, fun b u q n _ _ => ⟨u.slots, k b u (hb b n) q⟩, fun b u q n _ => by rw [upd_ne (hx b n)]; exact n, fun b u q _ => ?_,
    fun b xs q => by rw [upd_ne (hm b _ q fun z => z)]; exact q, fun b u xs q => by rw [upd_ne (hm b _ q fun z => z)]; exact q, fun b ps q => ⟨#[], by rw [upd_ne (hm b _ q fun z => z), q]; simp⟩⟩
  by_cases hbe : b = e
  · subst hbe; exact heo
  · exact ⟨u, k b u hbe q⟩
theorem Un.mono (u : Un fs ex H H1 h h1) (hs : ∀ b ∈ fs, b ∈ fs') (hx : ∀ b ∈ ex, b ∈ ex') : Un fs' ex' H H1 h h1 :=
  ⟨fun b ob q n hb he => u.keep b ob q n (fun z => hb (hs b z)) fun z => he (hx b z), fun _ _ q n _ he => u.any q n fun z => he (hx _ z), fun b ob q n he => u.free b ob q n fun z => he (hx b z), fun b ob q he => u.there b ob q fun z => he (hx b z), u.tups, u.frzs, u.tbls⟩
end
def trk (h : Heap) (H : Hp) : List Addr := (List.range h.objs.size).filter fun a => (H a).isSome
def hidT (h : Heap) (H : Hp) : Heap := PySem.W.hideAll h (trk h H)
theorem hidT_size (h : Heap) (H : Hp) : (hidT h H).objs.size = h.objs.size := PySem.W.hideAll_size _ _
theorem hidT_get {h : Heap} {H : Hp} {b : Addr} {o : Obj} (e : h.get? b = some o) (n : H b = none) : (hidT h H).get? b = some o :=
  PySem.W.hideAll_get _ e fun hm => by
    have q : (H b).isSome = true := (List.mem_filter.mp hm).2
    rw [n] at q; simp at q
theorem of_hidT {h : Heap} {H : Hp} {b : Addr} {o : Obj} (e : (hidT h H).get? b = some o) : h.get? b = some o /\ H b = none := by
  have e' : h.get? b = some o := PySem.W.of_hideAll (trk h H) e
  refine ⟨e', ?_⟩
  cases q : H b with
  | none => rfl
  | some x =>
    have hm : b ∈ trk h H := List.mem_filter.mpr ⟨List.mem_range.mpr (Heap.lt_size e'), by simp [q]⟩
    have z : (hidT h H).get? b = none := PySem.W.hideAll_none (trk h H) hm
    rw [z] at e; cases e
def allNews (g h : Heap) (L : Addr) : List (Addr × Obj) := (List.range h.objs.size).filterMap fun a => if a = L \/ (g.get? a).isSome = true then none else (h.get? a).map fun o => (a, o)
def rest (g h : Heap) (L d : Addr) : List (Addr × Obj) := (allNews g h L).filter fun p => decide (p.1 ≠ d)
end L2
namespace L2
open PySem PySem.Spec PyProof.Rows
structure Mod (K : PySem.W.Frag) (mg : Str -> Option Value) (base : Heap) : Prop where
  kin : K.In base
  glob : base.Ns mainGlobals mg
  blt : ∃ mb, base.Ns builtinsNs mb /\ ∀ x : Str, x ≠ "__name__" -> mb x = bootBuiltins x
  nolimit : base.NoLimit
/-- the context: a def's body (or a comprehension's block) running. base: fixed through the whole law; s₀, H₀: the entry; outer: the frames whose slots others may change (a def's callers); stack: all frames that run;
   ex: iterators that were made ahead of the entry and are walked here (a comprehension's); fn: the names whose cells were made at the entry (a def: all; a comprehension's block: its own); calm: not within an except suite; pn: pins that every state bears; xe: what is wanted of an exception that leaves the code -/
structure Cx where
  prog : Program
  w : World
  K : PySem.W.Frag
  mg : Str -> Option Value
  base : Heap
  A : Around
  N : List Str
  s₀ : Shared
  H₀ : Hp
  env : Env
  outer : List Env
  stack : List Env
  ex : List Addr
  fn : Str -> Bool
  calm : Bool
  pn : List (Addr × Obj)
  xe : Value -> Shared -> Prop
def frs (l : List Env) : List Addr := l.filterMap (·.frame)
abbrev Cx.fs (X : Cx) : List Addr := frs X.outer
def Vis (sc : Scope) (x : Str) : Prop := sc.names.lookup x = some .local \/ sc.names.lookup x = some .cell \/ sc.names.lookup x = some .free
def Loc (sc : Scope) (x : Str) : Prop := sc.names.lookup x = some .local \/ sc.names.lookup x = some .cell
def Look (env : Env) (h : Heap) (m : Str -> Option Value) (x : Str) (u : Value) : Prop :=
  (env.kindOf x = some .local /\ m x = some u) \/ ((env.kindOf x = some .cell \/ env.kindOf x = some .free) /\ ∃ c, env.cells.lookup x = some c /\ h.IsCell c (some u))
structure Cx.Ok (X : Cx) : Prop where
  mod : Mod X.K X.mg X.base
  kind : X.env.scope.kind = .function
  glob : X.env.globals = mainGlobals
  blt : X.env.builtins = builtinsNs
  above : X.s₀.heap.objs.size <= X.env.locals
  inj : ∀ x y c, X.env.cells.lookup x = some c -> X.env.cells.lookup y = some c -> x = y
  has : ∀ x, (X.env.kindOf x = some .cell \/ X.env.kindOf x = some .free) -> ∃ c, X.env.cells.lookup x = some c
  cab : ∀ x c, X.fn x = true -> X.env.cells.lookup x = some c -> X.s₀.heap.objs.size <= c
  hd : X.calm = true -> X.A.handled = none
  frames : X.A.frames = some X.stack
  stk : X.stack = X.outer \/ (X.stack = X.env :: X.outer /\ X.env.frame = some X.env.locals)
  exf : ∀ b ∈ X.ex, b ≠ X.env.locals /\ ∀ x c, X.env.cells.lookup x = some c -> c ≠ b
  bs : ∀ b o, X.base.get? b = some o -> X.s₀.heap.get? b = some o /\ X.H₀ b = none
  bsz : X.base.objs.size <= X.s₀.heap.objs.size
  noex : ∀ b o, X.base.get? b = some o -> b ∉ X.ex
  exfs : ∀ b ∈ X.ex, b ∉ X.fs
  funs : X.s₀.heap.FunFrames X.base X.outer
  frf : ∀ b ∈ X.fs, X.H₀ b = none
structure Inv (X : Cx) (pins : List (Addr × Obj)) (σ : List (Option V)) (H : Hp) (s : Shared) : Prop where
  ok : X.Ok
  os : s.os = X.s₀.os
  bare : AllBare s.gens
  base : Un X.fs X.ex X.H₀ H X.s₀.heap s.heap
  loc : ∃ m, s.heap.Ns X.env.locals m /\ ∀ (i : Nat) (x : Str) (v : V), X.N[i]? = some x -> σ[i]? = some (some v) -> Vis X.env.scope x -> ∃ u, RelV v u /\ Look X.env s.heap m x u
  cell : ∀ x c, X.env.cells.lookup x = some c -> ∃ v, s.heap.IsCell c v
  free : H X.env.locals = none
  freeC : ∀ x c, X.env.cells.lookup x = some c -> H c = none
  pin : ∀ p ∈ X.pn ++ pins, s.heap.get? p.1 = some p.2 /\ H p.1 = none /\ p.1 ≠ X.env.locals /\ p.1 ∉ X.fs /\ ∀ v, p.2.data ≠ .cell v
  hok : HOk X.prog X.w H s.heap
  len : σ.length = X.N.length
section
variable {X : Cx} {pins : List (Addr × Obj)} {σ : List (Option V)} {H H' : Hp} {s : Shared} {h' : Heap}
theorem Cx.Ok.nofr (ok : X.Ok) {b : Addr} {o : Obj} (e : X.base.get? b = some o) : b ∉ X.fs := fun hb => by
  have := (ok.funs.mem hb).1
  rw [e] at this; cases this
theorem Inv.bs (I : Inv X pins σ H s) : ∀ b o, X.base.get? b = some o -> s.heap.get? b = some o /\ H b = none := fun b o e =>
  ⟨I.base.keep b o (I.ok.bs b o e).1 (I.ok.bs b o e).2 (I.ok.nofr e) (I.ok.noex b o e), I.base.free b o (I.ok.bs b o e).1 (I.ok.bs b o e).2 (I.ok.noex b o e)⟩
theorem Inv.bk (I : Inv X pins σ H s) : ∀ b o, X.base.get? b = some o -> s.heap.get? b = some o := fun b o e => (I.bs b o e).1
theorem Inv.mod (I : Inv X pins σ H s) : Mod X.K X.mg X.base := I.ok.mod
theorem Inv.kIn (I : Inv X pins σ H s) : X.K.In s.heap := I.ok.mod.kin.keeps I.bk
theorem Inv.nolimit (I : Inv X pins σ H s) : s.heap.NoLimit := I.ok.mod.nolimit.keeps I.bk
theorem Inv.fr (I : Inv X pins σ H s) : ∃ m, Fr X.base X.env.locals s.heap m :=
  let ⟨m, hn, _⟩ := I.loc
  ⟨m, hn, I.bk, Nat.le_trans I.ok.bsz I.ok.above⟩
theorem Inv.lt (I : Inv X pins σ H s) : X.env.locals < s.heap.objs.size := let ⟨_, hn, _⟩ := I.loc; hn.lt
theorem Inv.sz (I : Inv X pins σ H s) : X.s₀.heap.objs.size <= s.heap.objs.size := Nat.le_trans I.ok.above (Nat.le_of_lt I.lt)
theorem Inv.nofs (I : Inv X pins σ H s) {a : Addr} (h : s.heap.objs.size <= a) : a ∉ X.fs := fun hb => by
  obtain ⟨_, o, ho, _⟩ := I.ok.funs.mem hb
  exact absurd (Nat.lt_of_lt_of_le (Heap.lt_size ho) (Nat.le_trans I.sz h)) (Nat.lt_irrefl _)
theorem Inv.cne (I : Inv X pins σ H s) : ∀ x c, X.env.cells.lookup x = some c -> c ≠ X.env.locals := fun x c e z => by
  obtain ⟨v, o, ho, hd⟩ := I.cell x c e
  obtain ⟨m, ⟨o', es, ep, ho', hd', _⟩, _⟩ := I.loc
  rw [z, ho'] at ho; cases ho; rw [hd'] at hd; cases hd
theorem Inv.funs (I : Inv X pins σ H s) : s.heap.FunFrames X.base X.outer := by
  have all : ∀ (l : List Env), (∀ b ∈ frs l, b ∈ X.fs) -> X.s₀.heap.FunFrames X.base l -> s.heap.FunFrames X.base l := by
    intro l
    induction l with
    | nil => intro _ _; trivial
    | cons env r ih =>
      intro hs hl
      obtain ⟨hk, ⟨L, o, hf, hn, ho, hd⟩, hr⟩ := hl
      have hL : L ∈ X.fs := hs L (by unfold frs; rw [List.filterMap_cons, hf]; exact List.mem_cons_self)
      obtain ⟨sl, e⟩ := I.base.slot L o ho (I.ok.frf L hL) hL fun z => I.ok.exfs L z hL
      exact ⟨hk, ⟨L, _, hf, hn, e, hd⟩, ih (fun b hb => hs b (by unfold frs; rw [List.filterMap_cons, hf]; exact List.mem_cons_of_mem _ hb)) hr⟩
  exact all X.outer (fun _ hb => hb) I.ok.funs
theorem Inv.stack (I : Inv X pins σ H s) : s.heap.FunFrames X.base X.stack := by
  rcases I.ok.stk with e | ⟨e, hf⟩
  · rw [e]; exact I.funs
  · rw [e]
    obtain ⟨m, hn, _⟩ := I.loc
    refine .cons (by rw [I.ok.kind]; decide) hf hn ?_ I.funs
    exact Heap.get?_none_of_le (Nat.le_trans I.ok.bsz I.ok.above)
theorem Inv.stkSub (I : Inv X pins σ H s) : ∀ b ∈ frs X.stack, b ∈ X.env.locals :: X.fs := fun b hb => by
  rcases I.ok.stk with e | ⟨e, hf⟩
  · rw [e] at hb; exact List.mem_cons_of_mem _ hb
  · rw [e] at hb
    unfold frs at hb
    rw [List.filterMap_cons, hf] at hb
    exact hb
theorem Inv.stkFree (I : Inv X pins σ H s) : ∀ b ∈ frs X.stack, H b = none := fun b hb => by
  rcases List.mem_cons.mp (I.stkSub b hb) with e | hb
  · rw [e]; exact I.free
  · obtain ⟨_, o, ho, _⟩ := I.ok.funs.mem hb
    exact I.base.free b o ho (I.ok.frf b hb) fun z => I.ok.exfs b z hb
theorem Inv.step {g' : Array GenState} {t' : Nat} {d' : Drawn} {ch : List Addr} (I : Inv X pins σ H s)
    (hch : ∀ b ∈ ch, (b ∈ X.ex \/ X.s₀.heap.objs.size <= b) /\ b ≠ X.env.locals /\ (∀ x c, X.env.cells.lookup x = some c -> c ≠ b) /\ ∀ p ∈ X.pn ++ pins, p.1 ≠ b)
    (keep : ∀ b o, b ≠ X.env.locals -> b ∉ X.fs -> b ∉ ch -> s.heap.get? b = some o -> H b = none -> h'.get? b = some o)
    (slot : ∀ b o, b ≠ X.env.locals -> b ∈ X.fs -> b ∉ ch -> s.heap.get? b = some o -> H b = none -> ∃ sl, h'.get? b = some { o with slots := sl }) (free : ∀ b o, b ∉ ch -> s.heap.get? b = some o -> H b = none -> H' b = none)
    (there : ∀ b o, b ∉ ch -> s.heap.get? b = some o -> ∃ o', h'.get? b = some o')
    (tups : ∀ b xs, H b = some (.tup xs) -> H' b = some (.tup xs)) (frzs : ∀ b o u, H b = some (.frz o u) -> H' b = some (.frz o u)) (tbls : ∀ b ps, H b = some (.tbl ps) -> ∃ more, H' b = some (.tbl (ps ++ more)))
    (ns : ∀ m, s.heap.Ns X.env.locals m -> h'.Ns X.env.locals m) (hok : HOk X.prog X.w H' h') (hg : AllBare g') :
    Inv X pins σ H' { s with heap := h', gens := g', drawn := d', toks := t' } := by
  have neL : ∀ b o, X.s₀.heap.get? b = some o -> b ≠ X.env.locals := fun b o e => Nat.ne_of_lt (Nat.lt_of_lt_of_le (Heap.lt_size e) I.ok.above)
  have neC : ∀ b o, X.s₀.heap.get? b = some o -> b ∉ X.ex -> b ∉ ch := fun b o e hx hb => by
    rcases (hch b hb).1 with z | z
    · exact hx z
    · exact absurd (Nat.lt_of_lt_of_le (Heap.lt_size e) z) (Nat.lt_irrefl _)
  have cellK : ∀ x c, X.env.cells.lookup x = some c -> ∀ v, s.heap.IsCell c v -> h'.IsCell c v := fun x c e v ⟨o, ho, hd⟩ => by
    have nch : c ∉ ch := fun z => (hch c z).2.2.1 x c e rfl
    by_cases hc : c ∈ X.fs
    · obtain ⟨sl, q⟩ := slot c o (I.cne x c e) hc nch ho (I.freeC x c e)
      exact ⟨_, q, hd⟩
    · exact ⟨o, keep c o (I.cne x c e) hc nch ho (I.freeC x c e), hd⟩
  refine ⟨I.ok, I.os, hg, ⟨fun b o e n hb hx => ?_, fun b o e n hb hx => ?_, fun b o e n hx => ?_, fun b o e hx => ?_, fun b xs e => tups b xs (I.base.tups b xs e), fun b o xs e => frzs b o xs (I.base.frzs b o xs e), fun b ps e => ?_⟩, ?_, fun x c e => ?_, ?_, fun x c e => ?_, fun p hp => ?_, hok, I.len⟩
  · exact keep b o (neL b o e) hb (neC b o e hx) (I.base.keep b o e n hb hx) (I.base.free b o e n hx)
  · obtain ⟨sl, e1⟩ := I.base.slot b o e n hb hx
    obtain ⟨sl', e2⟩ := slot b _ (neL b o e) hb (neC b o e hx) e1 (I.base.free b o e n hx)
    exact ⟨sl', e2⟩
  · obtain ⟨o', e1⟩ := I.base.there b o e hx
    exact free b o' (neC b o e hx) e1 (I.base.free b o e n hx)
  · obtain ⟨o', e1⟩ := I.base.there b o e hx
    exact there b o' (neC b o e hx) e1
  · obtain ⟨m1, e1⟩ := I.base.tbls b ps e
    obtain ⟨m2, e2⟩ := tbls b _ e1
    exact ⟨m1 ++ m2, by rw [e2, Array.append_assoc]⟩
  · obtain ⟨m, hn, hl⟩ := I.loc
    refine ⟨m, ns m hn, fun i x v e1 e2 e3 => ?_⟩
    obtain ⟨u, r, l⟩ := hl i x v e1 e2 e3
    refine ⟨u, r, ?_⟩
    rcases l with l | ⟨k, c, e, z⟩
    · exact .inl l
    · exact .inr ⟨k, c, e, cellK x c e _ z⟩
  · obtain ⟨v, z⟩ := I.cell x c e
    exact ⟨v, cellK x c e v z⟩
  · obtain ⟨m, ⟨o, _, _, ho, _⟩, _⟩ := I.loc
    exact free _ o (fun z => (hch _ z).2.1 rfl) ho I.free
  · obtain ⟨v, o, ho, hd⟩ := I.cell x c e
    exact free c o (fun z => (hch c z).2.2.1 x c e rfl) ho (I.freeC x c e)
  · obtain ⟨e, n, ne, nf, d⟩ := I.pin p hp
    have nch : p.1 ∉ ch := fun z => (hch p.1 z).2.2.2 p hp rfl
    exact ⟨keep p.1 p.2 ne nf nch e n, free p.1 p.2 nch e n, ne, nf, d⟩
theorem Inv.un {t' : Nat} (I : Inv X pins σ H s) (u : Un X.fs [] H H' s.heap h') (hok : HOk X.prog X.w H' h') : Inv X pins σ H' { s with heap := h', toks := t' } := by
  obtain ⟨m, ⟨o, es, ep, ho, r⟩, _⟩ := id I.loc
  obtain ⟨sl, hL⟩ := u.any ho I.free (by simp)
  exact I.step (g' := s.gens) (d' := s.drawn) (ch := []) (fun _ z => nomatch z) (fun b o _ hb _ e n => u.keep b o e n hb (by simp)) (fun b o _ hb _ e n => u.slot b o e n hb (by simp)) (fun b o _ e n => u.free b o e n (by simp)) (fun b o _ e => u.there b o e (by simp)) u.tups u.frzs u.tbls (fun m' hm => by
    obtain ⟨o', es', ep', ho', r'⟩ := hm
    rw [ho] at ho'; cases ho'
    exact ⟨_, es', ep', hL, r'⟩) hok I.bare
theorem Inv.call {g' : Array GenState} {t' : Nat} {d' : Drawn} {ch : List Addr} (I : Inv X pins σ H s) (u : Un (frs X.stack) ch H H' s.heap h') (hok : HOk X.prog X.w H' h') (hg : AllBare g')
    (hch : ∀ b ∈ ch, (b ∈ X.ex \/ X.s₀.heap.objs.size <= b) /\ b ≠ X.env.locals /\ (∀ x c, X.env.cells.lookup x = some c -> c ≠ b) /\ ∀ p ∈ X.pn ++ pins, p.1 ≠ b) :
    Inv X pins σ H' { s with heap := h', gens := g', drawn := d', toks := t' } := by
  obtain ⟨m, ⟨o, es, ep, ho, r⟩, _⟩ := id I.loc
  obtain ⟨sl, hL⟩ := u.any ho I.free fun z => (hch _ z).2.1 rfl
  exact I.step (ch := ch) hch (fun b o hL hb hc e n => u.keep b o e n (fun z => (List.mem_cons.mp (I.stkSub b z)).elim hL hb) hc) (fun b o _ _ hc e n => u.any e n hc) (fun b o hc e n => u.free b o e n hc) (fun b o hc e => u.there b o e hc) u.tups u.frzs u.tbls (fun m' hm => by
    obtain ⟨o', es', ep', ho', r'⟩ := hm
    rw [ho] at ho'; cases ho'
    exact ⟨_, es', ep', hL, r'⟩) hok hg
theorem Inv.turned {t' : Nat} {it : Addr} (I : Inv X pins σ H s) (k : ∀ b o, b ≠ it -> s.heap.get? b = some o -> h'.get? b = some o) (hn : H it = none) (hL : it ≠ X.env.locals)
    (h1 : it ∈ X.ex \/ X.s₀.heap.objs.size <= it) (h2 : ∀ x c, X.env.cells.lookup x = some c -> c ≠ it) (h3 : ∀ p ∈ X.pn ++ pins, p.1 ≠ it) : Inv X pins σ H { s with heap := h', toks := t' } := by
  have nit : ∀ b u, H b = some u -> b ≠ it := fun b u e z => by rw [z, hn] at e; cases e
  refine I.step (g' := s.gens) (d' := s.drawn) (ch := [it]) (fun b hb => ?_) (fun b o _ _ hc e _ => k b o (fun z => hc (by simp [z])) e) (fun b o _ _ hc e _ => ⟨o.slots, k b o (fun z => hc (by simp [z])) e⟩) (fun _ _ _ _ n => n)
    (fun b o hc e => ⟨o, k b o (fun z => hc (by simp [z])) e⟩) (fun _ _ e => e) (fun _ _ _ e => e) (fun b ps e => ⟨#[], by rw [e]; simp⟩) (fun m hm => ?_) (fun b u e => ?_) I.bare
  · have e : b = it := by simpa using hb
    subst e
    exact ⟨h1, hL, h2, h3⟩
  · obtain ⟨o, es, ep, ho, r⟩ := hm
    exact ⟨o, es, ep, k _ o (Ne.symm hL) ho, r⟩
  · refine (I.hok b u e).stay (fun c v hc q => k c v ?_ q) (fun _ q => q) fun _ _ q => q
    rcases hc with z | z
    · rw [z]; exact nit b u e
    · exact nit c _ z
theorem Inv.tok (I : Inv X pins σ H s) (t : Nat) : Inv X pins σ H { s with toks := t } := I.un (h' := s.heap) (t' := t) Un.refl I.hok
theorem Inv.kept {t' : Nat} (I : Inv X pins σ H s) (k : ∀ b u, s.heap.get? b = some u -> h'.get? b = some u) : Inv X pins σ H { s with heap := h', toks := t' } := I.un (Un.kept k) (I.hok.kept k)
theorem Inv.laid {a : Addr} {o : HO} {t' : Nat} (I : Inv X pins σ H s) (k : ∀ b u, s.heap.get? b = some u -> h'.get? b = some u) (hp : s.heap.objs.size <= a) (new : ObjOk X.prog X.w (upd H a o) h' a o) :
    Inv X pins σ (upd H a o) { s with heap := h', toks := t' } := I.un (Un.laid k hp (I.hok.fresh hp)) (I.hok.laid k hp new)
theorem Inv.write {x e : Addr} {o : HO} {t' : Nat} (I : Inv X pins σ H s) (mu : Mut (H x)) (he : e = x \/ H e = some (.own x)) (k : ∀ b u, b ≠ e -> s.heap.get? b = some u -> h'.get? b = some u) (heo : ∃ u, h'.get? e = some u)
    (new : ObjOk X.prog X.w (upd H x o) h' x o) : Inv X pins σ (upd H x o) { s with heap := h', toks := t' } := I.un (Un.write mu he k heo) (I.hok.write mu he k heo new)
theorem Inv.pins_of {pins' : List (Addr × Obj)} (I : Inv X pins σ H s) (h : ∀ p ∈ pins', s.heap.get? p.1 = some p.2 /\ H p.1 = none /\ p.1 ≠ X.env.locals /\ p.1 ∉ X.fs /\ ∀ v, p.2.data ≠ .cell v) : Inv X pins' σ H s :=
  ⟨I.ok, I.os, I.bare, I.base, I.loc, I.cell, I.free, I.freeC, fun p hp => (List.mem_append.mp hp).elim (fun z => I.pin p (List.mem_append_left _ z)) (h p), I.hok, I.len⟩
theorem nodup_ix {N : List Str} (hN : N.Nodup) {i j : Nat} {x : Str} (a : N[i]? = some x) (b : N[j]? = some x) : i = j := by
  obtain ⟨h1, e1⟩ := List.getElem?_eq_some_iff.mp a
  obtain ⟨h2, e2⟩ := List.getElem?_eq_some_iff.mp b
  exact (List.getElem_inj hN).mp (e1.trans e2.symm)
theorem store_ok2 {M : Model} {A : Around} {E : Value -> Shared -> Prop} {i : Nat} {x : Str} {v : V} {u : Value} {Q : Unit -> Shared -> Prop} (I : Inv X pins σ H s) (hN : X.N.Nodup) (hi : X.N[i]? = some x) (hx : Loc X.env.scope x) (r : RelV v u)
    (h : ∀ s', Inv X pins (σ.set i (some v)) H s' -> (∃ a, Heap.SameBut a s.heap s'.heap /\ (a = X.env.locals \/ X.env.cells.lookup x = some a)) -> Q () s') (hf : X.fn x = true \/ X.env.scope.names.lookup x = some .local := by first | exact .inl rfl | exact .inr rfl | assumption) : wpAny M A (storeName X.env x u) Q E s := by
  obtain ⟨m, hn, hl⟩ := id I.loc
  have hcls : (X.env.scope.kind == .class || (X.env.scope.kind == .module && X.env.locals != X.env.globals)) = false := by rw [I.ok.kind]; rfl
  have hiσ : i < σ.length := by rw [I.len]; exact (List.getElem?_eq_some_iff.mp hi).1
  have cne := I.cne
  have tracked : ∀ {a : Addr} {h' : Heap}, (∃ o, s.heap.get? a = some o /\ H a = none) -> Heap.SameBut a s.heap h' -> HOk X.prog X.w H h' := fun {a h'} ha hs b ob e => by
    obtain ⟨_, _, hfree⟩ := ha
    refine (I.hok b ob e).stay (fun c w' hc q => (hs.2 c ?_).trans q) (fun _ q => q) fun _ _ q => q
    rintro rfl
    rcases hc with rfl | hc
    · rw [hfree] at e; cases e
    · rw [hfree] at hc; cases hc
  rcases hx with hk | hk
  · refine wpAny_storeName_local hk hn (fun h' hn' hs => ?_) hcls
    obtain ⟨oL, _, _, hoL, _⟩ := id hn
    refine h _ ⟨I.ok, I.os, I.bare, ⟨fun b o e n hb hx => ?_, fun b o e n hb hx => ?_, I.base.free, fun b o e hx => ?_, I.base.tups, I.base.frzs, I.base.tbls⟩, ⟨_, hn', fun j y v' e1 e2 e3 => ?_⟩, fun y c e => ?_, I.free, I.freeC, fun p hp => ?_, tracked ⟨oL, hoL, I.free⟩ hs, by simpa using I.len⟩ ⟨_, hs, .inl rfl⟩
    · exact (hs.2 b (Nat.ne_of_lt (Nat.lt_of_lt_of_le (Heap.lt_size e) I.ok.above))).trans (I.base.keep b o e n hb hx)
    · obtain ⟨sl, e1⟩ := I.base.slot b o e n hb hx
      exact ⟨sl, (hs.2 b (Nat.ne_of_lt (Nat.lt_of_lt_of_le (Heap.lt_size e) I.ok.above))).trans e1⟩
    · obtain ⟨o', e1⟩ := I.base.there b o e hx
      exact ⟨o', (hs.2 b (Nat.ne_of_lt (Nat.lt_of_lt_of_le (Heap.lt_size e) I.ok.above))).trans e1⟩
    · by_cases hj : j = i
      · subst hj
        rw [hi] at e1; cases e1
        rw [List.getElem?_set_self hiσ] at e2
        cases e2
        exact ⟨u, r, .inl ⟨hk, by simp⟩⟩
      · rw [List.getElem?_set_ne (Ne.symm hj)] at e2
        obtain ⟨u', r', q⟩ := hl j y v' e1 e2 e3
        refine ⟨u', r', ?_⟩
        rcases q with ⟨k, e⟩ | ⟨k, c, e, z⟩
        · refine .inl ⟨k, ?_⟩
          have : y ≠ x := fun e => hj (nodup_ix hN e1 (e ▸ hi))
          simp [this, e]
        · exact .inr ⟨k, c, e, z.sameBut hs (cne y c e)⟩
    · obtain ⟨w', z⟩ := I.cell y c e
      exact ⟨w', z.sameBut hs (cne y c e)⟩
    · obtain ⟨e, n, ne, nf, d⟩ := I.pin p hp
      exact ⟨(hs.2 p.1 ne).trans e, n, ne, nf, d⟩
  · have hfn : X.fn x = true := by
      rcases hf with z | z
      · exact z
      · rw [z] at hk; cases hk
    obtain ⟨c, hc⟩ := I.ok.has x (.inl hk)
    obtain ⟨w', z⟩ := I.cell x c hc
    refine wpAny_storeName_cell I.ok.kind hk hc z (fun h' hc' hs => ?_)
    obtain ⟨oc, hoc, hocd⟩ := id z
    refine h { s with heap := h' } ⟨I.ok, I.os, I.bare, ⟨fun b o e n hb hx => ?_, fun b o e n hb hx => ?_, I.base.free, fun b o e hx => ?_, I.base.tups, I.base.frzs, I.base.tbls⟩, ⟨m, hn.sameBut hs (Ne.symm (cne x c hc)), fun j y v' e1 e2 e3 => ?_⟩, fun y c' e => ?_, I.free, I.freeC, fun p hp => ?_, tracked ⟨oc, hoc, I.freeC x c hc⟩ hs, by simpa using I.len⟩ ⟨c, hs, .inr hc⟩
    · exact (hs.2 b (Nat.ne_of_lt (Nat.lt_of_lt_of_le (Heap.lt_size e) (I.ok.cab x c hfn hc)))).trans (I.base.keep b o e n hb hx)
    · obtain ⟨sl, e1⟩ := I.base.slot b o e n hb hx
      exact ⟨sl, (hs.2 b (Nat.ne_of_lt (Nat.lt_of_lt_of_le (Heap.lt_size e) (I.ok.cab x c hfn hc)))).trans e1⟩
    · obtain ⟨o', e1⟩ := I.base.there b o e hx
      exact ⟨o', (hs.2 b (Nat.ne_of_lt (Nat.lt_of_lt_of_le (Heap.lt_size e) (I.ok.cab x c hfn hc)))).trans e1⟩
    · by_cases hj : j = i
      · subst hj
        rw [hi] at e1; cases e1
        rw [List.getElem?_set_self hiσ] at e2
        cases e2
        exact ⟨u, r, .inr ⟨.inl hk, c, hc, hc'⟩⟩
      · rw [List.getElem?_set_ne (Ne.symm hj)] at e2
        obtain ⟨u', r', q⟩ := hl j y v' e1 e2 e3
        refine ⟨u', r', ?_⟩
        rcases q with q | ⟨k, c', e, z'⟩
        · exact .inl q
        · refine .inr ⟨k, c', e, z'.sameBut hs ?_⟩
          rintro rfl
          exact hj (nodup_ix hN e1 (I.ok.inj _ _ _ e hc ▸ hi))
    · by_cases hcc : c' = c
      · subst hcc; exact ⟨_, hc'⟩
      · obtain ⟨w2, z2⟩ := I.cell y c' e
        exact ⟨w2, z2.sameBut hs hcc⟩
    · obtain ⟨e, n, ne, nf, d⟩ := I.pin p hp
      refine ⟨(hs.2 p.1 ?_).trans e, n, ne, nf, d⟩
      intro q
      rw [q, hoc] at e
      have q' : oc = p.2 := Option.some.inj e
      exact d w' (by rw [<- q']; exact hocd)
theorem store_ok {M : Model} {A : Around} {E : Value -> Shared -> Prop} {i : Nat} {x : Str} {v : V} {u : Value} {Q : Unit -> Shared -> Prop} (I : Inv X pins σ H s) (hN : X.N.Nodup) (hi : X.N[i]? = some x) (hx : Loc X.env.scope x) (r : RelV v u)
    (h : ∀ s', Inv X pins (σ.set i (some v)) H s' -> Q () s') (hf : X.fn x = true \/ X.env.scope.names.lookup x = some .local := by first | exact .inl rfl | exact .inr rfl | assumption) : wpAny M A (storeName X.env x u) Q E s :=
  store_ok2 I hN hi hx r (fun s' I' _ => h s' I') hf
theorem Inv.call' {s' : Shared} {ch : List Addr} (I : Inv X pins σ H s) (ho : s'.os = s.os) (u : Un (frs X.stack) ch H H' s.heap s'.heap) (hok : HOk X.prog X.w H' s'.heap) (hg : AllBare s'.gens)
    (hch : ∀ b ∈ ch, (b ∈ X.ex \/ X.s₀.heap.objs.size <= b) /\ b ≠ X.env.locals /\ (∀ x c, X.env.cells.lookup x = some c -> c ≠ b) /\ ∀ p ∈ X.pn ++ pins, p.1 ≠ b) : Inv X pins σ H' s' := by
  obtain ⟨h', g', d', t', o'⟩ := s'
  have e : o' = s.os := ho
  subst e
  exact I.call (g' := g') (t' := t') (d' := d') u hok hg hch
end
abbrev XK := Value -> Option Addr -> Hp -> Prop
abbrev St := List (Option V)
abbrev VK := V -> Hp -> Prop
abbrev TE := St -> Hp -> VK -> Prop
abbrev TT := St -> Hp -> (Bool -> Hp -> Prop) -> Prop
abbrev TA := St -> Hp -> (List V -> Hp -> Prop) -> Prop
structure Ends where
  nx : St -> Hp -> Prop
  rt : VK
  bk : St -> Hp -> Prop := fun _ _ => False
  ct : St -> Hp -> Prop := fun _ _ => False
abbrev TS := Ends -> St -> Hp -> Prop
def EP (X : Cx) (pins : List (Addr × Obj)) (σ : St) (Q : VK) (u : Value) (s' : Shared) : Prop := ∃ v H', Inv X pins σ H' s' /\ RelV v u /\ Q v H'
def TP (X : Cx) (pins : List (Addr × Obj)) (σ : St) (Q : Bool -> Hp -> Prop) (b : Bool) (s' : Shared) : Prop := ∃ H', Inv X pins σ H' s' /\ Q b H'
def AP (X : Cx) (pins : List (Addr × Obj)) (σ : St) (Q : List V -> Hp -> Prop) (us : List Value) (s' : Shared) : Prop := ∃ vs H', Inv X pins σ H' s' /\ Vals vs us /\ Q vs H'
def SP (X : Cx) (pins : List (Addr × Obj)) (D : Ends) (f : Flow) (s' : Shared) : Prop :=
  match f with
  | .next => ∃ σ' H', Inv X pins σ' H' s' /\ D.nx σ' H'
  | .brk => ∃ σ' H', Inv X pins σ' H' s' /\ D.bk σ' H'
  | .cont => ∃ σ' H', Inv X pins σ' H' s' /\ D.ct σ' H'
  | .ret u => ∃ v σ' H', Inv X pins σ' H' s' /\ RelV v u /\ D.rt v H'
def PE (X : Cx) (e : Expr) (t : TE) : Prop :=
  ∀ (pins : List (Addr × Obj)) (s : Shared) (σ : St) (H : Hp) (Q : VK), Inv X pins σ H s -> t σ H Q -> wpAny (model X.prog X.w) X.A (eval e X.env) (EP X pins σ Q) X.xe s
def PT (X : Cx) (e : Expr) (t : TT) : Prop :=
  ∀ (pins : List (Addr × Obj)) (s : Shared) (σ : St) (H : Hp) (Q : Bool -> Hp -> Prop), Inv X pins σ H s -> t σ H Q -> wpAny (model X.prog X.w) X.A (isTrue e X.env (eval e X.env)) (TP X pins σ Q) X.xe s
def PW (X : Cx) (e : Expr) (t : TT) : Prop :=
  ∀ (whole : Sem Value) (pins : List (Addr × Obj)) (s : Shared) (σ : St) (H : Hp) (Q : Bool -> Hp -> Prop), Inv X pins σ H s -> t σ H Q -> wpAny (model X.prog X.w) X.A (isTrue e X.env whole) (TP X pins σ Q) X.xe s
theorem PW.pt {X : Cx} {e : Expr} {t : TT} (h : PW X e t) : PT X e t := h _
def PA (X : Cx) (es : List Expr) (t : TA) : Prop :=
  ∀ (pos : Pos) (pins : List (Addr × Obj)) (s : Shared) (σ : St) (H : Hp) (Q : List V -> Hp -> Prop), Inv X pins σ H s -> t σ H Q -> wpAny (model X.prog X.w) X.A (spliced (backTo pos (starEach es X.env))) (AP X pins σ Q) X.xe s
def PS (X : Cx) (st : Stmt) (t : TS) : Prop :=
  ∀ (pins : List (Addr × Obj)) (s : Shared) (σ : St) (H : Hp) (D : Ends), Inv X pins σ H s -> t D σ H -> wpAny (model X.prog X.w) X.A (exec st X.env) (SP X pins D) X.xe s
def PSs (X : Cx) (st : List Stmt) (t : TS) : Prop :=
  ∀ (pins : List (Addr × Obj)) (s : Shared) (σ : St) (H : Hp) (D : Ends), Inv X pins σ H s -> t D σ H -> wpAny (model X.prog X.w) X.A (execs st X.env) (SP X pins D) X.xe s
theorem thn {α : Type} {t : Sem α} {Q Q' : α -> Shared -> Prop} {M : Model} {A : Around} {E : Value -> Shared -> Prop} {s : Shared} (h : wpAny M A t Q E s) (hQ : ∀ a s, Q a s -> Q' a s) : wpAny M A t Q' E s := wpAny_mono h hQ fun _ _ x => x
end L2
namespace L2
open PySem PySem.Spec PyProof.Rows
section
variable {X : Cx}
def tVar (i : Nat) : TE := fun σ H Q => ∃ v, σ[i]? = some (some v) /\ Q v H
def tC (v : V) : TE := fun _ H Q => Q v H
theorem pe_var {i : Nat} {x : Str} {pos : Pos} (hN : X.N[i]? = some x) (hv : Vis X.env.scope x) (hd : (x == ("__debug__" : Str)) = false := by decide) (hcd : (x == ("__classdict__" : Str)) = false := by decide) : PE X (.Name x pos) (tVar i) := by
  intro pins s σ H Q I h
  obtain ⟨v, e, h⟩ := h
  obtain ⟨m, hn, hl⟩ := I.loc
  obtain ⟨u, r, l⟩ := hl i x v hN e hv
  have fin : EP X pins σ Q u s := ⟨v, H, I, r, h⟩
  rcases l with ⟨hk, hm⟩ | ⟨hk, c, hc, hcell⟩
  · exact wpAny_Name (wpAny_loadName_local I.ok.kind hk hn hm fin) hd
  · rcases hk with hk | hk
    · exact wpAny_Name (wpAny_loadName_cell I.ok.kind hk hc hcell fin) hd
    · exact wpAny_Name (wpAny_loadName_free I.ok.kind hk hc hcell fin hcd) hd
theorem pe_int {i j pos} : PE X (.Constant (.int i) j pos) (tC (.int i)) := fun _ _ _ H _ I h => wpAny_Constant_int ⟨.int i, H, I.tok _, ⟨_, rfl⟩, h⟩
theorem pe_bl {b j pos} : PE X (.Constant (.bool b) j pos) (tC (.bl b)) := fun _ _ _ H _ I h => Constant_bool ⟨.bl b, H, I, rfl, h⟩
theorem pe_non {j pos} : PE X (.Constant .none j pos) (tC .non) := fun _ _ _ H _ I h => Constant_none ⟨.non, H, I, rfl, h⟩
theorem pe_str {x j pos} : PE X (.Constant (.str x) j pos) (tC (.str x)) := fun _ _ _ H _ I h => Calls.Constant_str ⟨.str x, H, I.tok _, ⟨_, rfl⟩, h⟩
def Gl (X : Cx) (x : Str) : Prop := X.env.kindOf x = some .globalImplicit
theorem ld_glob {E : Value -> Shared -> Prop} {pins : List (Addr × Obj)} {s : Shared} {σ : St} {H : Hp} {x : Str} {u : Value} {pos : Pos} {Q : Value -> Shared -> Prop} (I : Inv X pins σ H s) (hg : Gl X x) (hm : X.mg x = some u) (h : Q u s)
    (hd : (x == ("__debug__" : Str)) = false := by decide) : wpAny (model X.prog X.w) X.A (eval (.Name x pos) X.env) Q E s :=
  Calls.Name_function_global I.ok.kind hg (Calls.loadGlobal_global (by rw [I.ok.glob]; exact I.mod.glob.keeps I.bk) hm h) hd
theorem ld_blt {E : Value -> Shared -> Prop} {pins : List (Addr × Obj)} {s : Shared} {σ : St} {H : Hp} {x : Str} {u : Value} {pos : Pos} {Q : Value -> Shared -> Prop} (I : Inv X pins σ H s) (hg : Gl X x) (hm : X.mg x = none) (hv : bootBuiltins x = some u) (h : Q u s)
    (hn : x ≠ "__name__" := by decide) (hd : (x == ("__debug__" : Str)) = false := by decide) : wpAny (model X.prog X.w) X.A (eval (.Name x pos) X.env) Q E s := by
  obtain ⟨mb, h1, h2⟩ := I.mod.blt
  exact Calls.Name_function_global I.ok.kind hg (Calls.loadGlobal_builtin (by rw [I.ok.glob]; exact I.mod.glob.keeps I.bk) hm (by rw [I.ok.blt]; exact h1.keeps I.bk) ((h2 x hn).trans hv) h) hd
theorem pe_glob {x : Str} {v : V} {u : Value} {pos : Pos} (hg : Gl X x) (hm : X.mg x = some u) (r : RelV v u) (hd : (x == ("__debug__" : Str)) = false := by decide) : PE X (.Name x pos) (tC v) :=
  fun _ _ _ H _ I h => ld_glob I hg hm ⟨v, H, I, r, h⟩ hd
theorem pe_bltn {x : Str} {v : V} {u : Value} {pos : Pos} (hg : Gl X x) (hm : X.mg x = none) (hv : bootBuiltins x = some u) (r : RelV v u) (hn : x ≠ "__name__" := by decide) (hd : (x == ("__debug__" : Str)) = false := by decide) : PE X (.Name x pos) (tC v) :=
  fun _ _ _ H _ I h => ld_blt I hg hm hv ⟨v, H, I, r, h⟩ hn hd
variable {a b : Expr} {ta tb : TE} {pos : Pos}
def PC (X : Cx) (op : CmpOp) (a b : Expr) (t : TE) : Prop :=
  ∀ (pins : List (Addr × Obj)) (s : Shared) (σ : St) (H : Hp) (Q : VK), Inv X pins σ H s -> t σ H Q ->
    wpAny (model X.prog X.w) X.A (eval a X.env) (fun v s₁ => wpAny (model X.prog X.w) X.A (eval b X.env) (fun u s₂ => wpAny (model X.prog X.w) X.A (compareOp op v u) (EP X pins σ Q) X.xe s₂) X.xe s₁) X.xe s
theorem nobehind (b : Expr) {op : CmpOp} (h : op ≠ .In) (h2 : op ≠ .NotIn) : behindInMarks op b = false := by
  have e1 : (op == CmpOp.In) = false := by cases op <;> first | rfl | exact absurd rfl h
  have e2 : (op == CmpOp.NotIn) = false := by cases op <;> first | rfl | exact absurd rfl h2
  cases b <;> simp [behindInMarks, e1, e2]
def tIsN (ta : TE) : TE := fun σ H Q => ta σ H fun x H1 => Q (.bl (decide (x = .non))) H1
def tNotN (ta : TE) : TE := fun σ H Q => ta σ H fun x H1 => Q (.bl (!decide (x = .non))) H1
theorem RelV.none_iff {x : V} {v : Value} (r : RelV x v) : (v == Value.none) = decide (x = .non) := by
  cases x with
  | non => cases r; rfl
  | bl _ => cases r; rfl
  | int _ => obtain ⟨t, rfl⟩ := r; rfl
  | str _ => obtain ⟨t, rfl⟩ := r; rfl
  | byt _ => obtain ⟨t, rfl⟩ := r; rfl
  | flt _ => obtain ⟨t, rfl⟩ := r; rfl
  | ref _ => cases r; rfl
  | ty _ => cases r; rfl
theorem pc_isN {j pos'} (ha : PE X a ta) : PC X .Is a (.Constant .none j pos') (tIsN ta) := by
  intro pins s σ H Q I h
  refine thn (ha pins s σ H _ I h) fun v s1 ⟨x, H1, I1, r1, q1⟩ => ?_
  exact Constant_none (is_none_gen ⟨.bl _, H1, I1, by rw [r1.none_iff]; rfl, q1⟩)
theorem pc_notN {j pos'} (ha : PE X a ta) : PC X .IsNot a (.Constant .none j pos') (tNotN ta) := by
  intro pins s σ H Q I h
  refine thn (ha pins s σ H _ I h) fun v s1 ⟨x, H1, I1, r1, q1⟩ => ?_
  exact Constant_none (isnot_none_gen ⟨.bl _, H1, I1, by rw [r1.none_iff]; rfl, q1⟩)
def tB (t : TE) : TT := fun σ H Q => t σ H fun x H1 => ∃ c, x = .bl c /\ Q c H1
theorem pt_cmp {op : CmpOp} {t : TE} (h : PC X op a b t) (h1 : behindInMarks op b = false := by first | exact nobehind _ (by decide) (by decide) | rfl) : PT X (.Compare a [op] [b] pos) (tB t) := by
  intro pins s σ H Q I hw
  refine wpAny_isTrue_Compare1 (thn (h pins s σ H _ I hw) fun v s1 h1 => thn h1 fun u s2 h2 => thn h2 fun c s3 ⟨x, H1, I1, r1, q1⟩ => ?_) h1
  obtain ⟨d, rfl, q⟩ := q1
  cases r1
  exact wpAny_truthy_bool ⟨H1, I1, q⟩
theorem pt_val {e : Expr} {t : TE} (h : PE X e t) (he : ∀ whole, isTrue e X.env whole = (do let v <- whole; standAt e.pos; holding [v] (truthy v)) := by intro _; rfl) : PT X e (tB t) := by
  intro pins s σ H Q I hw
  refine isTrue_plain (thn (h pins s σ H _ I hw) fun v s1 ⟨x, H1, I1, r1, q1⟩ => ?_) (he _)
  obtain ⟨d, rfl, q⟩ := q1
  cases r1
  exact wpAny_truthy_bool ⟨H1, I1, q⟩
variable {tA tB' : TT} {rest : List Expr}
def tAnd (t u : TT) : TT := fun σ H Q => t σ H fun c H1 => if c = true then u σ H1 Q else Q false H1
def tOr (t u : TT) : TT := fun σ H Q => t σ H fun c H1 => if c = true then Q true H1 else u σ H1 Q
def tNot (t : TT) : TT := fun σ H Q => t σ H fun c H1 => Q (!c) H1
theorem pw_and1 (ha : PT X a tA) : PW X (.BoolOp .And [a] pos) tA := by
  intro wh pins s σ H Q I h
  refine isTrue_and (thn (ha pins s σ H Q I h) fun c s1 e => ?_)
  cases c with
  | true => exact isTrue_and_nil e
  | false => exact e
theorem pw_or1 (ha : PT X a tA) : PW X (.BoolOp .Or [a] pos) tA := by
  intro wh pins s σ H Q I h
  refine isTrue_or (thn (ha pins s σ H Q I h) fun c s1 e => ?_)
  cases c with
  | false => exact isTrue_or_nil e
  | true => exact e
theorem pw_and (ha : PT X a tA) (hb : PW X (.BoolOp .And (b :: rest) pos) tB') : PW X (.BoolOp .And (a :: b :: rest) pos) (tAnd tA tB') := by
  intro wh pins s σ H Q I h
  refine isTrue_and (thn (ha pins s σ H _ I h) fun c s1 ⟨H1, I1, q1⟩ => ?_)
  cases c with
  | true => exact hb wh pins s1 σ H1 Q I1 q1
  | false => exact ⟨H1, I1, q1⟩
theorem pw_or (ha : PT X a tA) (hb : PW X (.BoolOp .Or (b :: rest) pos) tB') : PW X (.BoolOp .Or (a :: b :: rest) pos) (tOr tA tB') := by
  intro wh pins s σ H Q I h
  refine isTrue_or (thn (ha pins s σ H _ I h) fun c s1 ⟨H1, I1, q1⟩ => ?_)
  cases c with
  | true => exact ⟨H1, I1, q1⟩
  | false => exact hb wh pins s1 σ H1 Q I1 q1
theorem pt_not (ha : PT X a tA) : PT X (.UnaryOp .Not a pos) (tNot tA) := by
  intro pins s σ H Q I h
  exact isTrue_not (ha pins s σ H (fun c H1 => Q (!c) H1) I h)
def tAndV (ta tb : TE) : TE := fun σ H Q => ta σ H fun x H1 => ∃ c, x = .bl c /\ if c = true then tb σ H1 Q else Q (.bl false) H1
def tOrV (ta tb : TE) : TE := fun σ H Q => ta σ H fun x H1 => ∃ c, x = .bl c /\ if c = true then Q (.bl true) H1 else tb σ H1 Q
def tNotV (ta : TE) : TE := fun σ H Q => ta σ H fun x H1 => ∃ c, x = .bl c /\ Q (.bl (!c)) H1
theorem pe_one {op} {t : TE} (h : PE X a t) : PE X (.BoolOp op [a] pos) t := fun pins s σ H Q I hw => BoolOp_one (h pins s σ H Q I hw)
theorem pe_and (ha : PE X a ta) (hb : PE X (.BoolOp .And (b :: rest) pos) tb) : PE X (.BoolOp .And (a :: b :: rest) pos) (tAndV ta tb) := by
  intro pins s σ H Q I h
  refine BoolOp_and (thn (ha pins s σ H _ I h) fun v s1 ⟨x, H1, I1, r1, q1⟩ => ?_)
  obtain ⟨c, rfl, q1⟩ := q1
  cases r1
  refine wpAny_truthy_bool ?_
  cases c with
  | true => exact hb pins s1 σ H1 Q I1 q1
  | false => exact ⟨.bl false, H1, I1, rfl, q1⟩
theorem pe_or (ha : PE X a ta) (hb : PE X (.BoolOp .Or (b :: rest) pos) tb) : PE X (.BoolOp .Or (a :: b :: rest) pos) (tOrV ta tb) := by
  intro pins s σ H Q I h
  refine BoolOp_or (thn (ha pins s σ H _ I h) fun v s1 ⟨x, H1, I1, r1, q1⟩ => ?_)
  obtain ⟨c, rfl, q1⟩ := q1
  cases r1
  refine wpAny_truthy_bool ?_
  cases c with
  | false => exact hb pins s1 σ H1 Q I1 q1
  | true => exact ⟨.bl true, H1, I1, rfl, q1⟩
theorem pe_not (ha : PE X a ta) : PE X (.UnaryOp .Not a pos) (tNotV ta) := by
  intro pins s σ H Q I h
  refine UnaryOp_ (thn (ha pins s σ H _ I h) fun v s1 ⟨x, H1, I1, r1, q1⟩ => ?_)
  obtain ⟨c, rfl, q1⟩ := q1
  cases r1
  exact not_of (wpAny_truthy_bool ⟨.bl (!c), H1, I1, rfl, q1⟩)
def tIf (t : TT) (ta tb : TE) : TE := fun σ H Q => t σ H fun c H1 => if c = true then ta σ H1 Q else tb σ H1 Q
theorem pe_ifExp {c : Expr} (hc : PT X c tA) (ha : PE X a ta) (hb : PE X b tb) : PE X (.IfExp c a b pos) (tIf tA ta tb) := by
  intro pins s σ H Q I h
  refine wpAny_IfExp (thn (hc pins s σ H _ I h) fun d s1 ⟨H1, I1, q1⟩ => ?_)
  cases d with
  | true => exact ha pins s1 σ H1 Q I1 q1
  | false => exact hb pins s1 σ H1 Q I1 q1
end
end L2
namespace L2
open PySem PySem.Spec PyProof.Rows
def SqL (K : PySem.W.Frag) (H : Hp) (a : Addr) (xs : List V) : Prop :=
  Rd H a (.lst xs) \/
    ∃ (o : Obj) (its : Array Value) (n : Nat), K.lookup a = some o /\ o.cls = .type "list" /\ o.dict = none /\ o.data = .seq its n /\ its.size <= sizeLine /\ Vals xs its.toList
def SqT (K : PySem.W.Frag) (H : Hp) (a : Addr) (xs : List V) : Prop :=
  Rd H a (.tup xs) \/
    ∃ (o : Obj) (its : Array Value) (n : Nat), K.lookup a = some o /\ o.cls = .type "tuple" /\ o.data = .seq its n /\ its.size <= sizeLine /\ Vals xs its.toList
def absV : Value -> Option V
  | .none => some .non
  | .bool b => some (.bl b)
  | .int i _ => some (.int i)
  | .str x _ => some (.str x)
  | .bytes b _ => some (.byt b)
  | .float b _ => some (.flt b)
  | .ref a => some (.ref a)
  | .type n => some (.ty n)
  | _ => none
theorem RelV.abs {x : V} {u : Value} (r : RelV x u) : absV u = some x := by
  cases x with
  | non => cases r; rfl
  | bl _ => cases r; rfl
  | int _ => obtain ⟨t, rfl⟩ := r; rfl
  | str _ => obtain ⟨t, rfl⟩ := r; rfl
  | byt _ => obtain ⟨t, rfl⟩ := r; rfl
  | flt _ => obtain ⟨t, rfl⟩ := r; rfl
  | ref _ => cases r; rfl
  | ty _ => cases r; rfl
theorem RelV.inj {x y : V} {u : Value} (r : RelV x u) (q : RelV y u) : x = y := Option.some.inj (r.abs.symm.trans q.abs)
theorem Vals.inj : ∀ {xs ys : List V} {us : List Value}, Vals xs us -> Vals ys us -> xs = ys
  | _, _, _, .nil, .nil => rfl
  | _, _, _, .cons r t, .cons r' t' => by rw [r.inj r', Vals.inj t t']
section
variable {X : Cx} {pins : List (Addr × Obj)} {σ : St} {H : Hp} {s : Shared} {a : Addr} {xs ys : List V}
theorem SqL.of {K : PySem.W.Frag} (h : H a = some (.lst xs)) : SqL K H a xs := .inl (.inl h)
theorem SqT.of {K : PySem.W.Frag} (h : H a = some (.tup xs)) : SqT K H a xs := .inl (.inl h)
theorem Inv.list (I : Inv X pins σ H s) (h : SqL X.K H a xs) : ∃ its : List Value, Vals xs its /\ PlainL s.heap a its.toArray /\ xs.length <= sizeLine := by
  rcases h with h | ⟨o, its, n, hk, hc, hd, hs, hz, r⟩
  · obtain ⟨z, its, n, r, e⟩ := h.ok I.hok
    exact ⟨its, r, ⟨_, n, e, rfl, rfl, rfl⟩, z⟩
  · refine ⟨its.toList, r, ⟨o, n, I.kIn a o hk, hc, hd, by simpa using hs⟩, ?_⟩
    have e := r.length
    simp only [Array.length_toList] at e
    omega
theorem Inv.tuple (I : Inv X pins σ H s) (h : SqT X.K H a xs) : ∃ its : List Value, Vals xs its /\ IsTup s.heap a its.toArray /\ xs.length <= sizeLine := by
  rcases h with h | ⟨o, its, n, hk, hc, hs, hz, r⟩
  · obtain ⟨z, its, r, p⟩ := h.ok I.hok
    exact ⟨its, r, p, z⟩
  · refine ⟨its.toList, r, ⟨o, I.kIn a o hk, hc, n, by simpa using hs⟩, ?_⟩
    have e := r.length
    simp only [Array.length_toList] at e
    omega
theorem Inv.list_inj (I : Inv X pins σ H s) (h : SqL X.K H a xs) (h' : SqL X.K H a ys) : xs = ys := by
  obtain ⟨its, r, ⟨o, n, e, _, _, d⟩, _⟩ := I.list h
  obtain ⟨its', r', ⟨o', n', e', _, _, d'⟩, _⟩ := I.list h'
  rw [e] at e'; cases e'
  rw [d] at d'
  injection d' with d1 _
  have : its = its' := by simpa using congrArg Array.toList d1
  subst this
  exact r.inj r'
theorem Inv.tuple_inj (I : Inv X pins σ H s) (h : SqT X.K H a xs) (h' : SqT X.K H a ys) : xs = ys := by
  obtain ⟨its, r, ⟨o, e, _, n, d⟩, _⟩ := I.tuple h
  obtain ⟨its', r', ⟨o', e', _, n', d'⟩, _⟩ := I.tuple h'
  rw [e] at e'; cases e'
  rw [d] at d'
  injection d' with d1 _
  have : its = its' := by simpa using congrArg Array.toList d1
  subst this
  exact r.inj r'
end
abbrev Cx.wish (X : Cx) (E : Value -> Shared -> Prop) : Cx := { X with xe := E }
abbrev Cx.nox (X : Cx) : Cx := X.wish fun _ _ => False
theorem Cx.Ok.wish {X : Cx} (ok : X.Ok) (E : Value -> Shared -> Prop) : (X.wish E).Ok :=
  ⟨ok.mod, ok.kind, ok.glob, ok.blt, ok.above, ok.inj, ok.has, ok.cab, ok.hd, ok.frames, ok.stk, ok.exf, ok.bs, ok.bsz, ok.noex, ok.exfs, ok.funs, ok.frf⟩
theorem Cx.Ok.unwish {X : Cx} {E : Value -> Shared -> Prop} (ok : (X.wish E).Ok) : X.Ok :=
  ⟨ok.mod, ok.kind, ok.glob, ok.blt, ok.above, ok.inj, ok.has, ok.cab, ok.hd, ok.frames, ok.stk, ok.exf, ok.bs, ok.bsz, ok.noex, ok.exfs, ok.funs, ok.frf⟩
section
variable {X : Cx} {pins : List (Addr × Obj)} {σ : St} {H : Hp} {s : Shared} {E : Value -> Shared -> Prop}
theorem Inv.wish (I : Inv X pins σ H s) (E : Value -> Shared -> Prop) : Inv (X.wish E) pins σ H s := ⟨I.ok.wish E, I.os, I.bare, I.base, I.loc, I.cell, I.free, I.freeC, I.pin, I.hok, I.len⟩
theorem Inv.unwish (I : Inv (X.wish E) pins σ H s) : Inv X pins σ H s := ⟨I.ok.unwish, I.os, I.bare, I.base, I.loc, I.cell, I.free, I.freeC, I.pin, I.hok, I.len⟩
theorem SP.unwish {D : Ends} {f : Flow} {s' : Shared} (h : SP (X.wish E) pins D f s') : SP X pins D f s' := by
  cases f with
  | next => obtain ⟨σ', H', I, q⟩ := h; exact ⟨σ', H', I.unwish, q⟩
  | brk => obtain ⟨σ', H', I, q⟩ := h; exact ⟨σ', H', I.unwish, q⟩
  | cont => obtain ⟨σ', H', I, q⟩ := h; exact ⟨σ', H', I.unwish, q⟩
  | ret u => obtain ⟨v, σ', H', I, r, q⟩ := h; exact ⟨v, σ', H', I.unwish, r, q⟩
theorem PE.nox {e : Expr} {t : TE} (h : PE X.nox e t) : PE X e t := fun pins s σ H Q I hw =>
  wpAny_mono (h pins s σ H Q (I.wish _) hw) (fun _ _ ⟨v, H', I', r, q⟩ => ⟨v, H', I'.unwish, r, q⟩) fun _ _ z => False.elim z
theorem PT.nox {e : Expr} {t : TT} (h : PT X.nox e t) : PT X e t := fun pins s σ H Q I hw =>
  wpAny_mono (h pins s σ H Q (I.wish _) hw) (fun _ _ ⟨H', I', q⟩ => ⟨H', I'.unwish, q⟩) fun _ _ z => False.elim z
theorem PSs.nox {st : List Stmt} {t : TS} (h : PSs X.nox st t) : PSs X st t := fun pins s σ H D I hw =>
  wpAny_mono (h pins s σ H D (I.wish _) hw) (fun _ _ q => q.unwish) fun _ _ z => False.elim z
end
section
variable {X : Cx} {st : Stmt} {rest : List Stmt} {t u : TS} {e : Expr} {te : TE} {pos : Pos}
def tNext : TS := fun D σ H => D.nx σ H
def tSeq (t u : TS) : TS := fun D σ H => t { D with nx := u D } σ H
theorem pss_nil : PSs X [] tNext := fun _ _ σ H _ I h => wpAny_execs_nil ⟨σ, H, I, h⟩
theorem pss_cons (h1 : PS X st t) (h2 : PSs X rest u) : PSs X (st :: rest) (tSeq t u) := by
  intro pins s σ H D I h
  refine wpAny_execs_cons (thn (h1 pins s σ H { D with nx := u D } I h) fun f s1 q => ?_)
  cases f with
  | next =>
    obtain ⟨σ', H', I', q⟩ := q
    exact h2 pins s1 σ' H' D I' q
  | ret v => exact q
  | brk => exact q
  | cont => exact q
theorem pss_one (h1 : PS X st t) : PSs X [st] t := by
  intro pins s σ H D I h
  refine wpAny_execs_cons (thn (h1 pins s σ H D I h) fun f s1 q => ?_)
  cases f with
  | next => exact wpAny_execs_nil q
  | ret v => exact q
  | brk => exact q
  | cont => exact q
theorem Inv.quiet {pins : List (Addr × Obj)} {σ : St} {H : Hp} {s : Shared} (I : Inv X pins σ H s) : interactive X.env = false := by simp [interactive, I.ok.kind]
def tDrop (te : TE) : TS := fun D σ H => te σ H fun _ H1 => D.nx σ H1
theorem ps_expr (he : PE X e te) (hs : swapsWith e none pos.line X.env = pure false := by rfl) : PS X (.Expr e pos) (tDrop te) := by
  intro pins s σ H D I h
  exact wpAny_Expr_any (thn (he pins s σ H _ I h) fun v s1 ⟨x, H1, I1, r1, q1⟩ => ⟨σ, H1, I1, q1⟩) I.quiet hs
def tRet (te : TE) : TS := fun D σ H => te σ H D.rt
theorem ps_ret (he : PE X e te) : PS X (.Return (some e) pos) (tRet te) := by
  intro pins s σ H D I h
  exact wpAny_Return_some (thn (he pins s σ H _ I h) fun v s1 ⟨x, H1, I1, r1, q1⟩ => ⟨x, σ, H1, I1, r1, q1⟩)
def tRetN : TS := fun D _ H => D.rt .non H
theorem ps_retN : PS X (.Return none pos) tRetN := fun _ _ σ H _ I h => wpAny_Return_none ⟨.non, σ, H, I, rfl, h⟩
def tIfS (c : TT) (t u : TS) : TS := fun D σ H => c σ H fun b H1 => if b = true then t D σ H1 else u D σ H1
theorem ps_if {c : Expr} {a b : List Stmt} {tc : TT} (hc : PT X c tc) (ha : PSs X a t) (hb : PSs X b u) : PS X (.If c a b pos) (tIfS tc t u) := by
  intro pins s σ H D I h
  refine wpAny_If (thn (hc pins s σ H _ I h) fun d s1 ⟨H1, I1, q1⟩ => ?_)
  cases d with
  | true => exact ha pins s1 σ H1 D I1 q1
  | false => exact hb pins s1 σ H1 D I1 q1
end
abbrev TG := V -> St -> Hp -> (St -> Hp -> Prop) -> Prop
abbrev TGs := List V -> St -> Hp -> (St -> Hp -> Prop) -> Prop
def PG (X : Cx) (target : Expr) (t : TG) : Prop :=
  ∀ (pins : List (Addr × Obj)) (s : Shared) (σ : St) (H : Hp) (v : V) (u : Value) (Q : St -> Hp -> Prop), Inv X pins σ H s -> RelV v u -> t v σ H Q ->
    wpAny (model X.prog X.w) X.A (assign target X.env u) (fun _ s' => ∃ σ' H', Inv X pins σ' H' s' /\ Q σ' H') X.xe s
def PGs (X : Cx) (ts : List Expr) (t : TGs) : Prop :=
  ∀ (pins : List (Addr × Obj)) (s : Shared) (σ : St) (H : Hp) (vs : List V) (us : List Value) (Q : St -> Hp -> Prop), Inv X pins σ H s -> Vals vs us -> t vs σ H Q ->
    wpAny (model X.prog X.w) X.A (assignInOrder ((assignEach ts X.env).map (·.2)) us) (fun _ s' => ∃ σ' H', Inv X pins σ' H' s' /\ Q σ' H') X.xe s
section
variable {X : Cx} {pos : Pos}
def gName (i : Nat) : TG := fun v σ H Q => Q (σ.set i (some v)) H
theorem pg_name {i : Nat} {x : Str} (hN : X.N.Nodup) (hi : X.N[i]? = some x) (hx : Loc X.env.scope x) (hf : X.fn x = true \/ X.env.scope.names.lookup x = some .local := by first | exact .inl rfl | exact .inr rfl | assumption) : PG X (.Name x pos) (gName i) := by
  intro pins s σ H v u Q I r h
  exact wpAny_assign_Name (store_ok I hN hi hx r (fun s' I' => ⟨_, H, I', h⟩) hf)
def gNil : TGs := fun vs σ H Q => vs = [] /\ Q σ H
def gCons (t : TG) (u : TGs) : TGs := fun vs σ H Q => ∃ v r, vs = v :: r /\ t v σ H fun σ' H' => u r σ' H' Q
theorem pgs_nil : PGs X [] gNil := by
  intro pins s σ H vs us Q I r h
  obtain ⟨e, h⟩ := h
  subst e
  cases r
  exact assignInOrder_nil ⟨σ, H, I, h⟩
theorem pgs_cons {e : Expr} {es : List Expr} {t : TG} {u : TGs} (h1 : PG X e t) (h2 : PGs X es u)
    (hs : (assignEach (e :: es) X.env).map (·.2) = assign e X.env :: (assignEach es X.env).map (·.2) := by rfl) : PGs X (e :: es) (gCons t u) := by
  intro pins s σ H vs us Q I r h
  obtain ⟨v, vr, e1, h⟩ := h
  subst e1
  cases r with
  | cons r rr =>
    rw [hs]
    refine assignInOrder_cons (thn (h1 pins s σ H _ _ _ I r h) fun _ s1 ⟨σ1, H1, I1, q1⟩ => ?_)
    exact h2 pins s1 σ1 H1 _ _ Q I1 rr q1
def gTup (K : PySem.W.Frag) (n : Nat) (t : TGs) : TG := fun v σ H Q => ∃ a xs, v = .ref a /\ SqT K H a xs /\ xs.length = n /\ t xs σ H Q
theorem pg_tup {es : List Expr} {k : Nat} {t : TGs} {n : Nat} (hc : X.calm = true) (h : PGs X es t)
    (hn : (assignEach es X.env).length = n := by rfl) (hst : (assignEach es X.env).findIdx? (·.1) = none := by rfl) : PG X (.Tuple es k pos) (gTup X.K n t) := by
  intro pins s σ H v u Q I r hw
  obtain ⟨a, xs, e1, hq, hl, hw⟩ := hw
  subst e1
  cases r
  obtain ⟨its, rv, ht, hz⟩ := I.tuple hq
  refine assign_Tuple_tuple (I.ok.hd hc) ht (by simp [hn, <- hl, rv.length]) hst fun h' hx => ?_
  have I1 : Inv X pins σ H { s with heap := h' } := I.kept (t' := s.toks) fun b o e => hx b o (Nat.ne_of_lt (Heap.lt_size e)) e
  exact h pins _ σ H xs _ Q I1 (by simpa using rv) hw
def tAsg (te : TE) (g : TG) : TS := fun D σ H => te σ H fun x H1 => g x σ H1 D.nx
theorem ps_asg {tg e : Expr} {te : TE} {g : TG} (he : PE X e te) (hg : PG X tg g) (hs : swapsWithSole [tg] e pos.line X.env = pure false := by rfl) (hw : swappedStores [tg] e X.env = pure none := by rfl)
    (h1 : (assignEach [tg] X.env).map (·.2) = [assign tg X.env] := by rfl) : PS X (.Assign [tg] e pos) (tAsg te g) := by
  intro pins s σ H D I h
  refine wpAny_Assign_stores (thn (he pins s σ H _ I h) fun v s1 ⟨x, H1, I1, r1, q1⟩ => ?_) hs hw
  rw [h1]
  exact thn (hg pins s1 σ H1 x v _ I1 r1 q1) fun _ s2 q => q
theorem ps_set {i : Nat} {x : Str} {e : Expr} {te : TE} {pos' : Pos} (hN : X.N.Nodup) (hi : X.N[i]? = some x) (hx : Loc X.env.scope x) (he : PE X e te) (hs : swapsWith e (some (.Name x pos')) pos.line X.env = pure false := by rfl) (hf : X.fn x = true \/ X.env.scope.names.lookup x = some .local := by first | exact .inl rfl | exact .inr rfl | assumption) :
    PS X (.Assign [.Name x pos'] e pos) (tAsg te (gName i)) := by
  intro pins s σ H D I h
  refine wpAny_Assign_Name (thn (he pins s σ H _ I h) fun v s1 ⟨y, H1, I1, r1, q1⟩ => ?_) hs
  exact store_ok I1 hN hi hx r1 (fun s2 I2 => ⟨_, H1, I2, q1⟩) hf
def tPar (i j : Nat) (ta : TA) : TS := fun D σ H => ta σ H fun vs H1 => ∃ v w, vs = [v, w] /\ D.nx ((σ.set i (some v)).set j (some w)) H1
theorem ps_par {i j : Nat} {x y : Str} {a b : Expr} {ta : TA} {px py pt : Pos} {kt k2 pt2} (hc : X.calm = true) (hN : X.N.Nodup) (hi : X.N[i]? = some x) (hj : X.N[j]? = some y) (hij : i ≠ j)
    (hx : X.env.scope.names.lookup x = some .local) (hy : X.env.scope.names.lookup y = some .local) (ha : PA X [a, b] ta)
    (hw : swappedStores [.Tuple [.Name x px, .Name y py] kt pt] (.Tuple [a, b] k2 pt2) X.env = pure (some [x, y]))
    (hs : swapsWithSole [.Tuple [.Name x px, .Name y py] kt pt] (.Tuple [a, b] k2 pt2) pos.line X.env = pure false := by rfl) :
    PS X (.Assign [.Tuple [.Name x px, .Name y py] kt pt] (.Tuple [a, b] k2 pt2) pos) (tPar i j ta) := by
  intro pins s σ H D I h
  rw [exec_Assign_arm]
  refine wpAny_bind (wpAny_standAt ?_)
  rw [hs]
  refine wpAny_bind (wpAny_pure ?_)
  rw [if_neg (by decide)]
  refine wpAny_bind (Tuple_ (thn (ha _ pins s σ H _ I h) fun us s1 ⟨vs, H1, I1, r1, q1⟩ => ?_))
  obtain ⟨v, w, e1, q1⟩ := q1
  subst e1
  obtain ⟨u1, u2, rfl, rv, rw'⟩ : ∃ u1 u2, us = [u1, u2] /\ RelV v u1 /\ RelV w u2 := by
    cases r1 with
    | cons p q =>
      cases q with
      | cons p' q' =>
        cases q'
        exact ⟨_, _, rfl, p, p'⟩
  refine wpAny_newObj_type ?_ (by show 2 <= sizeLine; decide)
  have I2 : Inv X pins σ H1 { s1 with heap := s1.heap.push { cls := .type "tuple", data := .seq [u1, u2].toArray } } := I1.kept (t' := s1.toks) fun b o e => Heap.get?_push_of_some _ e
  rw [hw]
  refine wpAny_bind (wpAny_pure ?_)
  show wpAny (model X.prog X.w) X.A (do rule "assign.swapped-stores"; let items <- unpackItems (.ref s1.heap.objs.size) 2 none; assignInOrder [fun v => bindName X.env y v, fun v => bindName X.env x v] items.reverse; pure Flow.next) _ _ _
  refine wpAny_bind (wpAny_rule (wpAny_bind (unpackItems_tuple (items := #[u1, u2]) (I.ok.hd hc) (IsTup.new s1.heap _) fun h' hx' => ?_)))
  have I3 := I2.kept (h' := h') (t' := s1.toks) fun b o e => hx' b o (Nat.ne_of_lt (Heap.lt_size e)) e
  show wpAny _ _ (assignInOrder [fun v => bindName X.env y v, fun v => bindName X.env x v] [u2, u1] >>= fun _ => pure Flow.next) _ _ _
  refine wpAny_bind (assignInOrder_cons (wpAny_bindName (store_ok I3 hN hj (.inl hy) rw' (fun s2 I4 => ?_) (.inr hy))))
  refine assignInOrder_cons (wpAny_bindName (store_ok I4 hN hi (.inl hx) rv (fun s3 I5 => assignInOrder_nil (wpAny_pure ?_)) (.inr hx)))
  rw [List.set_comm _ _ (Ne.symm hij)] at I5
  exact ⟨_, H1, I5, q1⟩
end
section
variable {X : Cx} {pos : Pos}
def tWhile (c : TT) (tb : TS) : TS := fun D σ H => ∃ W : Nat -> St -> Hp -> Prop, (∃ m, W m σ H) /\ ∀ m σ H, W m σ H ->
  c σ H fun b H1 => if b = true then ∃ N : St -> Hp -> Prop, (∀ σ' H', N σ' H' -> ∃ m', m' < m /\ W m' σ' H') /\ tb { D with nx := N, ct := N, bk := D.nx } σ H1 else D.nx σ H1
theorem ps_while {c : Expr} {body : List Stmt} {tc : TT} {tb : TS} (hp : PassesOwn (model X.prog X.w) X.A X.env X.xe) (hc : PT X c tc) (hb : PSs X body tb) : PS X (.While c body [] pos) (tWhile tc tb) := by
  intro pins s σ H D I h
  obtain ⟨W, ⟨m0, w0⟩, turn⟩ := h
  refine wpAny_While (codeAny_whileLoop (fun n s' => ∃ σ' H', Inv X pins σ' H' s' /\ W n σ' H') ?_ m0 ⟨σ, H, I, w0⟩)
  rintro n s1 ⟨σ1, H1, I1, w1⟩
  refine wpAny_passesOwn hp (thn (hc pins s1 σ1 H1 _ I1 (turn n σ1 H1 w1)) fun b s2 ⟨H2, I2, q2⟩ => ?_)
  cases b with
  | true =>
    obtain ⟨N, hN, q2⟩ := q2
    rw [if_pos rfl]
    refine wpAny_passesOwn hp (thn (hb pins s2 σ1 H2 _ I2 q2) fun f s3 q3 => ?_)
    cases f with
    | next =>
      obtain ⟨σ3, H3, I3, n3⟩ := q3
      obtain ⟨m', hm, w3⟩ := hN σ3 H3 n3
      exact ⟨m', hm, σ3, H3, I3, w3⟩
    | cont =>
      obtain ⟨σ3, H3, I3, n3⟩ := q3
      obtain ⟨m', hm, w3⟩ := hN σ3 H3 n3
      exact ⟨m', hm, σ3, H3, I3, w3⟩
    | brk => exact q3
    | ret v => exact q3
  | false =>
    rw [if_neg Bool.false_ne_true]
    exact wpAny_execs_nil ⟨σ1, H2, I2, q2⟩
end
structure It where
  go : Nat -> Hp -> Prop
  yld : Nat -> Hp -> V -> Hp -> Prop
  stop : Nat -> Hp -> Prop
def FpOk (X : Cx) (pins : List (Addr × Obj)) (H : Hp) (b : Addr) : Prop :=
  H b = none /\ b ≠ X.env.locals /\ b ∉ X.fs /\ (b ∈ X.ex \/ X.s₀.heap.objs.size <= b) /\ (∀ x c, X.env.cells.lookup x = some c -> c ≠ b) /\ ∀ p ∈ X.pn ++ pins, p.1 ≠ b
theorem Inv.fpOk {X : Cx} {pins : List (Addr × Obj)} {σ : St} {H H' : Hp} {s : Shared} {b : Addr} (I : Inv X pins σ H s) (hb : s.heap.objs.size <= b) (hn : H' b = none) : FpOk X pins H' b := by
  refine ⟨hn, Nat.ne_of_gt (Nat.lt_of_lt_of_le I.lt hb), I.nofs hb, .inr (Nat.le_trans I.sz hb), fun x c e z => ?_, fun p hp z => ?_⟩
  · obtain ⟨v, q⟩ := I.cell x c e
    exact absurd (Nat.lt_of_lt_of_le q.lt (by rw [z]; exact hb)) (Nat.lt_irrefl _)
  · exact absurd (Nat.lt_of_lt_of_le (Heap.lt_size (I.pin p hp).1) (by rw [z]; exact hb)) (Nat.lt_irrefl _)
structure Turn (P : Program) (w : World) (K : PySem.W.Frag) (tg : Expr) (J : It) (fp : List Addr) (it : Addr) (tn : Nat -> Heap -> Prop) : Prop where
  mem : it ∈ fp
  obj : ∀ i h, tn i h -> ∀ b ∈ fp, ∃ o, h.get? b = some o /\ ∀ v, o.data ≠ .cell v
  keep : ∀ i h h', tn i h -> (∀ b ∈ fp, ∀ o, h.get? b = some o -> h'.get? b = some o) -> tn i h'
  item : ∀ (X : Cx), X.prog = P -> X.w = w -> X.K = K -> X.calm = true -> ∀ (i : Nat) (pins : List (Addr × Obj)) (s : Shared) (σ : St) (H : Hp) (E : Value -> Shared -> Prop), Inv X pins σ H s -> (∀ b ∈ fp, FpOk X pins H b) -> tn i s.heap -> J.go i H ->
    wpAny (model P w) X.A (pyNext (.ref it)) (fun r s1 => ∃ u, r = some u /\
      wpAny (model P w) X.A (letOwnedTupleGo tg (.ref it) u) (fun _ s2 => ∃ x H', Inv X pins σ H' s2 /\ RelV x u /\ J.yld i H x H' /\ tn (i + 1) s2.heap /\ ∀ b ∈ fp, H' b = none) E s1) E s
  done : ∀ (X : Cx), X.prog = P -> X.w = w -> X.K = K -> X.calm = true -> ∀ (i : Nat) (pins : List (Addr × Obj)) (s : Shared) (σ : St) (H : Hp) (E : Value -> Shared -> Prop), Inv X pins σ H s -> (∀ b ∈ fp, FpOk X pins H b) -> tn i s.heap -> J.stop i H ->
    wpAny (model P w) X.A (pyNext (.ref it)) (fun r s1 => r = none /\ Inv X pins σ H s1) E s
  self : ∀ (A : Around) (i : Nat) (s : Shared) (Q : Value -> Shared -> Prop) (E : Value -> Shared -> Prop), tn i s.heap -> Q (.ref it) s -> wpAny (model P w) A (pyIter (.ref it)) Q E s
abbrev TI := St -> Hp -> (It -> Hp -> Prop) -> Prop
def PIE (X : Cx) (pins : List (Addr × Obj)) (σ : St) (tg : Expr) (R : It -> Hp -> Prop) (itv : Value) (s2 : Shared) : Prop :=
  ∃ (it : Addr) (fp : List Addr) (tn : Nat -> Heap -> Prop) (J : It) (H' : Hp), itv = .ref it /\ Inv X pins σ H' s2 /\ Turn X.prog X.w X.K tg J fp it tn /\ tn 0 s2.heap /\ (∀ b ∈ fp, FpOk X pins H' b) /\ R J H'
def PI (X : Cx) (tg iter : Expr) (wi : TI) : Prop :=
  ∀ (pins : List (Addr × Obj)) (s : Shared) (σ : St) (H : Hp) (R : It -> Hp -> Prop), Inv X pins σ H s -> wi σ H R ->
    wpAny (model X.prog X.w) X.A (eval iter X.env) (fun v s1 => wpAny (model X.prog X.w) X.A (pyIter v) (PIE X pins σ tg R) X.xe s1) X.xe s
theorem go_of {M : Model} {A : Around} {E : Value -> Shared -> Prop} {s : Shared} {tg : Expr} {it : Addr} {u : Value} {o : Obj} {n : String} {vs : Array Value} {Q : Unit -> Shared -> Prop} (ho : s.heap.get? it = some o) (hc : o.cls = .type n) (hd : o.data = .fields vs)
    (hn : ["enumerate", "zip", "dict_itemiterator", "dict_reverseitemiterator", "odict_iterator", "itertools.zip_longest", "itertools.pairwise"].contains n = false) (hQ : Q () s) : wpAny M A (letOwnedTupleGo tg (.ref it) u) Q E s := by
  unfold letOwnedTupleGo
  cases tg <;> first
    | exact wpAny_pure hQ
    | (cases u <;> first
        | exact wpAny_pure hQ
        | (refine wpAny_bind (wpAny_load ho ?_)
           rw [hc, hd]
           show wpAny M A (if (["enumerate", "zip", "dict_itemiterator", "dict_reverseitemiterator", "odict_iterator", "itertools.zip_longest", "itertools.pairwise"].contains n && vs[0]? == some (rawInt _)) = true then _ else _) Q E s
           rw [if_neg (by intro h; rw [hn, Bool.false_and] at h; cases h)]
           exact wpAny_pure hQ))
def Itl (K : PySem.W.Frag) (a : Addr) : It :=
  ⟨fun i H => ∃ xs x, SqL K H a xs /\ xs[i]? = some x, fun i H x H' => H' = H /\ ∀ xs, SqL K H a xs -> xs[i]? = some x, fun i H => ∃ xs, SqL K H a xs /\ xs.length <= i⟩
def Itt (K : PySem.W.Frag) (a : Addr) : It :=
  ⟨fun i H => ∃ xs x, SqT K H a xs /\ xs[i]? = some x, fun i H x H' => H' = H /\ ∀ xs, SqT K H a xs -> xs[i]? = some x, fun i H => ∃ xs, SqT K H a xs /\ xs.length <= i⟩
def Itr (lo : Int) (n : Nat) : It := ⟨fun i _ => i < n, fun i H x H' => H' = H /\ x = .int (lo + i), fun i _ => n <= i⟩
theorem turn_list {P : Program} {w : World} {K : PySem.W.Frag} {tg : Expr} (a it : Addr) : Turn P w K tg (Itl K a) [it] it (fun i h => h.IsListIter it a i) where
  mem := by simp
  obj := fun i h st b hb => by
    have e : b = it := by simpa using hb
    subst e
    obtain ⟨o, e, c, d⟩ := st
    exact ⟨o, e, fun v z => by rw [d] at z; cases z⟩
  keep := fun i h h' st k => st.at fun o e => k it (by simp) o e
  item := by
    intro X hP hw hK hc i pins s σ H E I hf st hg
    subst hP hw hK
    obtain ⟨xs, x, hq, hx⟩ := hg
    obtain ⟨its, rv, p, hz⟩ := I.list hq
    obtain ⟨u, hu, ru⟩ := rv.get hx
    obtain ⟨f0, f1, f2, f3, f4, f5⟩ := hf it (by simp)
    refine wpAny_pyNext_list_item st p.isList (x := u) (by simpa using hu) fun h' st' sb => ?_
    have I1 : Inv X pins σ H { s with heap := h' } := I.turned (t' := s.toks) (fun b o hb e => (sb.2 b hb).trans e) f0 f1 f3 f4 f5
    obtain ⟨o, e, c, d⟩ := id st'
    exact ⟨u, rfl, go_of (s := { s with heap := h' }) e c d (by decide) ⟨x, H, I1, ru, ⟨rfl, fun ys hy => by rw [I.list_inj hy hq]; exact hx⟩, st', fun b hb => (hf b hb).1⟩⟩
  done := by
    intro X hP hw hK hc i pins s σ H E I hf st hg
    subst hP hw hK
    obtain ⟨xs, hq, hx⟩ := hg
    obtain ⟨its, rv, p, hz⟩ := I.list hq
    obtain ⟨f0, f1, f2, f3, f4, f5⟩ := hf it (by simp)
    have hl := rv.length
    exact wpAny_pyNext_list_end (I.ok.hd hc) st p.isList (by simp; omega) fun h' eb => ⟨rfl, I.turned (t' := s.toks) (fun b o hb e => eb b o hb e) f0 f1 f3 f4 f5⟩
  self := fun _ _ _ _ _ st h => wpAny_pyIter_listiter st h
theorem turn_tuple {P : Program} {w : World} {K : PySem.W.Frag} {tg : Expr} (a it : Addr) : Turn P w K tg (Itt K a) [it] it (fun i h => h.IsTupleIter it a i) where
  mem := by simp
  obj := fun i h st b hb => by
    have e : b = it := by simpa using hb
    subst e
    obtain ⟨o, e, c, d⟩ := st
    exact ⟨o, e, fun v z => by rw [d] at z; cases z⟩
  keep := fun i h h' st k => st.at fun o e => k it (by simp) o e
  item := by
    intro X hP hw hK hc i pins s σ H E I hf st hg
    subst hP hw hK
    obtain ⟨xs, x, hq, hx⟩ := hg
    obtain ⟨its, rv, p, hz⟩ := I.tuple hq
    obtain ⟨u, hu, ru⟩ := rv.get hx
    obtain ⟨f0, f1, f2, f3, f4, f5⟩ := hf it (by simp)
    refine wpAny_pyNext_tuple_item st (show s.heap.IsTuple a its.toArray from p) (x := u) (by simpa using hu) fun h' st' sb => ?_
    have I1 : Inv X pins σ H { s with heap := h' } := I.turned (t' := s.toks) (fun b o hb e => (sb.2 b hb).trans e) f0 f1 f3 f4 f5
    obtain ⟨o, e, c, d⟩ := id st'
    exact ⟨u, rfl, go_of (s := { s with heap := h' }) e c d (by decide) ⟨x, H, I1, ru, ⟨rfl, fun ys hy => by rw [I.tuple_inj hy hq]; exact hx⟩, st', fun b hb => (hf b hb).1⟩⟩
  done := by
    intro X hP hw hK hc i pins s σ H E I hf st hg
    subst hP hw hK
    obtain ⟨xs, hq, hx⟩ := hg
    obtain ⟨its, rv, p, hz⟩ := I.tuple hq
    obtain ⟨f0, f1, f2, f3, f4, f5⟩ := hf it (by simp)
    have hl := rv.length
    exact wpAny_pyNext_tuple_end (I.ok.hd hc) st (show s.heap.IsTuple a its.toArray from p) (by simp; omega) fun h' eb => ⟨rfl, I.turned (t' := s.toks) (fun b o hb e => eb b o hb e) f0 f1 f3 f4 f5⟩
  self := fun _ _ _ _ _ st h => wpAny_pyIter_tupleiter st h
theorem turn_range {P : Program} {w : World} {K : PySem.W.Frag} {tg : Expr} (it : Addr) (lo : Int) (n : Nat) : Turn P w K tg (Itr lo n) [it] it (fun i h => IsRangeIter h it (lo + (i : Nat) * 1) ((n : Int) - (i : Nat)) 1) where
  mem := by simp
  obj := fun i h st b hb => by
    have e : b = it := by simpa using hb
    subst e
    exact ⟨_, st, fun v z => by
      have z' : Data.fields _ = Data.cell v := z
      cases z'⟩
  keep := fun i h h' st k => k it (by simp) _ st
  item := by
    intro X hP hw hK hc i pins s σ H E I hf st hg
    subst hP hw hK
    obtain ⟨f0, f1, f2, f3, f4, f5⟩ := hf it (by simp)
    have W := Walks.range (prog := X.prog) (w := X.w) (I.ok.hd hc) it lo 1 n
    refine W.item i s _ _ hg st fun v h' tk hv st' kk => ?_
    obtain ⟨t, rfl⟩ := hv
    have I1 : Inv X pins σ H { s with heap := h', toks := tk } := I.turned (fun b o hb e => kk b o (by simpa using hb) e) f0 f1 f3 f4 f5
    refine ⟨_, rfl, go_of (s := { s with heap := h', toks := tk }) (n := "range_iterator") st' rfl rfl (by decide) ⟨.int (lo + i), H, I1, ⟨t, ?_⟩, ⟨rfl, rfl⟩, st', fun b hb => (hf b hb).1⟩⟩
    rw [Int.mul_one]
  done := by
    intro X hP hw hK hc i pins s σ H E I hf st hg
    subst hP hw hK
    obtain ⟨f0, f1, f2, f3, f4, f5⟩ := hf it (by simp)
    exact wpAny_pyNext_range_end (I.ok.hd hc) st (by have : n <= i := hg; omega) fun h' eb => ⟨rfl, I.turned (t' := s.toks) (fun b o hb e => eb b o hb e) f0 f1 f3 f4 f5⟩
  self := fun _ _ _ _ _ st h => wpAny_pyIter_rangeiter st h
end L2
namespace L2
open PySem PySem.Spec PyProof.Rows
section
variable {X : Cx} {tg : Expr}
def iList (K : PySem.W.Frag) (tl : TE) : TI := fun σ H R => tl σ H fun x H1 => ∃ a, x = .ref a /\ (∃ xs, SqL K H1 a xs) /\ R (Itl K a) H1
def iTup (K : PySem.W.Frag) (tl : TE) : TI := fun σ H R => tl σ H fun x H1 => ∃ a, x = .ref a /\ (∃ xs, SqT K H1 a xs) /\ R (Itt K a) H1
theorem pi_list {l : Expr} {tl : TE} (hl : PE X l tl) : PI X tg l (iList X.K tl) := by
  intro pins s σ H R I h
  refine thn (hl pins s σ H _ I h) fun v s1 ⟨x, H1, I1, r1, q1⟩ => ?_
  obtain ⟨a, e, ⟨xs, hq⟩, q⟩ := q1
  subst e
  cases r1
  obtain ⟨its, rv, p, hz⟩ := I1.list hq
  refine wpAny_pyIter_list p.isList ?_
  refine ⟨s1.heap.objs.size, [s1.heap.objs.size], _, _, H1, rfl, I1.kept (t' := s1.toks) fun b o e => Heap.get?_push_of_some _ e, turn_list a _, ⟨_, Heap.get?_push_size _ rfl, rfl, rfl⟩, fun b hb => ?_, q⟩
  have e : b = s1.heap.objs.size := by simpa using hb
  subst e
  exact I1.fpOk (Nat.le_refl _) (I1.hok.fresh (Nat.le_refl _))
theorem pi_tup {l : Expr} {tl : TE} (hl : PE X l tl) : PI X tg l (iTup X.K tl) := by
  intro pins s σ H R I h
  refine thn (hl pins s σ H _ I h) fun v s1 ⟨x, H1, I1, r1, q1⟩ => ?_
  obtain ⟨a, e, ⟨xs, hq⟩, q⟩ := q1
  subst e
  cases r1
  obtain ⟨its, rv, p, hz⟩ := I1.tuple hq
  refine wpAny_pyIter_tuple (show s1.heap.IsTuple a its.toArray from p) ?_
  refine ⟨s1.heap.objs.size, [s1.heap.objs.size], _, _, H1, rfl, I1.kept (t' := s1.toks) fun b o e => Heap.get?_push_of_some _ e, turn_tuple a _, ⟨_, Heap.get?_push_size _ rfl, rfl, rfl⟩, fun b hb => ?_, q⟩
  have e : b = s1.heap.objs.size := by simpa using hb
  subst e
  exact I1.fpOk (Nat.le_refl _) (I1.hok.fresh (Nat.le_refl _))
theorem range_it {pins : List (Addr × Obj)} {σ : St} {H : Hp} {s : Shared} {R : It -> Hp -> Prop} {E : Value -> Shared -> Prop} {lo hi : Int} {t u v : Tok} {tk : Nat} (I : Inv X pins σ H s) (h1 : -(2 ^ 62) <= lo) (h2 : lo < 2 ^ 62) (h3 : -(2 ^ 62) <= hi) (h4 : hi < 2 ^ 62)
    (q : R (Itr lo (hi - lo).toNat) H) : wpAny (model X.prog X.w) X.A (pyIter (.ref s.heap.objs.size)) (PIE X pins σ tg R) E { s with heap := s.heap.push { cls := .type "range", data := .fields #[.int lo t, .int hi u, .int 1 v] }, toks := tk } := by
  refine wpAny_pyIter_range (IsRange.new ..) (small_one h1 h2 h3 h4) ?_
  have I1 : Inv X pins σ H { s with heap := s.heap.push { cls := .type "range", data := .fields #[.int lo t, .int hi u, .int 1 v] }, toks := tk } := I.kept fun b o e => Heap.get?_push_of_some _ e
  refine ⟨(s.heap.push { cls := .type "range", data := .fields #[.int lo t, .int hi u, .int 1 v] }).objs.size, [(s.heap.push { cls := .type "range", data := .fields #[.int lo t, .int hi u, .int 1 v] }).objs.size], _, _, H, rfl,
    I1.kept (t' := tk) fun b o e => Heap.get?_push_of_some _ e, turn_range _ lo (hi - lo).toNat, ?_, fun b hb => ?_, q⟩
  · have e1 : lo + ((0 : Nat) : Int) * 1 = lo := by simp
    have e2 : (((hi - lo).toNat : Nat) : Int) - ((0 : Nat) : Int) = Builtin.Range.rangeSize lo hi 1 := by rw [rangeSize_one]; split <;> omega
    show IsRangeIter _ _ (lo + ((0 : Nat) : Int) * 1) ((((hi - lo).toNat : Nat) : Int) - ((0 : Nat) : Int)) 1
    rw [e1, e2]
    exact Heap.get?_push_size _ rfl
  · have e : b = (s.heap.push { cls := .type "range", data := .fields #[.int lo t, .int hi u, .int 1 v] }).objs.size := by simpa using hb
    subst e
    exact I1.fpOk (Nat.le_refl _) (I1.hok.fresh (Nat.le_refl _))
def iRng1 (ta : TA) : TI := fun σ H R => ta σ H fun vs H1 => ∃ j : Int, vs = [.int j] /\ -(2 ^ 62) <= j /\ j < 2 ^ 62 /\ R (Itr 0 j.toNat) H1
theorem pi_range1 {a : Expr} {ta : TA} {p pos : Pos} (hg : Gl X "range") (hm : X.mg "range" = none) (ha : PA X [a] ta) (hs : starEach [a] X.env = [(false, eval a X.env)] := by rfl) : PI X tg (.Call (.Name "range" p) [a] [] pos) (iRng1 ta) := by
  intro pins s σ H R I h
  refine Call_ (ld_blt I hg hm boot_range (PyProof.Rows.callWith_type1 (thn (ha pos pins s σ H _ I h) fun us s1 ⟨vs, H1, I1, r1, q1⟩ => ?_) hs rfl))
  obtain ⟨j, e, q1, q2, q⟩ := q1
  subst e
  cases r1 with
  | cons r rr =>
    cases rr
    obtain ⟨t, rfl⟩ := r
    exact call_range_1 (range_it I1 (by omega) (by omega) q1 q2 (by simpa using q))
def tFor (wi : TI) (g : TG) (tb : TS) : TS := fun D σ H => wi σ H fun J H1 => ∃ W : Nat -> Nat -> St -> Hp -> Prop, (∃ m, W 0 m σ H1) /\ ∀ i m σ H, W i m σ H ->
  (J.stop i H /\ D.nx σ H) \/ (J.go i H /\ ∃ N : St -> Hp -> Prop, (∀ σ' H', N σ' H' -> ∃ m', m' < m /\ W (i + 1) m' σ' H') /\ ∀ x H', J.yld i H x H' -> g x σ H' fun σ2 H2 => tb { D with nx := N, ct := N, bk := D.nx } σ2 H2)
def pinsAt (fp : List Addr) (h : Heap) : List (Addr × Obj) := fp.filterMap fun b => (h.get? b).map fun o => (b, o)
theorem mem_pinsAt {fp : List Addr} {h : Heap} {b : Addr} {o : Obj} (hb : b ∈ fp) (e : h.get? b = some o) : (b, o) ∈ pinsAt fp h := List.mem_filterMap.mpr ⟨b, hb, by rw [e]; rfl⟩
theorem of_pinsAt {fp : List Addr} {h : Heap} {p : Addr × Obj} (hp : p ∈ pinsAt fp h) : p.1 ∈ fp /\ h.get? p.1 = some p.2 := by
  obtain ⟨b, hb, e⟩ := List.mem_filterMap.mp hp
  cases q : h.get? b with
  | none => rw [q] at e; cases e
  | some o =>
    rw [q] at e
    have e' : (b, o) = p := Option.some.inj e
    subst e'
    exact ⟨hb, q⟩
theorem Inv.pinned {pins : List (Addr × Obj)} {σ : St} {H : Hp} {s : Shared} {fp : List Addr} (I : Inv X pins σ H s) (hf : ∀ b ∈ fp, FpOk X pins H b) (ho : ∀ b ∈ fp, ∃ o, s.heap.get? b = some o /\ ∀ v, o.data ≠ .cell v) : Inv X (pins ++ pinsAt fp s.heap) σ H s :=
  I.pins_of fun p hp => (List.mem_append.mp hp).elim (fun z => I.pin p (List.mem_append_right _ z)) fun z => by
    obtain ⟨hb, e⟩ := of_pinsAt z
    obtain ⟨f0, f1, f2, _⟩ := hf p.1 hb
    obtain ⟨o, e', d⟩ := ho p.1 hb
    rw [e] at e'; cases e'
    exact ⟨e, f0, f1, f2, d⟩
theorem Inv.unpinned {pins pl : List (Addr × Obj)} {σ : St} {H : Hp} {s : Shared} (I : Inv X (pins ++ pl) σ H s) : Inv X pins σ H s := I.pins_of fun p hp => I.pin p (List.mem_append_right _ (List.mem_append_left _ hp))
theorem ps_for {iter : Expr} {body : List Stmt} {wi : TI} {g : TG} {tb : TS} {pos : Pos} (hp : PassesOwn (model X.prog X.w) X.A X.env X.xe) (hc : X.calm = true) (hi : PI X tg iter wi) (hg : PG X tg g) (hb : PSs X body tb)
    (hs : ∀ x, foldedSetIterable iter X.env x = pure x := by intro _; rfl) : PS X (.For tg iter body [] pos) (tFor wi g tb) := by
  intro pins s σ H D I h
  refine wpAny_For (thn (hi pins s σ H _ I h) fun v s1 h1 => thn h1 fun itv s2 h2 => ?_) hs
  obtain ⟨it, fp, tn, J, H2, e, I2, T, st2, f2, W, ⟨m0, w0⟩, turn⟩ := h2
  subst e
  -- what stays true of the iterator's objects through the loop
  have stat : ∀ {H' : Hp}, (∀ b ∈ fp, H' b = none) -> ∀ b ∈ fp, FpOk X pins H' b := fun hn b hb => ⟨hn b hb, (f2 b hb).2⟩
  refine codeAny_forLoop_any (fun n s' => ∃ i σ' H', Inv X pins σ' H' s' /\ tn i s'.heap /\ (∀ b ∈ fp, H' b = none) /\ W i n σ' H') ?_ m0 ⟨0, σ, H2, I2, st2, fun b hb => (f2 b hb).1, w0⟩
  rintro n s3 ⟨i, σ3, H3, I3, st3, fr3, w3⟩
  rcases turn i n σ3 H3 w3 with ⟨stop, qn⟩ | ⟨go, N, hN, step⟩
  · refine wpAny_passesOwn hp (thn (T.done X rfl rfl rfl hc i pins s3 σ3 H3 X.xe I3 (stat fr3) st3 stop) fun r s4 ⟨hr, I4⟩ => ?_)
    subst hr
    exact wpAny_execs_nil ⟨σ3, H3, I4, qn⟩
  · refine wpAny_passesOwn hp (thn (T.item X rfl rfl rfl hc i pins s3 σ3 H3 X.xe I3 (stat fr3) st3 go) fun r s4 ⟨u, hr, h4⟩ => ?_)
    subst hr
    refine wpAny_passesOwn hp (thn h4 fun _ s5 ⟨x, H5, I5, r5, y5, st5, fr5⟩ => ?_)
    have I5' := I5.pinned (stat fr5) (T.obj _ _ st5)
    refine wpAny_passesOwn hp (thn (hg _ s5 σ3 H5 x u _ I5' r5 (step x H5 y5)) fun _ s6 ⟨σ6, H6, I6, q6⟩ => ?_)
    refine wpAny_passesOwn hp (thn (hb _ s6 σ6 H6 _ I6 q6) fun f s7 q7 => ?_)
    have again : ∀ {σ7 : St} {H7 : Hp}, Inv X (pins ++ pinsAt fp s5.heap) σ7 H7 s7 -> N σ7 H7 -> ∃ m, m < n /\ ∃ i σ' H', Inv X pins σ' H' s7 /\ tn i s7.heap /\ (∀ b ∈ fp, H' b = none) /\ W i m σ' H' := fun {σ7 H7} I7 n7 => by
      obtain ⟨m', hm, w7⟩ := hN σ7 H7 n7
      refine ⟨m', hm, i + 1, σ7, H7, I7.unpinned, T.keep _ _ _ st5 fun b hb o e => (I7.pin (b, o) (List.mem_append_right _ (List.mem_append_right _ (mem_pinsAt hb e)))).1, fun b hb => ?_, w7⟩
      obtain ⟨o, e, d⟩ := T.obj _ _ st5 b hb
      exact (I7.pin (b, o) (List.mem_append_right _ (List.mem_append_right _ (mem_pinsAt hb e)))).2.1
    cases f with
    | next => obtain ⟨σ7, H7, I7, n7⟩ := q7; exact again I7 n7
    | cont => obtain ⟨σ7, H7, I7, n7⟩ := q7; exact again I7 n7
    | brk => obtain ⟨σ7, H7, I7, q7⟩ := q7; exact ⟨σ7, H7, I7.unpinned, q7⟩
    | ret v => obtain ⟨x7, σ7, H7, I7, r7, q7⟩ := q7; exact ⟨x7, σ7, H7, I7.unpinned, r7, q7⟩
end
theorem for_list {K : PySem.W.Frag} {a : Addr} {xs : List V} {g : TG} {tb : TS} {D : Ends} {σ : St} {H : Hp} (Pv : Nat -> St -> Hp -> Prop) (h0 : Pv 0 σ H) (hl : ∀ i σ H, i <= xs.length -> Pv i σ H -> SqL K H a xs)
    (hs : ∀ i x σ H, xs[i]? = some x -> Pv i σ H -> g x σ H fun σ2 H2 => tb { D with nx := Pv (i + 1), ct := Pv (i + 1), bk := D.nx } σ2 H2) (hd : ∀ σ H, Pv xs.length σ H -> D.nx σ H) :
    ∃ W : Nat -> Nat -> St -> Hp -> Prop, (∃ m, W 0 m σ H) /\ ∀ i m σ H, W i m σ H ->
      ((Itl K a).stop i H /\ D.nx σ H) \/ ((Itl K a).go i H /\ ∃ N : St -> Hp -> Prop, (∀ σ' H', N σ' H' -> ∃ m', m' < m /\ W (i + 1) m' σ' H') /\ ∀ x H', (Itl K a).yld i H x H' -> g x σ H' fun σ2 H2 => tb { D with nx := N, ct := N, bk := D.nx } σ2 H2) := by
  refine ⟨fun i m σ H => m = xs.length - i /\ i <= xs.length /\ Pv i σ H, ⟨xs.length, by simp, Nat.zero_le _, h0⟩, ?_⟩
  rintro i m σ H ⟨rfl, hi, p⟩
  have q := hl i σ H hi p
  by_cases hlt : i < xs.length
  · refine .inr ⟨⟨xs, xs[i], q, by simp [hlt]⟩, Pv (i + 1), fun σ' H' p' => ⟨xs.length - (i + 1), by omega, rfl, hlt, p'⟩, fun x H' y => ?_⟩
    obtain ⟨e, y⟩ := y
    subst e
    exact hs i x σ _ (y xs q) p
  · have e : i = xs.length := by omega
    subst e
    exact .inl ⟨⟨xs, q, Nat.le_refl _⟩, hd σ H p⟩
theorem for_tup {K : PySem.W.Frag} {a : Addr} {xs : List V} {g : TG} {tb : TS} {D : Ends} {σ : St} {H : Hp} (Pv : Nat -> St -> Hp -> Prop) (h0 : Pv 0 σ H) (hl : ∀ i σ H, i <= xs.length -> Pv i σ H -> SqT K H a xs)
    (hs : ∀ i x σ H, xs[i]? = some x -> Pv i σ H -> g x σ H fun σ2 H2 => tb { D with nx := Pv (i + 1), ct := Pv (i + 1), bk := D.nx } σ2 H2) (hd : ∀ σ H, Pv xs.length σ H -> D.nx σ H) :
    ∃ W : Nat -> Nat -> St -> Hp -> Prop, (∃ m, W 0 m σ H) /\ ∀ i m σ H, W i m σ H ->
      ((Itt K a).stop i H /\ D.nx σ H) \/ ((Itt K a).go i H /\ ∃ N : St -> Hp -> Prop, (∀ σ' H', N σ' H' -> ∃ m', m' < m /\ W (i + 1) m' σ' H') /\ ∀ x H', (Itt K a).yld i H x H' -> g x σ H' fun σ2 H2 => tb { D with nx := N, ct := N, bk := D.nx } σ2 H2) := by
  refine ⟨fun i m σ H => m = xs.length - i /\ i <= xs.length /\ Pv i σ H, ⟨xs.length, by simp, Nat.zero_le _, h0⟩, ?_⟩
  rintro i m σ H ⟨rfl, hi, p⟩
  have q := hl i σ H hi p
  by_cases hlt : i < xs.length
  · refine .inr ⟨⟨xs, xs[i], q, by simp [hlt]⟩, Pv (i + 1), fun σ' H' p' => ⟨xs.length - (i + 1), by omega, rfl, hlt, p'⟩, fun x H' y => ?_⟩
    obtain ⟨e, y⟩ := y
    subst e
    exact hs i x σ _ (y xs q) p
  · have e : i = xs.length := by omega
    subst e
    exact .inl ⟨⟨xs, q, Nat.le_refl _⟩, hd σ H p⟩
theorem for_range {lo : Int} {n : Nat} {g : TG} {tb : TS} {D : Ends} {σ : St} {H : Hp} (Pv : Nat -> St -> Hp -> Prop) (h0 : Pv 0 σ H)
    (hs : ∀ i σ H, i < n -> Pv i σ H -> g (.int (lo + i)) σ H fun σ2 H2 => tb { D with nx := Pv (i + 1), ct := Pv (i + 1), bk := D.nx } σ2 H2) (hd : ∀ σ H, Pv n σ H -> D.nx σ H) :
    ∃ W : Nat -> Nat -> St -> Hp -> Prop, (∃ m, W 0 m σ H) /\ ∀ i m σ H, W i m σ H ->
      ((Itr lo n).stop i H /\ D.nx σ H) \/ ((Itr lo n).go i H /\ ∃ N : St -> Hp -> Prop, (∀ σ' H', N σ' H' -> ∃ m', m' < m /\ W (i + 1) m' σ' H') /\ ∀ x H', (Itr lo n).yld i H x H' -> g x σ H' fun σ2 H2 => tb { D with nx := N, ct := N, bk := D.nx } σ2 H2) := by
  refine ⟨fun i m σ H => m = n - i /\ i <= n /\ Pv i σ H, ⟨n, by simp, Nat.zero_le _, h0⟩, ?_⟩
  rintro i m σ H ⟨rfl, hi, p⟩
  by_cases hlt : i < n
  · refine .inr ⟨hlt, Pv (i + 1), fun σ' H' p' => ⟨n - (i + 1), by omega, rfl, hlt, p'⟩, fun x H' y => ?_⟩
    obtain ⟨e, y⟩ := y
    subst e y
    exact hs i σ _ hlt p
  · have e : i = n := by omega
    subst e
    exact .inl ⟨Nat.le_refl _, hd σ H p⟩
end L2
namespace L2
open PySem PySem.Spec PyProof.Rows
abbrev R2 := V -> V -> Hp -> VK -> Prop
def OpR (X : Cx) (f : Value -> Value -> Sem Value) (r : R2) : Prop :=
  ∀ (pins : List (Addr × Obj)) (s : Shared) (σ : St) (H : Hp) (x y : V) (v u : Value) (Q : VK), Inv X pins σ H s -> RelV x v -> RelV y u -> r x y H Q ->
    wpAny (model X.prog X.w) X.A (f v u) (EP X pins σ Q) X.xe s
def UnR (X : Cx) (f : Value -> Sem Value) (r : V -> Hp -> VK -> Prop) : Prop :=
  ∀ (pins : List (Addr × Obj)) (s : Shared) (σ : St) (H : Hp) (x : V) (v : Value) (Q : VK), Inv X pins σ H s -> RelV x v -> r x H Q ->
    wpAny (model X.prog X.w) X.A (f v) (EP X pins σ Q) X.xe s
def CallR (X : Cx) (f : Value) (r : List V -> Hp -> VK -> Prop) : Prop :=
  ∀ (pins : List (Addr × Obj)) (s : Shared) (σ : St) (H : Hp) (xs : List V) (us : List Value) (Q : VK), Inv X pins σ H s -> Vals xs us -> r xs H Q ->
    wpAny (model X.prog X.w) X.A (call f us) (EP X pins σ Q) X.xe s
def tOp (r : R2) (ta tb : TE) : TE := fun σ H Q => ta σ H fun x H1 => tb σ H1 fun y H2 => r x y H2 Q
def tUn (r : V -> Hp -> VK -> Prop) (ta : TE) : TE := fun σ H Q => ta σ H fun x H1 => r x H1 Q
def rI (C : Int -> Int -> Prop) (g : Int -> Int -> V) : R2 := fun x y H Q => ∃ i j, x = .int i /\ y = .int j /\ C i j /\ Q (g i j) H
def rI0 (g : Int -> Int -> V) : R2 := fun x y H Q => ∃ i j, x = .int i /\ y = .int j /\ Q (g i j) H
def rU (g : Int -> V) : V -> Hp -> VK -> Prop := fun x H Q => ∃ i, x = .int i /\ Q (g i) H
section
variable {X : Cx} {a b c : Expr} {ta tb tc : TE} {pos : Pos}
theorem binT (ha : PE X a ta) (hb : PE X b tb) {pins : List (Addr × Obj)} {s : Shared} {σ : St} {H : Hp} {R : V -> V -> Hp -> Prop} (I : Inv X pins σ H s)
    (h : ta σ H fun x H1 => tb σ H1 fun y H2 => R x y H2) {Q : Value -> Shared -> Prop} {f : Value -> Value -> Sem Value}
    (hf : ∀ v u s2 x y H2, Inv X pins σ H2 s2 -> RelV x v -> RelV y u -> R x y H2 -> wpAny (model X.prog X.w) X.A (f v u) Q X.xe s2) :
    wpAny (model X.prog X.w) X.A (eval a X.env) (fun v s₁ => wpAny (model X.prog X.w) X.A (eval b X.env) (fun u s₂ => wpAny (model X.prog X.w) X.A (f v u) Q X.xe s₂) X.xe s₁) X.xe s := by
  refine thn (ha pins s σ H _ I h) fun v s1 ⟨x, H1, I1, r1, q1⟩ => ?_
  refine thn (hb pins s1 σ H1 _ I1 q1) fun u s2 ⟨y, H2, I2, r2, q2⟩ => ?_
  exact hf v u s2 x y H2 I2 r1 r2 q2
theorem pe_op {op : Operator} {r : R2} (ho : OpR X (binaryOp op) r) (ha : PE X a ta) (hb : PE X b tb) : PE X (.BinOp a op b pos) (tOp r ta tb) := by
  intro pins s σ H Q I h
  exact wpAny_BinOp (binT ha hb I h fun v u s2 x y H2 I2 rx ry q => ho pins s2 σ H2 x y v u Q I2 rx ry q)
theorem pe_un {op : UnaryOp} {r : V -> Hp -> VK -> Prop} (ho : UnR X (unaryOp op) r) (ha : PE X a ta) : PE X (.UnaryOp op a pos) (tUn r ta) := by
  intro pins s σ H Q I h
  exact UnaryOp_ (thn (ha pins s σ H _ I h) fun v s1 ⟨x, H1, I1, r1, q1⟩ => ho pins s1 σ H1 x v Q I1 r1 q1)
theorem opI {f : Value -> Value -> Sem Value} {C : Int -> Int -> Prop} {g : Int -> Int -> Int}
    (rule : ∀ (i j : Int) (t u : Tok) (s : Shared) (Q : Value -> Shared -> Prop) (E : Value -> Shared -> Prop), C i j -> Q (.int (g i j) s.toks) { s with toks := s.toks + 1 } -> wpAny (model X.prog X.w) X.A (f (.int i t) (.int j u)) Q E s) :
    OpR X f (rI C fun i j => .int (g i j)) := by
  intro pins s σ H x y v u Q I rx ry h
  obtain ⟨i, j, rfl, rfl, hc, q⟩ := h
  obtain ⟨t, rfl⟩ := rx
  obtain ⟨t', rfl⟩ := ry
  exact rule i j t t' s _ _ hc ⟨.int (g i j), H, I.tok _, ⟨_, rfl⟩, q⟩
theorem opI0 {f : Value -> Value -> Sem Value} {g : Int -> Int -> Int}
    (rule : ∀ (i j : Int) (t u : Tok) (s : Shared) (Q : Value -> Shared -> Prop) (E : Value -> Shared -> Prop), Q (.int (g i j) s.toks) { s with toks := s.toks + 1 } -> wpAny (model X.prog X.w) X.A (f (.int i t) (.int j u)) Q E s) :
    OpR X f (rI0 fun i j => .int (g i j)) := by
  intro pins s σ H x y v u Q I rx ry h
  obtain ⟨i, j, rfl, rfl, q⟩ := h
  obtain ⟨t, rfl⟩ := rx
  obtain ⟨t', rfl⟩ := ry
  exact rule i j t t' s _ _ ⟨.int (g i j), H, I.tok _, ⟨_, rfl⟩, q⟩
theorem opB0 {f : Value -> Value -> Sem Value} {g : Int -> Int -> Bool}
    (rule : ∀ (i j : Int) (t u : Tok) (s : Shared) (Q : Value -> Shared -> Prop) (E : Value -> Shared -> Prop), Q (.bool (g i j)) s -> wpAny (model X.prog X.w) X.A (f (.int i t) (.int j u)) Q E s) :
    OpR X f (rI0 fun i j => .bl (g i j)) := by
  intro pins s σ H x y v u Q I rx ry h
  obtain ⟨i, j, rfl, rfl, q⟩ := h
  obtain ⟨t, rfl⟩ := rx
  obtain ⟨t', rfl⟩ := ry
  exact rule i j t t' s _ _ ⟨.bl (g i j), H, I, rfl, q⟩
def CDiv (i j : Int) : Prop := 0 < j /\ j < 1073741824
def CPow (i j : Int) : Prop := 0 <= j /\ j <= 1000000 /\ i.natAbs < 2 ^ 64
def CMul (i j : Int) : Prop := (-(2 ^ 64) < i /\ i < 2 ^ 64) \/ (-(2 ^ 64) < j /\ j < 2 ^ 64)
theorem CMul.ok {i j : Int} (h : CMul i j) : IntMulOk i j := by
  rcases h with ⟨h1, h2⟩ | ⟨h1, h2⟩
  · exact .of_left (intBits_le_64 h1 h2)
  · exact .of_right (intBits_le_64 h1 h2)
theorem op_add : OpR X (binaryOp .Add) (rI0 fun i j => .int (i + j)) := opI0 fun _ _ _ _ _ _ _ q => add_int q
theorem op_sub : OpR X (binaryOp .Sub) (rI0 fun i j => .int (i - j)) := opI0 fun _ _ _ _ _ _ _ q => sub_int q
theorem op_mul : OpR X (binaryOp .Mult) (rI CMul fun i j => .int (i * j)) := opI fun _ _ _ _ _ _ _ hc q => mul_int q hc.ok
theorem op_fdiv : OpR X (binaryOp .FloorDiv) (rI CDiv fun i j => .int (i / j)) := opI fun i j _ _ _ _ _ hc q => by
  have h1 : (0 : Int) < j := hc.1
  have h2 : j < 1073741824 := hc.2
  exact floordiv_int (by omega) (by rw [Int.fdiv_eq_ediv_of_nonneg i (by omega)]; exact q) (.inl (PyProof.noPylong_small (by omega)))
theorem op_mod : OpR X (binaryOp .Mod) (rI (fun _ j => 0 < j) fun i j => .int (i % j)) := opI fun i j _ _ _ _ _ hc q => by
  have h1 : (0 : Int) < j := hc
  exact mod_int' (by omega) (by rw [Int.fmod_eq_emod_of_nonneg i (by omega)]; exact q)
theorem op_pow : OpR X (binaryOp .Pow) (rI CPow fun i j => .int (i ^ j.toNat)) := opI fun _ _ _ _ _ _ _ hc q => pow_int_small hc.1 hc.2.1 hc.2.2 q
theorem unI {f : Value -> Sem Value} {g : Int -> Int}
    (rule : ∀ (i : Int) (t : Tok) (s : Shared) (Q : Value -> Shared -> Prop) (E : Value -> Shared -> Prop), Q (.int (g i) s.toks) { s with toks := s.toks + 1 } -> wpAny (model X.prog X.w) X.A (f (.int i t)) Q E s) :
    UnR X f (rU fun i => .int (g i)) := by
  intro pins s σ H x v Q I rx h
  obtain ⟨i, rfl, q⟩ := h
  obtain ⟨t, rfl⟩ := rx
  exact rule i t s _ _ ⟨.int (g i), H, I.tok _, ⟨_, rfl⟩, q⟩
theorem un_neg : UnR X (unaryOp .USub) (rU fun i => .int (-i)) := unI fun _ _ _ _ _ q => neg_int q
end
def scal : V -> V -> Bool
  | .non, .non => true | .non, .int _ => true | .int _, .non => true | .non, .bl _ => true | .bl _, .non => true | .non, .str _ => true | .str _, .non => true
  | .int _, .int _ => true | .bl _, .bl _ => true | .str _, .str _ => true | .byt _, .byt _ => true
  | .int _, .str _ => true | .str _, .int _ => true | .bl _, .str _ => true | .str _, .bl _ => true
  | _, _ => false
def rEq : R2 := fun x y H Q => scal x y = true /\ Q (.bl (decide (x = y))) H
def rNe : R2 := fun x y H Q => scal x y = true /\ Q (.bl (!decide (x = y))) H
theorem dec_int {i j : Int} : decide (V.int i = V.int j) = (i == j) := by
  rw [Bool.eq_iff_iff]
  simp
theorem dec_bl {i j : Bool} : decide (V.bl i = V.bl j) = (i == j) := by
  rw [Bool.eq_iff_iff]
  simp
theorem dec_str {i j : Str} : decide (V.str i = V.str j) = (i == j) := by
  rw [Bool.eq_iff_iff]
  simp
theorem dec_byt {i j : Array UInt8} : decide (V.byt i = V.byt j) = (i.toList == j.toList) := by
  rw [Bool.eq_iff_iff]
  cases i
  cases j
  simp
section
variable {X : Cx} {a b c : Expr} {ta tb tc : TE} {pos : Pos}
theorem fin_bl {pins : List (Addr × Obj)} {σ : St} {H : Hp} {s : Shared} {Q : VK} {k k' : Bool} (I : Inv X pins σ H s) (q : Q (.bl k) H) (e : k = k') : EP X pins σ Q (.bool k') s := by
  subst e
  exact ⟨.bl k, H, I, rfl, q⟩
theorem op_eq : OpR X (compareOp .Eq) rEq := by
  intro pins s σ H x y v u Q I rx ry h
  obtain ⟨hs, q⟩ := h
  cases x with
  | non =>
    cases rx
    cases y with
    | non => cases ry; exact PySem.EqNone.eq_none_none (fin_bl I q (by simp))
    | bl j => cases ry; exact PySem.EqNone.eq_none_bool (fin_bl I q (by simp))
    | int j => obtain ⟨t', rfl⟩ := ry; exact PySem.EqNone.eq_none_int (fin_bl I q (by simp))
    | str j => obtain ⟨t', rfl⟩ := ry; exact PySem.EqNone.eq_none_str (fin_bl I q (by simp))
    | _ => exact absurd (show false = true from hs) Bool.false_ne_true
  | bl i =>
    cases rx
    cases y with
    | non => cases ry; exact PySem.EqNone.eq_bool_none (fin_bl I q (by simp))
    | bl j => cases ry; exact eq_bool (fin_bl I q dec_bl)
    | str j => obtain ⟨t', rfl⟩ := ry; exact PySem.EqMixed.eq_bool_str (fin_bl I q (by simp))
    | _ => exact absurd (show false = true from hs) Bool.false_ne_true
  | int i =>
    obtain ⟨t, rfl⟩ := rx
    cases y with
    | non => cases ry; exact PySem.EqNone.eq_int_none (fin_bl I q (by simp))
    | int j => obtain ⟨t', rfl⟩ := ry; exact eq_int (fin_bl I q dec_int)
    | str j => obtain ⟨t', rfl⟩ := ry; exact PySem.EqMixed.eq_int_str (fin_bl I q (by simp))
    | _ => exact absurd (show false = true from hs) Bool.false_ne_true
  | str i =>
    obtain ⟨t, rfl⟩ := rx
    cases y with
    | non => cases ry; exact PySem.EqNone.eq_str_none (fin_bl I q (by simp))
    | bl j => cases ry; exact PySem.EqMixed.eq_str_bool (fin_bl I q (by simp))
    | int j => obtain ⟨t', rfl⟩ := ry; exact PySem.EqMixed.eq_str_int (fin_bl I q (by simp))
    | str j => obtain ⟨t', rfl⟩ := ry; exact eq_str (fin_bl I q dec_str)
    | _ => exact absurd (show false = true from hs) Bool.false_ne_true
  | byt i =>
    obtain ⟨t, rfl⟩ := rx
    cases y with
    | byt j => obtain ⟨t', rfl⟩ := ry; exact PySem.W.eq_bytes (fin_bl I q dec_byt)
    | _ => exact absurd (show false = true from hs) Bool.false_ne_true
  | _ => cases y <;> exact absurd (show false = true from hs) Bool.false_ne_true
theorem op_ne : OpR X (compareOp .NotEq) rNe := by
  intro pins s σ H x y v u Q I rx ry h
  obtain ⟨hs, q⟩ := h
  cases x with
  | non =>
    cases rx
    cases y with
    | non => cases ry; exact PySem.EqNone.ne_none_none (fin_bl I q (by simp))
    | bl j => cases ry; exact PySem.EqNone.ne_none_bool (fin_bl I q (by simp))
    | int j => obtain ⟨t', rfl⟩ := ry; exact PySem.EqNone.ne_none_int (fin_bl I q (by simp))
    | str j => obtain ⟨t', rfl⟩ := ry; exact PySem.EqNone.ne_none_str (fin_bl I q (by simp))
    | _ => exact absurd (show false = true from hs) Bool.false_ne_true
  | bl i =>
    cases rx
    cases y with
    | non => cases ry; exact PySem.EqNone.ne_bool_none (fin_bl I q (by simp))
    | bl j => cases ry; exact ne_bool (fin_bl I q (congrArg not dec_bl))
    | str j => obtain ⟨t', rfl⟩ := ry; exact PySem.EqMixed.ne_bool_str (fin_bl I q (by simp))
    | _ => exact absurd (show false = true from hs) Bool.false_ne_true
  | int i =>
    obtain ⟨t, rfl⟩ := rx
    cases y with
    | non => cases ry; exact PySem.EqNone.ne_int_none (fin_bl I q (by simp))
    | int j => obtain ⟨t', rfl⟩ := ry; exact ne_int (fin_bl I q (congrArg not dec_int))
    | str j => obtain ⟨t', rfl⟩ := ry; exact PySem.EqMixed.ne_int_str (fin_bl I q (by simp))
    | _ => exact absurd (show false = true from hs) Bool.false_ne_true
  | str i =>
    obtain ⟨t, rfl⟩ := rx
    cases y with
    | non => cases ry; exact PySem.EqNone.ne_str_none (fin_bl I q (by simp))
    | bl j => cases ry; exact PySem.EqMixed.ne_str_bool (fin_bl I q (by simp))
    | int j => obtain ⟨t', rfl⟩ := ry; exact PySem.EqMixed.ne_str_int (fin_bl I q (by simp))
    | str j => obtain ⟨t', rfl⟩ := ry; exact ne_str (fin_bl I q (congrArg not dec_str))
    | _ => exact absurd (show false = true from hs) Bool.false_ne_true
  | byt i =>
    obtain ⟨t, rfl⟩ := rx
    cases y with
    | byt j => obtain ⟨t', rfl⟩ := ry; exact PySem.W.ne_bytes (fin_bl I q (congrArg not dec_byt))
    | _ => exact absurd (show false = true from hs) Bool.false_ne_true
  | _ => cases y <;> exact absurd (show false = true from hs) Bool.false_ne_true
theorem op_lt : OpR X (compareOp .Lt) (rI0 fun i j => .bl (decide (i < j))) := opB0 fun _ _ _ _ _ _ _ q => lt_int q
theorem op_le : OpR X (compareOp .LtE) (rI0 fun i j => .bl (decide (i <= j))) := opB0 fun _ _ _ _ _ _ _ q => le_int q
theorem op_gt : OpR X (compareOp .Gt) (rI0 fun i j => .bl (decide (j < i))) := opB0 fun _ _ _ _ _ _ _ q => gt_int q
theorem op_in_str : OpR X (compareOp .In) (fun x y H Q => ∃ i j, x = .str i /\ y = .str j /\ Q (.bl (!(Builtin.Str.occurrences j i 0 j.length 1).isEmpty)) H) := by
  intro pins s σ H x y v u Q I rx ry h
  obtain ⟨i, j, rfl, rfl, q⟩ := h
  obtain ⟨t, rfl⟩ := rx
  obtain ⟨t', rfl⟩ := ry
  exact in_str (fin_bl I q rfl)
theorem OpR.or {f : Value -> Value -> Sem Value} {r r' : R2} (h : OpR X f r) (h' : OpR X f r') : OpR X f (fun x y H Q => r x y H Q \/ r' x y H Q) := by
  intro pins s σ H x y v u Q I rx ry q
  rcases q with q | q
  · exact h pins s σ H x y v u Q I rx ry q
  · exact h' pins s σ H x y v u Q I rx ry q
theorem nomark (b : Expr) {op : CmpOp} (h : op ≠ .In := by decide) (h2 : op ≠ .NotIn := by decide) : behindInMarks op b = false := by
  have e1 : (op == CmpOp.In) = false := by cases op <;> first | rfl | exact absurd rfl h
  have e2 : (op == CmpOp.NotIn) = false := by cases op <;> first | rfl | exact absurd rfl h2
  cases b <;> simp [behindInMarks, e1, e2]
theorem pe_cmpR {op : CmpOp} {r : R2} (ho : OpR X (compareOp op) r) (ha : PE X a ta) (hb : PE X b tb) (hm : behindInMarks op b = false) : PE X (.Compare a [op] [b] pos) (tOp r ta tb) := by
  intro pins s σ H Q I h
  exact wpAny_Compare1 (binT ha hb I h fun v u s2 x y H2 I2 rx ry q => ho pins s2 σ H2 x y v u Q I2 rx ry q) hm
def tTest (t : TE) : TT := fun σ H Q => t σ H fun x H' => ∃ k, x = .bl k /\ Q k H'
theorem pt_cmpR {op : CmpOp} {r : R2} (ho : OpR X (compareOp op) r) (ha : PE X a ta) (hb : PE X b tb) (hm : behindInMarks op b = false) : PT X (.Compare a [op] [b] pos) (tTest (tOp r ta tb)) := by
  intro pins s σ H Q I h
  refine wpAny_isTrue_Compare1 (thn (ha pins s σ H _ I h) fun v s1 ⟨x, H1, I1, r1, q1⟩ => thn (hb pins s1 σ H1 _ I1 q1) fun u s2 ⟨y, H2, I2, r2, q2⟩ =>
    thn (ho pins s2 σ H2 x y v u _ I2 r1 r2 q2) fun c s3 ⟨z, H3, I3, r3, k, e, q3⟩ => ?_) hm
  subst e
  cases r3
  exact wpAny_truthy_bool ⟨H3, I3, q3⟩
def tChain (r r' : R2) (ta tb tc : TE) : TE := fun σ H Q => ta σ H fun x H1 => tb σ H1 fun y H2 => r x y H2 fun z H3 => ∃ k, z = .bl k /\
  (if k = true then tc σ H3 fun w' H4 => r' y w' H4 Q else Q (.bl false) H3)
theorem pe_chain {op op' : CmpOp} {r r' : R2} (ho : OpR X (compareOp op) r) (ho' : OpR X (compareOp op') r') (ha : PE X a ta) (hb : PE X b tb) (hc : PE X c tc)
    (hm : lastMarks [op, op'] [b, c] = false := by with_unfolding_all rfl) : PE X (.Compare a [op, op'] [b, c] pos) (tChain r r' ta tb tc) := by
  intro pins s σ H Q I h
  refine Compare_chain (thn (ha pins s σ H _ I h) fun v s1 ⟨x, H1, I1, r1, q1⟩ => chain_link (thn (hb pins s1 σ H1 _ I1 q1) fun u s2 ⟨y, H2, I2, r2, q2⟩ =>
    thn (ho pins s2 σ H2 x y v u _ I2 r1 r2 q2) fun d s3 ⟨z, H3, I3, r3, k, e, q3⟩ => ?_)) hm
  subst e
  cases r3
  refine wpAny_truthy_bool ?_
  cases k with
  | false => exact ite_ff ⟨.bl false, H3, I3, rfl, q3⟩
  | true => exact ite_tt (chain_last (thn (hc pins s3 σ H3 _ I3 q3) fun w' s4 ⟨z', H4, I4, r4, q4⟩ => ho' pins s4 σ H4 y z' u w' Q I4 r2 r4 q4))
theorem pt_chain {op op' : CmpOp} {r r' : R2} (ho : OpR X (compareOp op) r) (ho' : OpR X (compareOp op') r') (ha : PE X a ta) (hb : PE X b tb) (hc : PE X c tc)
    (hm : lastMarks [op, op'] [b, c] = false := by with_unfolding_all rfl) : PT X (.Compare a [op, op'] [b, c] pos) (tTest (tChain r r' ta tb tc)) := by
  intro pins s σ H Q I h
  refine isTrue_chain (thn (ha pins s σ H _ I h) fun v s1 ⟨x, H1, I1, r1, q1⟩ => test_link (thn (hb pins s1 σ H1 _ I1 q1) fun u s2 ⟨y, H2, I2, r2, q2⟩ =>
    thn (ho pins s2 σ H2 x y v u _ I2 r1 r2 q2) fun d s3 ⟨z, H3, I3, r3, k, e, q3⟩ => ?_)) hm
  subst e
  cases r3
  refine wpAny_truthy_bool ?_
  cases k with
  | false =>
    obtain ⟨k', e', q'⟩ := q3
    cases e'
    exact ite_ff ⟨H3, I3, q'⟩
  | true =>
    refine ite_tt (test_last (thn (hc pins s3 σ H3 _ I3 q3) fun w' s4 ⟨z', H4, I4, r4, q4⟩ => thn (ho' pins s4 σ H4 y z' u w' _ I4 r2 r4 q4) fun d' s5 ⟨z2, H5, I5, r5, k2, e2, q5⟩ => ?_))
    subst e2
    cases r5
    exact wpAny_truthy_bool ⟨H5, I5, q5⟩
theorem line63 : (sizeLine : Nat) < 2 ^ 63 := by rw [sizeLine_eq]; decide
theorem op_add_str : OpR X (binaryOp .Add) (fun x y H Q => ∃ i j, x = .str i /\ y = .str j /\ i.length + j.length <= sizeLine /\ Q (.str (i ++ j)) H) := by
  intro pins s σ H x y v u Q I rx ry h
  obtain ⟨i, j, rfl, rfl, hz, q⟩ := h
  obtain ⟨t, rfl⟩ := rx
  obtain ⟨t', rfl⟩ := ry
  exact add_str (fun t' tk => ⟨.str (i ++ j), H, I.tok _, ⟨_, rfl⟩, q⟩) hz
theorem vals1 {x : V} {us : List Value} (r : Vals [x] us) : ∃ u, us = [u] /\ RelV x u := by
  cases r with
  | cons r1 r2 => cases r2; exact ⟨_, rfl, r1⟩
theorem vals2 {x y : V} {us : List Value} (r : Vals [x, y] us) : ∃ u w', us = [u, w'] /\ RelV x u /\ RelV y w' := by
  cases r with
  | cons r1 r2 =>
    cases r2 with
    | cons r3 r4 => cases r4; exact ⟨_, _, rfl, r1, r3⟩
theorem call_min2 (hc : X.calm = true) : CallR X (.builtin "min") (fun xs H Q => ∃ i j, xs = [.int i, .int j] /\ Q (.int (if j < i then j else i)) H) := by
  intro pins s σ H xs us Q I r h
  obtain ⟨i, j, rfl, q⟩ := h
  obtain ⟨u, w', rfl, ⟨t, rfl⟩, ⟨t', rfl⟩⟩ := vals2 r
  refine min_two_ints (I.ok.hd hc) fun h' tk k => ⟨_, H, I.kept k, ?_, q⟩
  by_cases hj : j < i
  · rw [if_pos hj, if_pos hj]; exact ⟨_, rfl⟩
  · rw [if_neg hj, if_neg hj]; exact ⟨_, rfl⟩
theorem call_str_int : CallR X (.type "str") (fun xs H Q => ∃ i, xs = [.int i] /\ i.natAbs.log2 < 1920 /\ Q (.str (toString i)) H) := by
  intro pins s σ H xs us Q I r h
  obtain ⟨i, rfl, hz, q⟩ := h
  obtain ⟨u, rfl, t, rfl⟩ := vals1 r
  exact PySem.P.str_of_int hz ⟨.str _, H, I.tok _, ⟨_, rfl⟩, q⟩
end
end L2
namespace L2
open PySem PySem.Spec PyProof.Rows
structure ObjM (h : Heap) (x dx C : Addr) (mA : Str -> Option Value) : Prop where
  obj : h.get? x = some (PySem.W.instObj C dx)
  ns : h.Ns1 dx mA
  ne : dx ≠ x
theorem lookIn_ns {h : Heap} {dx : Addr} {mA : Str -> Option Value} (n : h.Ns1 dx mA) : ∃ od, h.get? dx = some od /\ ∀ name, PySem.W.lookIn name od = some (mA name) := by
  obtain ⟨o, es, ep, ho, hd, hk, _, hm⟩ := n
  refine ⟨o, ho, fun name => ?_⟩
  have e := hm name
  unfold nsFind findBy at e
  rw [<- Array.find?_toList] at e
  unfold PySem.W.lookIn
  rw [hd]
  dsimp only
  split
  · rename_i y q
    rw [q] at e
    exact congrArg some e
  · rename_i q
    rw [q] at e
    have a : es.toList.any (·.refKey) = false := by
      rw [List.any_eq_false]
      intro y hy
      obtain ⟨z, t, hkey⟩ := hk y (Array.mem_toList_iff.mp hy)
      simp [DictEntry.refKey, hkey]
    have a' : ¬ es.toList.any (·.refKey) = true := by rw [a]; exact Bool.false_ne_true
    rw [if_neg a']
    exact congrArg some e
theorem ObjM.look {h : Heap} {x dx C : Addr} {mA : Str -> Option Value} (I : ObjM h x dx C mA) : ∃ od, PySem.W.InstAt h x (PySem.W.instObj C dx) C (some od) /\ ∀ name, PySem.W.lookIn name od = some (mA name) :=
  let ⟨od, ho, hl⟩ := lookIn_ns I.ns
  ⟨od, ⟨I.obj, rfl, rfl, ho⟩, hl⟩
section
variable {prog : Program} {w : World} {A : Around} {E : Value -> Shared -> Prop} {s : Shared} {K : PySem.W.Frag} {x dx C f : Addr} {mA : Str -> Option Value} {name : Str} {v : Value}
theorem get_map {expr : Bool} {Q : Value -> Shared -> Prop} (X : K.In s.heap) (I : ObjM s.heap x dx C mA) (hg : PySem.W.plainGet K C name = true) (hh : PySem.W.hasDictIn K C = true)
    (ha : PySem.W.findIn K (.ref C) name = some none) (hv : mA name = some v) (hv' : PySem.W.handedIn v = true) (h : Q v { s with toks := s.toks + 1 }) :
    wpAny (model prog w) A (getAttr (.ref x) name expr) Q E s := by
  obtain ⟨od, J, hl⟩ := I.look
  exact PySem.W.get_value X J (PySem.W.plainGet_of hg).1 (PySem.W.findObj_own hh ha rfl (by rw [hl, hv])) hv' h
theorem get_meth {pl : Sem Bool} {Q : Value × List Value -> Shared -> Prop} (X : K.In s.heap) (I : ObjM s.heap x dx C mA) (hg : PySem.W.plainGet K C name = true)
    (hf : PySem.W.findIn K (.ref C) name = some (some (.ref f))) (ht : PySem.W.isFn K (.ref f) = true) (hv : mA name = none) (h : Q (.ref f, [.ref x]) s) :
    wpAny (model prog w) A (getMethod (.ref x) name pl) Q E s := by
  obtain ⟨od, J, hl⟩ := I.look
  exact PySem.W.method_fn X J (PySem.W.plainGet_of hg).1 (PySem.W.plainGet_of hg).2 hf (beq_iff_eq.mp ht) (by show (PySem.W.lookIn name od).map (·.isSome) = some false; rw [hl, hv]; rfl) h
theorem set_map {ns : List Str} {Q : Unit -> Shared -> Prop} (X : K.In s.heap) (I : ObjM s.heap x dx C mA)
    (hs : PySem.W.findIn K (.ref C) "__setattr__" = some (some (.builtin "object.__setattr__"))) (hp : PySem.W.plainOver K C = true) (ht : PySem.W.takerIn K C name = some none) (hh : PySem.W.hasDictIn K C = true)
    (hw : PySem.Within mA ns) (hsz : ns.length <= sizeLine)
    (h : ∀ h', ObjM h' x dx C (fun y => if y = name then some v else mA y) -> Heap.SameBut dx s.heap h' -> Q () { s with heap := h', toks := s.toks + 2 }) :
    wpAny (model prog w) A (setAttr (.ref x) name v) Q E s := by
  obtain ⟨od, J, hl⟩ := I.look
  refine PySem.W.set_plain X J hs (PySem.W.osa_open (s := { s with toks := s.toks + 1 }) (r := none) X J hp ht fun b => ?_)
  obtain ⟨cd, hc, hd'⟩ := PySem.W.any_some hh
  have hx : s.heap.get? x = some ⟨.ref C, some dx, .plain, #[]⟩ := I.obj
  refine wpAny_bind (wpAny_pure (wpAny_bind (wpAny_bind (wpAny_loadPart hx (wpAny_bind (PySem.W.Looks.here (s := { s with toks := s.toks + 1 }) (PySem.W.looks_clsIn X hc) ?_))))))
  rw [hd']
  refine wpAny_pure (a := some dx) (wpAny_bind (wpAny_pure (wpAny_bind ?_)))
  refine wpAny_nsSet1 (s := { s with toks := s.toks + 1 }) I.ns fun h' hn2 hs2 => ?_
  obtain ⟨oD, esD, epD, hoD, hdD, hcD⟩ := hn2.count (PySem.Within.cons name v hw)
  refine wpAny_bind (wpAny_lookBehind hoD (by rw [hdD]; exact pastItsLine_dict (Nat.le_trans hcD (by rw [List.length_cons]; omega))) ?_)
  exact wpAny_pure (h _ ⟨(hs2.2 _ (Ne.symm I.ne)).trans I.obj, hn2, I.ne⟩ hs2)
theorem make_map {R : Result -> Shared -> Prop} {vs : List Value} {kw : List (Str × Value)} (X : K.In s.heap) (hm : PySem.W.makesIn K C = true)
    (hi : PySem.W.findIn K (.ref C) "__init__" = some (some (.ref f))) (hf : PySem.W.typeIn K (.ref f) = some (.type "function"))
    (h : codeAny (model prog w) (A.under (.builtin "type.__call__" ⟨.ref C :: vs, kw⟩)) (.call (.ref f) ⟨.ref (s.heap.objs.size + 1) :: vs, kw⟩) (PySem.W.InitBack (s.heap.objs.size + 1) R)
      { s with heap := (s.heap.push PySem.W.emptyDict).push (PySem.W.instObj C s.heap.objs.size) }) :
    codeAny (model prog w) A (.call (.ref C) ⟨vs, kw⟩) R s := by
  obtain ⟨hh, g, d, t, os⟩ := s
  exact PySem.W.make_core (PySem.W.makes_of X hm) (PySem.W.looks_findIn X hi) (fun self => PySem.W.bind_fn X self hf) (.inl rfl) h
end
def putF (f : Str) (v : V) : List (Str × V) -> List (Str × V)
  | [] => [(f, v)]
  | (g, x) :: r => if g = f then (g, v) :: r else (g, x) :: putF f v r
theorem lookup_putF (f g : Str) (v : V) : ∀ fs : List (Str × V), (putF f v fs).lookup g = if g = f then some v else fs.lookup g
  | [] => by
    show List.lookup g [(f, v)] = _
    by_cases h : g = f
    · have hb : (g == f) = true := beq_iff_eq.mpr h
      simp only [List.lookup, hb, if_pos h]
    · have hb : (g == f) = false := beq_eq_false_iff_ne.mpr h
      simp only [List.lookup, hb, if_neg h]
  | (k, x) :: r => by
    have ih := lookup_putF f g v r
    rw [show putF f v ((k, x) :: r) = (if k = f then (k, v) :: r else (k, x) :: putF f v r) from rfl]
    by_cases hk : k = f
    · rw [if_pos hk]
      by_cases h : g = k
      · have hb : (g == k) = true := beq_iff_eq.mpr h
        simp only [List.lookup, hb, if_pos (h.trans hk)]
      · have hb : (g == k) = false := beq_eq_false_iff_ne.mpr h
        simp only [List.lookup, hb, if_neg (fun e : g = f => h (e.trans hk.symm))]
    · rw [if_neg hk]
      by_cases h : g = k
      · have hb : (g == k) = true := beq_iff_eq.mpr h
        simp only [List.lookup, hb, if_neg (fun e : g = f => hk (h.symm.trans e))]
      · have hb : (g == k) = false := beq_eq_false_iff_ne.mpr h
        simp only [List.lookup, hb]
        exact ih
theorem keys_putF (f : Str) (v : V) : ∀ fs : List (Str × V), f ∈ (putF f v fs).map (·.1) /\ ∀ g, g ∈ fs.map (·.1) -> g ∈ (putF f v fs).map (·.1)
  | [] => ⟨by simp [putF], fun g h => by simp at h⟩
  | (k, x) :: r => by
    obtain ⟨i1, i2⟩ := keys_putF f v r
    rw [show putF f v ((k, x) :: r) = (if k = f then (k, v) :: r else (k, x) :: putF f v r) from rfl]
    by_cases hk : k = f
    · rw [if_pos hk]
      subst hk
      exact ⟨by simp, fun g h => by simpa using h⟩
    · rw [if_neg hk]
      refine ⟨?_, fun g h => ?_⟩
      · rw [List.map_cons]
        exact List.mem_cons_of_mem _ i1
      · rw [List.map_cons] at h ⊢
        rcases List.mem_cons.mp h with e | e
        · exact List.mem_cons.mpr (.inl e)
        · exact List.mem_cons_of_mem _ (i2 g e)
theorem length_putF (f : Str) (v : V) : ∀ fs : List (Str × V), (putF f v fs).length <= fs.length + 1
  | [] => by simp [putF]
  | (k, x) :: r => by
    have ih := length_putF f v r
    rw [show putF f v ((k, x) :: r) = (if k = f then (k, v) :: r else (k, x) :: putF f v r) from rfl]
    by_cases hk : k = f
    · rw [if_pos hk, List.length_cons, List.length_cons]; omega
    · rw [if_neg hk, List.length_cons, List.length_cons]; omega
theorem RelO.some_of {v : V} {o : Option Value} (r : RelO (some v) o) : ∃ u, o = some u /\ RelV v u := by
  cases o with
  | none => exact (show False from r).elim
  | some u => exact ⟨u, rfl, r⟩
theorem RelO.none_of {o : Option Value} (r : RelO none o) : o = none := by
  cases o with
  | none => rfl
  | some u => exact (show False from r).elim
theorem handed_of {v : V} {u : Value} (r : RelV v u) : PySem.W.handedIn u = true := by
  cases v with
  | non => cases (show u = Value.none from r); rfl
  | bl b => cases (show u = Value.bool b from r); rfl
  | int i => obtain ⟨t, e⟩ := (show ∃ t, u = Value.int i t from r); cases e; rfl
  | str x => obtain ⟨t, e⟩ := (show ∃ t, u = Value.str x t from r); cases e; rfl
  | byt b => obtain ⟨t, e⟩ := (show ∃ t, u = Value.bytes b t from r); cases e; rfl
  | flt b => obtain ⟨t, e⟩ := (show ∃ t, u = Value.float b t from r); cases e; rfl
  | ref a => cases (show u = Value.ref a from r); rfl
  | ty n => cases (show u = Value.type n from r); rfl
section
variable {P : Program} {w : World} {H H' : Hp} {h h' : Heap} {a C dx : Addr} {fs fs' : List (Str × V)}
theorem ins_get (hok : HOk P w H h) (e : H a = some (.ins C dx fs)) : ∃ mA, ObjM h a dx C mA /\ (∀ f, RelO (fs.lookup f) (mA f)) /\ PySem.Within mA (fs.map (·.1)) /\ fs.length <= 1000 /\ H dx = some (.own a) := by
  obtain ⟨d, z, ne, ob, mA, n, r, q⟩ := (show ObjOk P w H h a (.ins C dx fs) from hok a _ e)
  exact ⟨mA, ⟨ob, n, ne⟩, r, q, z, d⟩
end
structure Cls (K : PySem.W.Frag) (C : Addr) : Prop where
  pg : PySem.W.plainGet K C Str.empty = true
  hd : PySem.W.hasDictIn K C = true
  po : PySem.W.plainOver K C = true
  sa : PySem.W.findIn K (.ref C) "__setattr__" = some (some (.builtin "object.__setattr__"))
theorem Cls.get {K : PySem.W.Frag} {C : Addr} (c : Cls K C) (f : Str) : PySem.W.plainGet K C f = true := c.pg
def NoAttr (K : PySem.W.Frag) (C : Addr) (f : Str) : Prop := PySem.W.findIn K (.ref C) f = some none
theorem NoAttr.taker {K : PySem.W.Frag} {C : Addr} {f : Str} (n : NoAttr K C f) : PySem.W.takerIn K C f = some none := by
  unfold PySem.W.takerIn
  rw [show PySem.W.findIn K (.ref C) f = some none from n]
  rfl
structure Con (K : PySem.W.Frag) (C : Addr) (f : Str) (v : V) (u : Value) : Prop where
  at_ : PySem.W.findIn K (.ref C) f = some (some u)
  rel : RelV v u
  get : PySem.W.specialIn K u "__get__" = some none
  cp : PySem.W.copiedNames.contains f = false
structure Meth (K : PySem.W.Frag) (C : Addr) (m : Str) (f : Addr) : Prop where
  at_ : PySem.W.findIn K (.ref C) m = some (some (.ref f))
  fn : PySem.W.isFn K (.ref f) = true
  kp : PySem.W.keepIn K (.ref f) = true
section
variable {X : Cx} {pins : List (Addr × Obj)} {σ : St} {H : Hp} {s : Shared} {a C dx : Addr} {fs : List (Str × V)} {f : Str} {v : V} {A : Around} {E : Value -> Shared -> Prop}
theorem getattr_ok {b : Bool} {Q : Value -> Shared -> Prop} (I : Inv X pins σ H s) (e : H a = some (.ins C dx fs)) (c : Cls X.K C) (n : NoAttr X.K C f) (l : fs.lookup f = some v)
    (h : ∀ u s', Inv X pins σ H s' -> RelV v u -> Q u s') : wpAny (model X.prog X.w) A (getAttr (.ref a) f b) Q E s := by
  obtain ⟨mA, O, r, _, _, _⟩ := ins_get I.hok e
  obtain ⟨u, hu, ru⟩ := RelO.some_of (v := v) (o := mA f) (by rw [<- l]; exact r f)
  exact get_map I.kIn O (c.get f) c.hd n hu (handed_of ru) (h u _ (I.tok _) ru)
theorem getmeth_ok {m : Str} {g : Addr} {pl : Sem Bool} {Q : Value × List Value -> Shared -> Prop} (I : Inv X pins σ H s) (e : H a = some (.ins C dx fs)) (c : Cls X.K C) (k : Meth X.K C m g) (l : fs.lookup m = none)
    (h : Q (.ref g, [.ref a]) s) : wpAny (model X.prog X.w) A (getMethod (.ref a) m pl) Q E s := by
  obtain ⟨mA, O, r, _, _, _⟩ := ins_get I.hok e
  have hn : mA m = none := RelO.none_of (by rw [<- l]; exact r m)
  exact get_meth I.kIn O (c.get m) k.at_ k.fn hn h
theorem setattr_ok {y : V} {u : Value} {Q : Unit -> Shared -> Prop} (I : Inv X pins σ H s) (e : H a = some (.ins C dx fs)) (c : Cls X.K C) (n : NoAttr X.K C f) (hl : fs.length < 1000) (ry : RelV y u)
    (h : ∀ s', Inv X pins σ (upd H a (.ins C dx (putF f y fs))) s' -> Q () s') : wpAny (model X.prog X.w) A (setAttr (.ref a) f u) Q E s := by
  obtain ⟨mA, O, r, wi, _, ho⟩ := ins_get I.hok e
  have hz : (fs.map (·.1)).length <= sizeLine := by rw [List.length_map, sizeLine_eq]; omega
  refine set_map I.kIn O c.sa c.po n.taker c.hd wi hz fun h' O' sb => h _ ?_
  have hd : ∃ o, h'.get? dx = some o := let ⟨o, _, _, e', _⟩ := O'.ns; ⟨o, e'⟩
  refine I.write (x := a) (e := dx) (by rw [e]; exact True.intro) (.inr ho) (fun b q hb z => (sb.2 b hb).trans z) hd ?_
  refine ⟨by rw [upd_ne O.ne]; exact ho, ?_, O.ne, O'.obj, _, O'.ns, fun g => ?_, fun g hg => ?_⟩
  · have := length_putF f y fs; omega
  · show RelO ((putF f y fs).lookup g) (if g = f then some u else mA g)
    rw [lookup_putF]
    by_cases q : g = f
    · rw [if_pos q, if_pos q]; exact ry
    · rw [if_neg q, if_neg q]; exact r g
  · by_cases q : g = f
    · rw [q]; exact (keys_putF f y fs).1
    · refine (keys_putF f y fs).2 g (wi g fun z => hg ?_)
      show (if g = f then some u else mA g) = none
      rw [if_neg q]; exact z
theorem Inv.made (I : Inv X pins σ H s) : Inv X pins σ (upd (upd H s.heap.objs.size (.own (s.heap.objs.size + 1))) (s.heap.objs.size + 1) (.ins C s.heap.objs.size []))
    { s with heap := (s.heap.push PySem.W.emptyDict).push (PySem.W.instObj C s.heap.objs.size) } := by
  have e1 : (s.heap.push PySem.W.emptyDict).get? s.heap.objs.size = some PySem.W.emptyDict := Heap.get?_push_size s.heap rfl
  have e2 : ((s.heap.push PySem.W.emptyDict).push (PySem.W.instObj C s.heap.objs.size)).get? (s.heap.objs.size + 1) = some (PySem.W.instObj C s.heap.objs.size) := by
    have := Heap.get?_push_size (s.heap.push PySem.W.emptyDict) (o := PySem.W.instObj C s.heap.objs.size) rfl
    rwa [Heap.size_push] at this
  have e3 : (s.heap.push PySem.W.emptyDict).Ns s.heap.objs.size (fun _ => none) := ⟨PySem.W.emptyDict, #[], _, e1, rfl, (fun e he => absurd he (by simp)), fun _ => rfl⟩
  have I1 := I.laid (a := s.heap.objs.size) (o := .own (s.heap.objs.size + 1)) (h' := s.heap.push PySem.W.emptyDict) (t' := s.toks) (fun b u q => Heap.get?_push_of_some _ q) (Nat.le_refl _) ⟨_, e1⟩
  refine I1.laid (a := s.heap.objs.size + 1) (o := .ins C s.heap.objs.size []) (t' := s.toks) (fun b u q => Heap.get?_push_of_some _ q) (Nat.le_of_eq (Heap.size_push _ _)) ?_
  have ne : s.heap.objs.size ≠ s.heap.objs.size + 1 := Nat.ne_of_lt (Nat.lt_succ_self _)
  refine ⟨by rw [upd_ne ne, upd_same], Nat.zero_le _, ne, e2, fun _ => none, (Heap.Ns1.of_empty e3).at fun o q => Heap.get?_push_of_some _ q, fun _ => True.intro, fun y hy => absurd rfl hy⟩
theorem attr_of {prog : Program} {w : World} {env : Env} {e : Expr} {f : Str} {pos : Pos} {s : Shared} {Q : Value -> Shared -> Prop} (hb : attributeBase e f env (eval e env) = eval e env)
    (h : wpAny (model prog w) A (eval e env) (fun o s₁ => wpAny (model prog w) A (getAttr o f true) Q E s₁) E s) : wpAny (model prog w) A (eval (.Attribute e f pos) env) Q E s :=
  Attribute_any_ h (by rw [arm_eval_Attribute, hb])
end
def tFld (K : PySem.W.Frag) (ta : TE) (f : Str) : TE := fun σ H Q => ta σ H fun x H1 => ∃ a C dx fs v, x = .ref a /\ H1 a = some (.ins C dx fs) /\ Cls K C /\ NoAttr K C f /\ fs.lookup f = some v /\ Q v H1
def sFld (K : PySem.W.Frag) (ta tv : TE) (f : Str) : TS := fun D σ H => tv σ H fun y H1 => ta σ H1 fun x H2 => ∃ a C dx fs, x = .ref a /\ H2 a = some (.ins C dx fs) /\ Cls K C /\ NoAttr K C f /\ fs.length < 1000 /\
  D.nx σ (upd H2 a (.ins C dx (putF f y fs)))
section
variable {X : Cx} {o e value : Expr} {f : Str} {pos pos' tpos : Pos} {ta tv : TE}
theorem pe_fld (he : PE X e ta) (hb : attributeBase e f X.env (eval e X.env) = eval e X.env) : PE X (.Attribute e f pos) (tFld X.K ta f) := by
  intro pins s σ H Q I h
  refine attr_of hb (thn (he pins s σ H _ I h) fun u s1 ⟨x, H1, I1, rx, a, C, dx, fs, v, ex, ea, c, n, l, q⟩ => ?_)
  subst ex
  obtain rfl : u = Value.ref a := rx
  exact getattr_ok I1 ea c n l fun u' s2 I2 ru => ⟨v, H1, I2, ru, q⟩
theorem ps_fld (ha : PE X o ta) (hv : PE X value tv) (hs : swapsWith value (some (.Attribute o f pos')) pos.line X.env = pure false) : PS X (.Assign [.Attribute o f pos'] value pos) (sFld X.K ta tv f) := by
  intro pins s σ H D I h
  refine plainObj_wpAny_Assign_Attribute (thn (hv pins s σ H _ I h) fun u s1 ⟨y, H1, I1, ry, q⟩ => thn (ha pins s1 σ H1 _ I1 q) fun ov s2 ⟨x, H2, I2, rx, a, C, dx, fs, ex, ea, c, n, l, q2⟩ => ?_) hs
  subst ex
  obtain rfl : ov = Value.ref a := rx
  exact setattr_ok I2 ea c n l ry fun s3 I3 => ⟨σ, _, I3, q2⟩
end
section
variable {X : Cx} {pins : List (Addr × Obj)} {σ : St} {H : Hp} {s : Shared} {A : Around} {E : Value -> Shared -> Prop} {Q : Value -> Shared -> Prop} {c : Value} {b : Bool}
inductive TyOf (K : PySem.W.Frag) (H : Hp) : V -> Value -> Prop where
  | non : TyOf K H .non (.type "NoneType")
  | bl (x : Bool) : TyOf K H (.bl x) (.type "bool")
  | int (i : Int) : TyOf K H (.int i) (.type "int")
  | str (x : Str) : TyOf K H (.str x) (.type "str")
  | flt (x : UInt64) : TyOf K H (.flt x) (.type "float")
  | lst {a : Addr} {xs : List V} (e : H a = some (.lst xs)) : TyOf K H (.ref a) (.type "list")
  | frz {a : Addr} {o : Obj} {xs : List V} (e : H a = some (.frz o (.lst xs))) : TyOf K H (.ref a) (.type "list")
  | tup {a : Addr} {xs : List V} (e : H a = some (.tup xs)) : TyOf K H (.ref a) (.type "tuple")
  | dK {a : Addr} {kvs : List (Key × V)} (e : H a = some (.dK kvs)) : TyOf K H (.ref a) (.type "dict")
  | dT {a : Addr} {kvs : List (List Key × V)} (e : H a = some (.dT kvs)) : TyOf K H (.ref a) (.type "dict")
  | ins {a C dx : Addr} {fs : List (Str × V)} (e : H a = some (.ins C dx fs)) (cl : Cls K C) (ha : PySem.W.findIn K (.ref C) "__class__" = some (some (.builtin "object.__class__")))
      (hn : PySem.W.specialIn K (.builtin "object.__class__") "__get__" = some (some (.builtin "getset_descriptor.__get__"))) (htk : PySem.W.takesIn K (.builtin "object.__class__") = some true)
      (hm : PySem.W.mroIn K C (.type "object") = some true) : TyOf K H (.ref a) (.ref C)
theorem isinst_ok {x : V} {u t : Value} (I : Inv X pins σ H s) (rx : RelV x u) (ty : TyOf X.K H x t) (e : PySem.W.kitOne X.K t c = some b) (h : ∀ tk, Q (.bool b) { s with toks := tk }) :
    wpAny (model X.prog X.w) A (call (.builtin "isinstance") [u, c]) Q E s := by
  cases ty with
  | non => cases (show u = Value.none from rx); exact PySem.W.kia_one PySem.W.kitx_none I.kIn True.intro e (fun z => nomatch z) h
  | bl y => cases (show u = Value.bool y from rx); exact PySem.W.kia_one PySem.W.kitx_bool I.kIn True.intro e (fun z => nomatch z) h
  | int i => obtain ⟨t, q⟩ := (show ∃ t, u = Value.int i t from rx); cases q; exact PySem.W.kia_one PySem.W.kitx_int I.kIn True.intro e (fun z => nomatch z) h
  | str y => obtain ⟨t, q⟩ := (show ∃ t, u = Value.str y t from rx); cases q; exact PySem.W.kia_one PySem.W.kitx_str I.kIn True.intro e (fun z => nomatch z) h
  | flt y => obtain ⟨t, q⟩ := (show ∃ t, u = Value.float y t from rx); cases q; exact PySem.W.kia_one PySem.W.kitx_float I.kIn True.intro e (fun z => nomatch z) h
  | @lst a xs ea =>
    cases (show u = Value.ref a from rx)
    obtain ⟨_, _, n, _, h1⟩ := (show ObjOk X.prog X.w H s.heap a (.lst xs) from I.hok a _ ea)
    exact PySem.W.kia_one PySem.W.kitx_list I.kIn ⟨_, h1, rfl⟩ e (fun z => nomatch z) h
  | @frz a ob xs ea =>
    cases (show u = Value.ref a from rx)
    obtain ⟨_, _, _, n, _, h1⟩ := (show ObjOk X.prog X.w H s.heap a (.frz ob (.lst xs)) from I.hok a _ ea)
    exact PySem.W.kia_one PySem.W.kitx_list I.kIn ⟨_, h1, rfl⟩ e (fun z => nomatch z) h
  | @tup a xs ea =>
    cases (show u = Value.ref a from rx)
    obtain ⟨_, _, _, p⟩ := (show ObjOk X.prog X.w H s.heap a (.tup xs) from I.hok a _ ea)
    obtain ⟨o, h1, h2, _⟩ := p
    exact PySem.W.kia_one PySem.W.kitx_tuple I.kIn ⟨o, h1, h2⟩ e (fun z => nomatch z) h
  | @dK a kvs ea =>
    cases (show u = Value.ref a from rx)
    obtain ⟨_, _, vs, _, p⟩ := (show ObjOk X.prog X.w H s.heap a (.dK kvs) from I.hok a _ ea)
    obtain ⟨o, es, ep, h1, h2, _⟩ := p
    exact PySem.W.kia_one PySem.W.kitx_dict I.kIn ⟨o, h1, h2.1⟩ e (fun z => nomatch z) h
  | @dT a kvs ea =>
    cases (show u = Value.ref a from rx)
    obtain ⟨_, _, xs, _, o, es, ep, h1, h2, _⟩ := (show ObjOk X.prog X.w H s.heap a (.dT kvs) from I.hok a _ ea)
    exact PySem.W.kia_one PySem.W.kitx_dict I.kIn ⟨o, h1, h2.1⟩ e (fun z => nomatch z) h
  | @ins a C dx fs ea cl ha hn htk hm =>
    cases (show u = Value.ref a from rx)
    obtain ⟨mA, O, _⟩ := ins_get I.hok ea
    obtain ⟨od, J, _⟩ := O.look
    exact PySem.W.kia_one (PySem.W.kitx_own (cl.get _) cl.hd ha hn htk hm) I.kIn J e (fun z => nomatch z) h
end
end L2
namespace L2
open PySem PySem.Spec PyProof.Rows
structure Room (k : Nat) (A : Around) : Prop where
  hd : A.handled = none
  dp : A.depth + 3 * k + 5 < recursionLimit
  un : A.units + 16 * k + 200 < cLine
theorem Room.mono {j k : Nat} {A : Around} (r : Room k A) (h : j <= k) : Room j A := ⟨r.hd, by have := r.dp; omega, by have := r.un; omega⟩
theorem Room.deeper {k : Nat} {A : Around} (r : Room (k + 1) A) (env : Env) : Room k (A.deeper env) :=
  ⟨r.hd, by have := r.dp; show A.depth + 1 + 3 * k + 5 < _; omega, by have := r.un; show A.units + 3 + 16 * k + 200 < _; omega⟩
theorem Room.in1 {k : Nat} {A : Around} (r : Room (k + 1) A) : Room k A.in1 :=
  ⟨r.hd, by have := r.dp; show A.depth + 3 * k + 5 < _; omega, by have := r.un; show A.units + 1 + 16 * k + 200 < _; omega⟩
theorem make_depth {A : Around} {C : Addr} {us : List Value} {kw : List (Str × Value)} : (A.under (.builtin "type.__call__" ⟨.ref C :: us, kw⟩)).depth = A.depth + 1 := by
  first | rfl | simp [Around.under, Code.weight, Code.isCreation, Code.isGuard, Code.isCaller, Code.frames, Code.isFrame, guardIds]
theorem make_units {A : Around} {C : Addr} {us : List Value} {kw : List (Str × Value)} : (A.under (.builtin "type.__call__" ⟨.ref C :: us, kw⟩)).units = A.units + 1 := by
  first | rfl | simp [Around.under, Code.cUnits, Code.frames, Code.isFrame]
theorem Room.make {k : Nat} {A : Around} (r : Room (k + 1) A) (C : Addr) (us : List Value) (kw : List (Str × Value)) : Room k (A.under (.builtin "type.__call__" ⟨.ref C :: us, kw⟩)) :=
  ⟨r.hd, by have := r.dp; rw [make_depth]; omega, by have := r.un; rw [make_units]; omega⟩
theorem Room.depth {k : Nat} {A : Around} (r : Room k A) : A.depth < recursionLimit := by have := r.dp; omega
theorem Room.units {k : Nat} {A : Around} (r : Room k A) : A.units + 64 < cLine := by have := r.un; omega
theorem Room.units0 {k : Nat} {A : Around} (r : Room k A) : A.units < cLine := by have := r.un; omega
def tNil : TA := fun _ H Q => Q [] H
def tCons (ta : TE) (tr : TA) : TA := fun σ H Q => ta σ H fun x H1 => tr σ H1 fun xs H2 => Q (x :: xs) H2
section
variable {X : Cx} {e : Expr} {es : List Expr} {te : TE} {t : TA} {pos : Pos}
theorem pa_nil : PA X [] tNil := fun _ _ _ _ H Q I h => Calls.spliced_nil ⟨[], H, I, .nil, h⟩
theorem pa_cons (ha : PE X e te) (hr : PA X es t) (hs : starEach (e :: es) X.env = (false, eval e X.env) :: starEach es X.env := by rfl) : PA X (e :: es) (tCons te t) := by
  intro pos pins s σ H Q I h
  rw [hs]
  show wpAny _ _ (spliced ((false, eval e X.env) :: backTo pos (starEach es X.env))) _ _ s
  refine Calls.spliced_cons (thn (ha pins s σ H _ I h) fun u s1 ⟨x, H1, I1, r1, q1⟩ => ?_)
  exact thn (hr pos pins s1 σ H1 _ I1 q1) fun us s2 ⟨xs, H2, I2, r2, q2⟩ => ⟨x :: xs, H2, I2, .cons r1 r2, q2⟩
def tTup (t : TA) : TE := fun σ H Q => t σ H fun xs H1 => xs.length <= sizeLine /\ ∀ p, H1 p = none -> Q (.ref p) (upd H1 p (.tup xs))
def tLst (t : TA) : TE := fun σ H Q => t σ H fun xs H1 => xs.length <= sizeLine /\ ∀ p, H1 p = none -> Q (.ref p) (upd H1 p (.lst xs))
theorem pe_tup {x1} (h : PA X es t) : PE X (.Tuple es x1 pos) (tTup t) := by
  intro pins s σ H Q I hq
  refine wpAny_Tuple_spliced (thn (h pos pins s σ H _ I hq) fun us s1 ⟨xs, H1, I1, r, z, q⟩ => ⟨by rw [<- r.length]; exact z, ?_⟩)
  have hf : H1 s1.heap.objs.size = none := I1.hok.fresh (Nat.le_refl _)
  refine ⟨.ref s1.heap.objs.size, upd H1 s1.heap.objs.size (.tup xs), I1.laid (t' := s1.toks) (fun b u e => Heap.get?_push_of_some _ e) (Nat.le_refl _) ?_, rfl, q _ hf⟩
  exact ⟨z, us, r, ⟨_, Heap.get?_push_size _ rfl, rfl, _, rfl⟩⟩
theorem pe_lst (h : PA X es t) : PE X (.List es pos) (tLst t) := by
  intro pins s σ H Q I hq
  refine wpAny_List_spliced (thn (h pos pins s σ H _ I hq) fun us s1 ⟨xs, H1, I1, r, z, q⟩ => ⟨by rw [<- r.length]; exact z, ?_⟩)
  have hf : H1 s1.heap.objs.size = none := I1.hok.fresh (Nat.le_refl _)
  refine ⟨.ref s1.heap.objs.size, upd H1 s1.heap.objs.size (.lst xs), I1.laid (t' := s1.toks) (fun b u e => Heap.get?_push_of_some _ e) (Nat.le_refl _) ?_, rfl, q _ hf⟩
  exact ⟨z, us, 0, r, Heap.get?_push_size _ rfl⟩
end
abbrev Sp := List V -> Hp -> VK -> XK -> Prop
abbrev CXT := List Env -> Hp -> Shared -> XK -> Value -> Shared -> Prop
structure Env0 (P : Program) (w : World) (K : PySem.W.Frag) (mg : Str -> Option Value) (base : Heap) (A : Around) (outer : List Env) (s : Shared) (H : Hp) : Prop where
  frames : A.frames = some outer
  mod : Mod K mg base
  bs : ∀ b o, base.get? b = some o -> s.heap.get? b = some o /\ H b = none
  bsz : base.objs.size <= s.heap.objs.size
  funs : s.heap.FunFrames base outer
  frf : ∀ b ∈ frs outer, H b = none
  hok : HOk P w H s.heap
  bare : AllBare s.gens
def CE (outer : List Env) (P : Program) (w : World) (H : Hp) (s : Shared) (Q : VK) (u : Value) (s' : Shared) : Prop :=
  ∃ v H', s'.os = s.os /\ AllBare s'.gens /\ Un (frs outer) [] H H' s.heap s'.heap /\ HOk P w H' s'.heap /\ RelV v u /\ Q v H'
def CR (CX : CXT) (outer : List Env) (P : Program) (w : World) (H : Hp) (s : Shared) (Q : VK) (E : XK) (r : Result) (s' : Shared) : Prop :=
  match r with
  | .ok (.ret u) => CE outer P w H s Q u s'
  | .ok _ => False
  | .error e => CX outer H s E e s'
structure FnOk (P : Program) (w : World) (K : PySem.W.Frag) (mg : Str -> Option Value) (base : Heap) (CX : CXT) (k : Nat) (f : Addr) (fd : FuncData) (ps : List Str) (sp : Sp) : Prop where
  len : ∀ vs H Q E, sp vs H Q E -> vs.length = ps.length
  run : ∀ (A : Around) (outer : List Env) (s : Shared) (H : Hp) (args : Args) (us : List Value) (vs : List V) (Q : VK) (E : XK), Room k A -> Env0 P w K mg base A outer s H -> BindsTo s fd args (ps.zip us) -> Vals vs us -> sp vs H Q E ->
    codeAny (model P w) A (.call (.ref f) args) (CR CX outer P w H s Q E) s
theorem FnOk.mono {P : Program} {w : World} {K : PySem.W.Frag} {mg : Str -> Option Value} {base : Heap} {CX : CXT} {j k : Nat} {f : Addr} {fd : FuncData} {ps : List Str} {sp : Sp} (F : FnOk P w K mg base CX j f fd ps sp) (h : j <= k) :
    FnOk P w K mg base CX k f fd ps sp := ⟨F.len, fun A outer s H args us vs Q E hr => F.run A outer s H args us vs Q E (hr.mono h)⟩
theorem FnOk.imp {P : Program} {w : World} {K : PySem.W.Frag} {mg : Str -> Option Value} {base : Heap} {CX : CXT} {k : Nat} {f : Addr} {fd : FuncData} {ps : List Str} {sp sp' : Sp} (F : FnOk P w K mg base CX k f fd ps sp)
    (h : ∀ vs H Q E, sp' vs H Q E -> sp vs H Q E) : FnOk P w K mg base CX k f fd ps sp' :=
  ⟨fun vs H Q E q => F.len vs H Q E (h _ _ _ _ q), fun A outer s H args us vs Q E hr he hb hv hs => F.run A outer s H args us vs Q E hr he hb hv (h _ _ _ _ hs)⟩
theorem Env0.make {P : Program} {w : World} {K : PySem.W.Frag} {mg : Str -> Option Value} {base : Heap} {A : Around} {outer : List Env} {s : Shared} {H : Hp} (e : Env0 P w K mg base A outer s H) (C : Addr) (us : List Value) (kw : List (Str × Value)) :
    Env0 P w K mg base (A.under (.builtin "type.__call__" ⟨.ref C :: us, kw⟩)) outer s H := ⟨by first | exact e.frames | (simpa [Around.under, Code.envs, Code.isFrame, pushEnvs] using e.frames), e.mod, e.bs, e.bsz, e.funs, e.frf, e.hok, e.bare⟩
theorem Env0.in1 {P : Program} {w : World} {K : PySem.W.Frag} {mg : Str -> Option Value} {base : Heap} {A : Around} {outer : List Env} {s : Shared} {H : Hp} (e : Env0 P w K mg base A outer s H) :
    Env0 P w K mg base A.in1 outer s H := ⟨e.frames, e.mod, e.bs, e.bsz, e.funs, e.frf, e.hok, e.bare⟩
section
variable {X : Cx} {pins : List (Addr × Obj)} {σ : St} {H : Hp} {s s' : Shared}
theorem Inv.env0 (I : Inv X pins σ H s) : Env0 X.prog X.w X.K X.mg X.base X.A X.stack s H :=
  ⟨I.ok.frames, I.ok.mod, I.bs, Nat.le_trans I.ok.bsz I.sz, I.stack, I.stkFree, I.hok, I.bare⟩
theorem Inv.after {Q : VK} {u : Value} (I : Inv X pins σ H s) (h : CE X.stack X.prog X.w H s Q u s') : EP X pins σ Q u s' := by
  obtain ⟨v, H', os, bare, un, hok, r, q⟩ := h
  obtain ⟨hh, g, d, t, os'⟩ := s'
  obtain rfl : os' = s.os := os
  exact ⟨v, H', I.call (h' := hh) (g' := g) (d' := d) (t' := t) (ch := []) un hok bare (fun b z => absurd z (by simp)), r, q⟩
end
def tCall (sp : Sp) (dvs : List V) (E : XK) (t : TA) : TE := fun σ H Q => t σ H fun vs H1 => sp (vs ++ dvs) H1 Q E
def tMeth (C : Addr) (m : Str) (sp : Sp) (dvs : List V) (E : XK) (ta : TE) (t : TA) : TE := fun σ H Q => ta σ H fun x H1 => ∃ a dx fs, x = .ref a /\ H1 a = some (.ins C dx fs) /\ fs.lookup m = none /\
  t σ H1 fun vs H2 => sp (x :: (vs ++ dvs)) H2 Q E
def tMake (C : Addr) (sp : Sp) (dvs : List V) (E : XK) (t : TA) : TE := fun σ H Q => t σ H fun vs H1 => ∀ x dx, H1 x = none -> H1 dx = none -> dx ≠ x ->
  sp (.ref x :: (vs ++ dvs)) (upd (upd H1 dx (.own x)) x (.ins C dx [])) (fun v H2 => v = .non /\ Q (.ref x) H2) E
def Binds (K : PySem.W.Frag) (fd : FuncData) (ps : List Str) (ds : List Value) : Prop :=
  ∀ (s : Shared) (us : List Value), K.In s.heap -> (us ++ ds).length = ps.length -> BindsTo s fd ⟨us, []⟩ (ps.zip (us ++ ds))
theorem Binds.all {K : PySem.W.Frag} {fd : FuncData} {ps : List Str} (h : ∀ us : List Value, us.length = ps.length -> bindArgs fd ⟨us, []⟩ = pure (ps.zip us)) : Binds K fd ps [] := fun s us _ hl => by
  rw [List.append_nil] at hl ⊢
  exact .of_eq (h us hl)
def Passes (CX : CXT) (X : Cx) (E : XK) : Prop := ∀ (pins : List (Addr × Obj)) (σ : St) (H : Hp) (s : Shared) (e : Value) (s' : Shared), Inv X pins σ H s -> CX X.stack H s E e s' -> X.xe e s'
section
variable {X : Cx} {CX : CXT} {k : Nat} {f C : Addr} {fd : FuncData} {ps : List Str} {sp : Sp} {dvs : List V} {ds : List Value} {E : XK} {x m : Str} {p pos apos : Pos} {e o : Expr} {es : List Expr} {ta : TE} {t : TA}
theorem run_fn {pins : List (Addr × Obj)} {σ : St} {H : Hp} {s : Shared} {Q : VK} {us : List Value} {vs : List V} (F : FnOk X.prog X.w X.K X.mg X.base CX k f fd ps sp) (hr : Room k X.A) (hb : Binds X.K fd ps ds) (hd : Vals dvs ds) (hx : Passes CX X E)
    (I : Inv X pins σ H s) (r : Vals vs us) (h : sp (vs ++ dvs) H Q E) : wpAny (model X.prog X.w) X.A (call (.ref f) us) (EP X pins σ Q) X.xe s := by
  have r2 : Vals (vs ++ dvs) (us ++ ds) := r.append hd
  have hl : (us ++ ds).length = ps.length := by rw [<- r2.length]; exact F.len _ _ _ _ h
  refine wpAny_call (codeAny_mono (F.run X.A X.stack s H ⟨us, []⟩ (us ++ ds) (vs ++ dvs) Q E hr I.env0 (hb s us I.kIn hl) r2 h) fun r s' hq => ?_)
  cases r with
  | error e => exact hx pins σ H s e s' I hq
  | ok fl =>
    cases fl with
    | ret u => exact I.after hq
    | next => exact False.elim hq
    | brk => exact False.elim hq
    | cont => exact False.elim hq
theorem pe_call (F : FnOk X.prog X.w X.K X.mg X.base CX k f fd ps sp) (hr : Room k X.A) (hg : Gl X x) (hm : X.mg x = some (.ref f)) (hk : PySem.W.keepIn X.K (.ref f) = true) (hb : Binds X.K fd ps ds) (hd : Vals dvs ds) (hx : Passes CX X E)
    (ha : PA X (e :: es) t) (hdb : (x == ("__debug__" : Str)) = false := by decide) (he : starEach (e :: es) X.env = (false, eval e X.env) :: starEach es X.env := by rfl) (hpl : (backTo pos (starEach es X.env)).any (·.1) = false := by rfl) :
    PE X (.Call (.Name x p) (e :: es) [] pos) (tCall sp dvs E t) := by
  intro pins s σ H Q I h
  refine wpAny_Call_Name_kw (ld_glob I hg hm ?_ hdb)
  refine PySem.W.callWith_K (h₀ := X.base) I.ok.mod.kin hk (thn (ha pos pins s σ H _ I h) fun us s1 ⟨vs, H1, I1, r, q⟩ => ⟨I1.kIn, ?_⟩) he hpl
  exact run_fn F hr hb hd hx I1 r q
theorem pe_meth {pl : Sem Bool} (he : PE X o ta) (c : Cls X.K C) (hm : Meth X.K C m f) (F : FnOk X.prog X.w X.K X.mg X.base CX k f fd ps sp) (hr : Room k X.A) (hb : Binds X.K fd ps ds) (hd : Vals dvs ds) (hx : Passes CX X E) (ha : PA X (e :: es) t)
    (hst : starEach (e :: es) X.env = (false, eval e X.env) :: starEach es X.env := by rfl) (hpl : (backTo pos (starEach es X.env)).any (·.1) = false := by rfl)
    (ht : eval (.Call (.Attribute o m apos) (e :: es) [] pos) X.env = (do
      let ov <- eval o X.env
      standAt apos.atName
      let (f, first) <- holding [ov] (getMethod ov m pl)
      callWith pos f first (backTo pos (starEach (e :: es) X.env)) (backToKw pos (keywordEach [] X.env))) := by rfl) :
    PE X (.Call (.Attribute o m apos) (e :: es) [] pos) (tMeth C m sp dvs E ta t) := by
  intro pins s σ H Q I h
  refine PySem.W.methodCall_KW (pl := pl) (thn (he pins s σ H _ I h) fun u s1 ⟨x, H1, I1, rx, a, dx, fs, ex, ea, l, q⟩ => ?_) ht
  subst ex
  obtain rfl : u = Value.ref a := rx
  refine getmeth_ok I1 ea c hm l ?_
  refine PySem.W.callWith_K (first := [.ref a]) (h₀ := X.base) I.ok.mod.kin hm.kp (thn (ha pos pins s1 σ H1 _ I1 q) fun us s2 ⟨vs, H2, I2, r, q2⟩ => ⟨I2.kIn, ?_⟩) hst hpl
  exact run_fn (us := .ref a :: us) (vs := .ref a :: vs) F hr hb hd hx I2 (.cons rfl r) q2
theorem pe_meth0 {pl : Sem Bool} (he : PE X o ta) (c : Cls X.K C) (hm : Meth X.K C m f) (F : FnOk X.prog X.w X.K X.mg X.base CX k f fd ps sp) (hr : Room k X.A) (hb : Binds X.K fd ps ds) (hd : Vals dvs ds) (hx : Passes CX X E)
    (ht : eval (.Call (.Attribute o m apos) [] [] pos) X.env = (do
      let ov <- eval o X.env
      standAt apos.atName
      let (f, first) <- holding [ov] (getMethod ov m pl)
      callWith pos f first (backTo pos (starEach [] X.env)) (backToKw pos (keywordEach [] X.env))) := by rfl) :
    PE X (.Call (.Attribute o m apos) [] [] pos) (tMeth C m sp dvs E ta tNil) := by
  intro pins s σ H Q I h
  refine PySem.W.methodCall_KW (pl := pl) (thn (he pins s σ H _ I h) fun u s1 ⟨x, H1, I1, rx, a, dx, fs, ex, ea, l, q⟩ => ?_) ht
  subst ex
  obtain rfl : u = Value.ref a := rx
  refine getmeth_ok I1 ea c hm l ?_
  exact PySem.W.callWith_K0 (first := [.ref a]) I1.kIn hm.kp (run_fn (us := [.ref a]) (vs := [.ref a]) F hr hb hd hx I1 (.cons rfl .nil) q)
structure Mk (K : PySem.W.Frag) (C f : Addr) : Prop where
  makes : PySem.W.makesIn K C = true
  init : PySem.W.findIn K (.ref C) "__init__" = some (some (.ref f))
  fn : PySem.W.isFn K (.ref f) = true
  kp : PySem.W.keepIn K (.ref C) = true
theorem run_make {pins : List (Addr × Obj)} {σ : St} {H : Hp} {s : Shared} {Q : VK} {us : List Value} {vs : List V} (M : Mk X.K C f) (F : FnOk X.prog X.w X.K X.mg X.base CX k f fd ps sp) (hr : Room (k + 1) X.A) (hb : Binds X.K fd ps ds) (hd : Vals dvs ds)
    (hx : Passes CX X E) (I : Inv X pins σ H s) (r : Vals vs us)
    (h : ∀ x dx, H x = none -> H dx = none -> dx ≠ x -> sp (.ref x :: (vs ++ dvs)) (upd (upd H dx (.own x)) x (.ins C dx [])) (fun v H2 => v = .non /\ Q (.ref x) H2) E) :
    wpAny (model X.prog X.w) X.A (call (.ref C) us) (EP X pins σ Q) X.xe s := by
  have hq := h (s.heap.objs.size + 1) s.heap.objs.size (I.hok.fresh (Nat.le_succ _)) (I.hok.fresh (Nat.le_refl _)) (Nat.ne_of_lt (Nat.lt_succ_self _))
  have I2 := Inv.made (C := C) I
  have r2 : Vals (V.ref (s.heap.objs.size + 1) :: (vs ++ dvs)) (Value.ref (s.heap.objs.size + 1) :: (us ++ ds)) := .cons rfl (r.append hd)
  have hl : (Value.ref (s.heap.objs.size + 1) :: us ++ ds).length = ps.length := by
    have e := r2.length
    rw [F.len _ _ _ _ hq] at e
    exact e.symm
  refine wpAny_call (make_map (f := f) I.kIn M.makes M.init (beq_iff_eq.mp M.fn) (codeAny_mono (F.run _ X.stack _ _ ⟨Value.ref (s.heap.objs.size + 1) :: us, []⟩ (Value.ref (s.heap.objs.size + 1) :: (us ++ ds)) _ _ E (hr.make C us [])
    (I2.env0.make C us []) (hb _ (Value.ref (s.heap.objs.size + 1) :: us) I2.kIn hl) r2 hq) fun r s' hq' => ?_))
  cases r with
  | error e => exact hx pins σ _ _ e s' I2 hq'
  | ok fl =>
    cases fl with
    | ret u =>
      obtain ⟨v, H', I3, rv, ev, q3⟩ := I2.after hq'
      subst ev
      exact ⟨rv, ⟨V.ref (s.heap.objs.size + 1), H', I3, rfl, q3⟩⟩
    | next => exact False.elim hq'
    | brk => exact False.elim hq'
    | cont => exact False.elim hq'
theorem pe_make (M : Mk X.K C f) (F : FnOk X.prog X.w X.K X.mg X.base CX k f fd ps sp) (hr : Room (k + 1) X.A) (hg : Gl X x) (hm : X.mg x = some (.ref C)) (hb : Binds X.K fd ps ds) (hd : Vals dvs ds) (hx : Passes CX X E)
    (ha : PA X (e :: es) t) (hdb : (x == ("__debug__" : Str)) = false := by decide) (he : starEach (e :: es) X.env = (false, eval e X.env) :: starEach es X.env := by rfl) (hpl : (backTo pos (starEach es X.env)).any (·.1) = false := by rfl) :
    PE X (.Call (.Name x p) (e :: es) [] pos) (tMake C sp dvs E t) := by
  intro pins s σ H Q I h
  refine wpAny_Call_Name_kw (ld_glob I hg hm ?_ hdb)
  refine PySem.W.callWith_K (h₀ := X.base) I.ok.mod.kin M.kp (thn (ha pos pins s σ H _ I h) fun us s1 ⟨vs, H1, I1, r, q⟩ => ⟨I1.kIn, ?_⟩) he hpl
  exact run_make M F hr hb hd hx I1 r q
end
section
variable {X : Cx} {CX : CXT} {k : Nat} {f C : Addr} {fd : FuncData} {ps ks : List Str} {sp : Sp} {E : XK} {x m : Str} {p pos apos kpos : Pos} {e o : Expr} {es : List Expr} {kws : List Keyword} {te ta : TE} {t tk : TA} {nm : Option Str}
structure KBinds (K : PySem.W.Frag) (fd : FuncData) (ps ks : List Str) (g : List Value -> List Value -> List Value) (gV : List V -> List V -> List V) : Prop where
  to : ∀ (s : Shared) (us ws : List Value), K.In s.heap -> (g us ws).length = ps.length -> BindsTo s fd ⟨us, ks.zip ws⟩ (ps.zip (g us ws))
  rel : ∀ {vs : List V} {us : List Value} {zs : List V} {ws : List Value}, Vals vs us -> Vals zs ws -> Vals (gV vs zs) (g us ws)
variable {g : List Value -> List Value -> List Value} {gV : List V -> List V -> List V}
end
structure FnScope (N P : List Str) (sc : Scope) : Prop where
  kind : sc.kind = .function
  co : sc.isCoroutine = false
  gen : sc.isGenerator = false
  nd : N.Nodup
  pre : N.take P.length = P
  par : ∀ x ∈ P, sc.names.lookup x = some .local \/ sc.names.lookup x = some .cell
  nofree : ∀ y ∈ sc.names, y.2 ≠ .free
theorem bindL_out {kindOf : Str -> Option NameKind} {x : Str} : ∀ {binds : List (Str × Value)} {m : Str -> Option Value}, (∀ v, (x, v) ∉ binds) -> bindL kindOf binds m x = m x
  | [], _, _ => rfl
  | (n, v) :: r, m, h => by
    unfold bindL
    rw [bindL_out fun w hw => h w (List.mem_cons_of_mem _ hw)]
    split
    · have : x ≠ n := by rintro rfl; exact h v List.mem_cons_self
      simp [this]
    · rfl
theorem bindC_out {kindOf : Str -> Option NameKind} {x : Str} : ∀ {binds : List (Str × Value)} {m : Str -> Option Value}, (∀ v, (x, v) ∉ binds) -> bindC kindOf binds m x = m x
  | [], _, _ => rfl
  | (n, v) :: r, m, h => by
    unfold bindC
    rw [bindC_out fun w hw => h w (List.mem_cons_of_mem _ hw)]
    split
    · rfl
    · have : x ≠ n := by rintro rfl; exact h v List.mem_cons_self
      simp [this]
theorem bindL_get {kindOf : Str -> Option NameKind} {x : Str} {v : Value} : ∀ {P : List Str} {vs : List Value} {i : Nat} {m : Str -> Option Value}, P.Nodup -> P[i]? = some x -> vs[i]? = some v -> kindOf x = some .local ->
    bindL kindOf (P.zip vs) m x = some v
  | [], _, _, _, _, h, _, _ => by simp at h
  | _ :: _, [], _, _, _, _, h, _ => by simp at h
  | p :: P, w :: vs, 0, m, nd, h1, h2, hk => by
    simp at h1 h2; subst h1; subst h2
    show bindL kindOf ((p, w) :: P.zip vs) m p = _
    unfold bindL
    rw [bindL_out fun v hv => (List.nodup_cons.mp nd).1 (List.of_mem_zip hv).1, if_pos hk]
    simp
  | p :: P, w :: vs, i + 1, m, nd, h1, h2, hk => by
    show bindL kindOf ((p, w) :: P.zip vs) m x = _
    unfold bindL
    exact bindL_get (i := i) (List.nodup_cons.mp nd).2 (by simpa using h1) (by simpa using h2) hk
theorem bindC_get {kindOf : Str -> Option NameKind} {x : Str} {v : Value} : ∀ {P : List Str} {vs : List Value} {i : Nat} {m : Str -> Option Value}, P.Nodup -> P[i]? = some x -> vs[i]? = some v -> kindOf x ≠ some .local ->
    bindC kindOf (P.zip vs) m x = some v
  | [], _, _, _, _, h, _, _ => by simp at h
  | _ :: _, [], _, _, _, _, h, _ => by simp at h
  | p :: P, w :: vs, 0, m, nd, h1, h2, hk => by
    simp at h1 h2; subst h1; subst h2
    show bindC kindOf ((p, w) :: P.zip vs) m p = _
    unfold bindC
    rw [bindC_out fun v hv => (List.nodup_cons.mp nd).1 (List.of_mem_zip hv).1, if_neg hk]
    simp
  | p :: P, w :: vs, i + 1, m, nd, h1, h2, hk => by
    show bindC kindOf ((p, w) :: P.zip vs) m x = _
    unfold bindC
    exact bindC_get (i := i) (List.nodup_cons.mp nd).2 (by simpa using h1) (by simpa using h2) hk
def start (N : List Str) (vs : List V) : St := vs.map some ++ List.replicate (N.length - vs.length) none
def cxOf (CX : CXT) (P : Program) (w : World) (K : PySem.W.Frag) (mg : Str -> Option Value) (base : Heap) (N : List Str) (qual : Str) (scope : Scope) (f : Addr) (cd : Value) (A : Around) (outer : List Env) (s : Shared) (H : Hp) (E : XK) : Cx where
  prog := P
  w := w
  K := K
  mg := mg
  base := base
  A := A.deeper (envOfC qual scope s.heap.objs.size f cd)
  N := N
  s₀ := s
  H₀ := H
  env := envOfC qual scope s.heap.objs.size f cd
  outer := outer
  stack := envOfC qual scope s.heap.objs.size f cd :: outer
  ex := []
  calm := true
  fn := fun _ => true
  pn := []
  xe := fun e s' => wpAny (model P w) (A.deeper (envOfC qual scope s.heap.objs.size f cd)) (leaving (envOfC qual scope s.heap.objs.size f cd) e) (fun _ s'' => CX outer H s E e s'') (fun e' s'' => CX outer H s E e' s'') s'
theorem cell_has {sc : Scope} {n : Nat} {x : Str} (h : sc.names.lookup x = some .cell) : ∃ c, (cellsFrom n sc.names []).lookup x = some c := by
  have q := PySem.W.cellsFrom_some sc.names n [] (.inl h)
  exact Option.isSome_iff_exists.mp q
theorem inv_start {CX : CXT} {P : Program} {w : World} {K : PySem.W.Frag} {mg : Str -> Option Value} {base : Heap} {N ps : List Str} {qual : Str} {scope : Scope} {f : Addr} {cd : Value} {A : Around} {outer : List Env} {s s1 : Shared} {H : Hp} {E : XK} {us : List Value} {vs : List V}
    (S : FnScope N ps scope) (hd : A.handled = none) (e0 : Env0 P w K mg base A outer s H) (hl : vs.length = ps.length) (r : Vals vs us)
    (x : InCallC s s.heap.objs.size (bindL (envOfC qual scope s.heap.objs.size f cd).kindOf (ps.zip us) fun _ => none) (cellsFrom (s.heap.objs.size + 1) scope.names []) (bindC (envOfC qual scope s.heap.objs.size f cd).kindOf (ps.zip us) fun _ => none) s1) :
    Inv (cxOf CX P w K mg base N qual scope f cd A outer s H E) [] (start N vs) H s1 := by
  have hpl : ps.length <= N.length := by have := congrArg List.length S.pre; rw [List.length_take] at this; omega
  obtain ⟨h1, tk, rfl, hk⟩ := x.done
  have noA : ∀ b : Addr, b ∉ (cxOf CX P w K mg base N qual scope f cd A outer s H E).ex := fun b z => absurd (show b ∈ ([] : List Addr) from z) (by simp)
  refine ⟨⟨e0.mod, S.kind, rfl, rfl, Nat.le_refl _, fun y z c h1 h2 => ?_, fun y hy => ?_, fun y c _ h => ?_, fun _ => hd, Around.frames_deeper e0.frames, .inr ⟨rfl, rfl⟩, fun b z => absurd z (noA b), e0.bs, e0.bsz, fun b _ _ => noA b, fun b z => absurd z (noA b), e0.funs, e0.frf⟩,
    rfl, e0.bare, Un.kept hk, ⟨_, x.toInCall.ns, fun i y v h1 h2 h3 => ?_⟩, fun y c h => ⟨_, x.cell y c h⟩, e0.hok.fresh (Nat.le_refl _), fun y c h => ?_, fun p hp => absurd (show p ∈ ([] : List (Addr × Obj)) from hp) (by simp), e0.hok.kept hk, ?_⟩
  · exact name_of_addr x.apart (PySem.mem_of_lookup h1) (PySem.mem_of_lookup h2)
  · have hy : scope.names.lookup y = some .cell \/ scope.names.lookup y = some .free := hy
    rcases hy with hy | hy
    · exact cell_has hy
    · exact absurd rfl (S.nofree _ (PySem.mem_of_lookup hy))
  · exact Nat.le_of_lt (x.above y c (PySem.mem_of_lookup h))
  · have hi : i < vs.length := by
      unfold start at h2
      by_cases hi : i < vs.length
      · exact hi
      · rw [List.getElem?_append_right (by simpa using hi)] at h2
        rw [List.getElem?_replicate] at h2
        split at h2 <;> cases h2
    have ha : vs[i]? = some v := by
      unfold start at h2
      rw [List.getElem?_append_left (by simpa using hi), List.getElem?_map] at h2
      cases e : vs[i]? with
      | none => rw [e] at h2; cases h2
      | some a => rw [e] at h2; cases h2; rfl
    obtain ⟨u, hu, rv⟩ := r.get ha
    have hp : ps[i]? = some y := by
      rw [<- S.pre, List.getElem?_take_of_lt (by omega)]; exact h1
    have ndP : ps.Nodup := by rw [<- S.pre]; exact S.nd.sublist (List.take_sublist _ _)
    refine ⟨u, rv, ?_⟩
    rcases S.par y (List.mem_of_getElem? hp) with k | k
    · exact .inl ⟨k, bindL_get ndP hp hu k⟩
    · obtain ⟨c, e⟩ := cell_has (n := s.heap.objs.size + 1) k
      refine .inr ⟨.inl k, c, e, ?_⟩
      have q := x.cell y c e
      rw [bindC_get ndP hp hu (by show scope.names.lookup y ≠ _; rw [k]; decide)] at q
      exact q
  · exact e0.hok.fresh (Nat.le_of_lt (x.above y c (PySem.mem_of_lookup h)))
  · unfold start
    show _ = N.length
    rw [List.length_append, List.length_map, List.length_replicate]
    omega
theorem fn_of {CX : CXT} {P : Program} {w : World} {K : PySem.W.Frag} {mg : Str -> Option Value} {base : Heap} {k : Nat} {f : Addr} {name qual : Str} {params : Arguments} {body : List Stmt} {scope : Scope} {dV kV doc pm cdv ct oc : Value} {an od : Option Addr}
    {osl : Array (Option Value)} {N ps : List Str} {sp : Sp} (lk : K.lookup f = some ⟨oc, od, .func (PySem.W.fnOf name qual params body scope dV kV doc pm an cdv ct), osl⟩) (hcd : PySem.W.codeIn K cdv qual = true) (S : FnScope N ps scope)
    (len : ∀ vs H Q E, sp vs H Q E -> vs.length = ps.length)
    (hbody : ∀ (A : Around) (outer : List Env) (s : Shared) (H : Hp) (vs : List V) (Q : VK) (E : XK), Room k (A.deeper (envOfC qual scope s.heap.objs.size f cdv)) -> sp vs H Q E ->
      ∃ t, PSs (cxOf CX P w K mg base N qual scope f cdv A outer s H E) body t /\ t { nx := fun _ H' => Q .non H', rt := Q } (start N vs) H) :
    FnOk P w K mg base CX (k + 1) f (PySem.W.fnOf name qual params body scope dV kV doc pm an cdv ct) ps sp := by
  refine ⟨len, fun A outer s H args us vs Q E hr e0 hb r hsp => ?_⟩
  have hl := len _ _ _ _ hsp
  have KX : K.In s.heap := e0.mod.kin.keeps fun b o e => (e0.bs b o e).1
  have lim : s.heap.NoLimit := e0.mod.nolimit.keeps fun b o e => (e0.bs b o e).1
  have hkind : ∀ y ∈ ps.zip us, scope.names.lookup y.1 = some .local \/ (scope.names.lookup y.1 = some .cell /\ ((cellsFrom (s.heap.objs.size + 1) scope.names []).lookup y.1).isSome = true) := fun ⟨n, v⟩ hy => by
    rcases S.par n (List.of_mem_zip hy).1 with q | q
    · exact .inl q
    · exact .inr ⟨q, PySem.W.cellsFrom_some _ _ _ (.inl q)⟩
  refine codeAny_call_function hr.depth (KX _ _ lk) rfl S.co S.gen rfl (PySem.W.codeRec_of KX hcd) (hb _ _ _ _ ?_)
  refine wpAny_newFunctionEnv_cells S.kind hkind fun env he s1 x => ?_
  subst he
  refine ⟨lim.keeps x.toInCall.keep, codeAny_func ?_⟩
  obtain ⟨t, ht, hq⟩ := hbody A outer s H vs Q E (hr.deeper _) hsp
  have I : Inv (cxOf CX P w K mg base N qual scope f cdv A outer s H E) [] (start N vs) H s1 := inv_start S hr.hd e0 hl r x
  refine wpAny_mono (ht [] s1 (start N vs) H _ I hq) (fun fl s' hs => ?_) fun e s' hs => hs
  have fin : ∀ {σ' : St} {H' : Hp} {v : V} {u : Value}, Inv (cxOf CX P w K mg base N qual scope f cdv A outer s H E) [] σ' H' s' -> RelV v u -> Q v H' -> CE outer P w H s Q u s' :=
    fun {σ' H' v u} J rv q => ⟨v, H', J.os, J.bare, J.base, J.hok, rv, q⟩
  cases fl with
  | ret u =>
    obtain ⟨v, σ', H', J, rv, q⟩ := hs
    exact fin J rv q
  | next =>
    obtain ⟨σ', H', J, q⟩ := hs
    exact fin (v := V.non) (u := Value.none) J rfl q
  | brk =>
    obtain ⟨_, _, _, q⟩ := hs
    exact False.elim q
  | cont =>
    obtain ⟨_, _, _, q⟩ := hs
    exact False.elim q
end L2
namespace L2
open PySem PySem.Spec PyProof.Rows
section
variable {X : Cx} {x : Str} {p pos : Pos} {e : Expr} {es : List Expr} {t : TA} {id T : String} {r : List V -> Hp -> VK -> Prop}
def tCB (r : List V -> Hp -> VK -> Prop) (t : TA) : TE := fun σ H Q => t σ H fun vs H1 => r vs H1 Q
theorem pe_callB (hc : CallR X (.builtin id) r) (hg : Gl X x) (hm : X.mg x = none) (hv : bootBuiltins x = some (.builtin id)) (ha : PA X (e :: es) t) (hn : x ≠ "__name__" := by decide) (hdb : (x == ("__debug__" : Str)) = false := by decide)
    (he : starEach (e :: es) X.env = (false, eval e X.env) :: starEach es X.env := by rfl) (hpl : (backTo pos (starEach es X.env)).any (·.1) = false := by rfl) : PE X (.Call (.Name x p) (e :: es) [] pos) (tCB r t) := by
  intro pins s σ H Q I h
  refine wpAny_Call_Name_kw (ld_blt I hg hm hv ?_ hn hdb)
  exact PyProof.Rows.callWith_builtin1 (thn (ha pos pins s σ H _ I h) fun us s1 ⟨vs, H1, I1, r1, q1⟩ => hc pins s1 σ H1 vs us Q I1 r1 q1) he hpl
theorem pe_callTy (hc : CallR X (.type T) r) (hg : Gl X x) (hm : X.mg x = none) (hv : bootBuiltins x = some (.type T)) (ha : PA X (e :: es) t) (hn : x ≠ "__name__" := by decide) (hdb : (x == ("__debug__" : Str)) = false := by decide)
    (he : starEach (e :: es) X.env = (false, eval e X.env) :: starEach es X.env := by rfl) (hpl : (backTo pos (starEach es X.env)).any (·.1) = false := by rfl) : PE X (.Call (.Name x p) (e :: es) [] pos) (tCB r t) := by
  intro pins s σ H Q I h
  refine wpAny_Call_Name_kw (ld_blt I hg hm hv ?_ hn hdb)
  exact PyProof.Rows.callWith_type1 (thn (ha pos pins s σ H _ I h) fun us s1 ⟨vs, H1, I1, r1, q1⟩ => hc pins s1 σ H1 vs us Q I1 r1 q1) he hpl
end
end L2
namespace HT
open PySem PyProof.Rows
section
open PySem.SeqAt
open PySem.AutoSeq1 (wpAny_loadPart')
open PySem.MeetsSeq PySem.MeetsSeq2 PySem.MeetsSeq3
end
section
variable {prog : Program} {w : World} {A : Around} {E : Value -> Shared -> Prop} {s : Shared}
theorem cat_tup {t b : Addr} {vs ws : List Value} {Q : Value -> Shared -> Prop} (ht : IsTup s.heap t vs.toArray) (hb : IsTup s.heap b ws.toArray) (hv : vs ≠ [])
    (h1 : ws = [] -> Q (.ref t) s) (h2 : ws ≠ [] -> Q (.ref s.heap.objs.size) { s with heap := s.heap.push { cls := .type "tuple", data := .seq (vs ++ ws).toArray } })
    (hsz : vs.length + ws.length <= sizeLine) : wpAny (model prog w) A (binaryOp .Add (.ref t) (.ref b)) Q E s := by
  obtain ⟨⟨cls, dd, data, sl⟩, ho, hc, n, hd⟩ := id ht
  obtain ⟨⟨cls2, dd2, data2, sl2⟩, ho2, hc2, n2, hd2⟩ := id hb
  simp only at hc hd hc2 hd2
  subst hc hd hc2 hd2
  have e : vs.toArray ++ ws.toArray = (vs ++ ws).toArray := by simp
  by_cases hw : ws = []
  · exact concat_meets ⟨_, ho, rfl⟩ ⟨_, ho2, rfl⟩ noFill_tuple_add seq_tuple_add PySem.F.slot_tuple_add PySem.F.entry_tuple_add (PySem.F.args_tuple_add_2 _ _)
      (tuple_addW1 t b vs.toArray ws.toArray n n2 dd dd2 sl sl2 (by simpa using hv) (by simp [hw])) ⟨ho, ho2, h1 hw⟩
  · refine concat_meets ⟨_, ho, rfl⟩ ⟨_, ho2, rfl⟩ noFill_tuple_add seq_tuple_add PySem.F.slot_tuple_add PySem.F.entry_tuple_add (PySem.F.args_tuple_add_2 _ _)
      (tuple_addW2 t b vs.toArray ws.toArray n n2 dd dd2 sl sl2 (by simpa using hv) (by simpa using hw) (by rw [List.size_toArray, List.size_toArray]; exact hsz)) ⟨ho, ho2, ?_⟩
    rw [e]
    exact h2 hw
def sIx (n d : Nat) : Option Int -> Nat
  | none => d
  | some v => if v < 0 then (v + (n : Int)).toNat else min v.toNat n
theorem sIx_le (n d : Nat) (hd : d <= n) (o : Option Int) : sIx n d o <= n := by
  cases o with
  | none => exact hd
  | some v =>
    show (if v < 0 then (v + (n : Int)).toNat else min v.toNat n) <= n
    by_cases hv : v < 0
    · rw [if_pos hv]; omega
    · rw [if_neg hv]; exact Nat.min_le_right _ _
theorem clip_eq (v : Int) (n d : Nat) : (if v < 0 then max (v + (n : Int)) 0 else min v (n : Int)) = ((sIx n d (some v) : Nat) : Int) := by
  show (if v < 0 then max (v + (n : Int)) 0 else min v (n : Int)) = (((if v < 0 then (v + (n : Int)).toNat else min v.toNat n) : Nat) : Int)
  by_cases hv : v < 0
  · simp only [if_pos hv]; omega
  · simp only [if_neg hv]; omega
theorem adjust_gen (lo hi : Option Int) (n : Nat) : Builtin.Slice.sliceAdjust lo hi 1 (n : Int) = (((sIx n 0 lo : Nat) : Int), ((sIx n n hi : Nat) : Int)) := by
  have h1 : ¬ ((1 : Int) < 0) := by omega
  unfold Builtin.Slice.sliceAdjust
  simp only [h1, if_false]
  refine Prod.ext ?_ ?_
  · cases lo with
    | none => rfl
    | some v => exact clip_eq v n 0
  · cases hi with
    | none => rfl
    | some v => exact clip_eq v n n
theorem places_gen (i j : Nat) : Builtin.Slice.slicePlaces (i : Int) (j : Int) 1 = j - i := by
  unfold Builtin.Slice.slicePlaces
  have h1 : (1 : Int) > 0 := by omega
  simp only [h1, if_true, Int.ediv_one]
  split <;> omega
theorem slicePart_ {v : Value} {o : Option Int} {Q : Option Int -> Shared -> Prop} (p : IsPart v o) (h : Q o s) : wpAny (model prog w) A (Builtin.Slice.slicePartIndex v) Q E s := by
  cases p with
  | none => exact slicePart_none h
  | int i t => exact slicePart_int h
theorem sliceApplied_gen {sl : Addr} {vl vu : Value} {lo hi : Option Int} {n : Nat} {Q : Int × Int × Nat -> Shared -> Prop} (hs : s.heap.IsSliceOf sl vl vu .none) (pl : IsPart vl lo) (pu : IsPart vu hi)
    (h : Q (((sIx n 0 lo : Nat) : Int), 1, sIx n n hi - sIx n 0 lo) s) : wpAny (model prog w) A (Builtin.Slice.sliceApplied (.ref sl) (pure (n : Int))) Q E s := by
  obtain ⟨os, hos, hcs, hds⟩ := id hs
  unfold Builtin.Slice.sliceApplied Builtin.Slice.sliceFields
  refine wpAny_bind (wpAny_bind (wpAny_field hos hds (x := vl) rfl (wpAny_bind (wpAny_field hos hds (x := vu) rfl (wpAny_bind (wpAny_field hos hds (x := .none) rfl (wpAny_pure ?_)))))))
  refine wpAny_bind (slicePart_none ?_)
  show wpAny _ _ (if ((1 : Int) == 0) = true then _ else _) _ _ s
  rw [if_neg (by decide)]
  refine wpAny_bind (slicePart_ pl (wpAny_bind (slicePart_ pu (wpAny_bind (wpAny_pure ?_)))))
  show wpAny _ _ (match Builtin.Slice.sliceAdjust lo hi 1 (n : Int) with | (lo, hi) => pure (lo, (1 : Int), Builtin.Slice.slicePlaces lo hi 1)) _ _ s
  rw [adjust_gen lo hi n]
  show wpAny _ _ (pure (((sIx n 0 lo : Nat) : Int), (1 : Int), Builtin.Slice.slicePlaces ((sIx n 0 lo : Nat) : Int) ((sIx n n hi : Nat) : Int) 1)) _ _ s
  rw [places_gen]
  exact wpAny_pure h
theorem pick_gen (xs : Array Value) (i k : Nat) : ((List.range k).filterMap fun (m : Nat) => xs[((i : Int) + (m : Int) * 1).toNat]?).toArray = ((xs.toList.drop i).take k).toArray := by
  have e : (fun (m : Nat) => xs[((i : Int) + (m : Int) * 1).toNat]?) = fun m => xs[i + m]? := by
    funext m
    have : ((i : Int) + (m : Int) * 1).toNat = i + m := by omega
    rw [this]
  rw [e]
  have := pick_run xs i k
  rw [List.filterMap_map] at this
  have e2 : ((fun x => xs[x]?) ∘ fun x => i + x) = fun m => xs[i + m]? := rfl
  rw [e2] at this
  rw [this]
theorem getItem_tuple_cut {t sl : Addr} {items : Array Value} {vl vu : Value} {lo hi : Option Int} {Q : Value -> Shared -> Prop} (ht : IsTup s.heap t items) (hs : s.heap.IsSliceOf sl vl vu .none) (pl : IsPart vl lo) (pu : IsPart vu hi)
    (hw : ¬ (sIx items.size 0 lo = 0 /\ sIx items.size items.size hi = items.size))
    (h : Q (.ref s.heap.objs.size) { s with heap := s.heap.push { cls := .type "tuple", data := .seq ((items.toList.drop (sIx items.size 0 lo)).take (sIx items.size items.size hi - sIx items.size 0 lo)).toArray } })
    (hsz : items.size <= sizeLine) : wpAny (model prog w) A (getItem (.ref t) (.ref sl)) Q E s := by
  have htake : sizeOk (.seq ((items.toList.drop (sIx items.size 0 lo)).take (sIx items.size items.size hi - sIx items.size 0 lo)).toArray) := by
    show ((items.toList.drop (sIx items.size 0 lo)).take (sIx items.size items.size hi - sIx items.size 0 lo)).toArray.size <= sizeLine
    rw [List.size_toArray, List.length_take, List.length_drop, Array.length_toList]
    omega
  have hj : sIx items.size items.size hi <= items.size := sIx_le _ _ (Nat.le_refl _) hi
  obtain ⟨os, hos, hcs, hds⟩ := id hs
  have hTs : s.TypeIs (.ref sl) "slice" := ⟨os, hos, hcs⟩
  unfold getItem
  try with_reducible refine wpAny_holding ?_
  first | refine wpAny_bind (wpAny_pure ?_) | skip
  refine wpAny_bind (wpAny_sequenceKey ht.typeIs (by decide) ?_)
  refine wpAny_bind (wpAny_callSpecial?_slot (name := Str.ofString "__getitem__") ht.typeIs PyProof.Rows.slot_tuple_getitem
    (wpAny_call_entry PyProof.Rows.slot_tuple_getitem ht.typeIs entry_tuple_getitem ?_ (args_tuple_getitem _ _)))
  show wpAny _ _ (Builtin.Tuple.tupleItemsOf (.ref t) >>= _) _ _ s
  refine wpAny_bind (tupleItemsOf_ ht ?_)
  refine wpAny_bind (wpAny_typeOf hTs ?_)
  rw [if_pos (by decide)]
  refine wpAny_bind (sliceApplied_gen hs pl pu ?_)
  have hno : ¬ ((((sIx items.size 0 lo : Nat) : Int) == 0 && (1 : Int) == 1 && (sIx items.size items.size hi - sIx items.size 0 lo) == items.size) = true) := by
    intro q
    rw [Bool.and_eq_true, Bool.and_eq_true] at q
    have q1 : ((sIx items.size 0 lo : Nat) : Int) = 0 := eq_of_beq q.1.1
    have q2 : sIx items.size items.size hi - sIx items.size 0 lo = items.size := eq_of_beq q.2
    exact hw ⟨by omega, by omega⟩
  show wpAny _ _ (if (((sIx items.size 0 lo : Nat) : Int) == 0 && (1 : Int) == 1 && (sIx items.size items.size hi - sIx items.size 0 lo) == items.size) = true then _ else _) _ _ s
  rw [if_neg hno, pick_gen]
  first
    | exact wpAny_bind (m := Builtin.Tuple.tupleExact _) (wpAny_newObj_type (wpAny_pure ⟨_, rfl, wpAny_pure h⟩) htake)
    | exact wpAny_bind (m := Builtin.Tuple.tupleExact _) (wpAny_newObj_type (wpAny_bind (wpAny_pure (wpAny_pure ⟨_, rfl, wpAny_pure h⟩))) htake)
    | exact wpAny_bind (wpAny_bind (m := Builtin.Tuple.tupleExact _) (wpAny_newObj_type (wpAny_pure (wpAny_pure ⟨_, rfl, wpAny_pure h⟩)) htake))
    | exact wpAny_bind (wpAny_bind (m := Builtin.Tuple.tupleExact _) (wpAny_newObj_type (wpAny_pure ⟨_, rfl, wpAny_pure h⟩) htake))
end
end HT
namespace L2
open PySem PySem.Spec PyProof.Rows
abbrev TO := St -> Hp -> (Option Int -> Hp -> Prop) -> Prop
def PO (X : Cx) (e : Option Expr) (t : TO) : Prop :=
  ∀ (pins : List (Addr × Obj)) (s : Shared) (σ : St) (H : Hp) (Q : Option Int -> Hp -> Prop), Inv X pins σ H s -> t σ H Q ->
    wpAny (model X.prog X.w) X.A (evalPart e X.env) (fun u s' => ∃ o H', Inv X pins σ H' s' /\ IsPart u o /\ Q o H') X.xe s
def tNoPart : TO := fun _ H Q => Q none H
def tPart (t : TE) : TO := fun σ H Q => t σ H fun x H1 => ∃ i, x = .int i /\ Q (some i) H1
section
variable {X : Cx} {e : Expr} {te : TE} {lo hi : Option Expr} {tl th : TO} {pos p2 : Pos}
theorem po_none : PO X none tNoPart := by
  intro pins s σ H Q I h
  rw [evalPart_none]
  exact wpAny_pure ⟨none, H, I, .none, h⟩
theorem po_some (h : PE X e te) : PO X (some e) (tPart te) := by
  intro pins s σ H Q I hw
  rw [evalPart_some]
  refine thn (h pins s σ H _ I hw) fun u s1 ⟨x, H1, I1, r1, q1⟩ => ?_
  obtain ⟨i, rfl, q⟩ := q1
  obtain ⟨t, rfl⟩ := r1
  exact ⟨some i, H1, I1, .int i t, q⟩
def SlR (X : Cx) (r : V -> Option Int -> Option Int -> Hp -> VK -> Prop) : Prop :=
  ∀ (pins : List (Addr × Obj)) (s : Shared) (σ : St) (H : Hp) (x : V) (v vl vu : Value) (lo hi : Option Int) (sl : Addr) (Q : VK), Inv X pins σ H s -> RelV x v -> s.heap.IsSliceOf sl vl vu .none -> IsPart vl lo -> IsPart vu hi -> r x lo hi H Q ->
    ∃ T id, typeLookup (.type T) "__getitem__" = pure (some (.builtin id)) /\ s.TypeIs v T /\ wpAny (model X.prog X.w) X.A (getItem v (.ref sl)) (EP X pins σ Q) X.xe s
theorem SlR.or {r r' : V -> Option Int -> Option Int -> Hp -> VK -> Prop} (h : SlR X r) (h' : SlR X r') : SlR X (fun x lo hi H Q => r x lo hi H Q \/ r' x lo hi H Q) := by
  intro pins s σ H x v vl vu lo hi sl Q I rx hs pl pu q
  rcases q with q | q
  · exact h pins s σ H x v vl vu lo hi sl Q I rx hs pl pu q
  · exact h' pins s σ H x v vl vu lo hi sl Q I rx hs pl pu q
def tSl (r : V -> Option Int -> Option Int -> Hp -> VK -> Prop) (te : TE) (tl th : TO) : TE := fun σ H Q => te σ H fun x H1 => tl σ H1 fun l H2 => th σ H2 fun u H3 => r x l u H3 Q
theorem pe_slice {r : V -> Option Int -> Option Int -> Hp -> VK -> Prop} (hr : SlR X r) (he : PE X e te) (hl : PO X lo tl) (hu : PO X hi th) : PE X (.Subscript e (.Slice lo hi none p2) pos) (tSl r te tl th) := by
  intro pins s σ H Q I h
  refine Subscript_ (thn (he pins s σ H _ I h) fun v s1 ⟨x, H1, I1, r1, q1⟩ => ?_)
  refine wpAny_Slice (thn (hl pins s1 σ H1 _ I1 q1) fun vl s2 ⟨l, H2, I2, pl, q2⟩ => thn (hu pins s2 σ H2 _ I2 q2) fun vu s3 ⟨u, H3, I3, pu, q3⟩ => ?_)
  rw [evalPart_none]
  refine wpAny_pure ?_
  have I4 : Inv X pins σ H3 { s3 with heap := s3.heap.push { cls := .type "slice", data := .fields #[vl, vu, .none] } } := I3.kept (t' := s3.toks) fun b ob q => Heap.get?_push_of_some _ q
  obtain ⟨T, id, hT, ht, hg⟩ := hr pins { s3 with heap := s3.heap.push { cls := .type "slice", data := .fields #[vl, vu, .none] } } σ H3 x v vl vu l u s3.heap.objs.size Q I4 r1 (Heap.IsSliceOf.new ..) pl pu q3
  show wpAny (model X.prog X.w) X.A (subscriptTail e (.Slice lo hi none p2) v (.ref s3.heap.objs.size)) (EP X pins σ Q) X.xe { s3 with heap := s3.heap.push { cls := .type "slice", data := .fields #[vl, vu, .none] } }
  exact tail_any (ops := [.ref s3.heap.objs.size, v]) ht hT hg (by with_unfolding_all rfl)
def cutV (xs : List V) (lo hi : Option Int) : List V := (xs.drop (HT.sIx xs.length 0 lo)).take (HT.sIx xs.length xs.length hi - HT.sIx xs.length 0 lo)
theorem cutV_length (xs : List V) (lo hi : Option Int) : (cutV xs lo hi).length <= xs.length := by
  unfold cutV
  rw [List.length_take, List.length_drop]
  omega
def rSlT (K : PySem.W.Frag) : V -> Option Int -> Option Int -> Hp -> VK -> Prop := fun x lo hi H Q => ∃ a xs, x = .ref a /\ SqT K H a xs /\
  ¬ (HT.sIx xs.length 0 lo = 0 /\ HT.sIx xs.length xs.length hi = xs.length) /\ ∀ p, H p = none -> Q (.ref p) (upd H p (.tup (cutV xs lo hi)))
theorem sl_tup : SlR X (rSlT X.K) := by
  intro pins s σ H x v vl vu lo hi sl Q I rx hs pl pu h
  obtain ⟨a, xs, rfl, hx, hw, q⟩ := h
  cases rx
  obtain ⟨its, r, ht, hz⟩ := I.tuple hx
  have hlen : its.toArray.size = xs.length := by rw [List.size_toArray]; exact r.length.symm
  refine ⟨"tuple", _, PyProof.Rows.slot_tuple_getitem.lookup, ht.typeIs, ?_⟩
  refine HT.getItem_tuple_cut ht hs pl pu (by rw [hlen]; exact hw) ?_ (by rw [hlen]; exact hz)
  rw [hlen]
  refine ⟨.ref s.heap.objs.size, _, I.laid (t' := s.toks) (o := .tup (cutV xs lo hi)) (fun b ob q => Heap.get?_push_of_some _ q) (Nat.le_refl _) ?_, rfl, q _ (I.hok.fresh (Nat.le_refl _))⟩
  exact ⟨Nat.le_trans (cutV_length xs lo hi) hz, _, (r.drop (HT.sIx xs.length 0 lo)).take (HT.sIx xs.length xs.length hi - HT.sIx xs.length 0 lo), IsTup.new _ _⟩
def rCatT (K : PySem.W.Frag) : R2 := fun x y H Q => ∃ a b xs ys, x = .ref a /\ y = .ref b /\ SqT K H a xs /\ SqT K H b ys /\ xs ≠ [] /\ xs.length + ys.length <= sizeLine /\
  (ys = [] -> Q (.ref a) H) /\ (ys ≠ [] -> ∀ p, H p = none -> Q (.ref p) (upd H p (.tup (xs ++ ys))))
theorem Vals.nil_iff {xs : List V} {us : List Value} (r : Vals xs us) : us = [] ↔ xs = [] := by
  cases r with
  | nil => simp
  | cons _ _ => simp
theorem op_catT : OpR X (binaryOp .Add) (rCatT X.K) := by
  intro pins s σ H x y v u Q I rx ry h
  obtain ⟨a, b, xs, ys, rfl, rfl, ha, hb, hx, hz, q1, q2⟩ := h
  cases rx
  cases ry
  obtain ⟨its, r1, p1, _⟩ := I.tuple ha
  obtain ⟨its2, r2, p2, _⟩ := I.tuple hb
  refine HT.cat_tup p1 p2 (fun z => hx (r1.nil_iff.mp z)) (fun z => ⟨.ref a, H, I, rfl, q1 (r2.nil_iff.mp z)⟩) (fun z => ?_) (by rw [<- r1.length, <- r2.length]; exact hz)
  refine ⟨.ref s.heap.objs.size, _, I.laid (t' := s.toks) (o := .tup (xs ++ ys)) (fun b ob q => Heap.get?_push_of_some _ q) (Nat.le_refl _) ?_, rfl, q2 (fun w => z (r2.nil_iff.mpr w)) _ (I.hok.fresh (Nat.le_refl _))⟩
  exact ⟨by rw [List.length_append]; exact hz, _, r1.append r2, IsTup.new _ _⟩
end
end L2
namespace L2
open PySem PySem.Spec PyProof.Rows
def ixN (n : Nat) (i : Int) : Option Nat := if 0 <= i then (if i < n then some i.toNat else none) else if -(n : Int) <= i then some (i + n).toNat else none
def atI {α : Type} (xs : List α) (i : Int) : Option α := (ixN xs.length i).bind fun j => xs[j]?
theorem ixN_seq {n : Nat} {i : Int} {j : Nat} (h : ixN n i = some j) : seqIndex? i n = some j /\ j < n /\ -(n : Int) <= i /\ i < n := by
  unfold ixN at h
  by_cases h0 : 0 <= i
  · rw [if_pos h0] at h
    by_cases h1 : i < n
    · rw [if_pos h1] at h
      have e : i.toNat = j := Option.some.inj h
      exact ⟨by rw [seqIndex_of h0 h1, e], by omega, by omega, h1⟩
    · rw [if_neg h1] at h; cases h
  · rw [if_neg h0] at h
    by_cases h1 : -(n : Int) <= i
    · rw [if_pos h1] at h
      have e : (i + n).toNat = j := Option.some.inj h
      exact ⟨by rw [seqIndex_neg (by omega) h1, e], by omega, h1, by omega⟩
    · rw [if_neg h1] at h; cases h
theorem atI_get {α : Type} {xs : List α} {i : Int} {v : α} (h : atI xs i = some v) : ∃ j, seqIndex? i xs.length = some j /\ xs[j]? = some v /\ j < xs.length /\ -(xs.length : Int) <= i /\ i < xs.length := by
  unfold atI at h
  cases e : ixN xs.length i with
  | none => rw [e] at h; cases h
  | some j =>
    rw [e] at h
    obtain ⟨h1, h2, h3, h4⟩ := ixN_seq e
    exact ⟨j, h1, h, h2, h3, h4⟩
theorem atI_nat {α : Type} {xs : List α} {j : Nat} {v : α} (h : xs[j]? = some v) : atI xs (j : Int) = some v := by
  have hj : j < xs.length := (List.getElem?_eq_some_iff.mp h).1
  have e : ixN xs.length (j : Int) = some j := by
    unfold ixN
    rw [if_pos (by omega), if_pos (by omega)]; simp
  unfold atI; rw [e]; exact h
theorem atI_last {α : Type} (xs : List α) (v : α) : atI (xs ++ [v]) (-1) = some v := by
  have hl : (xs ++ [v]).length = xs.length + 1 := by simp
  have e : ixN (xs ++ [v]).length (-1) = some xs.length := by
    unfold ixN
    rw [hl, if_neg (by decide), if_pos (by omega)]
    congr 1
    omega
  unfold atI
  rw [e]
  show (xs ++ [v])[xs.length]? = some v
  simp
def PlainIx (b : Expr) : Prop := ∀ o i, subscripted b false o i = operate [o, i] (getItem o i)
def IxR (X : Cx) (r : R2) : Prop :=
  ∀ (value slice : Expr) (pins : List (Addr × Obj)) (s : Shared) (σ : St) (H : Hp) (x y : V) (v u : Value) (Q : VK), Inv X pins σ H s -> RelV x v -> RelV y u -> r x y H Q ->
    subscripted slice false v u = operate [v, u] (getItem v u) -> wpAny (model X.prog X.w) X.A (subscriptTail value slice v u) (EP X pins σ Q) X.xe s
def MtR (X : Cx) (id : String) (r : V -> List V -> Hp -> VK -> Prop) : Prop :=
  ∀ (pins : List (Addr × Obj)) (s : Shared) (σ : St) (H : Hp) (x : V) (xs : List V) (v : Value) (us : List Value) (Q : VK), Inv X pins σ H s -> RelV x v -> Vals xs us -> r x xs H Q ->
    wpAny (model X.prog X.w) X.A (call (.builtin id) (v :: us)) (EP X pins σ Q) X.xe s
section
variable {X : Cx} {a b : Expr} {ta tb : TE} {pos : Pos}
theorem IxR.or {r r' : R2} (h : IxR X r) (h' : IxR X r') : IxR X (fun x y H Q => r x y H Q \/ r' x y H Q) := by
  intro value slice pins s σ H x y v u Q I rx ry q hs
  rcases q with q | q
  · exact h value slice pins s σ H x y v u Q I rx ry q hs
  · exact h' value slice pins s σ H x y v u Q I rx ry q hs
theorem MtR.or {id : String} {r r' : V -> List V -> Hp -> VK -> Prop} (h : MtR X id r) (h' : MtR X id r') : MtR X id (fun x xs H Q => r x xs H Q \/ r' x xs H Q) := by
  intro pins s σ H x xs v us Q I rx rs q
  rcases q with q | q
  · exact h pins s σ H x xs v us Q I rx rs q
  · exact h' pins s σ H x xs v us Q I rx rs q
theorem pe_ix {r : R2} (hr : IxR X r) (ha : PE X a ta) (hb : PE X b tb) (hs : PlainIx b) : PE X (.Subscript a b pos) (tOp r ta tb) := by
  intro pins s σ H Q I h
  exact Subscript_ (binT ha hb I h fun v u s2 x y H2 I2 rx ry q => hr a b pins s2 σ H2 x y v u Q I2 rx ry q (hs _ _))
def rIxL (K : PySem.W.Frag) : R2 := fun x y H Q => ∃ p xs i v, x = .ref p /\ y = .int i /\ SqL K H p xs /\ atI xs i = some v /\ Q v H
def rIxT (K : PySem.W.Frag) : R2 := fun x y H Q => ∃ p xs i v, x = .ref p /\ y = .int i /\ SqT K H p xs /\ atI xs i = some v /\ Q v H
theorem ix_list : IxR X (rIxL X.K) := by
  intro value slice pins s σ H x y v u Q I rx ry h hs
  obtain ⟨p, xs, i, z, rfl, rfl, hq, he, q⟩ := h
  cases rx
  obtain ⟨t, rfl⟩ := ry
  obtain ⟨its, r, pl, hz⟩ := I.list hq
  obtain ⟨j, h1, h2, h3, h4, h5⟩ := atI_get he
  obtain ⟨w, ew, rw'⟩ := r.get h2
  have hl := r.length
  have hn := line63
  have fin : EP X pins σ Q w s := ⟨z, H, I, rw', q⟩
  by_cases h0 : 0 <= i
  · have hj : i.toNat = j := by
      rw [seqIndex_of h0 h5] at h1
      exact Option.some.inj h1
    exact item_listR pl.isList h0 (by omega) (by rw [hj]; simpa using ew) fin hs
  · have hj : (i + (its.toArray.size : Int)).toNat = j := by
      rw [seqIndex_neg (by omega) h4] at h1
      rw [List.size_toArray, <- hl]
      exact Option.some.inj h1
    exact subscriptTail_builtinR (x := w) pl.isList.typeIs slot_list_getitem.lookup
      (wpAny_getItem_list_neg (Q := fun r s' => r = w /\ EP X pins σ Q r s') pl.isList (by omega) (by rw [List.size_toArray] <;> omega) (by omega) (by rw [hj]; simpa using ew) ⟨rfl, fin⟩) hs
theorem ix_tup : IxR X (rIxT X.K) := by
  intro value slice pins s σ H x y v u Q I rx ry h hs
  obtain ⟨p, xs, i, z, rfl, rfl, hq, he, q⟩ := h
  cases rx
  obtain ⟨t, rfl⟩ := ry
  obtain ⟨its, r, pl, hz⟩ := I.tuple hq
  obtain ⟨j, h1, h2, h3, h4, h5⟩ := atI_get he
  obtain ⟨w, ew, rw'⟩ := r.get h2
  have hl := r.length
  have hn := line63
  have fin : EP X pins σ Q w s := ⟨z, H, I, rw', q⟩
  exact subscriptTail_builtinR (x := w) pl.typeIs slot_tuple_getitem.lookup
    (getItem_tuple (j := j) (Q := fun r s' => r = w /\ EP X pins σ Q r s') pl (by omega) (by omega) (by rw [List.size_toArray, <- hl]; exact h1) (by simpa using ew) ⟨rfl, fin⟩) hs
theorem Inv.lst {pins : List (Addr × Obj)} {σ : St} {H : Hp} {s : Shared} {p : Addr} {xs : List V} (I : Inv X pins σ H s) (h : H p = some (.lst xs)) :
    ∃ (its : List Value) (n : Nat), Vals xs its /\ s.heap.get? p = some { cls := .type "list", data := .seq its.toArray n } /\ xs.length <= sizeLine := by
  obtain ⟨z, its, n, r, e⟩ := I.hok p _ h
  exact ⟨its, n, r, e, z⟩
theorem slice_bounds (lo hi : Option Int) (n : Nat) : (sliceBounds lo hi none n).1 = ((HT.sIx n 0 lo : Nat) : Int) /\ (sliceBounds lo hi none n).2.1 = ((HT.sIx n n hi : Nat) : Int) /\ (sliceBounds lo hi none n).2.2 = 1 := by
  refine ⟨?_, ?_, rfl⟩
  · cases lo with
    | none => simp [sliceBounds, HT.sIx]
    | some i =>
      simp only [sliceBounds, HT.sIx, Option.getD_none, show (1 : Int) > 0 by decide, if_true]
      by_cases h : i < 0
      · simp only [h, if_true] <;> omega
      · simp only [h, if_false] <;> omega
  · cases hi with
    | none => simp [sliceBounds, HT.sIx]
    | some i =>
      simp only [sliceBounds, HT.sIx, Option.getD_none, show (1 : Int) > 0 by decide, if_true]
      by_cases h : i < 0
      · simp only [h, if_true] <;> omega
      · simp only [h, if_false] <;> omega
theorem slicePick_cut (its : List Value) (lo hi : Option Int) : slicePick its.toArray lo hi none = ((its.drop (HT.sIx its.length 0 lo)).take (HT.sIx its.length its.length hi - HT.sIx its.length 0 lo)).toArray := by
  obtain ⟨h1, h2, h3⟩ := slice_bounds lo hi its.toArray.size
  unfold slicePick
  rw [h1, h2, h3]
  simp only [sliceRange_one, pick_run, List.size_toArray] <;> rfl
def rSlL (K : PySem.W.Frag) : V -> Option Int -> Option Int -> Hp -> VK -> Prop := fun x lo hi H Q => ∃ a xs, x = .ref a /\ SqL K H a xs /\ ∀ p, H p = none -> Q (.ref p) (upd H p (.lst (cutV xs lo hi)))
theorem sl_list : SlR X (rSlL X.K) := by
  intro pins s σ H x v vl vu lo hi sl Q I rx hs pl pu h
  obtain ⟨a, xs, rfl, hx, q⟩ := h
  cases rx
  obtain ⟨its, r, ht, hz⟩ := I.list hx
  have hlen := r.length
  refine ⟨"list", _, slot_list_getitem.lookup, ht.isList.typeIs, ?_⟩
  refine wpAny_getItem_list_slice ht.isList hs pl pu .none (by simp) ?_ (by rw [List.size_toArray] <;> omega)
  rw [slicePick_cut, <- hlen]
  refine ⟨.ref s.heap.objs.size, _, I.laid (t' := s.toks) (o := .lst (cutV xs lo hi)) (fun b ob q => Heap.get?_push_of_some _ q) (Nat.le_refl _) ?_, rfl, q _ (I.hok.fresh (Nat.le_refl _))⟩
  exact ⟨Nat.le_trans (cutV_length xs lo hi) hz, _, 0, (r.drop (HT.sIx xs.length 0 lo)).take (HT.sIx xs.length xs.length hi - HT.sIx xs.length 0 lo), Heap.get?_push_size _ rfl⟩
def flatV : V -> Bool
  | .non => true
  | .bl _ => true
  | .int _ => true
  | .str _ => true
  | _ => false
def eqV : V -> V -> Bool
  | .non, .non => true
  | .bl a, .bl b => a == b
  | .bl a, .int b => (if a then 1 else 0) == b
  | .int a, .bl b => a == (if b then 1 else 0)
  | .int a, .int b => a == b
  | .str a, .str b => a == b
  | _, _ => false
theorem eqAt_V {A : Around} {s : Shared} {y x : V} {u v : Value} (ry : RelV y u) (rx : RelV x v) (fy : flatV y = true) (fx : flatV x = true) : SeqAt.EqAt A s u v (eqV y x) := by
  cases y with
  | non =>
    cases ry
    cases x with
    | non => cases rx; exact SeqAt.EqAt.same _
    | bl b => cases rx; exact SeqAt.EqAt.none_bool b
    | int b => obtain ⟨t, rfl⟩ := rx; exact SeqAt.EqAt.none_int b t
    | str b => obtain ⟨t, rfl⟩ := rx; exact SeqAt.EqAt.none_str b t
    | _ => exact absurd (show false = true from fx) Bool.false_ne_true
  | bl a =>
    cases ry
    cases x with
    | non => cases rx; exact SeqAt.EqAt.bool_none a
    | bl b => cases rx; exact SeqAt.EqAt.bool_bool a b
    | int b => obtain ⟨t, rfl⟩ := rx; exact SeqAt.EqAt.bool_int a b t
    | str b => obtain ⟨t, rfl⟩ := rx; exact SeqAt.EqAt.bool_str a b t
    | _ => exact absurd (show false = true from fx) Bool.false_ne_true
  | int a =>
    obtain ⟨t', rfl⟩ := ry
    cases x with
    | non => cases rx; exact SeqAt.EqAt.int_none a t'
    | bl b => cases rx; exact SeqAt.EqAt.int_bool a t' b
    | int b => obtain ⟨t, rfl⟩ := rx; exact SeqAt.EqAt.int_int a t' b t
    | str b => obtain ⟨t, rfl⟩ := rx; exact SeqAt.EqAt.int_str a t' b t
    | _ => exact absurd (show false = true from fx) Bool.false_ne_true
  | str a =>
    obtain ⟨t', rfl⟩ := ry
    cases x with
    | non => cases rx; exact SeqAt.EqAt.str_none a t'
    | bl b => cases rx; exact SeqAt.EqAt.str_bool a t' b
    | int b => obtain ⟨t, rfl⟩ := rx; exact SeqAt.EqAt.str_int a t' b t
    | str b => obtain ⟨t, rfl⟩ := rx; exact SeqAt.EqAt.str_str a t' b t
    | _ => exact absurd (show false = true from fx) Bool.false_ne_true
  | _ => exact absurd (show false = true from fy) Bool.false_ne_true
def eqU (x : V) (u : Value) : Bool := match u with
  | .none => eqV .non x
  | .bool b => eqV (.bl b) x
  | .int i _ => eqV (.int i) x
  | .str z _ => eqV (.str z) x
  | _ => false
theorem eqU_of {x y : V} {u : Value} (r : RelV y u) (f : flatV y = true) : eqU x u = eqV y x := by
  cases y with
  | non => cases r; rfl
  | bl b => cases r; rfl
  | int i => obtain ⟨t, rfl⟩ := r; rfl
  | str z => obtain ⟨t, rfl⟩ := r; rfl
  | _ => exact absurd (show false = true from f) Bool.false_ne_true
theorem any_eqU {x : V} : ∀ {xs : List V} {us : List Value}, Vals xs us -> xs.all flatV = true -> us.any (eqU x) = xs.any fun y => eqV y x
  | _, _, .nil, _ => rfl
  | y :: xs, u :: us, .cons r t, f => by
    rw [List.all_cons, Bool.and_eq_true] at f
    rw [List.any_cons, List.any_cons, eqU_of r f.1, any_eqU t f.2]
theorem mem_eqAt {A : Around} {s : Shared} {x : V} {v : Value} (rx : RelV x v) (fx : flatV x = true) : ∀ {xs : List V} {us : List Value}, Vals xs us -> xs.all flatV = true -> ∀ u ∈ us, SeqAt.EqAt A s u v (eqU x u)
  | _, _, .nil, _ => fun u hu => by cases hu
  | y :: xs, u :: us, .cons r t, f => fun u' hu => by
    rw [List.all_cons, Bool.and_eq_true] at f
    rcases List.mem_cons.mp hu with rfl | hu
    · rw [eqU_of r f.1]; exact eqAt_V r rx f.1 fx
    · exact mem_eqAt rx fx t f.2 u' hu
def inV (x : V) (xs : List V) : Bool := xs.any fun y => eqV y x
def rIn (K : PySem.W.Frag) (neg : Bool) : R2 := fun x y H Q => ∃ p xs, y = .ref p /\ (SqL K H p xs \/ SqT K H p xs) /\ flatV x = true /\ xs.all flatV = true /\ Q (.bl (if neg then !inV x xs else inV x xs)) H
theorem op_in_seq : OpR X (compareOp .In) (rIn X.K false) := by
  intro pins s σ H x y v u Q I rx ry h
  obtain ⟨p, xs, rfl, hq, fx, fs, q⟩ := h
  cases ry
  rcases hq with hq | hq
  · obtain ⟨its, r, pl, hz⟩ := I.list hq
    refine SeqAt.in_listAt (eqU x) pl.isList (fun w hw => mem_eqAt rx fx r fs w (by simpa using hw)) ⟨.bl _, H, I, rfl, ?_⟩
    rw [show its.toArray.any (eqU x) = its.any (eqU x) by simp, any_eqU r fs]
    exact q
  · obtain ⟨its, r, pl, hz⟩ := I.tuple hq
    refine SeqAt.in_tupleAt (eqU x) pl (fun w hw => mem_eqAt rx fx r fs w (by simpa using hw)) ⟨.bl _, H, I, rfl, ?_⟩
    rw [show its.toArray.any (eqU x) = its.any (eqU x) by simp, any_eqU r fs]
    exact q
theorem op_notIn_seq : OpR X (compareOp .NotIn) (rIn X.K true) := by
  intro pins s σ H x y v u Q I rx ry h
  obtain ⟨p, xs, rfl, hq, fx, fs, q⟩ := h
  cases ry
  rcases hq with hq | hq
  · obtain ⟨its, r, pl, hz⟩ := I.list hq
    refine SeqAt.notIn_listAt (eqU x) pl.isList (fun w hw => mem_eqAt rx fx r fs w (by simpa using hw)) ⟨.bl _, H, I, rfl, ?_⟩
    rw [show its.toArray.any (eqU x) = its.any (eqU x) by simp, any_eqU r fs]
    exact q
  · obtain ⟨its, r, pl, hz⟩ := I.tuple hq
    refine SeqAt.notIn_tupleAt (eqU x) pl (fun w hw => mem_eqAt rx fx r fs w (by simpa using hw)) ⟨.bl _, H, I, rfl, ?_⟩
    rw [show its.toArray.any (eqU x) = its.any (eqU x) by simp, any_eqU r fs]
    exact q
theorem call_len_seq : CallR X (.builtin "len") (fun xs H Q => ∃ p ys, xs = [.ref p] /\ (SqL X.K H p ys \/ SqT X.K H p ys) /\ Q (.int ys.length) H) := by
  intro pins s σ H xs us Q I r h
  obtain ⟨p, ys, rfl, hq, q⟩ := h
  obtain ⟨u, rfl, rx⟩ := vals1 r
  cases rx
  have hn := line63
  rcases hq with hq | hq
  · obtain ⟨its, r', pl, hz⟩ := I.list hq
    have hlen := r'.length
    exact Calls.call_len_list pl.isList (by simp only [List.size_toArray] <;> omega) ⟨.int ys.length, H, I.tok _, ⟨s.toks + 1, by rw [List.size_toArray, hlen]⟩, q⟩
  · obtain ⟨its, r', pl, hz⟩ := I.tuple hq
    have hlen := r'.length
    exact len_tuple pl (by simp only [List.size_toArray] <;> omega) ⟨.int ys.length, H, I.tok _, ⟨s.toks + 1, by rw [List.size_toArray, hlen]⟩, q⟩
theorem call_len_str : CallR X (.builtin "len") (fun xs H Q => ∃ z, xs = [.str z] /\ z.length <= sizeLine /\ Q (.int z.length) H) := by
  intro pins s σ H xs us Q I r h
  obtain ⟨z, rfl, hz, q⟩ := h
  obtain ⟨u, rfl, t, rfl⟩ := vals1 r
  have hn := line63
  exact len_str (by omega) ⟨.int z.length, H, I.tok _, ⟨_, rfl⟩, q⟩
theorem CallR.or {f : Value} {r r' : List V -> Hp -> VK -> Prop} (h : CallR X f r) (h' : CallR X f r') : CallR X f (fun xs H Q => r xs H Q \/ r' xs H Q) := by
  intro pins s σ H xs us Q I rs q
  rcases q with q | q
  · exact h pins s σ H xs us Q I rs q
  · exact h' pins s σ H xs us Q I rs q
theorem call_list_of : CallR X (.type "list") (fun xs H Q => ∃ p ys, xs = [.ref p] /\ (SqL X.K H p ys \/ SqT X.K H p ys) /\ ∀ l, H l = none -> Q (.ref l) (upd H l (.lst ys))) := by
  intro pins s σ H xs us Q I r h
  obtain ⟨p, ys, rfl, hq, q⟩ := h
  obtain ⟨u, rfl, rx⟩ := vals1 r
  cases rx
  have fin : ∀ (its : List Value), Vals ys its -> ys.length <= sizeLine -> ∀ (h' : Heap) (c' : Nat), (∀ b o', s.heap.get? b = some o' -> h'.get? b = some o') ->
      h'.get? s.heap.objs.size = some { cls := .type "list", dict := none, data := .seq its.toArray c', slots := #[] } -> EP X pins σ Q (.ref s.heap.objs.size) { s with heap := h' } := fun its r' hz h' c' kp e =>
    ⟨.ref s.heap.objs.size, _, I.laid (t' := s.toks) kp (Nat.le_refl _) (show ObjOk X.prog X.w _ h' _ (.lst ys) from ⟨hz, its, c', r', e⟩), rfl, q _ (I.hok.fresh (Nat.le_refl _))⟩
  rcases hq with hq | hq
  · obtain ⟨its, r', pl, hz⟩ := I.list hq
    have hlen := r'.length
    obtain ⟨o, ho, hc, n, hd⟩ := pl.isList
    exact call_list_seq p (.inl rfl) ho hc hd (fun h' c' kp e => fin its r' hz h' c' kp e) (by simp only [List.size_toArray] <;> omega)
  · obtain ⟨its, r', pl, hz⟩ := I.tuple hq
    have hlen := r'.length
    obtain ⟨o, ho, hc, n, hd⟩ := pl
    exact call_list_seq p (.inr rfl) ho hc hd (fun h' c' kp e => fin its r' hz h' c' kp e) (by simp only [List.size_toArray] <;> omega)
theorem call_tuple_of : CallR X (.type "tuple") (fun xs H Q => ∃ p ys, xs = [.ref p] /\ ((SqL X.K H p ys /\ ∀ l, H l = none -> Q (.ref l) (upd H l (.tup ys))) \/ (SqT X.K H p ys /\ Q (.ref p) H))) := by
  intro pins s σ H xs us Q I r h
  obtain ⟨p, ys, rfl, h⟩ := h
  obtain ⟨u, rfl, rx⟩ := vals1 r
  cases rx
  rcases h with ⟨hq, q⟩ | ⟨hq, q⟩
  · obtain ⟨its, r', pl, hz⟩ := I.list hq
    have hlen := r'.length
    refine call_tuple_list pl.isList (fun h' kp => ?_) (by simp only [List.size_toArray] <;> omega)
    have I1 : Inv X pins σ H { s with heap := h' } := I.kept (t' := s.toks) kp
    have I2 : Inv X pins σ (upd H h'.objs.size (.tup ys)) { s with heap := h'.push { cls := .type "tuple", data := .seq its.toArray } } :=
      I1.laid (t' := s.toks) (fun b o e => Heap.get?_push_of_some _ e) (Nat.le_refl _) (show ObjOk X.prog X.w _ _ _ (.tup ys) from ⟨hz, its, r', IsTup.new _ _⟩)
    exact ⟨.ref h'.objs.size, _, I2, rfl, q _ (I1.hok.fresh (Nat.le_refl _))⟩
  · obtain ⟨its, r', pl, hz⟩ := I.tuple hq
    exact call_tuple_same pl ⟨.ref p, H, I, rfl, q⟩
def tyV (K : PySem.W.Frag) (T : String) (x : V) (H : Hp) : Prop := match x with
  | .str _ => T = "str"
  | .int _ => T = "int"
  | .ref p => (T = "list" /\ ∃ xs, SqL K H p xs) \/ (T = "tuple" /\ ∃ o, K.lookup p = some o /\ o.cls = .type "tuple" /\ o.dict = none) \/
      (T = "dict" /\ ((∃ kvs, H p = some (.dK kvs)) \/ ∃ kvs, H p = some (.dT kvs))) \/ (T = "set" /\ ∃ S n, H p = some (.set S n))
  | _ => False
theorem tyV_is {pins : List (Addr × Obj)} {σ : St} {H : Hp} {s : Shared} {T : String} {x : V} {v : Value} (I : Inv X pins σ H s) (r : RelV x v) (ty : tyV X.K T x H) :
    s.TypeIs v T /\ ∀ a, v = .ref a -> ∃ ob, s.heap.get? a = some ob /\ ob.dict = none := by
  cases x with
  | str z =>
    obtain ⟨t, rfl⟩ := r
    cases (show T = "str" from ty)
    exact ⟨typeIs_str s z t, fun _ e => nomatch e⟩
  | int i =>
    obtain ⟨t, rfl⟩ := r
    cases (show T = "int" from ty)
    exact ⟨typeIs_int s i t, fun _ e => nomatch e⟩
  | ref p =>
    cases r
    rcases ty with ⟨rfl, xs, hq⟩ | ⟨rfl, o, hk, hc, hd⟩ | ⟨rfl, hk⟩ | ⟨rfl, S, n, hk⟩
    · obtain ⟨its, _, pl, _⟩ := I.list hq
      refine ⟨pl.isList.typeIs, fun a e => ?_⟩
      cases e
      obtain ⟨o, n, e, c, hd, _⟩ := pl
      exact ⟨o, e, hd⟩
    · refine ⟨⟨o, I.kIn p o hk, hc⟩, fun a e => ?_⟩
      cases e
      exact ⟨o, I.kIn _ o hk, hd⟩
    · have z : ∃ o, s.heap.get? p = some o /\ o.ExactDict := by
        rcases hk with ⟨kvs, hk⟩ | ⟨kvs, hk⟩
        · obtain ⟨_, _, _, _, o, _, _, e, ex, _⟩ := I.hok p _ hk
          exact ⟨o, e, ex⟩
        · obtain ⟨_, _, _, _, o, _, _, e, ex, _⟩ := I.hok p _ hk
          exact ⟨o, e, ex⟩
      obtain ⟨o, e, ex⟩ := z
      refine ⟨⟨o, e, ex.1⟩, fun a e2 => ?_⟩
      cases e2
      exact ⟨o, e, ex.2.1⟩
    · obtain ⟨o, _, _, _, e, ex, _⟩ := I.hok p _ hk
      refine ⟨⟨o, e, ex.1⟩, fun a e2 => ?_⟩
      cases e2
      exact ⟨o, e, ex.2.1⟩
  | _ => exact False.elim ty
def tBM0 (K : PySem.W.Frag) (T : String) (r : V -> List V -> Hp -> VK -> Prop) (to : TE) : TE := fun σ H Q => to σ H fun x H1 => tyV K T x H1 /\ r x [] H1 Q
def tBM (K : PySem.W.Frag) (T : String) (r : V -> List V -> Hp -> VK -> Prop) (to : TE) (t : TA) : TE := fun σ H Q => to σ H fun x H1 => tyV K T x H1 /\ t σ H1 fun xs H2 => r x xs H2 Q
variable {o e : Expr} {es : List Expr} {to : TE} {t : TA} {name : Str} {apos cpos : Pos} {T id : String} {r : V -> List V -> Hp -> VK -> Prop}
theorem pe_bm0 (pa : PlainAttrs T) (slot : Slot T name id) (hty : typeOf (.builtin id) = pure (.type "method_descriptor")) (hm : MtR X id r) (ho : PE X o to)
    (hbase : attributeBase o name X.env (eval o X.env) = eval o X.env := by rfl) (hline : (apos.endLine == cpos.line) = true := by rfl) : PE X (.Call (.Attribute o name apos) [] [] cpos) (tBM0 X.K T r to) := by
  intro pins s σ H Q I h
  refine wpAny_Call_method0_late hbase hline (thn (ho pins s σ H _ I h) fun v s1 ⟨x, H1, I1, r1, ty, q1⟩ => ?_)
  obtain ⟨h1, h2⟩ := tyV_is I1 r1 ty
  exact ⟨T, id, pa, slot, hty, h1, h2, Calls.callWith_builtin rfl (PySem.evalArgs_none (hm pins s1 σ H1 x [] v [] Q I1 r1 .nil q1))⟩
theorem pe_bm (pa : PlainAttrs T) (slot : Slot T name id) (hty : typeOf (.builtin id) = pure (.type "method_descriptor")) (hm : MtR X id r) (ho : PE X o to) (ha : PA X (e :: es) t)
    (hbase : attributeBase o name X.env (eval o X.env) = eval o X.env := by rfl)
    (hfew : ((backTo cpos (starEach (e :: es) X.env)).all (fun x => !x.1) && (backToKw cpos (keywordEach [] X.env)).all (fun x => x.1.isSome)
      && decide ((e :: es).length + ([] : List Keyword).length + (if ([] : List Keyword).isEmpty then 0 else 1) < 30)) = true := by rfl)
    (hline : (apos.endLine == cpos.line) = true := by rfl) (hs : starEach (e :: es) X.env = (false, eval e X.env) :: starEach es X.env := by rfl) (hplain : (backTo cpos (starEach es X.env)).any (·.1) = false := by rfl) :
    PE X (.Call (.Attribute o name apos) (e :: es) [] cpos) (tBM X.K T r to t) := by
  intro pins s σ H Q I h
  refine wpAny_Call_method_late hbase hfew hline rfl (thn (ho pins s σ H _ I h) fun v s1 ⟨x, H1, I1, r1, ty, q1⟩ => ?_)
  obtain ⟨h1, h2⟩ := tyV_is I1 r1 ty
  refine ⟨T, id, pa, slot, hty, h1, h2, ?_⟩
  have hA := ha cpos pins s1 σ H1 _ I1 q1
  rw [hs] at hA ⊢
  refine Calls.callWith_builtin (by show (false || (backTo cpos (starEach es X.env)).any (·.1)) = false; rw [hplain] <;> rfl) (Calls.evalArgs_plain ?_)
  exact thn hA fun us s2 ⟨vs, H2, I2, r2, q2⟩ => hm pins s2 σ H2 x vs v us Q I2 r1 r2 q2
end
end L2
namespace L2
open PySem PySem.Spec PyProof.Rows
def MtM (X : Cx) (id : String) (r : V -> List V -> Hp -> VK -> Prop) : Prop :=
  ∀ (pins : List (Addr × Obj)) (s : Shared) (σ : St) (H : Hp) (x : V) (xs : List V) (v : Value) (us : List Value) (Q : VK), Inv X pins σ H s -> RelV x v -> Vals xs us -> r x xs H Q ->
    wpAny (model X.prog X.w) X.A (call (.builtin id) (v :: us)) (EP X pins σ Q) X.xe s
theorem Vals.one : ∀ {x : V} {us : List Value}, Vals [x] us -> ∃ u, us = [u] /\ RelV x u
  | _, _, .cons r .nil => ⟨_, rfl, r⟩
theorem Vals.two : ∀ {x y : V} {us : List Value}, Vals [x, y] us -> ∃ u v, us = [u, v] /\ RelV x u /\ RelV y v
  | _, _, _, .cons r (.cons q .nil) => ⟨_, _, rfl, r, q⟩
theorem Vals.zero : ∀ {us : List Value}, Vals [] us -> us = []
  | _, .nil => rfl
theorem Vals.dropLast {xs : List V} {us : List Value} (h : Vals xs us) : Vals xs.dropLast us.dropLast := by
  induction h with
  | nil => exact .nil
  | cons r t ih =>
    cases t with
    | nil => exact .nil
    | cons q t' => exact .cons r ih
theorem Vals.eraseIdx : ∀ {xs : List V} {us : List Value} (i : Nat), Vals xs us -> Vals (xs.eraseIdx i) (us.eraseIdx i)
  | _, _, _, .nil => .nil
  | _, _, 0, .cons _ t => t
  | _, _, i + 1, .cons r t => .cons r (Vals.eraseIdx i t)
theorem Vals.reverse {xs : List V} {us : List Value} (h : Vals xs us) : Vals xs.reverse us.reverse := by
  induction h with
  | nil => exact .nil
  | cons r t ih => rw [List.reverse_cons, List.reverse_cons]; exact Vals.append ih (.cons r .nil)
theorem erase_last {α : Type} (l : List α) : l.eraseIdx (l.length - 1) = l.dropLast := by
  induction l with
  | nil => rfl
  | cons a r ih =>
    cases r with
    | nil => rfl
    | cons b r =>
      have e : (a :: b :: r).length - 1 = ((b :: r).length - 1) + 1 := by
        have h1 : (a :: b :: r).length = r.length + 2 := rfl
        have h2 : (b :: r).length = r.length + 1 := rfl
        omega
      rw [e, List.eraseIdx_cons_succ, ih]
      all_goals rfl
section
variable {X : Cx} {pins : List (Addr × Obj)} {σ : St} {H : Hp} {s : Shared} {l b : Addr} {xs ys zs : List V}
theorem Inv.lset {its its' : List Value} {n : Nat} {f : Array Value -> Array Value} {t' : Nat} (I : Inv X pins σ H s) (hH : H l = some (.lst xs))
    (e : s.heap.get? l = some { cls := .type "list", data := .seq its.toArray n }) (hf : f its.toArray = its'.toArray) (hv : Vals ys its') (hz : ys.length <= sizeLine) :
    Inv X pins σ (upd H l (.lst ys)) { s with heap := s.heap.update l (Obj.mapSeq f), toks := t' } := by
  have q := PySem.IsL.update e f
  rw [hf] at q
  refine I.write (x := l) (e := l) (by rw [hH]; exact trivial) (.inl rfl) (fun b' u hb hu => (Heap.get?_update_other s.heap (Obj.mapSeq f) (Ne.symm hb)).trans hu) ⟨_, q⟩ ?_
  exact ⟨hz, its', _, hv, q⟩
theorem Inv.lnew {its : List Value} {t' : Nat} (I : Inv X pins σ H s) (hv : Vals ys its) (hz : ys.length <= sizeLine) :
    Inv X pins σ (upd H s.heap.objs.size (.lst ys)) { s with heap := s.heap.push { cls := .type "list", data := .seq its.toArray }, toks := t' } :=
  I.laid (fun _ _ q => Heap.get?_push_of_some _ q) (Nat.le_refl _) ⟨hz, its, 0, hv, Heap.get?_push_size _ rfl⟩
theorem Inv.fresh (I : Inv X pins σ H s) : H s.heap.objs.size = none := I.hok.fresh (Nat.le_refl _)
theorem Inv.lstM (I : Inv X pins σ H s) (hH : H l = some (.lst xs)) : xs.length <= sizeLine /\ ∃ (its : List Value) (n : Nat), Vals xs its /\ xs.length = its.length /\ s.heap.get? l = some { cls := .type "list", data := .seq its.toArray n } := by
  obtain ⟨z, its, n, r, e⟩ := I.hok l _ hH
  exact ⟨z, its, n, r, r.length, e⟩
theorem notLongL {n : Nat} (h : n <= sizeLine) : Builtin.List.listTooLong n = false := by
  unfold Builtin.List.listTooLong
  exact decide_eq_false (by omega)
end
section
variable {X : Cx}
def rAppend : V -> List V -> Hp -> VK -> Prop := fun x vs H Q => ∃ l xs y, x = .ref l /\ vs = [y] /\ H l = some (.lst xs) /\ xs.length < sizeLine /\ Q .non (upd H l (.lst (xs ++ [y])))
theorem mt_append : MtM X "list.append" rAppend := by
  intro pins s σ H x vs v us Q I rx rv h
  obtain ⟨l, xs, y, rfl, rfl, hH, hz, q⟩ := h
  cases rx
  obtain ⟨u, rfl, ru⟩ := rv.one
  obtain ⟨z, its, n, r, hl, e⟩ := I.lstM hH
  refine call_meets F.slot_list_append ⟨_, e, rfl⟩ F.entry_list_append (F.args_list_append_2 _ _) (PySem.list_append l its.toArray n u (by rw [List.size_toArray]; omega)) ⟨e, ?_⟩
  refine ⟨.non, _, I.lset (its' := its ++ [u]) hH e (by simp) (r.append (.cons ru .nil)) ?_, rfl, q⟩
  rw [List.length_append, List.length_singleton]
  omega
def rExtend : V -> List V -> Hp -> VK -> Prop := fun x vs H Q => ∃ l b xs zs, x = .ref l /\ vs = [.ref b] /\ H l = some (.lst xs) /\ H b = some (.lst zs) /\ xs.length + zs.length <= sizeLine /\ Q .non (upd H l (.lst (xs ++ zs)))
theorem mt_extend : MtM X "list.extend" rExtend := by
  intro pins s σ H x vs v us Q I rx rv h
  obtain ⟨l, b, xs, zs, rfl, rfl, hH, hB, hz, q⟩ := h
  cases rx
  obtain ⟨u, rfl, ru⟩ := rv.one
  cases ru
  obtain ⟨z, its, n, r, hl, e⟩ := I.lstM hH
  obtain ⟨z2, its2, n2, r2, hl2, e2⟩ := I.lstM hB
  have hsz : its.toArray.size + its2.toArray.size <= sizeLine := by rw [List.size_toArray, List.size_toArray]; omega
  have hlong : ¬ (!its.toArray.isEmpty && Builtin.List.listTooLong (its.toArray.size + its2.toArray.size)) = true := by
    rw [notLongL hsz, Bool.and_false]
    exact Bool.false_ne_true
  refine call_meets F.slot_list_extend ⟨_, e, rfl⟩ F.entry_list_extend (F.args_list_extend_2 _ _)
    (AutoSeq1.list_extend_list_list_0 l its.toArray n b its2.toArray n2 hlong (by rw [List.size_toArray]; omega) (by omega)) ⟨e, e2, ?_⟩
  refine ⟨.non, _, I.lset (its' := its ++ its2) hH e (by simp) (r.append r2) ?_, rfl, q⟩
  rw [List.length_append]
  omega
def rPop : V -> List V -> Hp -> VK -> Prop := fun x vs H Q => ∃ l xs y, x = .ref l /\ vs = [] /\ H l = some (.lst xs) /\ xs[xs.length - 1]? = some y /\ Q y (upd H l (.lst xs.dropLast))
theorem mt_pop : MtM X "list.pop" rPop := by
  intro pins s σ H x vs v us Q I rx rv h
  obtain ⟨l, xs, y, rfl, rfl, hH, hy, q⟩ := h
  cases rx
  have hus := rv.zero
  subst hus
  obtain ⟨z, its, n, r, hl, e⟩ := I.lstM hH
  obtain ⟨u, hu, ru⟩ := r.get hy
  have hy' : its.toArray[its.toArray.size - 1]? = some u := by
    show its.toArray[its.length - 1]? = some u
    rw [<- Array.getElem?_toList, <- hl]
    exact hu
  refine call_meets F.slot_list_pop ⟨_, e, rfl⟩ F.entry_list_pop (F.args_list_pop_1 _) (MeetsSeq.list_pop_last l its.toArray n u hy' (by rw [List.size_toArray]; omega)) ⟨e, ?_⟩
  refine ⟨y, _, I.lset (its' := its.dropLast) hH e ?_ r.dropLast ?_, ru, q⟩
  · show its.toArray.eraseIdxIfInBounds (its.toArray.size - 1) = its.dropLast.toArray
    rw [List.size_toArray, List.eraseIdxIfInBounds_toArray, erase_last]
  · rw [List.length_dropLast]
    omega
def rCat : R2 := fun x y H Q => ∃ l b xs zs, x = .ref l /\ y = .ref b /\ H l = some (.lst xs) /\ H b = some (.lst zs) /\ xs.length + zs.length <= sizeLine /\ ∀ p, H p = none -> Q (.ref p) (upd H p (.lst (xs ++ zs)))
theorem op_cat : OpR X (binaryOp .Add) rCat := by
  intro pins s σ H x y v u Q I rx ry h
  obtain ⟨l, b, xs, zs, rfl, rfl, hH, hB, hz, q⟩ := h
  cases rx
  cases ry
  obtain ⟨z, its, n, r, hl, e⟩ := I.lstM hH
  obtain ⟨z2, its2, n2, r2, hl2, e2⟩ := I.lstM hB
  refine PySem.P.add_list e e2 ?_ (by rw [List.size_toArray, List.size_toArray]; omega)
  have ea : its.toArray ++ its2.toArray = (its ++ its2).toArray := by simp
  rw [ea]
  exact ⟨.ref _, _, I.lnew (t' := s.toks) (r.append r2) (by rw [List.length_append]; omega), rfl, q _ I.fresh⟩
end
section
variable {prog : Program} {w : World} {A : Around} {E : Value -> Shared -> Prop} {s : Shared}
end
section
variable {X : Cx}
end
end L2
namespace Att
open PySem PySem.W PySem.Calls PyProof.Rows
theorem ints_of_wellAll {P : Params} {h : Heap} : ∀ (ns : List Int) (vs : List Value), WellAll P h vs (ns.map WData.int) -> IntsAre vs ns := by
  intro ns
  induction ns with
  | nil =>
    intro vs w
    rw [List.map_nil] at w
    cases w
    exact .nil
  | cons n ns ih =>
    intro vs w
    rw [List.map_cons] at w
    cases w with
    | cons a b =>
      cases a
      exact .cons _ _ (ih _ b)
theorem script_of {l : OpenLaw} {n : Nat} (hn : l.most = some n) {P : Params} {h : Heap} {args : List WData} {vals : List Value}
    (hpre : l.row.toRowW.claim.pre args = true) (hwl : WellAll P h vals args) :
    ∃ a vs ns, vals = [Value.ref a] /\ args = [WData.list (ns.map WData.int)] /\ h.get? a = some { cls := .type "list", data := .seq vs.toArray } /\ IntsAre vs ns /\ ns.length <= n := by
  have hsh : WShape.hasAll [] args [.list .int] = true := (pre_splitW hpre).1
  have hc : l.pre.holds [] { args := args } = true := (pre_splitW hpre).2
  obtain ⟨d, r, rfl, h1, h2⟩ := hasAllW_cons hsh
  obtain rfl := hasAllW_nil h2
  obtain ⟨xs, rfl, h3⟩ := hasW_list h1
  obtain ⟨ns, rfl⟩ := items_int h3
  have hlen : ns.length <= n := by
    unfold OpenLaw.pre at hc
    have h4 : (WTm.not (.lt (.lit (.int (n : Int))) (.len (.arg 0)))).holds [] { args := [.list (ns.map .int)] } = true := by
      have h4 := (holds_andW hc).1
      rw [hn] at h4
      exact h4
    have h5 := condW_of h4 (w_not (w_lt w_lit (w_len_list (w_arg rfl))))
    rw [List.length_map] at h5
    refine Nat.le_of_not_lt fun q => ?_
    have q' : (n : Int) < ((ns.length : Nat) : Int) := by omega
    first
      | (rw [decide_eq_true q'] at h5; exact absurd h5 (by decide))
      | (simp at h5; omega)
  cases hwl with
  | cons w1 w2 =>
    cases w2
    cases w1 with
    | list ho hall => exact ⟨_, _, ns, rfl, rfl, ho, ints_of_wellAll ns _ hall, hlen⟩
theorem post_true (l : OpenLaw) (args : List WData) : l.row.toRowW.claim.post args (.bool true) args = true :=
  postW_of (r := l.row.toRowW) (X := (true == true))
    (show WShape.has [] (.bool true) .bool = true by first | rfl | decide | simp [WShape.has, WShape.arms, WShape.armsAll])
    (show (WTm.eq .res (.lit (.bool true))).value [] { args := args, res := some (.bool true), after := args } = some (.bool (true == true)) from w_eq_bool (w_res rfl) w_lit) rfl
theorem attach_call {l : OpenLaw} {n : Nat} {q : Program} {loose : List Str} {XP : (Str -> Option Value) -> Heap -> Prop} {YP : World -> Heap -> Prop} {d : DefRec}
    (hn : l.most = some n) (hdf : d.params.defaults = [])
    (call : ∀ (w : World) (s₀ s₁ : Shared) (mg mb : Str -> Option Value) (fa : Addr) (o : Obj) (pm cd doc : Value) (a : Addr) (vs : List Value) (ns : List Int),
      Ground q loose [] XP w s₀ mg mb s₁.heap -> YP w s₁.heap ->
      s₁.heap.get? fa = some o -> o.data = .func (docDef d.name d.params d.body d.scope pm cd doc) -> s₁.heap.CodeRec cd d.name -> mg d.name = some (.ref fa) ->
      s₁.heap.get? a = some { cls := .type "list", data := .seq vs.toArray } -> IntsAre vs ns -> ns.length <= n -> s₁.gens = #[] ->
      codeAny (model l.prog w) callerA (.call (.ref fa) ⟨[.ref a], []⟩) (fun r s' => r = .ok (.ret (.bool true)) /\ OldK s₁.heap s'.heap /\ s'.os = s₁.os /\ AllBare s'.gens) s₁) :
    WalkO q loose XP YP l.row.toRowW d [] (fun f vs => PySem.call f vs) := by
  intro w s₀ s₁ mg mb G Y fa o pm cd doc dV kV ho hd hcd hD hmg hg args vals as hpre hlay hrd hwl hlo
  obtain rfl : dV = .none := Dflts.none hD hdf
  obtain rfl : kV = .none := Dflts.noKw hD
  obtain ⟨a, vs, ns, rfl, rfl, hobj, hints, hlen⟩ := script_of hn hpre hwl
  refine enter_call (codeAny_mono (call w s₀ s₁ mg mb fa o pm cd doc a vs ns G Y ho (fd_plain hd) hcd hmg hobj hints hlen hg) fun r s' hq => ?_)
  obtain ⟨rfl, h2, h3, h4⟩ := hq
  exact ⟨.inl ⟨.bool true, .bool true, [], rfl, fun _ => rfl, .bool true, post_true l _, fun _ => ⟨List.Pairwise.nil, fun _ hm => (nomatch hm)⟩⟩, h2, h3, h4⟩
section
variable {prog : Program} {w : World} {A : Around} {E : Value -> Shared -> Prop} {s : Shared} {K : Frag}
def ledger (h : Heap) (L d : Addr) : List (Addr × Obj) := (List.range h.objs.size).filterMap fun a => if a = L \/ a = d then none else (h.get? a).map fun o => (a, o)
end
end Att
namespace L2
open PySem PySem.Spec PyProof.Rows
theorem vals_ints : ∀ {vs : List Value} {ns : List Int}, IntsAre vs ns -> Vals (ns.map V.int) vs
  | _, _, .nil => .nil
  | _, _, .cons n t h => .cons ⟨t, rfl⟩ (vals_ints h)
def Only (H : Hp) : Prop := ∀ b, H b = none \/ ∃ o xs, H b = some (.frz o (.lst xs))
theorem law_call {P : Program} {w : World} {K : PySem.W.Frag} {mg mb : Str -> Option Value} {CX : CXT} {k : Nat} {fa a : Addr} {fd : FuncData} {x : Str} {sp : Sp} {s₁ : Shared} {vs : List Value} {ns : List Int}
    (KX : K.In s₁.heap) (hns : s₁.heap.Ns mainGlobals mg) (hb : s₁.heap.Ns builtinsNs mb) (hbb : ∀ x : Str, x ≠ "__name__" -> mb x = bootBuiltins x) (hlim : s₁.heap.NoLimit) (hg : s₁.gens = #[])
    (ha : s₁.heap.get? a = some { cls := .type "list", data := .seq vs.toArray }) (hi : IntsAre vs ns) (hl : ns.length <= sizeLine) (hr : Room k callerA)
    (F : ∀ base : Heap, K.In base -> base.Ns mainGlobals mg -> FnOk P w K mg base CX k fa fd [x] sp) (hbind : ∀ (s : Shared) (u : Value), BindsTo s fd ⟨[u], []⟩ [(x, u)])
    (hsp : ∀ H : Hp, Only H -> SqL K H a (ns.map V.int) -> sp [.ref a] H (fun v _ => v = .bl true) fun _ _ _ => False)
    (hCX : ∀ H e s', CX [] H s₁ (fun _ _ _ => False) e s' -> False) :
    codeAny (model P w) callerA (.call (.ref fa) ⟨[.ref a], []⟩) (fun r s' => r = .ok (.ret (.bool true)) /\ OldK s₁.heap s'.heap /\ s'.os = s₁.os /\ AllBare s'.gens) s₁ := by
  have rv := vals_ints hi
  have lenV := hi.length
  -- from an abstract heap in which nothing but the script may be tracked
  have core : ∀ H : Hp, Only H -> SqL K H a (ns.map V.int) -> HOk P w H s₁.heap -> (∀ b, H b ≠ none -> b = a) -> (H a ≠ none -> K.lookup a = none) ->
      codeAny (model P w) callerA (.call (.ref fa) ⟨[.ref a], []⟩) (fun r s' => r = .ok (.ret (.bool true)) /\ OldK s₁.heap s'.heap /\ s'.os = s₁.os /\ AllBare s'.gens) s₁ := by
    intro H hO hS hok hA hK
    have base_of : ∀ {b : Addr} {o : Obj}, s₁.heap.get? b = some o -> H b = none -> (hidT s₁.heap H).get? b = some o := fun e n => hidT_get e n
    have noA : ∀ {b : Addr} {o : Obj} {es : Array DictEntry} {ep : Nat}, s₁.heap.get? b = some o -> o.data = .dict es ep -> H b = none := fun {b o es ep} e d => by
      cases q : H b with
      | none => rfl
      | some u =>
        have e' : b = a := hA b (by rw [q]; simp)
        subst e'
        rw [ha] at e; cases e
        have d' : Data.seq vs.toArray _ = Data.dict es ep := d
        cases d'
    have nsK : ∀ {b : Addr} {m : Str -> Option Value}, s₁.heap.Ns b m -> (hidT s₁.heap H).Ns b m := fun {b m} ⟨o, es, ep, e, d, r⟩ => ⟨o, es, ep, base_of e (noA e d), d, r⟩
    have hKb : K.In (hidT s₁.heap H) := fun b o e => base_of (KX b o e) (by
      cases q : H b with
      | none => rfl
      | some u =>
        have e' : b = a := hA b (by rw [q]; simp)
        subst e'
        rw [hK (by rw [q]; simp)] at e; cases e)
    have hM : Mod K mg (hidT s₁.heap H) := ⟨hKb, nsK hns, ⟨mb, nsK hb, hbb⟩, let ⟨mc, h1, h2⟩ := hlim; ⟨mc, nsK h1, h2⟩⟩
    have e0 : Env0 P w K mg (hidT s₁.heap H) callerA [] s₁ H := ⟨rfl, hM, fun b o e => of_hidT e, Nat.le_of_eq (hidT_size _ _), trivial, fun b hb => absurd (show b ∈ ([] : List Addr) from hb) (by simp), hok, .of_eq hg⟩
    refine codeAny_mono ((F _ hKb (nsK hns)).run callerA [] s₁ H ⟨[.ref a], []⟩ [.ref a] [.ref a] _ _ hr e0 (hbind s₁ (.ref a)) (.cons rfl .nil) (hsp H hO hS)) fun r s' h => ?_
    cases r with
    | error e => exact (hCX H e s' h).elim
    | ok fl =>
      cases fl with
      | next => exact False.elim h
      | brk => exact False.elim h
      | cont => exact False.elim h
      | ret u =>
        obtain ⟨v, H', os, bare, un, hok', r', q⟩ := h
        have q' : v = .bl true := q
        subst q'
        obtain rfl : u = Value.bool true := r'
        refine ⟨rfl, OldK.of_keep fun b o e => ?_, os, bare⟩
        cases q : H b with
        | none => exact un.keep b o e q (by intro z; exact absurd (show b ∈ ([] : List Addr) from z) (by simp)) (by simp)
        | some u =>
          rcases hO b with z | ⟨ob, xs, z⟩
          · rw [q] at z; cases z
          · have z2 := un.frzs b ob _ z
            obtain ⟨e1, _⟩ := hok b _ z
            obtain ⟨e2, _⟩ := hok' b _ z2
            rw [e] at e1; cases e1
            exact e2
  cases hk : K.lookup a with
  | some o =>
    -- the script is one of the module's own objects
    have e := KX a o hk
    rw [ha] at e
    cases e
    refine core (fun _ => none) (fun _ => .inl rfl) (.inr ⟨_, vs.toArray, _, hk, rfl, rfl, rfl, by rw [List.size_toArray, lenV]; exact hl, by simpa using rv⟩) (fun b u z => by have z' : (none : Option HO) = some u := z; cases z') (fun b z => absurd rfl z) fun z => absurd rfl z
  | none =>
    refine core (fun b => if b = a then some (.frz { cls := .type "list", data := .seq vs.toArray } (.lst (ns.map V.int))) else none) (fun b => ?_) (.inl (.inr ⟨{ cls := .type "list", data := .seq vs.toArray }, if_pos rfl⟩)) (fun b u z => ?_) (fun b z => ?_) fun _ => hk
    · by_cases hb : b = a
      · exact .inr ⟨_, _, if_pos hb⟩
      · exact .inl (if_neg hb)
    · by_cases hb : b = a
      · have z' := (if_pos hb).symm.trans z
        cases z'
        subst hb
        exact ⟨ha, by rw [List.length_map]; exact hl, vs, _, rv, ha⟩
      · have z' := (if_neg hb).symm.trans z
        cases z'
    · by_cases hb : b = a
      · exact hb
      · exact absurd (if_neg hb) z
end L2
namespace L2
open PySem PySem.Spec PyProof.Rows
theorem walk_of {l : PySem.W.OpenLaw} {n k : Nat} {q : Program} {loose : List Str} {XP : (Str -> Option Value) -> Heap -> Prop} {YP : World -> Heap -> Prop} {d : DefRec} {K : Params -> PySem.W.Frag} {CX : World -> CXT} {sp : World -> Sp} {x : Str}
    (hn : l.most = some n) (hn2 : n <= sizeLine) (hdf : d.params.defaults = []) (hr : Room k callerA)
    (hY : ∀ (w : World) (h : Heap), YP w h -> (K w.params).In h)
    (F : ∀ (w : World) (mg : Str -> Option Value) (fa : Addr) (h : Heap), (K w.params).In h -> h.Ns mainGlobals mg -> mg d.name = some (.ref fa) ->
      ∃ fd : FuncData, (∀ (s : Shared) (u : Value), BindsTo s fd ⟨[u], []⟩ [(x, u)]) /\
        ∀ base : Heap, (K w.params).In base -> base.Ns mainGlobals mg -> FnOk l.prog w (K w.params) mg base (CX w) k fa fd [x] (sp w))
    (hsp : ∀ (w : World) (H : Hp) (a : Addr) (ns : List Int), ns.length <= n -> Only H -> SqL (K w.params) H a (ns.map V.int) -> sp w [.ref a] H (fun v _ => v = .bl true) fun _ _ _ => False)
    (hCX : ∀ (w : World) (H : Hp) (s : Shared) (e : Value) (s' : Shared), CX w [] H s (fun _ _ _ => False) e s' -> False) :
    PySem.W.WalkO q loose XP YP l.row.toRowW d [] (fun f vs => PySem.call f vs) := by
  refine Att.attach_call hn hdf fun w s₀ s₁ mg mb fa o pm cd doc a vs ns G Y ho hd hcd hmg hobj hints hlen hg => ?_
  have KX := hY w _ Y
  obtain ⟨fd, hb, hF⟩ := F w mg fa _ KX G.T.g hmg
  exact law_call KX G.T.g G.T.b G.T.builtins G.T.nolimit hg hobj hints (Nat.le_trans hlen hn2) hr hF hb (fun H hO hS => hsp w H a ns hlen hO hS) fun H e s' => hCX w H s₁ e s'
end L2
/- THE LAST THEOREM (shape; LID, My.* are yours):
   My.Adr: a structure of the addresses that your layer names (classes, functions); My.Txt K t: a structure (Prop) of the equations over K;
   My.txt_mk : {K} {implicit addresses ..} (e1 : nsIn K mainGlobals "law" = some (some (.ref f))) (e2 : K.lookup f = some ⟨oc, od, .func (fnOf "law" "law" params body scope dV kV doc pm an cdv ct), sl⟩) (e3 : codeIn K cdv "law" = true) .. : ∃ t, My.Txt K t
set_option maxRecDepth 100000 in
set_option maxHeartbeats 0 in
theorem PySem.Challenge.cw_LID_holds : PySem.Challenge.rw_LID.Holds := by
  w_on; o_law; k_head; (case hw => w_witness2)
  k_fill
  refine L2.walk_of (l := PySem.Challenge.rw_LID) (n := 63) (k := 40) (x := "script") (CX := fun w => ..) (sp := fun _ => My.sp_law) rfl (by decide) rfl ⟨rfl, by decide, by decide⟩ (fun w h Y => PySem.W.kIn_of Y) ?F ?S ?C
  case F =>
    intro w mg fa h KX G hmg
    have T : ∃ t, My.Txt (L2.KOf KX) t := by
      dsimp only [L2.KOf]                          -- K must stand as «<heap const> w.params» for k_is
      refine' My.txt_mk ?e1 ?e2 ?e3 ..
      (case e1 => PySem.W.k_is)                    -- in the order: a name -> its address -> its object -> its parts
      (case e2 => PySem.W.k_is)
      ..
    obtain ⟨t, T⟩ := T
    have e0 := hmg.symm.trans (PySem.W.mg_of KX G T.law)
    cases e0                                       -- fa is the law's own address
    exact ⟨_, fun s u => .of_eq rfl, fun base kb nb => My.law_fn T kb nb⟩     -- if «.of_eq rfl» comes too early: refine' ⟨_, ?b, fun base kb nb => My.law_fn T kb nb⟩; exact fun s u => .of_eq rfl
  case S => exact fun w H a ns hl hO hS => ..
  case C => exact ..
(the tactic k_is has no namespace: write k_is) -/
namespace L2
open PySem PySem.Spec PyProof.Rows
def inClass (s : Stmt) (j : Nat) : Stmt := match s with
  | .ClassDef _ _ _ body _ _ _ _ _ _ _ => body.getD j (.Pass ⟨0, 0, 0, 0⟩)
  | _ => .Pass ⟨0, 0, 0, 0⟩
def defArgs (s : Stmt) : Arguments := match s with
  | .FunctionDef _ a _ _ _ _ _ _ _ _ => a
  | _ => { posonlyargs := [], args := [], vararg := none, kwonlyargs := [], kw_defaults := [], kwarg := none, defaults := [] }
def defBody (s : Stmt) : List Stmt := match s with
  | .FunctionDef _ _ b _ _ _ _ _ _ _ => b
  | _ => []
def defScope (s : Stmt) : Scope := match s with
  | .FunctionDef _ _ _ _ _ _ sc _ _ _ => sc
  | _ => { kind := .function, names := [], isGenerator := false, isCoroutine := false }
abbrev CX0 : CXT := fun _ _ _ _ _ _ => False
abbrev E0 : XK := fun _ _ _ => False
theorem pass0 {X : Cx} : Passes CX0 X E0 := fun _ _ _ _ _ _ _ h => h.elim
structure Fun (K : PySem.W.Frag) (x qual : Str) (st : Stmt) (f : Addr) (fd : FuncData) : Prop where
  ex : ∃ (oc : Value) (od : Option Addr) (kV doc pm : Value) (an : Option Addr) (cdv ct : Value) (osl : Array (Option Value)),
    fd = PySem.W.fnOf x qual (defArgs st) (defBody st) (defScope st) .none kV doc pm an cdv ct /\ K.lookup f = some ⟨oc, od, .func fd, osl⟩ /\ PySem.W.codeIn K cdv qual = true
  kp : PySem.W.keepIn K (.ref f) = true
section
variable {P : Program} {w : World} {K : PySem.W.Frag} {mg : Str -> Option Value} {base : Heap}
theorem Fun.ok {x qual : Str} {st : Stmt} {f : Addr} {fd : FuncData} {N ps : List Str} {k : Nat} {sp : Sp} (F : Fun K x qual st f fd) (S : FnScope N ps (defScope st)) (len : ∀ vs H Q E, sp vs H Q E -> vs.length = ps.length)
    (hbody : ∀ (cdv : Value) (A : Around) (outer : List Env) (s : Shared) (H : Hp) (vs : List V) (Q : VK) (E : XK), Room k (A.deeper (envOfC qual (defScope st) s.heap.objs.size f cdv)) -> sp vs H Q E ->
      ∃ t, PSs (cxOf CX0 P w K mg base N qual (defScope st) f cdv A outer s H E).nox (defBody st) t /\ t { nx := fun _ H' => Q .non H', rt := Q } (start N vs) H) : FnOk P w K mg base CX0 (k + 1) f fd ps sp := by
  obtain ⟨oc, od, kV, doc, pm, an, cdv, ct, osl, rfl, lk, hcd⟩ := F.ex
  refine fn_of lk hcd S len fun A outer s H vs Q E hr hsp => ?_
  obtain ⟨t, h, q⟩ := hbody cdv A outer s H vs Q E hr hsp
  exact ⟨t, h.nox, q⟩
theorem Fun.binds {x qual : Str} {st : Stmt} {f : Addr} {fd : FuncData} {ps : List Str} (F : Fun K x qual st f fd)
    (h : ∀ (kV doc pm : Value) (an : Option Addr) (cdv ct : Value) (us : List Value), us.length = ps.length -> bindArgs (PySem.W.fnOf x qual (defArgs st) (defBody st) (defScope st) .none kV doc pm an cdv ct) ⟨us, []⟩ = pure (ps.zip us)) : Binds K fd ps [] := by
  obtain ⟨oc, od, kV, doc, pm, an, cdv, ct, osl, rfl, lk, hcd⟩ := F.ex
  exact .all (h kV doc pm an cdv ct)
theorem fun_mk {x qual : Str} {st : Stmt} {f : Addr} {oc : Value} {od an : Option Addr} {osl : Array (Option Value)} {kV doc pm cdv ct : Value} (l : K.lookup f = some ⟨oc, od, .func (PySem.W.fnOf x qual (defArgs st) (defBody st) (defScope st) .none kV doc pm an cdv ct), osl⟩)
    (c : PySem.W.codeIn K cdv qual = true) (k : PySem.W.keepIn K (.ref f) = true) : Fun K x qual st f (PySem.W.fnOf x qual (defArgs st) (defBody st) (defScope st) .none kV doc pm an cdv ct) := ⟨⟨oc, od, kV, doc, pm, an, cdv, ct, osl, rfl, l, c⟩, k⟩
end
section
variable {X : Cx}
theorem pv (i : Nat) {x : Str} {pos : Pos} (hN : X.N[i]? = some x := by rfl) (hv : Vis X.env.scope x := by first | exact Or.inl rfl | exact Or.inr (Or.inl rfl) | exact Or.inr (Or.inr rfl)) (hd : (x == ("__debug__" : Str)) = false := by decide)
    (hcd : (x == ("__classdict__" : Str)) = false := by decide) : PE X (.Name x pos) (tVar i) := pe_var hN hv hd hcd
end
theorem iteF {A B : Prop} (h : B) : if false = true then A else B := by
  rw [if_neg Bool.false_ne_true]
  exact h
theorem iteT {A B : Prop} (h : A) : if true = true then A else B := by
  rw [if_pos rfl]
  exact h
theorem ite2 {c A B : Prop} [Decidable c] (h1 : c -> A) (h2 : ¬ c -> B) : if c then A else B := by
  by_cases h : c
  · rw [if_pos h]
    exact h1 h
  · rw [if_neg h]
    exact h2 h
theorem iteNS {c A B : Prop} [Decidable c] (hc : c) (h : B) : if (!decide c) = true then A else B := by
  rw [decide_eq_true hc]
  exact iteF h
def Same (H H' : Hp) : Prop := ∀ b o, H b = some o -> H' b = some o
theorem Same.refl (H : Hp) : Same H H := fun _ _ h => h
theorem Same.trans {H H1 H2 : Hp} (a : Same H H1) (b : Same H1 H2) : Same H H2 := fun c o h => b c o (a c o h)
theorem Same.free {H H' : Hp} (e : Same H H') {l : Addr} (h : H' l = Option.none) : H l = Option.none := by
  cases q : H l with
  | none => rfl
  | some o =>
    rw [e l o q] at h
    cases h
theorem Same.seq {K : PySem.W.Frag} {H H' : Hp} {a : Addr} {xs : List V} (e : Same H H') (h : SqL K H a xs) : SqL K H' a xs := by
  rcases h with (h | ⟨o, h⟩) | h
  · exact .inl (.inl (e _ _ h))
  · exact .inl (.inr ⟨o, e _ _ h⟩)
  · exact .inr h
end L2
namespace K11
open PySem
def sg (c : Nat) : Str := ⟨#[c]⟩
def inS (c j : Str) : Bool := !(Builtin.Str.occurrences j c 0 j.length 1).isEmpty
def signs (z : Str) : List Str := z.cps.toList.map sg
def madeOf (z j : Str) : Bool := (signs z).all (inS · j)
theorem signs_len (z : Str) : (signs z).length = z.length := by simp [signs, Str.length]
theorem starts_one (x : Str) (d : Nat) : Txt.startswith x (sg d) = (x.cps[0]? == some d) := by
  obtain ⟨⟨l⟩⟩ := x
  cases l with
  | nil => simp [Txt.startswith, Str.length, sg]
  | cons c r => simp [Txt.startswith, Builtin.Str.subAt, sg, Str.length]
end K11
namespace K11
open PySem PySem.Spec PyProof.Rows Builtin Builtin.Str
abbrev cl (z : Str) : List Nat := z.cps.toList
theorem str_ext {x y : Str} (h : cl x = cl y) : x = y := by
  obtain ⟨⟨a⟩⟩ := x
  obtain ⟨⟨b⟩⟩ := y
  have e : a = b := h
  rw [e]
theorem cl_len (z : Str) : (cl z).length = z.length := by simp [Str.length]
theorem cl_app (x y : Str) : cl (x ++ y) = cl x ++ cl y := by
  show (x.cps ++ y.cps).toList = _
  simp
theorem inS_iff {c : Nat} {j : Str} : inS (sg c) j = true ↔ c ∈ cl j := by
  unfold inS sg
  rw [StrLaws.found_iff]
  constructor
  · rintro ⟨i, h⟩
    exact List.mem_of_getElem? ((StrLaws.subAt_one j c i).mp h)
  · intro h
    obtain ⟨i, hi⟩ := List.getElem?_of_mem h
    exact ⟨i, (StrLaws.subAt_one j c i).mpr hi⟩
theorem madeOf_iff {z j : Str} : madeOf z j = true ↔ ∀ c ∈ cl z, c ∈ cl j := by
  unfold madeOf signs
  rw [List.all_eq_true]
  constructor
  · intro h c hc
    exact inS_iff.mp (h _ (List.mem_map.mpr ⟨c, hc, rfl⟩))
  · intro h x hx
    obtain ⟨c, hc, rfl⟩ := List.mem_map.mp hx
    exact inS_iff.mpr (h c hc)
def cutAt (n : Nat) : Option Int -> Nat -> Nat
  | none, d => d
  | some i, _ => if i < 0 then (i + n).toNat else min i.toNat n
theorem cutAt_le {n : Nat} {o : Option Int} {d : Nat} (hd : d <= n) : cutAt n o d <= n := by
  cases o with
  | none => exact hd
  | some i =>
    show (if i < 0 then (i + n).toNat else min i.toNat n) <= n
    by_cases c : i < 0
    · rw [if_pos c]; omega
    · rw [if_neg c]; omega
theorem cut_max {n : Nat} {i : Int} : max 0 (min (if i < 0 then i + n else i) (n : Int)) = ((cutAt n (some i) 0 : Nat) : Int) := by
  show _ = (((if i < 0 then (i + n).toNat else min i.toNat n) : Nat) : Int)
  by_cases c : i < 0
  · rw [if_pos c, if_pos c]; omega
  · rw [if_neg c, if_neg c]; omega
theorem cut_nat {n a : Nat} (h : a <= n) : max 0 (min (if (a : Int) < 0 then (a : Int) + n else (a : Int)) (n : Int)) = (a : Int) := by
  rw [if_neg (by omega)]; omega
theorem idx_cut (n : Nat) (lo hi : Option Int) : strSliceIndices lo hi 1 n = strSliceIndices (some (cutAt n lo 0 : Nat)) (some (cutAt n hi n : Nat)) 1 n := by
  have h1 : cutAt n lo 0 <= n := cutAt_le (Nat.zero_le _)
  have h2 : cutAt n hi n <= n := cutAt_le (Nat.le_refl _)
  unfold strSliceIndices
  dsimp only
  simp only [show ((1 : Int) > 0) = True from eq_true (by decide), if_true]
  rw [cut_nat h1, cut_nat h2]
  congr 1
  · cases lo with
    | none => rfl
    | some i => exact cut_max
  · cases hi with
    | none => rfl
    | some i => exact cut_max
theorem idx_none {a b n : Nat} (h : b < a) (ha : a <= n) : strSliceIndices (some (a : Int)) (some (b : Int)) 1 n = [] := by
  unfold strSliceIndices
  dsimp only
  simp only [show ((1 : Int) > 0) = True from eq_true (by decide), if_true]
  rw [cut_nat ha, cut_nat (by omega)]
  unfold sliceRange
  have c : ¬ ((a : Int) < b) := by omega
  simp [c]
theorem cl_slice (z : Str) (lo hi : Option Int) : cl (Txt.slice z lo hi) = ((cl z).drop (cutAt z.length lo 0)).take (cutAt z.length hi z.length - cutAt z.length lo 0) := by
  have h1 : cutAt z.length lo 0 <= z.length := cutAt_le (Nat.zero_le _)
  have h2 : cutAt z.length hi z.length <= z.length := cutAt_le (Nat.le_refl _)
  unfold Txt.slice
  rw [idx_cut z.length lo hi]
  have zl := cl_len z
  by_cases c : cutAt z.length lo 0 <= cutAt z.length hi z.length
  · have e := StrLaws.sliced_plain z c h2
    have el : (strSliceIndices (some (cutAt z.length lo 0 : Nat)) (some (cutAt z.length hi z.length : Nat)) 1 z.length).length = cutAt z.length hi z.length - cutAt z.length lo 0 := by rw [StrLaws.strSliceIndices_plain c h2]; simp
    rw [el]
    by_cases q : cutAt z.length hi z.length - cutAt z.length lo 0 = z.length
    · rw [if_pos (by simp [q])]
      have a0 : cutAt z.length lo 0 = 0 := by omega
      rw [a0, List.drop_zero, List.take_of_length_le (by omega)]
    · rw [if_neg (by simp [q])]
      simpa using e
  · have n0 : cutAt z.length hi z.length - cutAt z.length lo 0 = 0 := by omega
    rw [idx_none (by omega) h1, n0, List.take_zero]
    rw [if_neg (by simp; omega)]
    rfl
theorem cl_join_cons {sep x y : Str} {r : List Str} : cl (Str.join sep (x :: y :: r)) = cl x ++ (cl sep ++ cl (Str.join sep (y :: r))) := by
  show cl (x ++ sep ++ Str.join sep (y :: r)) = _
  rw [cl_app, cl_app, List.append_assoc]
theorem free_split {c : Nat} : ∀ {a b r t : List Nat}, c ∉ a -> c ∉ b -> a ++ c :: r = b ++ c :: t -> a = b /\ r = t
  | [], [], _, _, _, _, h => by simpa using h
  | [], y :: b, _, _, _, hb, h => by
    injection h with h1 _
    exact absurd h1 (fun e => hb (by rw [e]; exact List.mem_cons_self))
  | x :: a, [], _, _, ha, _, h => by
    injection h with h1 _
    exact absurd h1.symm (fun e => ha (by rw [e]; exact List.mem_cons_self))
  | x :: a, y :: b, r, t, ha, hb, h => by
    injection h with h1 h2
    obtain ⟨e1, e2⟩ := free_split (fun z => ha (List.mem_cons_of_mem _ z)) (fun z => hb (List.mem_cons_of_mem _ z)) h2
    exact ⟨by rw [h1, e1], e2⟩
theorem join_inj {c : Nat} : ∀ {ps qs : List Str}, ps ≠ [] -> qs ≠ [] -> (∀ p ∈ ps, c ∉ cl p) -> (∀ q ∈ qs, c ∉ cl q) -> Str.join (sg c) ps = Str.join (sg c) qs -> ps = qs
  | [], _, h, _, _, _, _ => absurd rfl h
  | _, [], _, h, _, _, _ => absurd rfl h
  | [p], [q], _, _, _, _, h => by
    have h' : p = q := h
    rw [h']
  | [p], q :: q2 :: qs, _, _, hp, _, h => by
    have e := congrArg cl h
    rw [cl_join_cons] at e
    have e' : cl p = cl q ++ ([c] ++ cl (Str.join (sg c) (q2 :: qs))) := e
    exact absurd (show c ∈ cl p by rw [e']; simp) (hp p List.mem_cons_self)
  | p :: p2 :: ps, [q], _, _, _, hq, h => by
    have e := congrArg cl h
    rw [cl_join_cons] at e
    have e' : cl p ++ ([c] ++ cl (Str.join (sg c) (p2 :: ps))) = cl q := e
    exact absurd (show c ∈ cl q by rw [<- e']; simp) (hq q List.mem_cons_self)
  | p :: p2 :: ps, q :: q2 :: qs, _, _, hp, hq, h => by
    have e := congrArg cl h
    rw [cl_join_cons, cl_join_cons] at e
    obtain ⟨e1, e2⟩ := free_split (c := c) (hp p List.mem_cons_self) (hq q List.mem_cons_self) e
    have ih := join_inj (c := c) (ps := p2 :: ps) (qs := q2 :: qs) (by simp) (by simp) (fun x hx => hp x (List.mem_cons_of_mem _ hx)) (fun x hx => hq x (List.mem_cons_of_mem _ hx)) (str_ext e2)
    rw [str_ext e1, ih]
theorem split_join {c : Nat} {ws : List Str} (h0 : ws ≠ []) (hw : ∀ x ∈ ws, c ∉ cl x) : Txt.split (Str.join (sg c) ws) (sg c) = ws := by
  refine join_inj (c := c) (fun e => ?_) h0 (StrLaws.split_free _ c) hw (StrLaws.join_split _ _)
  have := split_pos (Str.join (sg c) ws) (sg c)
  rw [e] at this
  simp at this
theorem mem_join {c d : Nat} : ∀ {ws : List Str}, d ∈ cl (Str.join (sg c) ws) -> d = c \/ ∃ x ∈ ws, d ∈ cl x
  | [], h => by
    have h' : d ∈ ([] : List Nat) := h
    cases h'
  | [x], h => .inr ⟨x, List.mem_cons_self, h⟩
  | x :: y :: r, h => by
    rw [cl_join_cons] at h
    rcases List.mem_append.mp h with h | h
    · exact .inr ⟨x, List.mem_cons_self, h⟩
    · rcases List.mem_append.mp h with h | h
      · exact .inl (List.mem_singleton.mp h)
      · rcases mem_join h with h | ⟨z, hz, hd⟩
        · exact .inl h
        · exact .inr ⟨z, List.mem_cons_of_mem _ hz, hd⟩
theorem join_app {c : Nat} : ∀ {ws : List Str} {vs : List Str}, ws ≠ [] -> vs ≠ [] -> cl (Str.join (sg c) (ws ++ vs)) = cl (Str.join (sg c) ws) ++ c :: cl (Str.join (sg c) vs)
  | [], _, h, _ => absurd rfl h
  | [x], v :: vs, _, _ => by
    show cl (Str.join (sg c) (x :: v :: vs)) = _
    rw [cl_join_cons]
    rfl
  | x :: y :: r, vs, _, hv => by
    have ih := join_app (c := c) (ws := y :: r) (vs := vs) (by simp) hv
    show cl (Str.join (sg c) (x :: y :: (r ++ vs))) = _
    rw [cl_join_cons, cl_join_cons]
    have e : cl (Str.join (sg c) (y :: (r ++ vs))) = _ := ih
    rw [e]
    simp
theorem len_join {c : Nat} : ∀ {ws : List Str} {k : Nat}, (∀ x ∈ ws, x.length <= k) -> (Str.join (sg c) ws).length <= ws.length * (k + 1)
  | [], _, _ => by simp [Str.join, Str.length]; rfl
  | [x], k, h => by
    have := h x List.mem_cons_self
    show x.length <= _
    simp; omega
  | x :: y :: r, k, h => by
    have h1 := h x List.mem_cons_self
    have ih := len_join (c := c) (ws := y :: r) (k := k) fun z hz => h z (List.mem_cons_of_mem _ hz)
    rw [<- cl_len, cl_join_cons, List.length_append, List.length_append, cl_len, cl_len, cl_len]
    have : (sg c).length = 1 := rfl
    simp only [List.length_cons, Nat.add_mul, Nat.one_mul] at ih ⊢
    omega
end K11
namespace K11
open PySem PySem.Spec PyProof.Rows Builtin Builtin.Str NumText
theorem figs_all (m : Nat) : AllDigits ((Nat.toDigits 10 m).map Char.toNat) := by
  induction m using Nat.strongRecOn with
  | _ m ih =>
    by_cases h : m < 10
    · rw [Nat.toDigits_of_lt_base h]
      intro c hc
      rw [List.map_singleton, List.mem_singleton] at hc
      have : ∀ d : Nat, d < 10 -> 48 <= (Nat.digitChar d).toNat /\ (Nat.digitChar d).toNat <= 57 := by decide
      rw [hc]
      exact this m h
    · rw [Nat.toDigits_of_base_le (by decide) (by omega), List.map_append]
      intro c hc
      rcases List.mem_append.mp hc with hc | hc
      · exact ih (m / 10) (by omega) c hc
      · rw [List.map_singleton, List.mem_singleton] at hc
        have : ∀ d : Nat, d < 10 -> 48 <= (Nat.digitChar d).toNat /\ (Nat.digitChar d).toNat <= 57 := by decide
        rw [hc]
        exact this (m % 10) (Nat.mod_lt _ (by decide))
theorem figs_head (m : Nat) (h0 : m ≠ 0) : ∃ c r, (Nat.toDigits 10 m).map Char.toNat = c :: r /\ 49 <= c := by
  induction m using Nat.strongRecOn with
  | _ m ih =>
    by_cases h : m < 10
    · rw [Nat.toDigits_of_lt_base h]
      have : ∀ d : Nat, d < 10 -> d ≠ 0 -> 49 <= (Nat.digitChar d).toNat := by decide
      exact ⟨_, [], rfl, this m h h0⟩
    · obtain ⟨c, r, e, hc⟩ := ih (m / 10) (by omega) (by omega)
      rw [Nat.toDigits_of_base_le (by decide) (by omega), List.map_append, e]
      exact ⟨c, _, rfl, hc⟩
theorem cl_nat (m : Nat) : cl (Str.ofString (toString ((m : Nat) : Int))) = (Nat.toDigits 10 m).map Char.toNat := PySem.W.KIN.signs_num m
theorem cl_neg (m : Nat) : cl (Str.ofString (toString (Int.negSucc m))) = 45 :: (Nat.toDigits 10 (m + 1)).map Char.toNat := by
  show (Str.ofString ("-" ++ Nat.repr (m + 1))).cps.toList = _
  rw [Str.ofString_eq_toList]
  show ("-" ++ Nat.repr (m + 1)).toList.map Char.toNat = _
  rw [String.toList_append, List.map_append]
  show [45] ++ (String.ofList (Nat.toDigits 10 (m + 1))).toList.map Char.toNat = _
  rw [String.toList_ofList]
  rfl
end K11
namespace L2
open PySem PySem.Spec PyProof.Rows
def AllIn (env : Env) : List (Str × Addr) -> Prop
  | [] => True
  | p :: r => env.cells.lookup p.1 = some p.2 /\ AllIn env r
theorem AllIn.get {env : Env} : ∀ {cl : List (Str × Addr)} {y : Str} {c : Addr}, AllIn env cl -> cl.lookup y = some c -> env.cells.lookup y = some c
  | [], _, _, _, h => by simp at h
  | (n, a) :: r, y, c, ⟨e, t⟩, h => by
    rw [List.lookup_cons] at h
    by_cases q : y = n
    · subst q
      rw [beq_self_eq_true] at h
      cases h
      exact e
    · have q' : (y == n) = false := beq_eq_false_iff_ne.mpr q
      rw [q'] at h
      exact AllIn.get t h
def blank : List Nat -> St -> St
  | [], σ => σ
  | i :: S, σ => blank S (σ.set i none)
theorem blank_len : ∀ (S : List Nat) (σ : St), (blank S σ).length = σ.length
  | [], _ => rfl
  | i :: S, σ => by rw [blank, blank_len S, List.length_set]
theorem blank_get : ∀ (S : List Nat) (σ : St) {j : Nat} {v : V}, (blank S σ)[j]? = some (some v) -> σ[j]? = some (some v) /\ j ∉ S
  | [], _, _, _, h => ⟨h, by simp⟩
  | i :: S, σ, j, v, h => by
    obtain ⟨h1, h2⟩ := blank_get S (σ.set i none) h
    rw [List.getElem?_set] at h1
    by_cases e : i = j
    · rw [if_pos e] at h1
      split at h1 <;> cases h1
    · rw [if_neg e] at h1
      exact ⟨h1, fun z => (List.mem_cons.mp z).elim (fun z => e z.symm) h2⟩
structure LcOk (X : Cx) (scope : Scope) (cl : List (Str × Addr)) (S : List Nat) : Prop where
  clos : closureFor scope X.env = pure cl
  kind : scope.kind = .function
  noC : scope.names.all (fun y => y.2 != .cell) = true
  loc : scope.names.all (fun y => y.2 != .local || scope.names.lookup y.1 == some .local) = true
  own : X.N.zipIdx.all (fun y => S.contains y.2 || scope.names.lookup y.1 != some .local) = true
  sub : AllIn X.env cl
  has : scope.names.all (fun p => p.2 != .free || ((cl.lookup p.1).isSome && (X.env.kindOf p.1 == some .cell || X.env.kindOf p.1 == some .free))) = true
section
variable {X : Cx} {scope : Scope} {cl : List (Str × Addr)} {S : List Nat}
theorem LcOk.nocell (L : LcOk X scope cl S) : ∀ y ∈ scope.names, y.2 ≠ .cell := fun y hy => by
  have h := List.all_eq_true.mp L.noC y hy
  exact bne_iff_ne.mp h
theorem LcOk.locs (L : LcOk X scope cl S) : ∀ y ∈ scope.names, y.2 = .local -> scope.names.lookup y.1 = some .local := fun y hy e => by
  have h := List.all_eq_true.mp L.loc y hy
  rw [e] at h
  simpa using h
theorem LcOk.apart (L : LcOk X scope cl S) : ∀ (i : Nat) (y : Str), X.N[i]? = some y -> i ∉ S -> scope.names.lookup y ≠ some .local := fun i y hy hi => by
  have h := List.all_eq_true.mp L.own (y, i) (List.mem_zipIdx_iff_getElem?.mpr hy)
  have hc : S.contains i = false := by simpa using hi
  rw [hc, Bool.false_or] at h
  exact bne_iff_ne.mp h
theorem LcOk.free (L : LcOk X scope cl S) {y : Str} (h : scope.names.lookup y = some .free) : (∃ c, cl.lookup y = some c) /\ (X.env.kindOf y = some .cell \/ X.env.kindOf y = some .free) := by
  have h1 := List.all_eq_true.mp L.has _ (PySem.mem_of_lookup h)
  simp only [bne_self_eq_false, Bool.false_or, Bool.and_eq_true, Bool.or_eq_true, beq_iff_eq] at h1
  exact ⟨Option.isSome_iff_exists.mp h1.1, h1.2⟩
theorem lookup_relabel (names : List (Str × NameKind)) (env : Env) (y : Str) :
    (names.map fun (n, k) => if (k == NameKind.free && env.scope.kind == .function && env.kindOf n == some .cell) then (n, NameKind.cell) else (n, k)).lookup y =
      (names.lookup y).map fun k => if (k == NameKind.free && env.scope.kind == .function && env.kindOf y == some .cell) then NameKind.cell else k := by
  induction names with
  | nil => rfl
  | cons p r ih =>
    obtain ⟨n, k⟩ := p
    rw [List.map_cons]
    by_cases q : y = n
    · subst q
      by_cases hc : (k == NameKind.free && env.scope.kind == .function && env.kindOf y == some .cell) = true
      · show List.lookup y ((if (k == NameKind.free && env.scope.kind == .function && env.kindOf y == some .cell) = true then (y, NameKind.cell) else (y, k)) :: _) = _
        rw [if_pos hc, List.lookup_cons, List.lookup_cons, beq_self_eq_true]
        show some NameKind.cell = some (if _ then _ else _)
        rw [if_pos hc]
      · show List.lookup y ((if (k == NameKind.free && env.scope.kind == .function && env.kindOf y == some .cell) = true then (y, NameKind.cell) else (y, k)) :: _) = _
        rw [if_neg hc, List.lookup_cons, List.lookup_cons, beq_self_eq_true]
        show some k = some (if _ then _ else _)
        rw [if_neg hc]
    · have q' : (y == n) = false := beq_eq_false_iff_ne.mpr q
      by_cases hc : (k == NameKind.free && env.scope.kind == .function && env.kindOf n == some .cell) = true
      · show List.lookup y ((if (k == NameKind.free && env.scope.kind == .function && env.kindOf n == some .cell) = true then (n, NameKind.cell) else (n, k)) :: _) = _
        rw [if_pos hc, List.lookup_cons, List.lookup_cons, q']
        exact ih
      · show List.lookup y ((if (k == NameKind.free && env.scope.kind == .function && env.kindOf n == some .cell) = true then (n, NameKind.cell) else (n, k)) :: _) = _
        rw [if_neg hc, List.lookup_cons, List.lookup_cons, q']
        exact ih
theorem LcOk.kinds (L : LcOk X scope cl S) {y : Str} (h : (relabel scope X.env).names.lookup y = some .cell \/ (relabel scope X.env).names.lookup y = some .free) : scope.names.lookup y = some .free := by
  have e : (relabel scope X.env).names.lookup y = (scope.names.lookup y).map fun k => if (k == NameKind.free && X.env.scope.kind == .function && X.env.kindOf y == some .cell) then NameKind.cell else k := lookup_relabel scope.names X.env y
  rw [e] at h
  cases q : scope.names.lookup y with
  | none => rw [q] at h; rcases h with h | h <;> cases h
  | some k =>
    have hk : k ≠ .cell := L.nocell _ (PySem.mem_of_lookup q)
    rw [q] at h
    by_cases hf : k = .free
    · rw [hf]
    · have z : (k == NameKind.free) = false := beq_eq_false_iff_ne.mpr hf
      rw [Option.map_some, z, Bool.false_and, Bool.false_and, if_neg Bool.false_ne_true] at h
      rcases h with h | h
      · exact absurd (Option.some.inj h) hk
      · exact absurd (Option.some.inj h) hf
def cxLC (X : Cx) (scope : Scope) (cl : List (Str × Addr)) (M : List Str) (C : Addr) (s₀ : Shared) (H₀ : Hp) (ex : List Addr) (E : Value -> Shared -> Prop) : Cx where
  prog := X.prog
  w := X.w
  K := X.K
  mg := X.mg
  base := X.base
  A := X.A
  N := X.N ++ M
  s₀ := s₀
  H₀ := H₀
  env := compEnvC scope cl C X.env
  outer := X.stack
  stack := X.stack
  ex := ex
  fn := fun _ => false
  calm := X.calm
  pn := []
  xe := E
variable {pins : List (Addr × Obj)} {σ : St} {H : Hp} {s : Shared} {ex : List Addr} {M : List Str} {C : Addr}
theorem lc_start {E : Value -> Shared -> Prop} {h1 : Heap} {tk : Nat} {m : Str -> Option Value} (I : Inv X pins σ H s) (L : LcOk X scope cl S) (hf : ∀ b ∈ ex, FpOk X pins H b) (hlt : ∀ b ∈ ex, b < s.heap.objs.size)
    (hk : ∀ b o, s.heap.get? b = some o -> h1.get? b = some o) (hC : s.heap.objs.size <= C) (hns : h1.Ns C m) :
    Inv (cxLC X scope cl M C s H ex E) [] (blank S σ ++ List.replicate M.length none) H { s with heap := h1, toks := tk } := by
  refine ⟨⟨I.ok.mod, L.kind, I.ok.glob, I.ok.blt, hC, fun x y c a b => I.ok.inj x y c (L.sub.get a) (L.sub.get b), fun y hy => (L.free (L.kinds hy)).1, (fun x c z => nomatch z), I.ok.hd, I.ok.frames, .inl rfl, fun b hb => ⟨?_, fun x c e => ?_⟩,
      I.bs, Nat.le_trans I.ok.bsz I.sz, fun b o e hb => ?_, fun b hb z => ?_, I.stack, I.stkFree⟩,
    rfl, I.bare, Un.kept hk, ⟨m, hns, fun i y v e1 e2 e3 => ?_⟩, fun y c e => ?_, I.hok.fresh hC, fun y c e => I.freeC y c (L.sub.get e), fun p hp => absurd (show p ∈ ([] : List (Addr × Obj)) from hp) (by simp), I.hok.kept hk, ?_⟩
  · exact Nat.ne_of_lt (Nat.lt_of_lt_of_le (hlt b hb) hC)
  · exact (hf b hb).2.2.2.2.1 x c (L.sub.get e)
  · rcases (hf b hb).2.2.2.1 with z | z
    · exact I.ok.noex b o e z
    · exact absurd (Nat.lt_of_lt_of_le (Heap.lt_size e) (Nat.le_trans I.ok.bsz z)) (Nat.lt_irrefl _)
  · rcases List.mem_cons.mp (I.stkSub b z) with q | q
    · exact (hf b hb).2.1 q
    · exact (hf b hb).2.2.1 q
  · have e1' : (X.N ++ M)[i]? = some y := e1
    by_cases hi : i < σ.length
    · rw [List.getElem?_append_left (by rw [blank_len]; exact hi)] at e2
      obtain ⟨e2, hiS⟩ := blank_get S σ e2
      rw [List.getElem?_append_left (by rw [<- I.len]; exact hi)] at e1'
      obtain ⟨m0, hn0, hl⟩ := I.loc
      have hy : scope.names.lookup y = some .free := by
        rcases e3 with e3 | e3
        · have q := lookup_relabel scope.names X.env y
          have e3' : (relabel scope X.env).names.lookup y = some .local := e3
          cases z : scope.names.lookup y with
          | none =>
            rw [z] at q
            have q' : (relabel scope X.env).names.lookup y = none := q
            rw [e3'] at q'; cases q'
          | some k =>
            have hk1 : k ≠ .local := fun w => L.apart i y e1' hiS (w ▸ z)
            rw [z, Option.map_some] at q
            have q' : some NameKind.local = some (if (k == NameKind.free && X.env.scope.kind == .function && X.env.kindOf y == some .cell) = true then NameKind.cell else k) := e3'.symm.trans q
            have q2 := Option.some.inj q'
            by_cases hc : (k == NameKind.free && X.env.scope.kind == .function && X.env.kindOf y == some .cell) = true
            · rw [if_pos hc] at q2; cases q2
            · rw [if_neg hc] at q2; exact absurd q2.symm hk1
        · exact L.kinds e3
      obtain ⟨⟨c, hc⟩, hk2⟩ := L.free hy
      obtain ⟨u, r, l⟩ := hl i y v e1' e2 (.inr hk2)
      refine ⟨u, r, .inr ⟨?_, c, hc, ?_⟩⟩
      · have q := lookup_relabel scope.names X.env y
        rw [hy, Option.map_some] at q
        have q' : (relabel scope X.env).names.lookup y = some (if (NameKind.free == NameKind.free && X.env.scope.kind == .function && X.env.kindOf y == some .cell) = true then NameKind.cell else NameKind.free) := q
        by_cases hc : (NameKind.free == NameKind.free && X.env.scope.kind == .function && X.env.kindOf y == some .cell) = true
        · rw [if_pos hc] at q'; exact .inl q'
        · rw [if_neg hc] at q'; exact .inr q'
      · rcases l with ⟨l1, _⟩ | ⟨_, c', e', z⟩
        · rcases hk2 with w | w <;> (rw [l1] at w; cases w)
        · have ec : c' = c := by
            have w := L.sub.get hc
            rw [e'] at w
            exact Option.some.inj w
          subst ec
          obtain ⟨o, ho, hd⟩ := z
          exact ⟨o, hk _ _ ho, hd⟩
    · rw [List.getElem?_append_right (by rw [blank_len]; exact Nat.not_lt.mp hi), List.getElem?_replicate] at e2
      split at e2 <;> cases e2
  · obtain ⟨v, o, ho, hd⟩ := I.cell y c (L.sub.get e)
    exact ⟨v, o, hk _ _ ho, hd⟩
  · show (blank S σ ++ List.replicate M.length none).length = (X.N ++ M).length
    rw [List.length_append, List.length_append, List.length_replicate, blank_len, I.len]
def PTs (X : Cx) (ifs : List Expr) (t : TT) : Prop :=
  ∀ (pins : List (Addr × Obj)) (s : Shared) (σ : St) (H : Hp) (Q : Bool -> Hp -> Prop), Inv X pins σ H s -> t σ H Q ->
    wpAny (model X.prog X.w) X.A (forIn ifs true fun c r => if r = true then do let ok <- isTrue c X.env (eval c X.env); pure (ForInStep.yield ok) else pure (ForInStep.yield r)) (TP X pins σ Q) X.xe s
def tYes : TT := fun _ H Q => Q true H
theorem pts_nil {X : Cx} : PTs X [] tYes := fun _ _ _ H _ I h => wpAny_tests_nil ⟨H, I, h⟩
def lcBy (J : It) (g : TG) (tt : TT) (te : TE) (Q : VK) (W : Nat -> Nat -> St -> List V -> Hp -> Prop) : Prop := ∀ i m τ ys H, W i m τ ys H ->
  (J.stop i H /\ ∀ p, H p = none -> Q (.ref p) (upd H p (.lst ys))) \/
  (J.go i H /\ ∃ N : St -> List V -> Hp -> Prop, (∀ τ' ys' H', N τ' ys' H' -> ∃ m', m' < m /\ W (i + 1) m' τ' ys' H') /\ ∀ x H', J.yld i H x H' -> g x τ H' fun τ2 H2 => tt τ2 H2 fun b H3 =>
    if b = true then te τ2 H3 fun y H4 => ys.length < sizeLine /\ N τ2 (ys ++ [y]) H4 else N τ2 ys H3)
def tLC (wi : TI) (g : TG) (tt : TT) (te : TE) (n : Nat) : TE := fun σ H Q => wi σ H fun J H1 => ∃ W, (∃ m, W 0 m (σ ++ List.replicate n none) [] H1) /\ lcBy J g tt te Q W
def tLCS (S : List Nat) (wi : TI) (g : TG) (tt : TT) (te : TE) (n : Nat) : TE := fun σ H Q => wi σ H fun J H1 => ∃ W, (∃ m, W 0 m (blank S σ ++ List.replicate n none) [] H1) /\ lcBy J g tt te Q W
theorem lc_core {tg elt iter : Expr} {ifs : List Expr} {pos : Pos} {g : TG} {tt : TT} {te : TE} {J : It} {fp : List Addr} {it : Addr} {tn : Nat -> Heap -> Prop} {Q : VK} {E : Value -> Shared -> Prop} {R : Value -> Addr -> Result -> Shared -> Prop}
    {W : Nat -> Nat -> St -> List V -> Hp -> Prop} {m0 : Nat} (L : LcOk X scope cl S) (hc : X.calm = true) (I : Inv X pins σ H s) (T : Turn X.prog X.w X.K tg J fp it tn) (st : tn 0 s.heap) (hf : ∀ b ∈ fp, FpOk X pins H b)
    (hg : ∀ C s H ex E, PG (cxLC X scope cl M C s H ex E) tg g) (ht : ∀ C s H ex E, PTs (cxLC X scope cl M C s H ex E) ifs tt) (he : ∀ C s H ex E, PE (cxLC X scope cl M C s H ex E) elt te)
    (w0 : W 0 m0 (blank S σ ++ List.replicate M.length none) [] H) (turn : lcBy J g tt te Q W)
    (hR : ∀ D C s' H' ys m, Inv X pins σ (upd H' D (.lst ys)) s' -> FpOk X pins (upd H' D (.lst ys)) C -> s'.heap.Ns C m -> Q (.ref D) (upd H' D (.lst ys)) -> R (.ref D) C (.ok .next) s') :
    wpAny (model X.prog X.w) X.A (newList []) (fun acc s₃ => wpAny (model X.prog X.w) X.A (newFunctionEnv scope X.env.globals cl [] X.env.qual none .none (some X.env)) (fun cenv s₄ =>
      codeAny (model X.prog X.w) X.A (.compStart (.ListComp elt [⟨tg, iter, ifs, 0⟩] scope pos) 0 (.ref it) acc { cenv with scope := relabel scope X.env }) (R acc cenv.locals) s₄) E s₃) E s := by
  refine wpAny_newObj_type (wpAny_newFunctionEnv L.nocell (by intro y hy; simp at hy) (fun h₁ hns₁ hsb₁ => ?_) L.kind)
  dsimp only at hns₁ hsb₁ ⊢
  generalize hG : s.heap.push { cls := .type "list", dict := none, data := .seq ([] : List Value).toArray } = G at hns₁ hsb₁ ⊢
  have hC : G.objs.size = s.heap.objs.size + 1 := by rw [<- hG, Heap.size_push]
  have hDC : s.heap.objs.size ≠ G.objs.size := by rw [hC]; exact Nat.ne_of_lt (Nat.lt_succ_self _)
  have hCle : s.heap.objs.size <= G.objs.size := by rw [hC]; exact Nat.le_succ _
  have old : ∀ b o, s.heap.get? b = some o -> h₁.get? b = some o := fun b o e =>
    hsb₁.extBut b o (by rw [hC]; exact Nat.ne_of_lt (Nat.lt_succ_of_lt (Heap.lt_size e))) (Heap.get?_push_of_some _ (hG ▸ Heap.get?_push_of_some _ e))
  have hacc : h₁.get? s.heap.objs.size = some { cls := .type "list", data := .seq ([] : List Value).toArray } := hsb₁.extBut _ _ hDC (Heap.get?_push_of_some _ (hG ▸ Heap.get?_push_size _ rfl))
  have fpo : ∀ b ∈ fp, b < s.heap.objs.size := fun b hb => let ⟨o, e, _⟩ := T.obj 0 _ st b hb; Heap.lt_size e
  have st1 : tn 0 h₁ := T.keep 0 _ _ st fun b _ o e => old b o e
  have nofs : s.heap.objs.size ∉ frs X.stack := fun z => by
    rcases List.mem_cons.mp (I.stkSub _ z) with q | q
    · exact absurd (q ▸ I.lt) (Nat.lt_irrefl _)
    · exact I.nofs (Nat.le_refl _) q
  have nocl : ∀ y c, cl.lookup y = some c -> c ≠ s.heap.objs.size := fun y c e z => by
    obtain ⟨v, o, ho, _⟩ := I.cell y c (L.sub.get e)
    exact absurd (z ▸ Heap.lt_size ho) (Nat.lt_irrefl _)
  have loop : ∀ s₃ : Shared, s₃ = { s with heap := h₁, toks := s.toks + ([] : List (Str × Value)).length } ->
      codeAny (model X.prog X.w) X.A (.compLoop (.ListComp elt [⟨tg, iter, ifs, 0⟩] scope pos) 0 (.ref it) (.ref s.heap.objs.size) (compEnvC scope cl G.objs.size X.env)) (R (.ref s.heap.objs.size) G.objs.size) s₃ := by
    rintro s₃ rfl
    generalize hE : notedBy (model X.prog X.w) X.A (compEnvC scope cl G.objs.size X.env) (fun e s' => R (.ref s.heap.objs.size) G.objs.size (.error e) s') = E'
    have IY : Inv (cxLC X scope cl M G.objs.size s H fp E') [] (blank S σ ++ List.replicate M.length none) H { s with heap := h₁, toks := s.toks + ([] : List (Str × Value)).length } := lc_start I L hf fpo old hCle hns₁
    refine codeAny_loop rfl (fun n s' => ∃ (i : Nat) (τ : St) (H' : Hp) (ys : List V) (its : List Value) (k : Nat), Inv (cxLC X scope cl M G.objs.size s H fp E') [] τ H' s' /\ tn i s'.heap /\ (∀ b ∈ fp, H' b = none) /\
      s'.heap.get? s.heap.objs.size = some { cls := .type "list", data := .seq its.toArray k } /\ H' s.heap.objs.size = none /\ Vals ys its /\ ys.length <= sizeLine /\ W i n τ ys H') (fun n s' hI => ?_) m0
      ⟨0, _, H, [], [], _, IY, st1, fun b hb => (hf b hb).1, hacc, I.hok.fresh (Nat.le_refl _), .nil, Nat.zero_le _, w0⟩
    obtain ⟨i, τ, H1, ys, its, k, I1, st1, fr1, eD, fD, rv, hz, w1⟩ := hI
    show wpAny _ X.A ((compTurn (.ListComp elt [⟨tg, iter, ifs, 0⟩] scope pos) 0 (.ref it) (.ref s.heap.objs.size) (compEnvC scope cl G.objs.size X.env)).onRaise (fun x => do noteFrame x (compEnvC scope cl G.objs.size X.env); theTreesLotGoes x)) _ _ s'
    refine wpAny_noted ?_
    rw [hE, compTurn_list]
    have I1' : Inv (cxLC X scope cl M G.objs.size s H fp E') [(s.heap.objs.size, { cls := .type "list", data := .seq its.toArray k })] τ H1 s' := I1.pins_of fun p hp => by
      have e : p = (s.heap.objs.size, { cls := .type "list", data := .seq its.toArray k }) := by simpa using hp
      subst e
      exact ⟨eD, fD, hDC, nofs, (fun v z => nomatch z)⟩
    have stat : ∀ {H' : Hp}, (∀ b ∈ fp, H' b = none) -> ∀ b ∈ fp, FpOk (cxLC X scope cl M G.objs.size s H fp E') [(s.heap.objs.size, { cls := .type "list", data := .seq its.toArray k })] H' b := fun hn b hb => by
      refine ⟨hn b hb, ?_, ?_, .inl hb, fun x c e => (hf b hb).2.2.2.2.1 x c (L.sub.get e), fun p hp z => ?_⟩
      · exact Nat.ne_of_lt (Nat.lt_of_lt_of_le (fpo b hb) hCle)
      · intro z
        rcases List.mem_cons.mp (I.stkSub b z) with q | q
        · exact (hf b hb).2.1 q
        · exact (hf b hb).2.2.1 q
      · have e : p = (s.heap.objs.size, { cls := .type "list", data := .seq its.toArray k }) := by
          have hp' : p ∈ [(s.heap.objs.size, ({ cls := .type "list", data := .seq its.toArray k } : Obj))] := hp
          simpa using hp'
        subst e
        exact absurd (z ▸ fpo b hb) (Nat.lt_irrefl _)
    refine wpAny_bind (wpAny_standAt (wpAny_bind ?_))
    rcases turn i n τ ys H1 w1 with ⟨stop, q⟩ | ⟨go, N, hN, step⟩
    · refine thn (T.done (cxLC X scope cl M G.objs.size s H fp E') rfl rfl rfl hc i _ s' τ H1 E' I1' (stat fr1) st1 stop) fun r s4 ⟨hr, I4⟩ => ?_
      subst hr
      refine wpAny_pure ?_
      obtain ⟨eD4, _, _⟩ := I4.pin (s.heap.objs.size, { cls := .type "list", data := .seq its.toArray k }) (List.mem_append_right _ List.mem_cons_self)
      have base4 : Un (frs X.stack) fp H H1 s.heap s4.heap := I4.base
      have un : Un (frs X.stack) fp H (upd H1 s.heap.objs.size (.lst ys)) s.heap s4.heap := ⟨base4.keep, base4.slot, fun b o e n hx => by rw [upd_ne (Nat.ne_of_lt (Heap.lt_size e))]; exact base4.free b o e n hx, base4.there,
        fun b xs e => by rw [upd_ne (ne_of_none (base4.tups b xs e) fD)]; exact base4.tups b xs e, fun b o u e => by rw [upd_ne (ne_of_none (base4.frzs b o u e) fD)]; exact base4.frzs b o u e,
        fun b ps e => by
          obtain ⟨more, w⟩ := base4.tbls b ps e
          exact ⟨more, by rw [upd_ne (ne_of_none w fD)]; exact w⟩⟩
      have hok : HOk X.prog X.w (upd H1 s.heap.objs.size (.lst ys)) s4.heap := fun b u e => by
        by_cases hb : b = s.heap.objs.size
        · subst hb
          rw [upd_same] at e
          cases e
          exact ⟨hz, its, k, rv, eD4⟩
        · rw [upd_ne hb] at e
          exact (I4.hok b u e).stay (fun c v _ q => q) (fun c q => by rw [upd_ne (ne_of_none q fD)]; exact q) fun c xs q => by rw [upd_ne (ne_of_none q fD)]; exact q
      have IX : Inv X pins σ (upd H1 s.heap.objs.size (.lst ys)) s4 := I.call' I4.os un hok I4.bare fun b hb => ⟨(hf b hb).2.2.2.1, (hf b hb).2.1, (hf b hb).2.2.2.2.1, (hf b hb).2.2.2.2.2⟩
      have fC : H1 G.objs.size = none := I4.free
      obtain ⟨m4, n4, _⟩ := I4.loc
      exact hR _ _ s4 H1 ys m4 IX (I.fpOk hCle (by rw [upd_ne (Ne.symm hDC)]; exact fC)) n4 (q _ fD)
    · refine thn (T.item (cxLC X scope cl M G.objs.size s H fp E') rfl rfl rfl hc i _ s' τ H1 E' I1' (stat fr1) st1 go) fun r s4 ⟨u, hr, h4⟩ => ?_
      subst hr
      refine wpAny_bind (thn h4 fun _ s5 ⟨x, H5, I5, r5, y5, st5, fr5⟩ => ?_)
      have I5' := I5.pinned (stat fr5) (T.obj _ _ st5)
      -- what holds behind a turn
      have kept : ∀ {τ6 : St} {H6 : Hp} {s6 : Shared}, Inv (cxLC X scope cl M G.objs.size s H fp E') ([(s.heap.objs.size, { cls := .type "list", data := .seq its.toArray k })] ++ pinsAt fp s5.heap) τ6 H6 s6 ->
          Inv (cxLC X scope cl M G.objs.size s H fp E') [] τ6 H6 s6 /\ tn (i + 1) s6.heap /\ (∀ b ∈ fp, H6 b = none) /\ s6.heap.get? s.heap.objs.size = some { cls := .type "list", data := .seq its.toArray k } /\ H6 s.heap.objs.size = none := fun {τ6 H6 s6} I6 => by
        have pin : ∀ b ∈ fp, ∀ o, s5.heap.get? b = some o -> s6.heap.get? b = some o /\ H6 b = none := fun b hb o e =>
          let w := I6.pin (b, o) (List.mem_append_right _ (List.mem_append_right _ (mem_pinsAt hb e)))
          ⟨w.1, w.2.1⟩
        have pD := I6.pin (s.heap.objs.size, { cls := .type "list", data := .seq its.toArray k }) (List.mem_append_right _ (List.mem_append_left _ List.mem_cons_self))
        refine ⟨I6.pins_of (fun p hp => nomatch hp), T.keep _ _ _ st5 fun b hb o e => (pin b hb o e).1, fun b hb => ?_, pD.1, pD.2.1⟩
        obtain ⟨o, e, _⟩ := T.obj _ _ st5 b hb
        exact (pin b hb o e).2
      refine wpAny_bind (thn (hg _ _ _ _ _ _ s5 τ H5 x u _ I5' r5 (step x H5 y5)) fun _ s6 ⟨σ6, H6, I6, q6⟩ => ?_)
      refine wpAny_bind (thn (ht _ _ _ _ _ _ s6 σ6 H6 _ I6 q6) fun ok s7 ⟨H7, I7, q7⟩ => ?_)
      cases ok with
      | false =>
        have q7' : N σ6 ys H7 := by simpa using q7
        obtain ⟨m', hm, w7⟩ := hN _ _ _ q7'
        obtain ⟨K1, K2, K3, K4, K5⟩ := kept I7
        exact wpAny_pure ⟨rfl, m', hm, i + 1, σ6, H7, ys, its, k, K1, K2, K3, K4, K5, rv, hz, w7⟩
      | true =>
        have q7' : te σ6 H7 fun y H4 => ys.length < sizeLine /\ N σ6 (ys ++ [y]) H4 := by simpa using q7
        refine wpAny_bind (wpAny_bind (thn (he _ _ _ _ _ _ s7 σ6 H7 _ I7 q7') fun y s8 ⟨v8, H8, I8, r8, hz8, n8⟩ => ?_))
        obtain ⟨m', hm, w8⟩ := hN _ _ _ n8
        obtain ⟨K1, K2, K3, K4, K5⟩ := kept I8
        have hl := rv.length
        refine wpAny_bind (wpAny_list_append_plain (hsz := by rw [List.size_toArray]; omega) ⟨k, K4⟩ fun h9 hl9 hs9 => wpAny_pure (wpAny_pure ⟨rfl, m', hm, ?_⟩))
        obtain ⟨k9, e9⟩ := hl9
        have I9 : Inv (cxLC X scope cl M G.objs.size s H fp E') [] σ6 H8 { s8 with heap := h9 } := K1.turned (t' := s8.toks) (it := s.heap.objs.size) (fun b o hb e => (hs9.2 b hb).trans e) K5 hDC (.inr (Nat.le_refl _))
          (fun y c e => nocl y c e) fun p hp => nomatch hp
        refine ⟨i + 1, σ6, H8, ys ++ [v8], its ++ [y], k9, I9, T.keep _ _ _ K2 fun b hb o e => (hs9.2 b (Nat.ne_of_lt (fpo b hb))).trans e, K3, ?_, K5, rv.append (.cons r8 .nil), ?_, w8⟩
        · rw [e9]
          simp
        · rw [List.length_append, List.length_singleton]
          omega
  exact codeAny_compStart_list (loop _ rfl) (T.self X.A 0 _ _ _ st1 (loop _ rfl))
variable {tg elt iter : Expr} {ifs : List Expr} {pos : Pos} {wi : TI} {g : TG} {tt : TT} {te : TE}
theorem pe_lc (L : LcOk X scope cl S) (hc : X.calm = true) (hi : PI X tg iter wi) (hg : ∀ C s H ex E, PG (cxLC X scope cl M C s H ex E) tg g) (ht : ∀ C s H ex E, PTs (cxLC X scope cl M C s H ex E) ifs tt) (he : ∀ C s H ex E, PE (cxLC X scope cl M C s H ex E) elt te)
    (hs : ∀ x, foldedSetIterable iter X.env x = pure x := by intro _; rfl) : PE X (.ListComp elt [⟨tg, iter, ifs, 0⟩] scope pos) (tLCS S wi g tt te M.length) := by
  intro pins s σ H Q I h
  rw [eval_ListComp]
  refine wpAny_comprehension_free (use := none) rfl hs L.clos L.kind L.locs (thn (hi pins s σ H _ I h) fun v s1 h1 => thn h1 fun itv s2 h2 => ?_)
  obtain ⟨it, fp, tn, J, H2, rfl, I2, T, st2, f2, W, ⟨m0, w0⟩, turn⟩ := h2
  refine lc_core (R := fun acc C => compPost (model X.prog X.w) X.A X.xe none (EP X pins σ Q) acc C) L hc I2 T st2 f2 hg ht he w0 turn ?_
  intro D C s' H' ys m IX fC ns q
  exact ⟨m, ns, fun h' sb => ⟨.ref D, _, IX.turned (t' := s'.toks) (fun b o hb e => (sb.2 b hb).trans e) fC.1 fC.2.1 fC.2.2.2.1 fC.2.2.2.2.1 fC.2.2.2.2.2, rfl, q⟩⟩
end
def clOf (scope : Scope) (env : Env) : List (Str × Addr) := scope.names.foldl (fun cs p => if p.2 == .free then (match env.cells.lookup p.1 with | some a => (p.1, a) :: cs | none => cs) else cs) []
theorem clOf_in (env : Env) : ∀ (names : List (Str × NameKind)) (acc : List (Str × Addr)), AllIn env acc -> AllIn env (names.foldl (fun cs p => if p.2 == .free then (match env.cells.lookup p.1 with | some a => (p.1, a) :: cs | none => cs) else cs) acc)
  | [], _, h => h
  | (n, k) :: r, acc, h => by
    rw [List.foldl_cons]
    refine clOf_in env r _ ?_
    by_cases hk : (k == NameKind.free) = true
    · rw [if_pos hk]
      cases e : env.cells.lookup n with
      | none => exact h
      | some a => exact ⟨e, h⟩
    · rw [if_neg hk]
      exact h
section
variable {X : Cx} {scope : Scope} {M : List Str} {tg elt iter : Expr} {ifs : List Expr} {pos : Pos} {wi : TI} {g : TG} {tt : TT} {te : TE}
theorem lcOkS {S : List Nat} (h1 : closureFor scope X.env = pure (clOf scope X.env)) (h2 : scope.kind = .function) (h3 : scope.names.all (fun y => y.2 != .cell) = true) (h4 : scope.names.all (fun y => y.2 != .local || scope.names.lookup y.1 == some .local) = true)
    (h5 : X.N.zipIdx.all (fun y => S.contains y.2 || scope.names.lookup y.1 != some .local) = true) (h6 : scope.names.all (fun p => p.2 != .free || (((clOf scope X.env).lookup p.1).isSome && (X.env.kindOf p.1 == some .cell || X.env.kindOf p.1 == some .free))) = true) :
    LcOk X scope (clOf scope X.env) S := ⟨h1, h2, h3, h4, h5, clOf_in X.env scope.names [] trivial, h6⟩
theorem lcOk (h1 : closureFor scope X.env = pure (clOf scope X.env)) (h2 : scope.kind = .function) (h3 : scope.names.all (fun y => y.2 != .cell) = true) (h4 : scope.names.all (fun y => y.2 != .local || scope.names.lookup y.1 == some .local) = true)
    (h5 : X.N.all (fun y => scope.names.lookup y != some .local) = true) (h6 : scope.names.all (fun p => p.2 != .free || (((clOf scope X.env).lookup p.1).isSome && (X.env.kindOf p.1 == some .cell || X.env.kindOf p.1 == some .free))) = true) :
    LcOk X scope (clOf scope X.env) [] := lcOkS h1 h2 h3 h4 (List.all_eq_true.mpr fun y hy => by
      have hm : y.1 ∈ X.N := List.mem_of_getElem? (List.mem_zipIdx_iff_getElem?.mp hy)
      rw [List.all_eq_true.mp h5 y.1 hm, Bool.or_true]) h6
theorem pe_comp (M : List Str) (hc : X.calm = true) (hi : PI X tg iter wi) (hg : ∀ C s H ex E, PG (cxLC X scope (clOf scope X.env) M C s H ex E) tg g) (ht : ∀ C s H ex E, PTs (cxLC X scope (clOf scope X.env) M C s H ex E) ifs tt)
    (he : ∀ C s H ex E, PE (cxLC X scope (clOf scope X.env) M C s H ex E) elt te) (hs : ∀ x, foldedSetIterable iter X.env x = pure x := by intro _; rfl)
    (h1 : closureFor scope X.env = pure (clOf scope X.env) := by with_unfolding_all rfl) (h2 : scope.kind = .function := by rfl) (h3 : scope.names.all (fun y => y.2 != .cell) = true := by rfl) (h4 : scope.names.all (fun y => y.2 != .local || scope.names.lookup y.1 == some .local) = true := by rfl)
    (h5 : X.N.all (fun y => scope.names.lookup y != some .local) = true := by rfl) (h6 : scope.names.all (fun p => p.2 != .free || (((clOf scope X.env).lookup p.1).isSome && (X.env.kindOf p.1 == some .cell || X.env.kindOf p.1 == some .free))) = true := by rfl) :
    PE X (.ListComp elt [⟨tg, iter, ifs, 0⟩] scope pos) (tLC wi g tt te M.length) := pe_lc (lcOk h1 h2 h3 h4 h5 h6) hc hi hg ht he hs
end
section
variable {g : TG} {tt : TT} {te : TE} {Q : VK} {σ : St} {H : Hp}
theorem lc_list {K : PySem.W.Frag} {a : Addr} {xs : List V} (Pv : Nat -> St -> List V -> Hp -> Prop) (h0 : Pv 0 σ [] H) (hl : ∀ i τ ys H, i <= xs.length -> Pv i τ ys H -> SqL K H a xs)
    (hs : ∀ i x τ ys H, xs[i]? = some x -> Pv i τ ys H -> g x τ H fun τ2 H2 => tt τ2 H2 fun b H3 => if b = true then te τ2 H3 fun y H4 => ys.length < sizeLine /\ Pv (i + 1) τ2 (ys ++ [y]) H4 else Pv (i + 1) τ2 ys H3)
    (hd : ∀ τ ys H, Pv xs.length τ ys H -> ∀ p, H p = none -> Q (.ref p) (upd H p (.lst ys))) : ∃ W, (∃ m, W 0 m σ [] H) /\ lcBy (Itl K a) g tt te Q W := by
  refine ⟨fun i m τ ys H => m = xs.length - i /\ i <= xs.length /\ Pv i τ ys H, ⟨xs.length, by simp, Nat.zero_le _, h0⟩, ?_⟩
  rintro i m τ ys H ⟨rfl, hi, p⟩
  have q := hl i τ ys H hi p
  by_cases hlt : i < xs.length
  · refine .inr ⟨⟨xs, xs[i], q, by simp [hlt]⟩, Pv (i + 1), fun τ' ys' H' p' => ⟨xs.length - (i + 1), by omega, rfl, hlt, p'⟩, fun x H' y => ?_⟩
    obtain ⟨e, y⟩ := y
    subst e
    exact hs i x τ ys _ (y xs q) p
  · have e : i = xs.length := by omega
    subst e
    exact .inl ⟨⟨xs, q, Nat.le_refl _⟩, hd τ ys H p⟩
end
end L2
namespace L2
open PySem PySem.Spec PyProof.Rows Builtin Builtin.Str
def Its (z : Str) : It := ⟨fun i _ => i < z.cps.size, fun i H x H' => H' = H /\ ∃ c, z.cps[i]? = some c /\ x = .str ⟨#[c]⟩, fun i _ => i = z.cps.size⟩
theorem turn_str {P : Program} {w : World} {K : PySem.W.Frag} {tg : Expr} {z : Str} {t : Tok} {it : Addr} {nm : String} (W : ∀ A : Around, A.handled = none -> Walks P w A it [it] [it] z.cps.size (SignAt z) (fun i h => h.IsStrIter it nm z t i))
    (self : ∀ (A : Around) (i : Nat) (s : Shared) (Q : Value -> Shared -> Prop) (E : Value -> Shared -> Prop), s.heap.IsStrIter it nm z t i -> Q (.ref it) s -> wpAny (model P w) A (pyIter (.ref it)) Q E s)
    (hn : ["enumerate", "zip", "dict_itemiterator", "dict_reverseitemiterator", "odict_iterator", "itertools.zip_longest", "itertools.pairwise"].contains nm = false) :
    Turn P w K tg (Its z) [it] it (fun i h => h.IsStrIter it nm z t i) where
  mem := by simp
  obj := fun i h st b hb => by
    have e : b = it := by simpa using hb
    subst e
    obtain ⟨o, e, c, d⟩ := st
    exact ⟨o, e, fun v z => by rw [d] at z; cases z⟩
  keep := fun i h h' st k => by
    obtain ⟨o, e, r⟩ := st
    exact ⟨o, k it (by simp) o e, r⟩
  item := by
    intro X hP hw hK hc i pins s σ H E I hf st hg
    subst hP hw hK
    obtain ⟨f0, f1, f2, f3, f4, f5⟩ := hf it (by simp)
    refine (W X.A (I.ok.hd hc)).item i s _ _ hg st fun v h' tk hv st' kk => ?_
    obtain ⟨c, u, hcu, rfl⟩ := hv
    have I1 : Inv X pins σ H { s with heap := h', toks := tk } := I.turned (fun b o hb e => kk b o (by simpa using hb) e) f0 f1 f3 f4 f5
    obtain ⟨o, e, c', d⟩ := id st'
    exact ⟨_, rfl, go_of (s := { s with heap := h', toks := tk }) e c' d hn ⟨.str ⟨#[c]⟩, H, I1, ⟨u, rfl⟩, ⟨rfl, c, hcu, rfl⟩, st', fun b hb => (hf b hb).1⟩⟩
  done := by
    intro X hP hw hK hc i pins s σ H E I hf st hg
    subst hP hw hK
    obtain ⟨f0, f1, f2, f3, f4, f5⟩ := hf it (by simp)
    have hg' : i = z.cps.size := hg
    subst hg'
    exact (W X.A (I.ok.hd hc)).done s _ _ st fun h' tk kk => ⟨rfl, I.turned (fun b o hb e => kk b o (by simpa using hb) e) f0 f1 f3 f4 f5⟩
  self := self
section
variable {X : Cx} {tg : Expr}
def iStr (tl : TE) : TI := fun σ H R => tl σ H fun x H1 => ∃ z, x = .str z /\ R (Its z) H1
theorem pi_str (hc : X.calm = true) {l : Expr} {tl : TE} (hl : PE X l tl) : PI X tg l (iStr tl) := by
  intro pins s σ H R I h
  refine thn (hl pins s σ H _ I h) fun v s1 ⟨x, H1, I1, r1, q1⟩ => ?_
  obtain ⟨z, e, q⟩ := q1
  subst e
  obtain ⟨t, rfl⟩ := r1
  have fp : ∀ b ∈ [s1.heap.objs.size], FpOk X pins H1 b := fun b hb => by
    have e : b = s1.heap.objs.size := by simpa using hb
    subst e
    exact I1.fpOk (Nat.le_refl _) (I1.hok.fresh (Nat.le_refl _))
  cases ha : z.cps.all (· < 128)
  · refine wpAny_pyIter_wide ha ?_
    exact ⟨s1.heap.objs.size, [s1.heap.objs.size], _, _, H1, rfl, I1.kept (t' := s1.toks) fun b o e => Heap.get?_push_of_some _ e,
      turn_str (nm := "str_iterator") (fun A hA => Walks.strWide hA _ z t) (fun _ _ _ _ _ st q => wpAny_pyIter_striter_wide st q) (by decide), ⟨_, Heap.get?_push_size _ rfl, rfl, rfl⟩, fp, q⟩
  · refine wpAny_pyIter_ascii ha ?_
    exact ⟨s1.heap.objs.size, [s1.heap.objs.size], _, _, H1, rfl, I1.kept (t' := s1.toks) fun b o e => Heap.get?_push_of_some _ e,
      turn_str (nm := "str_ascii_iterator") (fun A hA => Walks.strAscii hA _ z t) (fun _ _ _ _ _ st q => wpAny_pyIter_striter_ascii st q) (by decide), ⟨_, Heap.get?_push_size _ rfl, rfl, rfl⟩, fp, q⟩
theorem lc_str {g : TG} {tt : TT} {te : TE} {Q : VK} {σ : St} {H : Hp} {z : Str} (Pv : Nat -> St -> List V -> Hp -> Prop) (h0 : Pv 0 σ [] H)
    (hs : ∀ i c τ ys H, z.cps[i]? = some c -> Pv i τ ys H -> g (.str ⟨#[c]⟩) τ H fun τ2 H2 => tt τ2 H2 fun b H3 => if b = true then te τ2 H3 fun y H4 => ys.length < sizeLine /\ Pv (i + 1) τ2 (ys ++ [y]) H4 else Pv (i + 1) τ2 ys H3)
    (hd : ∀ τ ys H, Pv z.cps.size τ ys H -> ∀ p, H p = none -> Q (.ref p) (upd H p (.lst ys))) : ∃ W, (∃ m, W 0 m σ [] H) /\ lcBy (Its z) g tt te Q W := by
  refine ⟨fun i m τ ys H => m = z.cps.size - i /\ i <= z.cps.size /\ Pv i τ ys H, ⟨z.cps.size, by simp, Nat.zero_le _, h0⟩, ?_⟩
  rintro i m τ ys H ⟨rfl, hi, p⟩
  by_cases hlt : i < z.cps.size
  · refine .inr ⟨hlt, Pv (i + 1), fun τ' ys' H' p' => ⟨z.cps.size - (i + 1), by omega, rfl, hlt, p'⟩, fun x H' y => ?_⟩
    obtain ⟨e, c, hc, rfl⟩ := y
    subst e
    exact hs i c τ ys _ hc p
  · have e : i = z.cps.size := by omega
    subst e
    exact .inl ⟨rfl, hd τ ys H p⟩
def rSlS : V -> Option Int -> Option Int -> Hp -> VK -> Prop := fun x lo hi H Q => ∃ z, x = .str z /\ z.length <= sizeLine /\ Q (.str (Txt.slice z lo hi)) H
theorem sl_str : SlR X rSlS := by
  intro pins s σ H x v vl vu lo hi sl Q I rx hs pl pu h
  obtain ⟨z, rfl, hz, q⟩ := h
  obtain ⟨t, rfl⟩ := rx
  have fin : ∀ (l u : Option (Int × Tok)), s.heap.IsSlice sl l u none -> Txt.slice z (l.map (·.1)) (u.map (·.1)) = Txt.slice z lo hi -> wpAny (model X.prog X.w) X.A (getItem (.str z t) (.ref sl)) (EP X pins σ Q) X.xe s := fun l u hS e =>
    wpAny_getItem_str_slice (l := l) (u := u) (st := none) hS rfl (post_val_or_str ⟨Nat.le_trans (Txt.slice_le z _ _) hz, fun t' k => ⟨.str (Txt.slice z lo hi), H, I.tok k, ⟨t', by rw [<- e]; rfl⟩, q⟩⟩)
  refine ⟨"str", _, F.slot_str_getitem.lookup, typeIs_str _ _ _, ?_⟩
  cases pl with
  | none =>
    cases pu with
    | none => exact fin none none hs rfl
    | int j uj => exact fin none (some (j, uj)) hs rfl
  | int i ui =>
    cases pu with
    | none => exact fin (some (i, ui)) none hs rfl
    | int j uj => exact fin (some (i, ui)) (some (j, uj)) hs rfl
def rStarts : V -> List V -> Hp -> VK -> Prop := fun x vs H Q => ∃ z y, x = .str z /\ vs = [.str y] /\ Q (.bl (Txt.startswith z y)) H
theorem mt_startswith : MtR X "str.startswith" rStarts := by
  intro pins s σ H x vs v us Q I rx rv h
  obtain ⟨z, y, rfl, rfl, q⟩ := h
  obtain ⟨t, rfl⟩ := rx
  obtain ⟨u, rfl, t', rfl⟩ := rv.one
  exact call_gives F.slot_str_startswith (typeIs_str s z t) F.entry_str_startswith (F.args_str_startswith_2 _ _) (gives_str_startswith z y t t') ⟨.bl _, H, I, rfl, q⟩
theorem vals_strValues : ∀ l : List (Str × Tok), Vals ((l.map (·.1)).map V.str) (strValues l)
  | [] => .nil
  | (x, t) :: r => .cons ⟨t, rfl⟩ (vals_strValues r)
theorem split_len (x y : Str) : (Txt.split x y).length <= x.length + 2 := by
  unfold Txt.split
  split
  · simp
  · split
    · simp
    · have e1 := StrLaws.occ_length_le x y 0 x.length (x.length + 1)
      rw [length_partsBetween]
      omega
def rSplit : V -> List V -> Hp -> VK -> Prop := fun x vs H Q => ∃ z y, x = .str z /\ vs = [.str y] /\ (y.length == 0) = false /\ z.length + 2 <= sizeLine /\ ∀ p, H p = none -> Q (.ref p) (upd H p (.lst ((Txt.split z y).map V.str)))
theorem mt_split : MtR X "str.split" rSplit := by
  intro pins s σ H x vs v us Q I rx rv h
  obtain ⟨z, y, rfl, rfl, hy, hz, q⟩ := h
  obtain ⟨t, rfl⟩ := rx
  obtain ⟨u, rfl, t', rfl⟩ := rv.one
  have hn : (partsBetween z (occurrences z y 0 z.length (z.length + 1)) y.length).length <= sizeLine := by
    have e1 := StrLaws.occ_length_le z y 0 z.length (z.length + 1)
    rw [length_partsBetween]; omega
  have hl : ((Txt.split z y).map V.str).length <= sizeLine := by
    have := split_len z y
    rw [List.length_map]; omega
  have fin : ∀ (l : List (Str × Tok)) (k : Nat), l.map (·.1) = Txt.split z y -> EP X pins σ Q (.ref s.heap.objs.size) { s with heap := s.heap.push { cls := .type "list", data := .seq (strValues l).toArray }, toks := k } := fun l k e =>
    ⟨.ref s.heap.objs.size, _, I.lnew (t' := k) (by rw [<- e]; exact vals_strValues l) hl, rfl, q _ I.fresh⟩
  cases h1 : (decide (z.length < y.length) || decide (strKind z < strKind y))
  · cases hf : (occurrences z y 0 z.length (z.length + 1)).isEmpty
    · refine call_meets F.slot_str_split (typeIs_str _ _ _) F.entry_str_split (F.args_str_split_2 _ _) (meets_str_split_sep z y t t' h1 hy hf (by omega) hn) ?_
      show wants (EP X pins σ Q) X.xe _ { s with toks := _, heap := s.heap.push { cls := .type "list", data := .seq (strsFrom s.toks (partsBetween z (occurrences z y 0 z.length (z.length + 1)) y.length)).toArray } }
      rw [strsFrom_eq]
      exact fin (numbered s.toks _) _ ((numbered_texts _ _).trans ((if_neg (ne_true_of_eq_false h1)).trans (if_neg (ne_true_of_eq_false hf))).symm)
    · exact call_meets F.slot_str_split (typeIs_str _ _ _) F.entry_str_split (F.args_str_split_2 _ _) (meets_str_split_not_found z y t t' h1 hy hf)
        (fin [(z, t)] s.toks ((if_neg (ne_true_of_eq_false h1)).trans (if_pos hf)).symm)
  · exact call_meets F.slot_str_split (typeIs_str _ _ _) F.entry_str_split (F.args_str_split_2 _ _) (meets_str_split_cannot_occur z y t t' h1)
      (fin [(z, t)] s.toks (if_pos h1).symm)
theorem call_isinst : CallR X (.builtin "isinstance") (fun xs H Q => ∃ x t T b, xs = [x, .ty T] /\ TyOf X.K H x t /\ PySem.W.kitOne X.K t (.type T) = some b /\ Q (.bl b) H) := by
  intro pins s σ H xs us Q I r h
  obtain ⟨x, t, T, b, rfl, ty, e, q⟩ := h
  obtain ⟨u, u', rfl, rx, ru⟩ := vals2 r
  cases ru
  exact isinst_ok I rx ty e fun tk => ⟨.bl b, H, I.tok tk, rfl, q⟩
theorem range_all (bs : List Bool) : (List.range bs.length).all (fun i => bs.getD i false) = bs.all id := by
  induction bs with
  | nil => rfl
  | cons b r ih =>
    rw [List.length_cons, List.range_succ_eq_map, List.all_cons, List.all_map, List.all_cons]
    have e : (List.range r.length).all ((fun i => (b :: r).getD i false) ∘ Nat.succ) = (List.range r.length).all fun i => r.getD i false := by
      congr 1
    rw [e, ih]
    rfl
theorem call_all_bools (hc : X.calm = true) : CallR X (.builtin "all") (fun xs H Q => ∃ (p : Addr) (bs : List Bool), xs = [.ref p] /\ SqL X.K H p (bs.map V.bl) /\ Q (.bl (bs.all id)) H) := by
  intro pins s σ H xs us Q I r h
  obtain ⟨p, bs, rfl, hq, q⟩ := h
  obtain ⟨u, rfl, rx⟩ := vals1 r
  cases rx
  obtain ⟨its, rv, pl, hz⟩ := I.list hq
  have hh : X.A.handled = none := I.ok.hd hc
  have hlen : its.toArray.size = bs.length := by rw [List.size_toArray, <- rv.length, List.length_map]
  have hne : p ≠ s.heap.objs.size := by
    obtain ⟨o, n, e, _⟩ := pl
    exact Nat.ne_of_lt (Heap.lt_size e)
  refine call_all_walk (wpAny_pyIter_list pl.isList ?_)
  refine ⟨s.heap.objs.size, _, _, _, _, _, fun i => bs.getD i false, rfl, Walks.list (A := X.A.in1) hh _ p hne its.toArray, ⟨⟨_, Heap.get?_push_size _ rfl, rfl, rfl⟩, pl.isList.at fun o e => Heap.get?_push_of_some _ e⟩, fun i v s1 Q1 E1 hv hQ => ?_, fun h' tk kk => ?_⟩
  · have hi : i < bs.length := by
      obtain ⟨hi, _⟩ := Array.getElem?_eq_some_iff.mp hv
      rw [hlen] at hi
      exact hi
    have hb : (bs.map V.bl)[i]? = some (V.bl (bs.getD i false)) := by
      rw [List.getElem?_map, List.getElem?_eq_getElem hi]
      simp [List.getD, List.getElem?_eq_getElem hi]
    obtain ⟨u', hu, ru⟩ := rv.get hb
    have e : its.toArray[i]? = some u' := by simpa using hu
    have hv' : its.toArray[i]? = some v := hv
    rw [hv'] at e
    cases e
    cases ru
    exact wpAny_truthy_bool hQ
  · rw [hlen, range_all]
    have I1 : Inv X pins σ H { s with heap := s.heap.push { cls := .type "list_iterator", data := .fields #[.ref p, .int 0 0] } } := I.kept (t' := s.toks) fun b o e => Heap.get?_push_of_some _ e
    have f := I.fpOk (H' := H) (Nat.le_refl _) I.fresh
    exact ⟨.bl (bs.all id), H, I1.turned (it := s.heap.objs.size) (fun b o hb e => kk b o (by simpa using hb) e) f.1 f.2.1 f.2.2.2.1 f.2.2.2.2.1 f.2.2.2.2.2, rfl, q⟩
end
end L2
namespace L2
open PySem PySem.Spec PyProof.Rows
def isStar : Expr -> Bool
  | .Starred .. => true
  | _ => false
theorem star_cons {e : Expr} {es : List Expr} {env : Env} (h : isStar e = false) : starEach (e :: es) env = (false, eval e env) :: starEach es env := by
  cases e <;> first
    | rfl
    | exact absurd (show true = false from h) (by decide)
theorem star_any {env : Env} {pos : Pos} : ∀ {es : List Expr}, es.all (fun e => !isStar e) = true -> (backTo pos (starEach es env)).any (·.1) = false
  | [], _ => rfl
  | e :: es, h => by
    rw [List.all_cons, Bool.and_eq_true] at h
    have h1 : isStar e = false := by simpa using h.1
    rw [star_cons h1]
    show (false || (backTo pos (starEach es env)).any (·.1)) = false
    rw [star_any h.2]
    rfl
section
variable {X : Cx} {CX : CXT} {k : Nat} {f C : Addr} {fd : FuncData} {ps : List Str} {sp : Sp} {dvs : List V} {ds : List Value} {E : XK} {x m : Str} {p pos apos : Pos} {e o : Expr} {es : List Expr} {te ta : TE} {t : TA} {id T : String} {r : List V -> Hp -> VK -> Prop}
theorem pa_c (ha : PE X e te) (hr : PA X es t) (h : isStar e = false := by rfl) : PA X (e :: es) (tCons te t) := pa_cons ha hr (star_cons h)
theorem pe_fn (F : FnOk X.prog X.w X.K X.mg X.base CX k f fd ps sp) (hr : Room k X.A) (hg : Gl X x) (hm : X.mg x = some (.ref f)) (hk : PySem.W.keepIn X.K (.ref f) = true) (hb : Binds X.K fd ps ds) (hd : Vals dvs ds) (hx : Passes CX X E)
    (ha : PA X (e :: es) t) (hdb : (x == ("__debug__" : Str)) = false := by decide) (h1 : isStar e = false := by rfl) (h2 : es.all (fun e => !isStar e) = true := by rfl) :
    PE X (.Call (.Name x p) (e :: es) [] pos) (tCall sp dvs E t) := pe_call F hr hg hm hk hb hd hx ha hdb (star_cons h1) (star_any h2)
theorem pe_fnB (hc : CallR X (.builtin id) r) (hg : Gl X x) (hm : X.mg x = none) (hv : bootBuiltins x = some (.builtin id)) (ha : PA X (e :: es) t) (hn : x ≠ "__name__" := by decide) (hdb : (x == ("__debug__" : Str)) = false := by decide)
    (h1 : isStar e = false := by rfl) (h2 : es.all (fun e => !isStar e) = true := by rfl) : PE X (.Call (.Name x p) (e :: es) [] pos) (tCB r t) := pe_callB hc hg hm hv ha hn hdb (star_cons h1) (star_any h2)
theorem pe_fnTy (hc : CallR X (.type T) r) (hg : Gl X x) (hm : X.mg x = none) (hv : bootBuiltins x = some (.type T)) (ha : PA X (e :: es) t) (hn : x ≠ "__name__" := by decide) (hdb : (x == ("__debug__" : Str)) = false := by decide)
    (h1 : isStar e = false := by rfl) (h2 : es.all (fun e => !isStar e) = true := by rfl) : PE X (.Call (.Name x p) (e :: es) [] pos) (tCB r t) := pe_callTy hc hg hm hv ha hn hdb (star_cons h1) (star_any h2)
end
end L2
namespace L2
open PySem PySem.Spec PyProof.Rows
structure jE (X : Cx) (e : Expr) (t : TE) : Prop where
  out : PE X e t
structure jT (X : Cx) (e : Expr) (t : TT) : Prop where
  out : PT X e t
structure jW (X : Cx) (e : Expr) (t : TT) : Prop where
  out : PW X e t
structure jA (X : Cx) (es : List Expr) (t : TA) : Prop where
  out : PA X es t
structure jS (X : Cx) (st : Stmt) (t : TS) : Prop where
  out : PS X st t
structure jSs (X : Cx) (sts : List Stmt) (t : TS) : Prop where
  out : PSs X sts t
structure jG (X : Cx) (tg : Expr) (t : TG) : Prop where
  out : PG X tg t
structure jGs (X : Cx) (tg : List Expr) (t : TGs) : Prop where
  out : PGs X tg t
structure jI (X : Cx) (tg iter : Expr) (t : TI) : Prop where
  out : PI X tg iter t
structure jO (X : Cx) (e : Option Expr) (t : TO) : Prop where
  out : PO X e t
structure jTs (X : Cx) (ifs : List Expr) (t : TT) : Prop where
  out : PTs X ifs t
structure jOp (X : Cx) (f : Value -> Value -> Sem Value) (r : R2) : Prop where
  out : OpR X f r
structure jIx (X : Cx) (r : R2) : Prop where
  out : IxR X r
structure jSl (X : Cx) (r : V -> Option Int -> Option Int -> Hp -> VK -> Prop) : Prop where
  out : SlR X r
structure jMt (X : Cx) (id : String) (r : V -> List V -> Hp -> VK -> Prop) : Prop where
  out : MtR X id r
structure jCa (X : Cx) (f : Value) (r : List V -> Hp -> VK -> Prop) : Prop where
  out : CallR X f r
section
variable {X : Cx} {a b c e o : Expr} {es rest : List Expr} {ta tb tc te to : TE} {t u : TA} {tA tB' : TT} {pos p p2 apos cpos px : Pos} {x y m : Str} {op op' : CmpOp} {bop : Operator} {r r' : R2}
theorem jv (i : Nat) (hN : X.N[i]? = some x := by rfl) (hv : Vis X.env.scope x := by first | exact Or.inl rfl | exact Or.inr (Or.inl rfl) | exact Or.inr (Or.inr rfl)) (hd : (x == ("__debug__" : Str)) = false := by decide)
    (hcd : (x == ("__classdict__" : Str)) = false := by decide) : jE X (.Name x pos) (tVar i) := ⟨pv i hN hv hd hcd⟩
theorem je_int {i j} : jE X (.Constant (.int i) j pos) (tC (.int i)) := ⟨pe_int⟩
theorem je_bl {b j} : jE X (.Constant (.bool b) j pos) (tC (.bl b)) := ⟨pe_bl⟩
theorem je_non {j} : jE X (.Constant .none j pos) (tC .non) := ⟨pe_non⟩
theorem je_str {x j} : jE X (.Constant (.str x) j pos) (tC (.str x)) := ⟨pe_str⟩
theorem je_glob {v : V} {w : Value} (hg : Gl X x) (hm : X.mg x = some w) (r : RelV v w) (hd : (x == ("__debug__" : Str)) = false := by decide) : jE X (.Name x pos) (tC v) := ⟨pe_glob hg hm r hd⟩
theorem je_bltn {v : V} {w : Value} (hg : Gl X x) (hm : X.mg x = none) (hv : bootBuiltins x = some w) (r : RelV v w) (hn : x ≠ "__name__" := by decide) (hd : (x == ("__debug__" : Str)) = false := by decide) : jE X (.Name x pos) (tC v) := ⟨pe_bltn hg hm hv r hn hd⟩
theorem je_op (ho : jOp X (binaryOp bop) r) (ha : jE X a ta) (hb : jE X b tb) : jE X (.BinOp a bop b pos) (tOp r ta tb) := ⟨pe_op ho.out ha.out hb.out⟩
theorem je_neg (ha : jE X a ta) : jE X (.UnaryOp .USub a pos) (tUn (rU fun i => .int (-i)) ta) := ⟨pe_un un_neg ha.out⟩
theorem je_cmpR (ho : jOp X (compareOp op) r) (ha : jE X a ta) (hb : jE X b tb) (hm : behindInMarks op b = false) : jE X (.Compare a [op] [b] pos) (tOp r ta tb) := ⟨pe_cmpR ho.out ha.out hb.out hm⟩
theorem jt_cmpR (ho : jOp X (compareOp op) r) (ha : jE X a ta) (hb : jE X b tb) (hm : behindInMarks op b = false) : jT X (.Compare a [op] [b] pos) (tTest (tOp r ta tb)) := ⟨pt_cmpR ho.out ha.out hb.out hm⟩
theorem je_chain (ho : jOp X (compareOp op) r) (ho' : jOp X (compareOp op') r') (ha : jE X a ta) (hb : jE X b tb) (hc : jE X c tc) (hm : lastMarks [op, op'] [b, c] = false := by with_unfolding_all rfl) : jE X (.Compare a [op, op'] [b, c] pos) (tChain r r' ta tb tc) := ⟨pe_chain ho.out ho'.out ha.out hb.out hc.out hm⟩
theorem jt_chain (ho : jOp X (compareOp op) r) (ho' : jOp X (compareOp op') r') (ha : jE X a ta) (hb : jE X b tb) (hc : jE X c tc) (hm : lastMarks [op, op'] [b, c] = false := by with_unfolding_all rfl) : jT X (.Compare a [op, op'] [b, c] pos) (tTest (tChain r r' ta tb tc)) := ⟨pt_chain ho.out ho'.out ha.out hb.out hc.out hm⟩
theorem jt_val (h : jE X e te) (he : ∀ whole, isTrue e X.env whole = (do let v <- whole; standAt e.pos; holding [v] (truthy v)) := by intro _; rfl) : jT X e (tB te) := ⟨pt_val h.out he⟩
theorem jw_and1 (ha : jT X a tA) : jW X (.BoolOp .And [a] pos) tA := ⟨pw_and1 ha.out⟩
theorem jw_or1 (ha : jT X a tA) : jW X (.BoolOp .Or [a] pos) tA := ⟨pw_or1 ha.out⟩
theorem jw_and (ha : jT X a tA) (hb : jW X (.BoolOp .And (b :: rest) pos) tB') : jW X (.BoolOp .And (a :: b :: rest) pos) (tAnd tA tB') := ⟨pw_and ha.out hb.out⟩
theorem jw_or (ha : jT X a tA) (hb : jW X (.BoolOp .Or (b :: rest) pos) tB') : jW X (.BoolOp .Or (a :: b :: rest) pos) (tOr tA tB') := ⟨pw_or ha.out hb.out⟩
theorem jW.pt (h : jW X e tA) : jT X e tA := ⟨PW.pt h.out⟩
theorem jt_not (ha : jT X a tA) : jT X (.UnaryOp .Not a pos) (tNot tA) := ⟨pt_not ha.out⟩
theorem je_one {op} (h : jE X a te) : jE X (.BoolOp op [a] pos) te := ⟨pe_one h.out⟩
theorem je_and (ha : jE X a ta) (hb : jE X (.BoolOp .And (b :: rest) pos) tb) : jE X (.BoolOp .And (a :: b :: rest) pos) (tAndV ta tb) := ⟨pe_and ha.out hb.out⟩
theorem je_or (ha : jE X a ta) (hb : jE X (.BoolOp .Or (b :: rest) pos) tb) : jE X (.BoolOp .Or (a :: b :: rest) pos) (tOrV ta tb) := ⟨pe_or ha.out hb.out⟩
theorem je_not (ha : jE X a ta) : jE X (.UnaryOp .Not a pos) (tNotV ta) := ⟨pe_not ha.out⟩
theorem je_ifExp (hc : jT X c tA) (ha : jE X a ta) (hb : jE X b tb) : jE X (.IfExp c a b pos) (tIf tA ta tb) := ⟨pe_ifExp hc.out ha.out hb.out⟩
theorem ja_nil : jA X [] tNil := ⟨pa_nil⟩
theorem ja_c (ha : jE X e te) (hr : jA X es t) (h : isStar e = false := by rfl) : jA X (e :: es) (tCons te t) := ⟨pa_c ha.out hr.out h⟩
theorem je_lst (h : jA X es t) : jE X (.List es pos) (tLst t) := ⟨pe_lst h.out⟩
theorem je_tup {x1} (h : jA X es t) : jE X (.Tuple es x1 pos) (tTup t) := ⟨pe_tup h.out⟩
theorem je_ix (hr : jIx X r) (ha : jE X a ta) (hb : jE X b tb) (hs : PlainIx b) : jE X (.Subscript a b pos) (tOp r ta tb) := ⟨pe_ix hr.out ha.out hb.out hs⟩
theorem jo_none : jO X none tNoPart := ⟨po_none⟩
theorem jo_some (h : jE X e te) : jO X (some e) (tPart te) := ⟨po_some h.out⟩
theorem je_slice {r : V -> Option Int -> Option Int -> Hp -> VK -> Prop} {lo hi : Option Expr} {tl th : TO} (hr : jSl X r) (he : jE X e te) (hl : jO X lo tl) (hu : jO X hi th) : jE X (.Subscript e (.Slice lo hi none p2) pos) (tSl r te tl th) := ⟨pe_slice hr.out he.out hl.out hu.out⟩
variable {CX : CXT} {k : Nat} {f C : Addr} {fd : FuncData} {ps : List Str} {sp : Sp} {dvs : List V} {ds : List Value} {E : XK} {id T : String} {rc : List V -> Hp -> VK -> Prop} {rm : V -> List V -> Hp -> VK -> Prop}
theorem je_fn (F : FnOk X.prog X.w X.K X.mg X.base CX k f fd ps sp) (hr : Room k X.A) (hg : Gl X x) (hm : X.mg x = some (.ref f)) (hk : PySem.W.keepIn X.K (.ref f) = true) (hb : Binds X.K fd ps ds) (hd : Vals dvs ds) (hx : Passes CX X E)
    (ha : jA X (e :: es) t) (hdb : (x == ("__debug__" : Str)) = false := by decide) (h1 : isStar e = false := by rfl) (h2 : es.all (fun e => !isStar e) = true := by rfl) :
    jE X (.Call (.Name x p) (e :: es) [] pos) (tCall sp dvs E t) := ⟨pe_fn F hr hg hm hk hb hd hx ha.out hdb h1 h2⟩
theorem je_fnB (hc : jCa X (.builtin id) rc) (hg : Gl X x) (hm : X.mg x = none) (hv : bootBuiltins x = some (.builtin id)) (ha : jA X (e :: es) t) (hn : x ≠ "__name__" := by decide) (hdb : (x == ("__debug__" : Str)) = false := by decide)
    (h1 : isStar e = false := by rfl) (h2 : es.all (fun e => !isStar e) = true := by rfl) : jE X (.Call (.Name x p) (e :: es) [] pos) (tCB rc t) := ⟨pe_fnB hc.out hg hm hv ha.out hn hdb h1 h2⟩
theorem je_fnTy (hc : jCa X (.type T) rc) (hg : Gl X x) (hm : X.mg x = none) (hv : bootBuiltins x = some (.type T)) (ha : jA X (e :: es) t) (hn : x ≠ "__name__" := by decide) (hdb : (x == ("__debug__" : Str)) = false := by decide)
    (h1 : isStar e = false := by rfl) (h2 : es.all (fun e => !isStar e) = true := by rfl) : jE X (.Call (.Name x p) (e :: es) [] pos) (tCB rc t) := ⟨pe_fnTy hc.out hg hm hv ha.out hn hdb h1 h2⟩
theorem je_bm0 {name : Str} (pa : PlainAttrs T) (slot : Slot T name id) (hty : typeOf (.builtin id) = pure (.type "method_descriptor")) (hm : jMt X id rm) (ho : jE X o to)
    (hbase : attributeBase o name X.env (eval o X.env) = eval o X.env := by rfl) (hline : (apos.endLine == cpos.line) = true := by rfl) : jE X (.Call (.Attribute o name apos) [] [] cpos) (tBM0 X.K T rm to) := ⟨pe_bm0 pa slot hty hm.out ho.out hbase hline⟩
theorem je_bm {name : Str} (pa : PlainAttrs T) (slot : Slot T name id) (hty : typeOf (.builtin id) = pure (.type "method_descriptor")) (hm : jMt X id rm) (ho : jE X o to) (ha : jA X (e :: es) t)
    (hbase : attributeBase o name X.env (eval o X.env) = eval o X.env := by rfl)
    (hfew : ((backTo cpos (starEach (e :: es) X.env)).all (fun x => !x.1) && (backToKw cpos (keywordEach [] X.env)).all (fun x => x.1.isSome)
      && decide ((e :: es).length + ([] : List Keyword).length + (if ([] : List Keyword).isEmpty then 0 else 1) < 30)) = true := by rfl)
    (hline : (apos.endLine == cpos.line) = true := by rfl) (h1 : isStar e = false := by rfl) (h2 : es.all (fun e => !isStar e) = true := by rfl) :
    jE X (.Call (.Attribute o name apos) (e :: es) [] cpos) (tBM X.K T rm to t) := ⟨pe_bm pa slot hty hm.out ho.out ha.out hbase hfew hline (star_cons h1) (star_any h2)⟩
variable {st : Stmt} {sts : List Stmt} {s1 s2 : TS} {tg iter elt : Expr} {g : TG} {wi : TI} {tb1 : TS} {ifs : List Expr} {tt : TT}
theorem jss_nil : jSs X [] tNext := ⟨pss_nil⟩
theorem jss_cons (h1 : jS X st s1) (h2 : jSs X sts s2) : jSs X (st :: sts) (tSeq s1 s2) := ⟨pss_cons h1.out h2.out⟩
theorem jss_one (h1 : jS X st s1) : jSs X [st] s1 := ⟨pss_one h1.out⟩
theorem js_expr (he : jE X e te) (hs : swapsWith e none pos.line X.env = pure false := by rfl) : jS X (.Expr e pos) (tDrop te) := ⟨ps_expr he.out hs⟩
theorem js_ret (he : jE X e te) : jS X (.Return (some e) pos) (tRet te) := ⟨ps_ret he.out⟩
theorem js_retN : jS X (.Return none pos) tRetN := ⟨ps_retN⟩
theorem js_if {A B : List Stmt} (hc : jT X c tA) (ha : jSs X A s1) (hb : jSs X B s2) : jS X (.If c A B pos) (tIfS tA s1 s2) := ⟨ps_if hc.out ha.out hb.out⟩
theorem js_set {i : Nat} {pos' : Pos} (hN : X.N.Nodup) (hi : X.N[i]? = some x) (hx : Loc X.env.scope x) (he : jE X e te) (hs : swapsWith e (some (.Name x pos')) pos.line X.env = pure false := by rfl)
    (hf : X.fn x = true \/ X.env.scope.names.lookup x = some .local := by first | exact .inl rfl | exact .inr rfl | assumption) : jS X (.Assign [.Name x pos'] e pos) (tAsg te (gName i)) := ⟨ps_set hN hi hx he.out hs hf⟩
theorem js_asg (he : jE X e te) (hg : jG X tg g) (hs : swapsWithSole [tg] e pos.line X.env = pure false := by rfl) (hw : swappedStores [tg] e X.env = pure none := by rfl) (h1 : (assignEach [tg] X.env).map (·.2) = [assign tg X.env] := by rfl) : jS X (.Assign [tg] e pos) (tAsg te g) := ⟨ps_asg he.out hg.out hs hw h1⟩
theorem jg_name {i : Nat} (hN : X.N.Nodup) (hi : X.N[i]? = some x) (hx : Loc X.env.scope x) (hf : X.fn x = true \/ X.env.scope.names.lookup x = some .local := by first | exact .inl rfl | exact .inr rfl | assumption) : jG X (.Name x pos) (gName i) := ⟨pg_name hN hi hx hf⟩
theorem jgs_nil : jGs X [] gNil := ⟨pgs_nil⟩
theorem jgs_cons {g : TG} {gs : TGs} (h1 : jG X e g) (h2 : jGs X es gs) (hs : (assignEach (e :: es) X.env).map (·.2) = assign e X.env :: (assignEach es X.env).map (·.2) := by rfl) : jGs X (e :: es) (gCons g gs) := ⟨pgs_cons h1.out h2.out hs⟩
theorem jg_tup {k : Nat} {gs : TGs} {n : Nat} (hc : X.calm = true) (h : jGs X es gs) (hn : (assignEach es X.env).length = n := by rfl) (hst : (assignEach es X.env).findIdx? (·.1) = none := by rfl) : jG X (.Tuple es k pos) (gTup X.K n gs) := ⟨pg_tup hc h.out hn hst⟩
theorem ji_list {l : Expr} {tl : TE} (hl : jE X l tl) : jI X tg l (iList X.K tl) := ⟨pi_list hl.out⟩
theorem ji_tup {l : Expr} {tl : TE} (hl : jE X l tl) : jI X tg l (iTup X.K tl) := ⟨pi_tup hl.out⟩
theorem ji_str (hc : X.calm = true) {l : Expr} {tl : TE} (hl : jE X l tl) : jI X tg l (iStr tl) := ⟨pi_str hc hl.out⟩
theorem ji_range1 (hg : Gl X "range") (hm : X.mg "range" = none) (ha : jA X [a] t) (h : isStar a = false := by rfl) : jI X tg (.Call (.Name "range" p) [a] [] pos) (iRng1 t) := ⟨pi_range1 hg hm ha.out (star_cons h)⟩
theorem js_for (hp : PassesOwn (model X.prog X.w) X.A X.env X.xe) (hc : X.calm = true) (hi : jI X tg iter wi) (hg : jG X tg g) (hb : jSs X sts tb1) (hs : ∀ x, foldedSetIterable iter X.env x = pure x := by intro _; rfl) : jS X (.For tg iter sts [] pos) (tFor wi g tb1) := ⟨ps_for hp hc hi.out hg.out hb.out hs⟩
theorem js_while (hp : PassesOwn (model X.prog X.w) X.A X.env X.xe) (hc : jT X c tA) (hb : jSs X sts tb1) : jS X (.While c sts [] pos) (tWhile tA tb1) := ⟨ps_while hp hc.out hb.out⟩
theorem jts_nil : jTs X [] tYes := ⟨pts_nil⟩
theorem je_comp {scope : Scope} (M : List Str) (hc : X.calm = true) (hi : jI X tg iter wi) (hg : ∀ C s H ex E, jG (cxLC X scope (clOf scope X.env) M C s H ex E) tg g) (ht : ∀ C s H ex E, jTs (cxLC X scope (clOf scope X.env) M C s H ex E) ifs tt)
    (he : ∀ C s H ex E, jE (cxLC X scope (clOf scope X.env) M C s H ex E) elt te) (hs : ∀ x, foldedSetIterable iter X.env x = pure x := by intro _; rfl)
    (h1 : closureFor scope X.env = pure (clOf scope X.env) := by with_unfolding_all rfl) (h2 : scope.kind = .function := by rfl) (h3 : scope.names.all (fun y => y.2 != .cell) = true := by rfl) (h4 : scope.names.all (fun y => y.2 != .local || scope.names.lookup y.1 == some .local) = true := by rfl)
    (h5 : X.N.all (fun y => scope.names.lookup y != some .local) = true := by rfl) (h6 : scope.names.all (fun p => p.2 != .free || (((clOf scope X.env).lookup p.1).isSome && (X.env.kindOf p.1 == some .cell || X.env.kindOf p.1 == some .free))) = true := by rfl) :
    jE X (.ListComp elt [⟨tg, iter, ifs, 0⟩] scope pos) (tLC wi g tt te M.length) := ⟨pe_comp M hc hi.out (fun C s H ex E => (hg C s H ex E).out) (fun C s H ex E => (ht C s H ex E).out) (fun C s H ex E => (he C s H ex E).out) hs h1 h2 h3 h4 h5 h6⟩
theorem jo_add : jOp X (binaryOp .Add) (rI0 fun i j => .int (i + j)) := ⟨op_add⟩
theorem jo_sub : jOp X (binaryOp .Sub) (rI0 fun i j => .int (i - j)) := ⟨op_sub⟩
theorem jo_mul : jOp X (binaryOp .Mult) (rI CMul fun i j => .int (i * j)) := ⟨op_mul⟩
theorem jo_fdiv : jOp X (binaryOp .FloorDiv) (rI CDiv fun i j => .int (i / j)) := ⟨op_fdiv⟩
theorem jo_mod : jOp X (binaryOp .Mod) (rI (fun _ j => 0 < j) fun i j => .int (i % j)) := ⟨op_mod⟩
theorem jo_pow : jOp X (binaryOp .Pow) (rI CPow fun i j => .int (i ^ j.toNat)) := ⟨op_pow⟩
theorem jo_eq : jOp X (compareOp .Eq) rEq := ⟨op_eq⟩
theorem jo_ne : jOp X (compareOp .NotEq) rNe := ⟨op_ne⟩
theorem jo_lt : jOp X (compareOp .Lt) (rI0 fun i j => .bl (decide (i < j))) := ⟨op_lt⟩
theorem jo_le : jOp X (compareOp .LtE) (rI0 fun i j => .bl (decide (i <= j))) := ⟨op_le⟩
theorem jo_gt : jOp X (compareOp .Gt) (rI0 fun i j => .bl (decide (j < i))) := ⟨op_gt⟩
theorem jo_in_str : jOp X (compareOp .In) (fun x y H Q => ∃ i j, x = .str i /\ y = .str j /\ Q (.bl (!(Builtin.Str.occurrences j i 0 j.length 1).isEmpty)) H) := ⟨op_in_str⟩
theorem jo_in_seq : jOp X (compareOp .In) (rIn X.K false) := ⟨op_in_seq⟩
theorem jo_notIn_seq : jOp X (compareOp .NotIn) (rIn X.K true) := ⟨op_notIn_seq⟩
theorem jo_add_str : jOp X (binaryOp .Add) (fun x y H Q => ∃ i j, x = .str i /\ y = .str j /\ i.length + j.length <= sizeLine /\ Q (.str (i ++ j)) H) := ⟨op_add_str⟩
theorem jo_cat : jOp X (binaryOp .Add) rCat := ⟨op_cat⟩
theorem jo_catT : jOp X (binaryOp .Add) (rCatT X.K) := ⟨op_catT⟩
theorem jx_list : jIx X (rIxL X.K) := ⟨ix_list⟩
theorem jx_tup : jIx X (rIxT X.K) := ⟨ix_tup⟩
theorem jl_str : jSl X rSlS := ⟨sl_str⟩
theorem jl_list : jSl X (rSlL X.K) := ⟨sl_list⟩
theorem jl_tup : jSl X (rSlT X.K) := ⟨sl_tup⟩
theorem jm_startswith : jMt X "str.startswith" rStarts := ⟨mt_startswith⟩
theorem jm_split : jMt X "str.split" rSplit := ⟨mt_split⟩
theorem jm_append : jMt X "list.append" rAppend := ⟨mt_append⟩
theorem jm_pop : jMt X "list.pop" rPop := ⟨mt_pop⟩
theorem jm_extend : jMt X "list.extend" rExtend := ⟨mt_extend⟩
theorem jc_len_str : jCa X (.builtin "len") (fun xs H Q => ∃ z, xs = [.str z] /\ z.length <= sizeLine /\ Q (.int z.length) H) := ⟨call_len_str⟩
theorem jc_len_seq : jCa X (.builtin "len") (fun xs H Q => ∃ p ys, xs = [.ref p] /\ (SqL X.K H p ys \/ SqT X.K H p ys) /\ Q (.int ys.length) H) := ⟨call_len_seq⟩
theorem jc_all_bools (hc : X.calm = true) : jCa X (.builtin "all") (fun xs H Q => ∃ (p : Addr) (bs : List Bool), xs = [.ref p] /\ SqL X.K H p (bs.map V.bl) /\ Q (.bl (bs.all _root_.id)) H) := ⟨call_all_bools hc⟩
theorem jc_isinst : jCa X (.builtin "isinstance") (fun xs H Q => ∃ x t T b, xs = [x, .ty T] /\ TyOf X.K H x t /\ PySem.W.kitOne X.K t (.type T) = some b /\ Q (.bl b) H) := ⟨call_isinst⟩
theorem jc_str_int : jCa X (.type "str") (fun xs H Q => ∃ i, xs = [.int i] /\ i.natAbs.log2 < 1920 /\ Q (.str (toString i)) H) := ⟨call_str_int⟩
theorem jc_tuple_of : jCa X (.type "tuple") (fun xs H Q => ∃ p ys, xs = [.ref p] /\ ((SqL X.K H p ys /\ ∀ l, H l = none -> Q (.ref l) (upd H l (.tup ys))) \/ (SqT X.K H p ys /\ Q (.ref p) H))) := ⟨call_tuple_of⟩
theorem jc_list_of : jCa X (.type "list") (fun xs H Q => ∃ p ys, xs = [.ref p] /\ (SqL X.K H p ys \/ SqT X.K H p ys) /\ ∀ l, H l = none -> Q (.ref l) (upd H l (.lst ys))) := ⟨call_list_of⟩
end
section
variable {P : Program} {w : World} {K : PySem.W.Frag} {mg : Str -> Option Value} {base : Heap}
theorem Fun.by {x qual : Str} {st : Stmt} {f : Addr} {fd : FuncData} {N ps : List Str} {k : Nat} {sp : Sp} (F : Fun K x qual st f fd) (S : FnScope N ps (defScope st)) (len : ∀ vs H Q E, sp vs H Q E -> vs.length = ps.length)
    (hbody : ∀ (cdv : Value) (A : Around) (outer : List Env) (s : Shared) (H : Hp) (vs : List V) (Q : VK) (E : XK), Room k (A.deeper (envOfC qual (defScope st) s.heap.objs.size f cdv)) -> sp vs H Q E ->
      ∃ t, jSs (cxOf CX0 P w K mg base N qual (defScope st) f cdv A outer s H E).nox (defBody st) t /\ t { nx := fun _ H' => Q .non H', rt := Q } (start N vs) H) : FnOk P w K mg base CX0 (k + 1) f fd ps sp :=
  F.ok S len fun cdv A outer s H vs Q E hr h => let ⟨t, b, q⟩ := hbody cdv A outer s H vs Q E hr h; ⟨t, b.out, q⟩
end
end L2
namespace L2
open PySem
structure Mv (fs xs : List Addr) (h h' : Heap) : Prop where
  keep : ∀ b o, h.get? b = some o -> b ∉ fs -> b ∉ xs -> h'.get? b = some o
  slot : ∀ b o, h.get? b = some o -> b ∉ xs -> ∃ sl, h'.get? b = some { o with slots := sl }
  there : ∀ b o, h.get? b = some o -> ∃ o', h'.get? b = some o'
theorem Mv.refl {fs xs : List Addr} {h : Heap} : Mv fs xs h h := ⟨fun _ _ e _ _ => e, fun _ o e _ => ⟨o.slots, e⟩, fun _ o e => ⟨o, e⟩⟩
theorem Mv.trans {fs xs : List Addr} {h h1 h2 : Heap} (a : Mv fs xs h h1) (b : Mv fs xs h1 h2) : Mv fs xs h h2 :=
  ⟨fun c o e f x => b.keep c o (a.keep c o e f x) f x, fun c o e x => let ⟨_, e1⟩ := a.slot c o e x; let ⟨sl, e2⟩ := b.slot c _ e1 x; ⟨sl, e2⟩, fun c o e => let ⟨o1, e1⟩ := a.there c o e; b.there c o1 e1⟩
theorem Mv.mono {fs fs' xs xs' : List Addr} {h h1 : Heap} (a : Mv fs xs h h1) (hf : ∀ b ∈ fs, b ∈ fs') (hx : ∀ b ∈ xs, b ∈ xs') : Mv fs' xs' h h1 :=
  ⟨fun c o e f x => a.keep c o e (fun z => f (hf c z)) fun z => x (hx c z), fun c o e x => a.slot c o e fun z => x (hx c z), a.there⟩
theorem Mv.of_keeps {fs xs : List Addr} {h h' : Heap} (k : ∀ b o, h.get? b = some o -> h'.get? b = some o) : Mv fs xs h h' := ⟨fun b o e _ _ => k b o e, fun b o e _ => ⟨o.slots, k b o e⟩, fun b o e => ⟨o, k b o e⟩⟩
structure Tr (h : Heap) (e : Addr) (C : Value) (dx : Option Addr) (T : Addr) (fl : Value) : Prop where
  ex : ∃ oe vs, h.get? e = some oe /\ oe.cls = C /\ oe.dict = dx /\ oe.data = .fields vs /\ vs[1]? = some (.ref T)
  tb : ∃ ot ts, h.get? T = some ot /\ ot.data = .fields ts /\ ts[3]? = some fl
  ne : T ≠ e
theorem dict_mapFields (f : Array Value -> Array Value) (o : Obj) : (Obj.mapFields f o).dict = o.dict := by
  unfold Obj.mapFields
  split <;> rfl
theorem frames_mem {h base : Heap} {l : List Env} (hl : h.FunFrames base l) {e : Addr} {oe : Obj} {vs : Array Value} (he : h.get? e = some oe) (hd : oe.data = .fields vs) : e ∉ l.filterMap (·.frame) := fun z => by
  obtain ⟨_, o, ho, nf⟩ := hl.mem z
  rw [he] at ho
  cases ho
  exact nf vs hd
section
variable {M : Model} {A : Around} {E : Value -> Shared -> Prop} {s : Shared} {base : Heap} {env : Env} {outer : List Env} {L e T : Addr} {C : Value} {dx : Option Addr} {Q : Unit -> Shared -> Prop}
theorem fly_entry {oe : Obj} {vs : Array Value} {head : Value} {had : Bool} (hfr : A.frames = some (env :: outer)) (hl : s.heap.FunFrames base (env :: outer)) (hf : env.frame = some L)
    (he : s.heap.get? e = some oe) (hd : oe.data = .fields vs) (hsz : 1 < vs.size)
    (hq : ∀ h' T, s.heap.objs.size <= T -> Tr h' e oe.cls oe.dict T (rawInt L) -> Mv ((env :: outer).filterMap (·.frame)) [e] s.heap h' -> Q () { s with heap := h' }) :
    wpAny M A (do let a <- frameOf env; let pl <- entryPlaceOf L had; let b <- EntryCells.newEntry head a .none (rawInt L) .none pl; setField (.ref e) 1 b) Q E s := by
  have nf := frames_mem hl he hd
  refine wpAny_bind (wpAny_frameOf_fun hfr hl hf fun h1 s1 => wpAny_bind (wpAny_entryPlaceOf fun pl hp => ?_))
  unfold EntryCells.newEntry newFields
  refine wpAny_bind (wpAny_newObj_type ?_ (by exact hp.sizeOk5 _ _ _ _ _))
  have e1 : h1.get? e = some oe := (s1.2.1 e nf).trans he
  have ne : h1.objs.size ≠ e := Nat.ne_of_gt (Heap.lt_size e1)
  generalize ho : ({ cls := .type "traceback", dict := none, data := .fields ([head, .ref L, .none, rawInt L, .none] ++ (if pl.isEmpty then List.replicate 6 Value.none else pl)).toArray } : Obj) = ob
  have t3 : ∃ ts, ob.data = .fields ts /\ ts[3]? = some (rawInt L) := by
    subst ho
    refine ⟨_, rfl, ?_⟩
    simp
  have fr : ob.isFreed = false := by
    obtain ⟨ts, q, _⟩ := t3
    exact Obj.isFreed_of_fields q
  have e2 := Heap.get?_push_of_some (h := h1) ob e1
  refine wpAny_setField e2 hd hsz (hq _ h1.objs.size (Nat.le_of_eq s1.1.symm) ⟨?_, ?_, ne⟩ ⟨fun b o q f x => ?_, fun b o q x => ?_, fun b o q => ?_⟩)
  · exact ⟨_, _, Heap.get?_update_self _ e2 (Obj.isFreed_of_fields (Obj.data_mapFields hd _)), Obj.cls_mapFields _ _, dict_mapFields _ _, Obj.data_mapFields hd _, by simp [hsz]⟩
  · obtain ⟨ts, q1, q2⟩ := t3
    exact ⟨ob, ts, (Heap.get?_update_other _ _ (Ne.symm ne)).trans (Heap.get?_push_size _ fr), q1, q2⟩
  · rw [Heap.get?_update_other _ _ (fun z => x (by simp [z]))]
    exact Heap.get?_push_of_some _ ((s1.2.1 b f).trans q)
  · obtain ⟨sl, q1⟩ := s1.2.2 b o q
    exact ⟨sl, by rw [Heap.get?_update_other _ _ (fun z => x (by simp [z]))]; exact Heap.get?_push_of_some _ q1⟩
  · obtain ⟨sl, q1⟩ := s1.2.2 b o q
    by_cases z : b = e
    · subst z
      exact ⟨_, Heap.get?_update_self _ e2 (Obj.isFreed_of_fields (Obj.data_mapFields hd _))⟩
    · exact ⟨_, by rw [Heap.get?_update_other _ _ (Ne.symm z)]; exact Heap.get?_push_of_some _ q1⟩
theorem fly_first {oe : Obj} {vs : Array Value} (hfr : A.frames = some (env :: outer)) (hl : s.heap.FunFrames base (env :: outer)) (hf : env.frame = some L)
    (he : s.heap.get? e = some oe) (hd : oe.data = .fields vs) (h1 : vs[1]? = some .none)
    (hq : ∀ h' T, s.heap.objs.size <= T -> Tr h' e oe.cls oe.dict T (rawInt L) -> Mv ((env :: outer).filterMap (·.frame)) [e] s.heap h' -> Q () { s with heap := h' }) :
    wpAny M A (noteFrame (.ref e) env) Q E s := by
  unfold noteFrame
  simp only [hf]
  refine wpAny_bind (wpAny_field he hd h1 ?_)
  rw [if_neg (by decide : ¬ ((Value.none != Value.none) = true))]
  exact fly_entry hfr hl hf he hd (Array.getElem?_eq_some_iff.mp h1).1 hq
theorem fly_set {fl : Value} {v : Option Addr} (t : Tr s.heap e C dx T fl) (hq : ∀ h', Tr h' e C dx T (v.elim .none fun f => rawInt f) -> Mv [] [T] s.heap h' -> Q () { s with heap := h' }) :
    wpAny M A (setFlight (.ref e) v) Q E s := by
  obtain ⟨⟨oe, vs, he, hc, hx, hd, h1⟩, ⟨ot, ts, ht, hdt, h3⟩, ne⟩ := t
  unfold setFlight
  refine wpAny_bind (wpAny_field he hd h1 ?_)
  rw [if_pos (by simp : (Value.ref T != Value.none) = true)]
  have up := Heap.get?_update_self (Obj.mapFields (·.setIfInBounds 3 (v.elim .none fun f => rawInt f))) ht (Obj.isFreed_of_fields (Obj.data_mapFields hdt _))
  refine wpAny_setField ht hdt (Array.getElem?_eq_some_iff.mp h3).1 (hq _ ⟨⟨oe, vs, (Heap.get?_update_other _ _ ne).trans he, hc, hx, hd, h1⟩, ⟨_, _, up, Obj.data_mapFields hdt _, ?_⟩, ne⟩ ⟨fun b o q _ x => ?_, fun b o q x => ⟨o.slots, ?_⟩, fun b o q => ?_⟩)
  · simp [(Array.getElem?_eq_some_iff.mp h3).1]
  · exact (Heap.get?_update_other _ _ (fun z => x (by simp [z]))).trans q
  · exact (Heap.get?_update_other _ _ (fun z => x (by simp [z]))).trans q
  · by_cases z : b = T
    · subst z
      exact ⟨_, up⟩
    · exact ⟨o, (Heap.get?_update_other _ _ (Ne.symm z)).trans q⟩
theorem fly_next (hfr : A.frames = some (env :: outer)) (hl : s.heap.FunFrames base (env :: outer)) (hf : env.frame = some L) (t : Tr s.heap e C dx T .none)
    (hq : ∀ h' T', s.heap.objs.size <= T' -> Tr h' e C dx T' (rawInt L) -> Mv ((env :: outer).filterMap (·.frame)) [e, T] s.heap h' -> Q () { s with heap := h' }) :
    wpAny M A (noteFrame (.ref e) env) Q E s := by
  obtain ⟨⟨oe, vs, he, hc, hx, hd, h1⟩, ⟨ot, ts, ht, hdt, h3⟩, ne⟩ := t
  subst hc
  subst hx
  unfold noteFrame
  simp only [hf]
  refine wpAny_bind (wpAny_field he hd h1 ?_)
  rw [if_pos (by simp : (Value.ref T != Value.none) = true)]
  refine wpAny_bind (wpAny_field ht hdt h3 ?_)
  rw [if_neg (by simp [rawInt] : ¬ ((Value.none == rawInt L) = true))]
  have up := Heap.get?_update_self (Obj.mapFields (·.setIfInBounds 3 .none)) ht (Obj.isFreed_of_fields (Obj.data_mapFields hdt _))
  have k : ∀ b o, b ≠ T -> s.heap.get? b = some o -> (s.heap.update T (Obj.mapFields (·.setIfInBounds 3 .none))).get? b = some o := fun b o z q => (Heap.get?_update_other _ _ (Ne.symm z)).trans q
  refine wpAny_bind (wpAny_setField ht hdt (Array.getElem?_eq_some_iff.mp h3).1 ?_)
  refine fly_entry (base := base) hfr (hl.of_keeps fun b o q nf => ⟨o, k b o (fun z => ?_) q, rfl⟩) hf (k e oe (Ne.symm ne) he) hd (Array.getElem?_eq_some_iff.mp h1).1 fun h' T' hs t m => hq h' T' ?_ t ⟨fun b o q f x => ?_, fun b o q x => ?_, fun b o q => ?_⟩
  · rw [z, ht] at q
    cases q
    exact nf ts hdt
  · rw [Heap.size_after_update] at hs
    exact hs
  · exact m.keep b o (k b o (fun z => x (by simp [z])) q) f fun z => x (by simp at z; simp [z])
  · exact m.slot b o (k b o (fun z => x (by simp [z])) q) fun z => x (by simp at z; simp [z])
  · by_cases z : b = T
    · subst z
      exact m.there b _ up
    · exact m.there b o (k b o z q)
end
end L2
namespace L2
open PySem PySem.Spec PyProof.Rows
theorem HOk.moved {P : Program} {w : World} {H : Hp} {h h' : Heap} {fs xs : List Addr} (x : HOk P w H h) (m : Mv fs xs h h') (hf : ∀ b ∈ fs, H b = none) (hx : ∀ b ∈ xs, H b = none) : HOk P w H h' := fun a o e =>
  (x a o e).stay (fun b u hb q => m.keep b u q (fun z => by
      have n := hf b z
      rcases hb with r | r
      · rw [r, e] at n
        cases n
      · rw [r] at n
        cases n) fun z => by
      have n := hx b z
      rcases hb with r | r
      · rw [r, e] at n
        cases n
      · rw [r] at n
        cases n) (fun _ q => q) fun _ _ q => q
def CXf (P : Program) (w : World) : CXT := fun outer H s E u s' => ∃ (e T : Addr) (C : Value) (dx : Option Addr) (H' : Hp), u = .ref e /\ s'.os = s.os /\ AllBare s'.gens /\ Un (frs outer) [] H H' s.heap s'.heap /\ HOk P w H' s'.heap /\
  Tr s'.heap e C dx T .none /\ (s.heap.objs.size <= e /\ s.heap.objs.size <= T) /\ (H' e = none /\ H' T = none) /\ E C dx H'
def Fl (h : Heap) (H : Hp) (n : Nat) (e : Addr) (C : Value) (dx : Option Addr) : Prop :=
  (∃ oe vs, h.get? e = some oe /\ oe.cls = C /\ oe.dict = dx /\ oe.data = .fields vs /\ vs[1]? = some .none) \/ ∃ T, Tr h e C dx T .none /\ H T = none /\ n <= T
def Air (X : Cx) (pins : List (Addr × Obj)) (σ : St) (E : XK) (u : Value) (s' : Shared) : Prop := ∃ (e : Addr) (C : Value) (dx : Option Addr) (H' : Hp) (n : Nat), u = .ref e /\ Inv X pins σ H' s' /\ H' e = none /\ X.s₀.heap.objs.size <= n /\ n <= e /\ (∀ p ∈ X.pn ++ pins, p.1 < n) /\ Fl s'.heap H' n e C dx /\ E C dx H'
section
variable {P : Program} {w : World} {K : PySem.W.Frag} {mg : Str -> Option Value} {base : Heap} {N : List Str} {qual : Str} {scope : Scope} {f : Addr} {cd : Value} {A : Around} {outer : List Env} {s : Shared} {H : Hp} {E : XK}
theorem leave_air {pins : List (Addr × Obj)} {σ : St} {u : Value} {s' : Shared} (h : Air (cxOf (CXf P w) P w K mg base N qual scope f cd A outer s H E) pins σ E u s') : (cxOf (CXf P w) P w K mg base N qual scope f cd A outer s H E).xe u s' := by
  obtain ⟨e, C, dx, H', n, rfl, I, ne, hn, he, hp, st, hE⟩ := h
  have fin : ∀ (h2 : Heap) (T : Addr) (xs : List Addr), Tr h2 e C dx T .none -> Mv (frs (cxOf (CXf P w) P w K mg base N qual scope f cd A outer s H E).stack) xs s'.heap h2 -> (∀ b ∈ xs, H' b = none /\ s.heap.objs.size <= b) -> H' T = none -> s.heap.objs.size <= T ->
      CXf P w outer H s E (.ref e) { s' with heap := h2 } := by
    intro h2 T xs t m hx nT sT
    have nst : ∀ (b : Addr) (o : Obj), s.heap.get? b = some o -> b ∉ frs outer -> b ∉ frs (cxOf (CXf P w) P w K mg base N qual scope f cd A outer s H E).stack := fun b o q nb z => by
      rcases List.mem_cons.mp (I.stkSub b z) with r | r
      · exact absurd (show b = (cxOf (CXf P w) P w K mg base N qual scope f cd A outer s H E).env.locals from r) (Nat.ne_of_lt (Nat.lt_of_lt_of_le (Heap.lt_size q) I.ok.above))
      · exact nb r
    have nx : ∀ (b : Addr) (o : Obj), s.heap.get? b = some o -> b ∉ xs := fun b o q z => absurd (Nat.lt_of_lt_of_le (Heap.lt_size q) (hx b z).2) (Nat.lt_irrefl _)
    have B : Un (frs outer) [] H H' s.heap s'.heap := I.base
    refine ⟨e, T, C, dx, H', rfl, I.os, I.bare, ⟨fun b o q n hb hx => ?_, fun b o q n hb hx => ?_, B.free, fun b o q hx => ?_, B.tups, B.frzs, B.tbls⟩, I.hok.moved m I.stkFree fun b hb => (hx b hb).1, t, ⟨Nat.le_trans hn he, sT⟩, ⟨ne, nT⟩, hE⟩
    · exact m.keep b o (B.keep b o q n hb hx) (nst b o q hb) (nx b o q)
    · obtain ⟨sl, q1⟩ := B.slot b o q n hb hx
      obtain ⟨sl2, q2⟩ := m.slot b _ q1 (nx b o q)
      exact ⟨sl2, q2⟩
    · obtain ⟨o1, q1⟩ := B.there b o q hx
      exact m.there b o1 q1
  show wpAny (model P w) _ (leaving _ (.ref e)) _ _ s'
  unfold leaving
  rcases st with ⟨oe, vs, h1, rfl, rfl, h4, h5⟩ | ⟨T0, t0, n0, s0⟩
  · refine wpAny_bind (fly_first I.ok.frames I.stack rfl h1 h4 h5 fun h' T hs t m => fly_set t fun h2 t2 m2 => ?_)
    refine fin h2 T [e, T] t2 ((m.mono (fun _ z => z) fun b z => ?_).trans (m2.mono (fun b z => nomatch z) fun b z => ?_)) (fun b hb => ?_) (I.hok.fresh hs) (Nat.le_trans I.sz hs)
    · simp at z
      simp [z]
    · simp at z
      simp [z]
    · rcases List.mem_cons.mp hb with r | hb
      · rw [r]
        exact ⟨ne, Nat.le_trans hn he⟩
      · rw [List.mem_singleton.mp hb]
        exact ⟨I.hok.fresh hs, Nat.le_trans I.sz hs⟩
  · refine wpAny_bind (fly_next I.ok.frames I.stack rfl t0 fun h' T hs t m => fly_set t fun h2 t2 m2 => ?_)
    refine fin h2 T [e, T0, T] t2 ((m.mono (fun _ z => z) fun b z => ?_).trans (m2.mono (fun b z => nomatch z) fun b z => ?_)) (fun b hb => ?_) (I.hok.fresh hs) (Nat.le_trans I.sz hs)
    · simp at z
      rcases z with z | z <;> simp [z]
    · simp at z
      simp [z]
    · rcases List.mem_cons.mp hb with r | hb
      · rw [r]
        exact ⟨ne, Nat.le_trans hn he⟩
      · rcases List.mem_cons.mp hb with r | hb
        · rw [r]
          exact ⟨n0, Nat.le_trans hn s0⟩
        · rw [List.mem_singleton.mp hb]
          exact ⟨I.hok.fresh hs, Nat.le_trans I.sz hs⟩
theorem air_of {X : Cx} {pins : List (Addr × Obj)} {σ : St} {H1 : Hp} {s1 s2 : Shared} {u : Value} {E' : XK} (hP : X.prog = P) (hw : X.w = w) (I : Inv X pins σ H1 s1) (h : CXf P w X.stack H1 s1 E' u s2) : Air X pins σ E' u s2 := by
  obtain ⟨e, T, C, dx, H', rfl, os, bare, un, hok, t, ⟨se, sT⟩, ⟨ne, nT⟩, hE⟩ := h
  have I2 : Inv X pins σ H' s2 := I.call' (ch := []) os un (by rw [hP, hw]; exact hok) bare (fun b z => absurd z (by simp))
  exact ⟨e, C, dx, H', s1.heap.objs.size, rfl, I2, ne, I.sz, se, fun p hp => Heap.lt_size (I.pin p hp).1, .inr ⟨T, t, nT, sT⟩, hE⟩
theorem passx : Passes (CXf P w) (cxOf (CXf P w) P w K mg base N qual scope f cd A outer s H E) E := fun pins σ H1 s1 u s2 I h => leave_air (air_of rfl rfl I h)
theorem ownx : PassesOwn (model P w) (cxOf (CXf P w) P w K mg base N qual scope f cd A outer s H E).A (cxOf (CXf P w) P w K mg base N qual scope f cd A outer s H E).env (cxOf (CXf P w) P w K mg base N qual scope f cd A outer s H E).xe := PassesOwn.leaving
theorem Fun.byx {x : Str} {st : Stmt} {fd : FuncData} {ps : List Str} {k : Nat} {sp : Sp} (F : Fun K x qual st f fd) (S : FnScope N ps (defScope st)) (len : ∀ vs H Q E, sp vs H Q E -> vs.length = ps.length)
    (hbody : ∀ (cdv : Value) (A : Around) (outer : List Env) (s : Shared) (H : Hp) (vs : List V) (Q : VK) (E : XK), Room k (A.deeper (envOfC qual (defScope st) s.heap.objs.size f cdv)) -> sp vs H Q E ->
      ∃ t, jSs (cxOf (CXf P w) P w K mg base N qual (defScope st) f cdv A outer s H E) (defBody st) t /\ t { nx := fun _ H' => Q .non H', rt := Q } (start N vs) H) : FnOk P w K mg base (CXf P w) (k + 1) f fd ps sp := by
  obtain ⟨oc, od, kV, doc, pm, an, cdv, ct, osl, rfl, lk, hcd⟩ := F.ex
  refine fn_of lk hcd S len fun A outer s H vs Q E hr hsp => ?_
  obtain ⟨t, h, q⟩ := hbody cdv A outer s H vs Q E hr hsp
  exact ⟨t, h.out, q⟩
end
end L2
namespace L2
open PySem
section
variable {M : Model} {A : Around} {E : Value -> Shared -> Prop} {env : Env} {nm q : Str} {C N : Addr} {bs bm : List Value} {hdct : Bool} {sn : List Str} {sub : List Value} {ab : Bool} {col : Option Bool} {dd : Option Addr} {k0 k1 k2 k3 k5 : Option Value} {newId : String}
theorem rs_stmt {s : Shared} {x : Sem Value} {Q : Flow -> Shared -> Prop} (hb : bm.contains (.type "BaseException") = true) (hh : A.handled = none)
    (h : wpAny M A x (fun v s1 => ∃ e oe vs, v = .ref e /\ s1.heap.get? C = some (excClassObj nm q C N bs bm hdct sn sub ab col dd k0 k1 k2 k3 k5 newId) /\ s1.heap.get? e = some oe /\ oe.cls = .ref C /\ oe.data = .fields vs /\ vs[1]? = some .none /\ E (.ref e) s1) E s) :
    wpAny M A (raiseStmt env (some x) none) Q E s := by
  have cB : (Value.ref C :: bm).contains (.type "BaseException") = true := by rw [List.contains_cons, hb, Bool.or_true]
  unfold raiseStmt
  refine wpAny_bind (wpAny_mono h (fun v s1 h1 => ?_) fun _ _ x => x)
  obtain ⟨e, ⟨c, d0, dt, sl⟩, vs, rfl, hC, he, hc, hd, hv, hE⟩ := h1
  dsimp only at hc hd
  subst hc hd
  obtain ⟨hp, g, d, tk, os⟩ := s1
  repeat (first | (with_reducible refine wpAny_field he rfl hv ?_) | with_reducible refine wpAny_loadPart_at he ?_ | with_reducible refine wpAny_loadPart_at hC ?_ | (with_reducible refine wpAny_isSubtype_exc hC ?_; rw [cB]) | wp_step)
  exact wpAny_raiseNew_none hh hE
end
theorem fn_bind {M : Model} {A : Around} {E : Value -> Shared -> Prop} {s : Shared} {f : Addr} {ob : Obj} {self : Value} {Q : Value × List Value -> Shared -> Prop} (h1 : s.heap.get? f = some ob) (h2 : ob.cls = .type "function") (q : Q (.ref f, [self]) s) : wpAny M A (bindSpecial (.ref f) self) Q E s := by
  unfold bindSpecial
  refine wpAny_bind (wpAny_typeOf (T := "function") ⟨ob, h1, h2⟩ ?_)
  exact wpAny_pure q
abbrev tupOf (rest : List Value) : Obj := { cls := .type "tuple", data := .seq rest.toArray }
abbrev excOf (C t : Addr) : Obj := { cls := .ref C, data := .fields #[.ref t, .none, .none, .none, .bool false, .none] }
section
variable {prog : Program} {w : World} {A : Around} {E : Value -> Shared -> Prop} {h : Heap} {g : Array GenState} {d : Drawn} {t : Nat} {os : OsState}
variable {nm q : Str} {C N f : Addr} {bs bm bmB : List Value} {hdct : Bool} {sn : List Str} {sub : List Value} {ab : Bool} {col : Option Bool} {dd : Option Addr} {k0 k1 k2 k3 k5 : Option Value} {B Bn newId nid initId inN : String} {bmN : List Value}
theorem ex_typeCall (Fn : ExcBaseFacts Bn newId inN bmN) (hBn : bmB.contains (.type Bn) = true) (F : ExcBaseFacts B nid initId bmB) (T : OwnTail h bmB bm) {mN : Str -> Option Value} {rest : List Value} {Q : Fin -> Shared -> Prop} {ob : Obj}
    (hC : h.get? C = some (excClassObj nm q C N bs bm hdct sn sub ab col dd k0 k1 k2 k3 k5 newId)) (hn : h.Ns N mN) (hi : mN "__init__" = some (.ref f)) (hf : h.get? f = some ob) (hfc : ob.cls = .type "function") (hrest : rest.length <= sizeLine)
    (hq : wpAny (model prog w) A (call (.ref f) (.ref (h.objs.size + 1) :: rest)) (fun v s' => v = .none /\ Q (.done (.ret (.ref (h.objs.size + 1)))) s') E ⟨(h.push (tupOf rest)).push (excOf C h.objs.size), g, d, t, os⟩) :
    wpAny (model prog w) A (Builtin.«type.__call__» ⟨.ref C :: rest, []⟩) Q E ⟨h, g, d, t, os⟩ := by
  repeat (first | with_reducible refine wpAny_madeBy_exc hC ?_ | with_reducible refine wpAny_loadPart_at hC ?_ | wp_step)
  refine codeAny_call_builtin_code (Code.quiet_builtin _ Fn.quiet) (wpAny_check_new_subU Fn hBn T hC (codeAny_exc_new_subU Fn hBn F T hC ?_ hrest))
  show wpAny _ _ _ _ _ _
  have k : ∀ b o, h.get? b = some o -> ((h.push (tupOf rest)).push (excOf C h.objs.size)).get? b = some o := fun b o e => Heap.get?_push_of_some _ (Heap.get?_push_of_some _ e)
  have C1 := k _ _ hC
  have e1 : ((h.push (tupOf rest)).push (excOf C h.objs.size)).get? (h.objs.size + 1) = some (excOf C h.objs.size) := Heap.get?_push_at (by simp only [Heap.size_push]) rfl
  have cC : (Value.ref C :: bm).contains (.ref C) = true := by simp
  unfold isInstance
  repeat (first | with_reducible refine wpAny_loadPart_at e1 ?_ | (with_reducible refine wpAny_isSubtype_exc C1 ?_; rw [cC]) | wp_step)
  show wpAny _ _ (typeLookup (.ref C) _) _ _ _
  refine wpAny_typeLookup_tail C1 (hn.keeps k) (T.keeps k) F.mroIs F.init.lookup ?_
  rw [hi]
  refine wpAny_holding (wpAny_bind (fn_bind (k _ _ hf) hfc ?_))
  refine wpAny_bind (wpAny_mono hq (fun v s' hv => ?_) fun _ _ x => x)
  obtain ⟨rfl, hv⟩ := hv
  exact wpAny_pure (wpAny_pure hv)
theorem ex_call (Fn : ExcBaseFacts Bn newId inN bmN) (hBn : bmB.contains (.type Bn) = true) (F : ExcBaseFacts B nid initId bmB) (T : OwnTail h bmB bm) {mN : Str -> Option Value} {rest : List Value} {Q : Value -> Shared -> Prop} {ob : Obj}
    (hC : h.get? C = some (excClassObj nm q C N bs bm hdct sn sub ab col dd k0 k1 k2 k3 k5 newId)) (hn : h.Ns N mN) (hi : mN "__init__" = some (.ref f)) (hf : h.get? f = some ob) (hfc : ob.cls = .type "function") (hrest : rest.length <= sizeLine)
    (hq : wpAny (model prog w) (A.under (.builtin "type.__call__" ⟨.ref C :: rest, []⟩)) (call (.ref f) (.ref (h.objs.size + 1) :: rest)) (fun v s' => v = .none /\ Q (.ref (h.objs.size + 1)) s') E ⟨(h.push (tupOf rest)).push (excOf C h.objs.size), g, d, t, os⟩) :
    wpAny (model prog w) A (call (.ref C) rest) Q E ⟨h, g, d, t, os⟩ := by
  have f1 := tc_lookup
  have f2 := tc_bind (.ref C)
  have hT : (⟨h, g, d, t, os⟩ : Shared).TypeIs (.ref C) "type" := ⟨_, hC, rfl⟩
  refine wpAny_call (codeAny_of_tree ?_)
  show wpAny _ _ (callAny (.ref C) ⟨rest, []⟩) _ _ _
  repeat (any_goals (first | assumption | (with_reducible refine wpAny_loadPart_at hC ?_) | wp_step))
  refine ⟨rfl, codeAny_call_builtin_at (Code.quiet_builtin _ (by decide +kernel)) entry_typeCall (wpAny_check_type_call_sub hC ?_)⟩
  exact ex_typeCall Fn hBn F T hC hn hi hf hfc hrest hq
theorem ex_init (F : ExcBaseFacts B nid initId bmB) (T : OwnTail h bmB bm) {e t0 : Addr} {oe : Obj} {vs : Array Value} {rest : List Value} {Q : Value -> Shared -> Prop}
    (hC : h.get? C = some (excClassObj nm q C N bs bm hdct sn sub ab col dd k0 k1 k2 k3 k5 newId)) (he : h.get? e = some oe) (hc : oe.cls = .ref C) (hd : oe.data = .fields vs) (h0 : vs[0]? = some (.ref t0)) (hrest : rest.length <= sizeLine)
    (hq : Q .none ⟨(h.push (tupOf rest)).update e (Obj.mapFields (·.setIfInBounds 0 (.ref h.objs.size))), g, d, t, os⟩) :
    wpAny (model prog w) A (call (.builtin initId) (.ref e :: rest)) Q E ⟨h, g, d, t, os⟩ := by
  refine wpAny_call (codeAny_call_builtin F.init.plain F.initEntry (wpAny_check_init_subU F T hC he hc ?_))
  unfold Builtin.«BaseException.__init__»
  dsimp only
  rw [if_neg (by simp : ¬ ((!List.isEmpty ([] : List (Str × Value))) = true))]
  unfold newTuple Builtin.BaseException.bexcPut
  have e1 := Heap.get?_push_of_some (h := h) (tupOf rest) he
  refine wpAny_bind (wpAny_newObj_type ?_ (by show rest.toArray.size <= sizeLine; rw [List.size_toArray]; exact hrest))
  refine wpAny_bind (wpAny_bind (wpAny_field e1 hd h0 (wpAny_bind (wpAny_setField e1 hd (Array.getElem?_eq_some_iff.mp h0).1 ?_))))
  exact wpAny_letGo (wpAny_pure hq)
end
end L2
namespace L2
open PySem PySem.W PySem.Calls PyProof.Rows Builtin Builtin.ObjectAttr
def bmV : List Value := [.type "ValueError", .type "Exception", .type "BaseException", .type "object"]
theorem refuse_V (self : Value) : refuseLoop self "__setattr__" bmV = pure () := by kernel_rfl
def overV : List Value -> Bool
  | [] => false
  | v :: r => (v :: r) == bmV || (match v with
    | .ref _ => overV r
    | _ => false)
theorem refuse_over (self : Value) : ∀ {l : List Value}, overV l = true -> refuseLoop self "__setattr__" l = pure ()
  | [], e => by cases e
  | v :: r, e => by
    unfold overV at e
    rcases Bool.or_eq_true_iff.mp e with q | q
    · rw [beq_iff_eq.mp q]
      exact refuse_V self
    · split at q
      · rw [refuseLoop_ref]
        exact refuse_over self q
      · cases q
theorem over_has : ∀ {l : List Value}, overV l = true -> l.contains (.type "object") = true /\ l.isEmpty = false
  | [], e => by cases e
  | v :: r, e => by
    unfold overV at e
    rcases Bool.or_eq_true_iff.mp e with q | q
    · rw [beq_iff_eq.mp q]
      exact ⟨by decide, rfl⟩
    · split at q
      · exact ⟨by rw [List.contains_cons, (over_has q).1, Bool.or_true], rfl⟩
      · cases q
def overIn (K : Frag) (C : Addr) : Bool := (clsIn K C).any fun cd => overV cd.mro
section
variable {prog : Program} {w : World} {A : Around} {E : Value -> Shared -> Prop} {K : Frag} {C e : Addr} {s : Shared} {ox : Obj} {od : Option Obj} {name : Str} {R : Result -> Shared -> Prop}
theorem xa_open {tk : Tok} {v : Value} (X : K.In s.heap) (I : InstAt s.heap e ox C od) (hp : overIn K C = true) (ht : takerIn K C name = some none)
    (h : ∀ b, wpAny (model prog w) A.in1 (storeInOwnDict (.ref e) (.ref C) (.str name tk) name v b) (fun fin s' => match fin with | .done f => R (.ok f) s' | .again c' => c'.quiet = true /\ codeAny (model prog w) A c' R s') (fun u s' => R (.error u) s') s) :
    codeAny (model prog w) A (.call (.builtin "object.__setattr__") ⟨[.ref e, .str name tk, v], []⟩) R s := by
  have SF := PySem.F.store_object
  obtain ⟨cd, hc, ho⟩ := any_some hp
  have hm : Looks (model prog w) s.heap (mroOf (.ref C)) cd.mro := (looks_clsIn X hc).andThen .now
  have sub : Looks (model prog w) s.heap (isInstance (.ref e) (.type "object")) true := I.type.andThen (looks_mroIn X (by unfold mroIn; rw [hc, Option.bind_some, if_neg (by rw [(over_has ho).2]; decide), (over_has ho).1]))
  obtain ⟨attr, ha, hr⟩ := Option.bind_eq_some_iff.mp ht
  have tk3 : Looks (model prog w) s.heap (storeTaker? attr) none := by
    cases attr with
    | none => exact .now
    | some a =>
      obtain ⟨b, hb, hn⟩ := Option.map_eq_some_iff.mp hr
      refine (looks_takesIn X hb).andThen ?_
      cases b
      · exact .now
      · cases hn
  refine codeAny_call_builtin SF.slot.plain SF.entry (@check_slot (model prog w) _ _ s "object.__setattr__" "object" "__setattr__" (.ref e) [.str name tk, v] [] _ SF.kind SF.split sub (SF.args (.ref e) (.str name tk) v) ?_)
  rw [osa_eq, refuse_eq]
  refine wpAny_bind (wpAny_bind (I.type.here (wpAny_bind (hm.here ?_))))
  rw [refuse_over _ ho]
  exact wpAny_pure (wpAny_bind (I.type.here (wpAny_bind ((looks_findIn X ha).here (wpAny_bind (tk3.here (h _)))))))
theorem xs_new {oe : Obj} {vs : Array Value} {v : Value} {Q : Unit -> Shared -> Prop} (X : K.In s.heap) (he : s.heap.get? e = some oe) (hc : oe.cls = .ref C) (hx : oe.dict = none) (hd : oe.data = .fields vs)
    (hs : findIn K (.ref C) "__setattr__" = some (some (.builtin "object.__setattr__"))) (hp : overIn K C = true) (ht : takerIn K C name = some none) (hh : (clsIn K C).any (·.hasDict) = true)
    (h : ∀ h', h'.Ns1 s.heap.objs.size (fun y => if y = name then some v else none) -> h'.get? e = some { oe with dict := some s.heap.objs.size } -> (∀ b o, b ≠ e -> s.heap.get? b = some o -> h'.get? b = some o) -> Q () { s with heap := h', toks := s.toks + 2 }) :
    wpAny (model prog w) A (setAttr (.ref e) name v) Q E s := by
  have J : InstAt s.heap e oe C none := ⟨he, hc, by unfold notCls; rw [hd], by rw [hx]; trivial⟩
  refine set_plain X J hs (xa_open (s := { s with toks := s.toks + 1 }) X J hp ht fun b => ?_)
  obtain ⟨cd, hcd, hdd⟩ := any_some hh
  obtain ⟨oc, odi, oda, osl⟩ := oe
  dsimp only at hc hx hd
  subst hc hx hd
  refine wpAny_bind (wpAny_pure (wpAny_bind (wpAny_bind (wpAny_loadPart he (wpAny_bind (Looks.here (s := { s with toks := s.toks + 1 }) (looks_clsIn X hcd) ?_))))))
  rw [hdd]
  have e1 := Heap.get?_push_of_some (h := s.heap) PySem.W.emptyDict he
  have ne : s.heap.objs.size ≠ e := Nat.ne_of_gt (Heap.lt_size he)
  have d1 : (s.heap.push PySem.W.emptyDict).get? s.heap.objs.size = some PySem.W.emptyDict := Heap.get?_push_size _ rfl
  have d2 : ((s.heap.push PySem.W.emptyDict).update e fun o => { o with dict := some s.heap.objs.size }).get? s.heap.objs.size = some PySem.W.emptyDict := (Heap.get?_update_other _ _ (Ne.symm ne)).trans d1
  have e2 := Heap.get?_update_self (fun o => { o with dict := some s.heap.objs.size }) e1 rfl
  have n2 : ((s.heap.push PySem.W.emptyDict).update e fun o => { o with dict := some s.heap.objs.size }).Ns s.heap.objs.size (fun _ => none) := ⟨PySem.W.emptyDict, #[], _, d2, rfl, (fun z hz => absurd hz (by simp)), fun _ => rfl⟩
  show wpAny _ _ (alloc PySem.W.emptyDict >>= _) _ _ _
  refine wpAny_bind (wpAny_alloc (wpAny_bind (wpAny_update e1 ?_)))
  refine wpAny_pure (a := some s.heap.objs.size) (wpAny_bind (wpAny_pure (wpAny_bind ?_)))
  refine wpAny_nsSet1 (Heap.Ns1.of_empty n2) fun h' hn hsb => ?_
  obtain ⟨oD, esD, epD, hoD, hdD, hcD⟩ := hn.count (PySem.Within.cons name v PySem.Within.nil)
  refine wpAny_bind (wpAny_lookBehind hoD (by rw [hdD]; exact pastItsLine_dict (Nat.le_trans hcD (by show 1 <= sizeLine + 1; omega))) (wpAny_pure ?_))
  refine h h' hn ((hsb.2 _ (Ne.symm ne)).trans e2) fun b o nb q => ?_
  rw [hsb.2 b (Nat.ne_of_lt (Heap.lt_size q)), Heap.get?_update_other _ _ (Ne.symm nb)]
  exact Heap.get?_push_of_some _ q
end
end L2
namespace L2
open PySem PySem.Spec PyProof.Rows
def XO (e C : Addr) (dx : Option Addr) : HO := .ext fun h => ∃ oe vs t0, h.get? e = some oe /\ oe.cls = .ref C /\ oe.dict = dx /\ oe.data = .fields vs /\ vs[0]? = some (.ref t0) /\ vs[1]? = some .none
theorem XO.ok {P : Program} {w : World} {H : Hp} {h : Heap} {e C : Addr} {dx : Option Addr} (p : ∃ oe vs t0, h.get? e = some oe /\ oe.cls = .ref C /\ oe.dict = dx /\ oe.data = .fields vs /\ vs[0]? = some (.ref t0) /\ vs[1]? = some .none) : ObjOk P w H h e (XO e C dx) :=
  ⟨p, let ⟨oe, _, _, q, _⟩ := p; ⟨oe, q⟩, fun _ _ ⟨oe, vs, t0, a, r⟩ k => ⟨oe, vs, t0, k oe a, r⟩⟩
theorem XO.get {P : Program} {w : World} {H : Hp} {h : Heap} {e C : Addr} {dx : Option Addr} (x : HOk P w H h) (q : H e = some (XO e C dx)) : ∃ oe vs t0, h.get? e = some oe /\ oe.cls = .ref C /\ oe.dict = dx /\ oe.data = .fields vs /\ vs[0]? = some (.ref t0) /\ vs[1]? = some .none :=
  (show ObjOk P w H h e (.ext _) from x e _ q).1
def XD (d : Addr) (fs : List (Str × V)) : HO := .ext fun h => ∃ mA, h.Ns1 d mA /\ (∀ f, RelO (fs.lookup f) (mA f)) /\ PySem.Within mA (fs.map (·.1)) /\ fs.length <= 1000
theorem XD.ok {P : Program} {w : World} {H : Hp} {h : Heap} {d : Addr} {fs : List (Str × V)} (p : ∃ mA, h.Ns1 d mA /\ (∀ f, RelO (fs.lookup f) (mA f)) /\ PySem.Within mA (fs.map (·.1)) /\ fs.length <= 1000) : ObjOk P w H h d (XD d fs) :=
  ⟨p, let ⟨_, ⟨o, _, _, q, _⟩, _⟩ := p; ⟨o, q⟩, fun _ _ ⟨mA, n, r⟩ k => ⟨mA, n.at k, r⟩⟩
theorem XD.get {P : Program} {w : World} {H : Hp} {h : Heap} {d : Addr} {fs : List (Str × V)} (x : HOk P w H h) (q : H d = some (XD d fs)) : ∃ mA, h.Ns1 d mA /\ (∀ f, RelO (fs.lookup f) (mA f)) /\ PySem.Within mA (fs.map (·.1)) /\ fs.length <= 1000 :=
  (show ObjOk P w H h d (.ext _) from x d _ q).1
def xIn (K : PySem.W.Frag) (C f : Addr) : Bool := match K.lookup C with
  | some ⟨.type "type", _, .cls cd, sl⟩ => (match cd.mro, sl.toList with
    | .ref C' :: bm, [_, _, _, _, some (.builtin n), _] => C' == C && n == "ValueError.__new__" && !cd.hasDel && PySem.W.tailIn K bmV bm && PySem.W.nsOkIn K cd.ns && PySem.W.nsIn K cd.ns "__init__" == some (some (.ref f)) && bm.contains (.type "BaseException")
    | _, _ => false)
  | _ => false
structure XCl (K : PySem.W.Frag) (C f : Addr) : Prop where
  cls : xIn K C f = true
  fn : PySem.W.typeIn K (.ref f) = some (.type "function")
  kp : PySem.W.keepIn K (.ref C) = true
  over : overIn K C = true
  sa : PySem.W.findIn K (.ref C) "__setattr__" = some (some (.builtin "object.__setattr__"))
  hd : (PySem.W.clsIn K C).any (·.hasDict) = true
  ga : PySem.W.findIn K (.ref C) "__getattribute__" = some (some (.builtin "BaseException.__getattribute__"))
  ha : PySem.W.findIn K (.ref C) "__getattr__" = some none
  sb : PySem.W.subIn K (.ref C) (.type "BaseException") = some true
theorem ns_some {K : PySem.W.Frag} {h : Heap} {N : Addr} {mg : Str -> Option Value} {n : Str} {v : Value} (X : K.In h) (G : h.Ns N mg) (e : PySem.W.nsIn K N n = some (some v)) : mg n = some v := by
  obtain ⟨o, es, ep, ho, hd, _, hf⟩ := G
  unfold PySem.W.nsIn at e
  split at e
  · rename_i c d es' n' sl q
    have := X _ _ q
    rw [ho] at this
    cases this
    cases hd
    split at e
    · rename_i en he
      cases e
      rw [<- hf]
      unfold nsFind findBy
      rw [<- Array.find?_toList, he]
      rfl
    · split at e <;> cases e
  · cases e
theorem XCl.at {K : PySem.W.Frag} {C f : Addr} (c : XCl K C f) {h : Heap} (X : K.In h) : ∃ nm q N bs bm hdct sn sub ab col dd k0 k1 k2 k3 k5 mN, h.get? C = some (excClassObj nm q C N bs bm hdct sn sub ab col dd k0 k1 k2 k3 k5 "ValueError.__new__") /\
    OwnTail h bmV bm /\ h.Ns N mN /\ mN "__init__" = some (.ref f) /\ bm.contains (.type "BaseException") = true := by
  have q := c.cls
  unfold xIn at q
  split at q
  · rename_i dd cd sl ho
    split at q
    · rename_i C' bm k0 k1 k2 k3 n k5 hm hs
      simp only [Bool.and_eq_true, beq_iff_eq, Bool.not_eq_true'] at q
      obtain ⟨⟨⟨⟨⟨⟨rfl, rfl⟩, hdel⟩, ht⟩, hok⟩, hi⟩, hb⟩ := q
      obtain ⟨nm, bs, mro, ns, qn, hd, sn, sub, ab, col, del⟩ := cd
      dsimp only at hm hdel hok hi
      subst hm hdel
      have es : sl = #[k0, k1, k2, k3, some (.builtin "ValueError.__new__"), k5] := by
        obtain ⟨l⟩ := sl
        simp only at hs
        rw [hs]
      subst es
      have nN := PySem.Heap.Ns.of_isNs (PySem.W.isNs_of_in X hok)
      exact ⟨nm, qn, ns, bs, bm, hd, sn, sub, ab, col, dd, k0, k1, k2, k3, k5, _, X _ _ ho, PySem.W.tail_of_in X ht, nN, ns_some X nN hi, hb⟩
    · cases q
  · cases q
def drp (H : Hp) (e : Addr) : Hp := fun b => if b = e then none else H b
theorem drp_same {H : Hp} {e : Addr} : drp H e e = none := if_pos rfl
theorem drp_ne {H : Hp} {e b : Addr} (h : b ≠ e) : drp H e b = H b := if_neg h
theorem Inv.drop {X : Cx} {pins : List (Addr × Obj)} {σ : St} {H : Hp} {s : Shared} {e : Addr} {φ : Heap -> Prop} (I : Inv X pins σ H s) (he : H e = some (.ext φ)) : Inv X pins σ (drp H e) s := by
  have no : ∀ b, H b = none -> drp H e b = none := fun b h => by
    by_cases q : b = e
    · rw [q]
      exact drp_same
    · rw [drp_ne q]
      exact h
  have nx : ∀ (b : Addr) (o : HO), H b = some o -> (∀ ψ, o ≠ .ext ψ) -> drp H e b = some o := fun b o h n => by
    have q : b ≠ e := fun z => by
      rw [z, he] at h
      cases h
      exact n _ rfl
    rw [drp_ne q]
    exact h
  refine ⟨I.ok, I.os, I.bare, ⟨I.base.keep, I.base.slot, fun b o q n x => no b (I.base.free b o q n x), I.base.there, fun b xs q => nx _ _ (I.base.tups b xs q) (by intro ψ z; cases z), fun b o u q => nx _ _ (I.base.frzs b o u q) (by intro ψ z; cases z), fun b ps q => ?_⟩, I.loc, I.cell, no _ I.free, fun x c q => no _ (I.freeC x c q), fun p hp => ?_, fun a o q => ?_, I.len⟩
  · obtain ⟨m, r⟩ := I.base.tbls b ps q
    exact ⟨m, nx _ _ r (by intro ψ z; cases z)⟩
  · obtain ⟨a, b, c⟩ := I.pin p hp
    exact ⟨a, no _ b, c⟩
  · have na : a ≠ e := fun z => by
      rw [z, drp_same] at q
      cases q
    rw [drp_ne na] at q
    exact (I.hok a o q).stay (fun _ _ _ z => z) (fun b z => nx b _ z (by intro ψ y; cases y)) fun b xs z => nx b _ z (by intro ψ y; cases y)
def Throws (X : Cx) (E : XK) : Prop := ∀ (pins : List (Addr × Obj)) (σ : St) (u : Value) (s' : Shared), Air X pins σ E u s' -> X.xe u s'
theorem throwx {P : Program} {w : World} {K : PySem.W.Frag} {mg : Str -> Option Value} {base : Heap} {N : List Str} {qual : Str} {scope : Scope} {f : Addr} {cd : Value} {A : Around} {outer : List Env} {s : Shared} {H : Hp} {E : XK} :
    Throws (cxOf (CXf P w) P w K mg base N qual scope f cd A outer s H E) E := fun _ _ _ _ h => leave_air h
def tRaise (C : Addr) (sp : Sp) (E : XK) (t : TA) : TS := fun _ σ H => t σ H fun vs H1 => vs.length <= sizeLine /\ ∀ e, H1 e = none -> sp (.ref e :: vs) (upd H1 e (XO e C none)) (fun v H2 => v = .non /\ ∃ dx, H2 e = some (XO e C dx) /\ E (.ref C) dx (drp H2 e)) E0
section
variable {X : Cx} {k : Nat} {f C : Addr} {fd : FuncData} {ps : List Str} {sp : Sp} {E : XK} {x : Str} {np cpos pos : Pos} {a : Expr} {as : List Expr} {t : TA}
theorem ps_raise (M : XCl X.K C f) (F : FnOk X.prog X.w X.K X.mg X.base CX0 k f fd ps sp) (hr : Room (k + 1) X.A) (hg : Gl X x) (hm : X.mg x = some (.ref C)) (hb : Binds X.K fd ps []) (hx : Throws X E)
    (ha : PA X (a :: as) t) (hdb : (x == ("__debug__" : Str)) = false := by decide) (h1 : isStar a = false := by rfl) (h2 : as.all (fun e => !isStar e) = true := by rfl) :
    PS X (.Raise (some (.Call (.Name x np) (a :: as) [] cpos)) none pos) (tRaise C sp E t) := by
  intro pins s σ H D I h
  obtain ⟨nm, q, N, bs, bm, hdct, sn, sub, ab, col, dd, k0, k1, k2, k3, k5, mN, hC0, T0, n0, i0, hB⟩ := M.at I.mod.kin
  rw [arm_exec_Raise]
  simp only [evalOpt, Option.map]
  refine wpAny_bind (wpAny_standAt (rs_stmt (C := C) (nm := nm) (q := q) (N := N) (bs := bs) (hdct := hdct) (sn := sn) (sub := sub) (ab := ab) (col := col) (dd := dd) (k0 := k0) (k1 := k1) (k2 := k2) (k3 := k3) (k5 := k5) (newId := "ValueError.__new__") hB hr.hd (wpAny_bind ?_)))
  refine wpAny_Call_Name_kw (ld_glob I hg hm ?_ hdb)
  refine PySem.W.callWith_K (h₀ := X.base) I.ok.mod.kin M.kp (thn (ha cpos pins s σ H _ I h) fun us s1 ⟨vs, H1, I1, r, hl, q1⟩ => ⟨I1.kIn, ?_⟩) (star_cons h1) (star_any h2)
  obtain ⟨hh, g, d, tk, os⟩ := s1
  have kb : ∀ b o, X.base.get? b = some o -> hh.get? b = some o := I1.bk
  have e0 : H1 (hh.objs.size + 1) = none := I1.hok.fresh (Nat.le_succ _)
  obtain ⟨of, hof, hofc⟩ := Option.map_eq_some_iff.mp M.fn
  have hof' : hh.get? f = some of := I1.kIn _ _ hof
  refine ex_call PySem.F.excBase_ValueError (by decide +kernel) PySem.F.excBase_ValueError (T0.keeps kb) (kb _ _ hC0) (n0.keeps kb) i0 hof' hofc (show us.length <= sizeLine by rw [<- r.length]; exact hl) ?_
  have ex : ((hh.push (tupOf us)).push (excOf C hh.objs.size)).get? (hh.objs.size + 1) = some (excOf C hh.objs.size) := Heap.get?_push_at (by simp only [Heap.size_push]) rfl
  have I2 : Inv X pins σ (upd H1 (hh.objs.size + 1) (XO (hh.objs.size + 1) C none)) ⟨(hh.push (tupOf us)).push (excOf C hh.objs.size), g, d, tk, os⟩ :=
    I1.laid (a := hh.objs.size + 1) (o := XO (hh.objs.size + 1) C none) (t' := tk) (fun b u q => Heap.get?_push_of_some _ (Heap.get?_push_of_some _ q)) (Nat.le_succ _) (XO.ok ⟨excOf C hh.objs.size, _, hh.objs.size, ex, rfl, rfl, rfl, rfl, rfl⟩)
  have hq := q1 _ e0
  have r2 : Vals (V.ref (hh.objs.size + 1) :: vs) (Value.ref (hh.objs.size + 1) :: us) := .cons rfl r
  have hlen : (Value.ref (hh.objs.size + 1) :: us).length = ps.length := by rw [<- r2.length]; exact F.len _ _ _ _ hq
  have bd := hb ⟨(hh.push (tupOf us)).push (excOf C hh.objs.size), g, d, tk, os⟩ (Value.ref (hh.objs.size + 1) :: us) I2.kIn (by rw [List.append_nil]; exact hlen)
  rw [List.append_nil] at bd
  refine wpAny_call (codeAny_mono (F.run _ X.stack _ _ ⟨Value.ref (hh.objs.size + 1) :: us, []⟩ (Value.ref (hh.objs.size + 1) :: us) _ _ E0 (hr.make C us []) (I2.env0.make C us []) bd r2 hq) fun r s' hq' => ?_)
  cases r with
  | error u => exact False.elim hq'
  | ok fl =>
    cases fl with
    | ret u =>
      obtain ⟨v, H', I3, rv, ev, dx, hH, hE⟩ := I2.after hq'
      subst ev
      obtain ⟨oe, ws, t0, g1, g2, g3, g4, g5, g6⟩ := XO.get I3.hok hH
      exact ⟨rv, wpAny_bind (wpAny_standAt (wpAny_pure ⟨_, oe, ws, rfl, I3.bk _ _ hC0, g1, g2, g4, g6, hx pins σ _ s' ⟨_, .ref C, dx, drp H' (hh.objs.size + 1), hh.objs.size, rfl, I3.drop hH, drp_same, I1.sz, Nat.le_succ _, fun p hp => Heap.lt_size (I1.pin p hp).1, .inl ⟨oe, ws, g1, g2, g3, g4, g6⟩, hE⟩⟩))⟩
    | next => exact False.elim hq'
    | brk => exact False.elim hq'
    | cont => exact False.elim hq'
end
structure XBase (K : PySem.W.Frag) (R : Addr) : Prop where
  sp : PySem.W.specialIn K (.ref R) "__getattribute__" = some (some (.builtin "type.__getattribute__"))
  rd : PySem.W.readsIn K R (.type "type") = true
  fi : PySem.W.findCls K (.ref R) (.type "type") "__init__" = some (.val (.builtin "ValueError.__init__"))
def tXInit (C : Addr) (t : TA) : TE := fun σ H Q => t σ H fun vs H1 => ∃ e rest dx, vs = .ref e :: rest /\ rest.length <= sizeLine /\ H1 e = some (XO e C dx) /\ Q .non H1
theorem upd_id {H : Hp} {e : Addr} {o : HO} (h : H e = some o) : upd H e o = H := by
  funext b
  unfold upd
  split
  · rename_i q
    rw [q, h]
  · rfl
section
variable {X : Cx} {f C R : Addr} {x m : Str} {np apos pos pos' : Pos} {a o e value : Expr} {as : List Expr} {t : TA} {ta tv te : TE}
theorem pe_xinit {pl : Sem Bool} (M : XCl X.K C f) (B : XBase X.K R) (hg : Gl X x) (hm : X.mg x = some (.ref R)) (ha : PA X (a :: as) t) (hdb : (x == ("__debug__" : Str)) = false := by decide) (h1 : isStar a = false := by rfl) (h2 : as.all (fun e => !isStar e) = true := by rfl)
    (ht : eval (.Call (.Attribute (.Name x np) "__init__" apos) (a :: as) [] pos) X.env = (do
      let ov <- eval (.Name x np) X.env
      standAt apos.atName
      let (f, first) <- holding [ov] (getMethod ov "__init__" pl)
      callWith pos f first (backTo pos (starEach (a :: as) X.env)) (backToKw pos (keywordEach [] X.env))) := by rfl) :
    PE X (.Call (.Attribute (.Name x np) "__init__" apos) (a :: as) [] pos) (tXInit C t) := by
  intro pins s σ H Q I h
  refine PySem.W.methodCall_KW (pl := pl) (ld_glob I hg hm ?_ hdb) ht
  refine PySem.W.method_cls I.kIn B.sp (PySem.W.cls_value I.kIn B.rd B.fi (by decide +kernel) ?_)
  have I0 : Inv X pins σ H { s with toks := s.toks + 1 } := I.tok _
  refine PyProof.Rows.callWith_builtin1 (thn (ha pos pins _ σ H _ I0 h) fun us s1 ⟨vs, H1, I1, r, e, rest, dx, ev, hl, hH, q⟩ => ?_) (star_cons h1) (star_any h2)
  subst ev
  obtain ⟨ue, ur, rfl, re, rr⟩ : ∃ ue ur, us = ue :: ur /\ RelV (.ref e) ue /\ Vals rest ur := by
    cases r with
    | cons p q => exact ⟨_, _, rfl, p, q⟩
  obtain rfl : ue = Value.ref e := re
  obtain ⟨oe, ws, t0, g1, g2, g3, g4, g5, g6⟩ := XO.get I1.hok hH
  obtain ⟨nm, q', N, bs, bm, hdct, sn, sub, ab, col, dd, k0, k1, k2, k3, k5, mN, hC, T, _, _, _⟩ := M.at I1.kIn
  obtain ⟨hh, g, d, tk, os⟩ := s1
  refine ex_init PySem.F.excBase_ValueError T hC g1 g2 g4 g5 (by rw [<- rr.length]; exact hl) ?_
  have e1 := Heap.get?_push_of_some (h := hh) (tupOf ur) g1
  have up := Heap.get?_update_self (Obj.mapFields (·.setIfInBounds 0 (.ref hh.objs.size))) e1 (Obj.isFreed_of_fields (Obj.data_mapFields g4 _))
  have sz : 0 < ws.size := (Array.getElem?_eq_some_iff.mp g5).1
  have I2 := I1.write (x := e) (e := e) (o := XO e C dx) (h' := (hh.push (tupOf ur)).update e (Obj.mapFields (·.setIfInBounds 0 (.ref hh.objs.size)))) (t' := tk) (by rw [hH]; exact True.intro) (.inl rfl)
    (fun b u nb q => (Heap.get?_update_other _ _ (Ne.symm nb)).trans (Heap.get?_push_of_some _ q)) ⟨_, up⟩
    (XO.ok ⟨_, _, hh.objs.size, up, (Obj.cls_mapFields _ _).trans g2, (dict_mapFields _ _).trans g3, Obj.data_mapFields g4 _, by simp [sz], by rw [Array.getElem?_setIfInBounds_ne (by decide)]; exact g6⟩)
  rw [upd_id hH] at I2
  exact ⟨.non, H1, I2, rfl, q⟩
def sXNew (K : PySem.W.Frag) (C : Addr) (ta tv : TE) (m : Str) : TS := fun D σ H => tv σ H fun y H1 => ta σ H1 fun x H2 => ∃ e, x = .ref e /\ H2 e = some (XO e C none) /\ PySem.W.takerIn K C m = some none /\ ∀ d, H2 d = none -> d ≠ e -> D.nx σ (upd (upd H2 d (XD d [(m, y)])) e (XO e C (some d)))
theorem ps_xnew (M : XCl X.K C f) (ha : PE X o ta) (hv : PE X value tv) (hs : swapsWith value (some (.Attribute o m pos')) pos.line X.env = pure false := by rfl) : PS X (.Assign [.Attribute o m pos'] value pos) (sXNew X.K C ta tv m) := by
  intro pins s σ H D I h
  refine plainObj_wpAny_Assign_Attribute (thn (hv pins s σ H _ I h) fun u s1 ⟨y, H1, I1, ry, q⟩ => thn (ha pins s1 σ H1 _ I1 q) fun ov s2 ⟨x, H2, I2, rx, e, ex, hH, hk, q2⟩ => ?_) hs
  subst ex
  obtain rfl : ov = Value.ref e := rx
  obtain ⟨oe, ws, t0, g1, g2, g3, g4, g5, g6⟩ := XO.get I2.hok hH
  refine xs_new I2.kIn g1 g2 g3 g4 M.sa M.over hk M.hd fun h' hn he kp => ?_
  have nd : s2.heap.objs.size ≠ e := Nat.ne_of_gt (Heap.lt_size g1)
  have fd : H2 s2.heap.objs.size = none := I2.hok.fresh (Nat.le_refl _)
  have ns : ∀ (b : Addr) (u : HO), H2 b = some u -> (∀ ψ, u ≠ .ext ψ) -> upd (upd H2 s2.heap.objs.size (XD s2.heap.objs.size [(m, y)])) e (XO e C (some s2.heap.objs.size)) b = some u := fun b u q nx => by
    have n1 : b ≠ e := fun z => by
      rw [z, hH] at q
      cases q
      exact nx _ rfl
    rw [upd_ne n1, upd_ne (ne_of_none q fd)]
    exact q
  have ne' : ∀ b, H2 b = none -> b ≠ e := fun b q z => by
    rw [z, hH] at q
    cases q
  refine ⟨σ, _, I2.un (H' := upd (upd H2 s2.heap.objs.size (XD s2.heap.objs.size [(m, y)])) e (XO e C (some s2.heap.objs.size))) (h' := h') (t' := s2.toks + 2) ⟨fun b o q n _ _ => kp b o (ne' b n) q, fun b o q n _ _ => ⟨o.slots, kp b o (ne' b n) q⟩, fun b o q n _ => ?_, fun b o q _ => ?_, fun b xs q => ns b _ q (by intro ψ z; cases z), fun b o u q => ns b _ q (by intro ψ z; cases z), fun b ps q => ⟨#[], by rw [ns b _ q (by intro ψ z; cases z)]; simp⟩⟩ fun b u q => ?_, q2 _ fd nd⟩
  · rw [upd_ne (ne' b n), upd_ne (Nat.ne_of_lt (Heap.lt_size q))]
    exact n
  · by_cases z : b = e
    · rw [z]
      exact ⟨_, he⟩
    · exact ⟨o, kp b o z q⟩
  · by_cases z : b = e
    · subst z
      rw [upd_same] at q
      cases q
      exact XO.ok ⟨_, ws, t0, he, g2, rfl, g4, g5, g6⟩
    · rw [upd_ne z] at q
      by_cases z2 : b = s2.heap.objs.size
      · subst z2
        rw [upd_same] at q
        cases q
        refine XD.ok ⟨_, hn, fun f => ?_, fun f hf => ?_, show 1 <= 1000 by decide⟩
        · rw [List.lookup_cons]
          by_cases w : f = m
          · rw [if_pos w, w, beq_self_eq_true]
            exact ry
          · rw [if_neg w, beq_eq_false_iff_ne.mpr w]
            exact True.intro
        · by_cases w : f = m
          · rw [w]
            exact List.mem_cons_self
          · exact absurd (if_neg w) hf
      · rw [upd_ne z2] at q
        refine (I2.hok b u q).stay (fun c v hc r => kp c v (fun w => ?_) r) (fun c r => ns c _ r (by intro ψ z; cases z)) fun c xs r => ns c _ r (by intro ψ z; cases z)
        rcases hc with hc | hc
        · exact z (hc.symm.trans w)
        · rw [w, hH] at hc
          cases hc
end
end L2
namespace L2
open PySem PySem.Spec PyProof.Rows
section
variable {X : Cx} {pins : List (Addr × Obj)} {σ : St} {H : Hp} {s : Shared} {h' : Heap} {xs : List Addr}
theorem Inv.moved (I : Inv X pins σ H s) (m : Mv (frs X.stack) xs s.heap h')
    (hx : ∀ b ∈ xs, H b = none /\ (b ∈ X.ex \/ X.s₀.heap.objs.size <= b) /\ b ≠ X.env.locals /\ (∀ x c, X.env.cells.lookup x = some c -> c ≠ b) /\ ∀ p ∈ X.pn ++ pins, p.1 ≠ b) : Inv X pins σ H { s with heap := h' } :=
  I.call (g' := s.gens) (d' := s.drawn) (t' := s.toks) (ch := xs) ⟨fun b o q _ f x => m.keep b o q f x, fun b o q _ _ x => m.slot b o q x, fun _ _ _ n _ => n, fun b o q _ => m.there b o q, fun _ _ q => q, fun _ _ _ q => q, fun _ ps q => ⟨#[], by rw [q]; simp⟩⟩
    (I.hok.moved m I.stkFree fun b hb => (hx b hb).1) I.bare fun b hb => (hx b hb).2
theorem Inv.apart (I : Inv X pins σ H s) {b : Addr} {o : Obj} {vs : Array Value} (q : s.heap.get? b = some o) (d : o.data = .fields vs) : b ≠ X.env.locals /\ ∀ x c, X.env.cells.lookup x = some c -> c ≠ b := by
  refine ⟨fun z => ?_, fun x c e z => ?_⟩
  · obtain ⟨m, ⟨o', es, ep, ho, hd, _⟩, _⟩ := I.loc
    rw [z, ho] at q
    cases q
    rw [hd] at d
    cases d
  · obtain ⟨v, o', ho, hd⟩ := I.cell x c e
    rw [z, q] at ho
    cases ho
    rw [d] at hd
    cases hd
end
abbrev Ends.behind (D : Ends) (i : Nat) : Ends := { nx := fun σ H => D.nx (σ.set i none) H, rt := D.rt, bk := fun σ H => D.bk (σ.set i none) H, ct := fun σ H => D.ct (σ.set i none) H }
section
variable {X : Cx} {Ch : Addr} {x n : Str} {i : Nat} {np hpos tpos : Pos} {b0 : Stmt} {suite : List Stmt} {th : Addr -> Obj -> TS}
variable {k : Nat} {f : Addr} {fd : FuncData} {ps : List Str} {sp : Sp} {y : Str} {p cpos epos : Pos} {a : Expr} {as : List Expr} {t : TA}
end
end L2
namespace L2
open PySem PySem.Spec PyProof.Rows
structure Ca (P : Program) (w : World) (K : PySem.W.Frag) (mg : Str -> Option Value) (base : Heap) (CX : CXT) (k : Nat) (x : Str) (ps : List Str) (sp : Sp) : Prop where
  ex : ∃ f fd, FnOk P w K mg base CX k f fd ps sp /\ Binds K fd ps [] /\ PySem.W.keepIn K (.ref f) = true /\ mg x = some (.ref f)
structure Me (P : Program) (w : World) (K : PySem.W.Frag) (mg : Str -> Option Value) (base : Heap) (CX : CXT) (k : Nat) (C : Addr) (m : Str) (ps : List Str) (sp : Sp) : Prop where
  ex : ∃ f fd, FnOk P w K mg base CX k f fd ps sp /\ Binds K fd ps [] /\ Meth K C m f
structure Ma (P : Program) (w : World) (K : PySem.W.Frag) (mg : Str -> Option Value) (base : Heap) (CX : CXT) (k : Nat) (x : Str) (C : Addr) (ps : List Str) (sp : Sp) : Prop where
  ex : ∃ f fd, Mk K C f /\ FnOk P w K mg base CX k f fd ps sp /\ Binds K fd ps [] /\ mg x = some (.ref C)
structure Xa (P : Program) (w : World) (K : PySem.W.Frag) (mg : Str -> Option Value) (base : Heap) (k : Nat) (x : Str) (C : Addr) (ps : List Str) (sp : Sp) : Prop where
  ex : ∃ f fd, XCl K C f /\ FnOk P w K mg base CX0 k f fd ps sp /\ Binds K fd ps [] /\ mg x = some (.ref C)
section
variable {P : Program} {w : World} {K : PySem.W.Frag} {mg : Str -> Option Value} {base : Heap} {CX : CXT} {k j : Nat} {x m : Str} {C : Addr} {ps : List Str} {sp sp' : Sp}
theorem Ca.mono (h : Ca P w K mg base CX j x ps sp) (l : j <= k) : Ca P w K mg base CX k x ps sp := let ⟨f, fd, a, r⟩ := h.ex; ⟨f, fd, a.mono l, r⟩
theorem Me.mono (h : Me P w K mg base CX j C m ps sp) (l : j <= k) : Me P w K mg base CX k C m ps sp := let ⟨f, fd, a, r⟩ := h.ex; ⟨f, fd, a.mono l, r⟩
end
section
variable {X : Cx} {CX : CXT} {k i : Nat} {C : Addr} {ps : List Str} {sp : Sp} {E : XK} {x m n f : Str} {p pos apos cpos np pos' epos hpos tpos : Pos} {e o a value : Expr} {es as : List Expr} {ta te tv to t1 t2 : TE} {t : TA}
theorem je_ca (F : Ca X.prog X.w X.K X.mg X.base CX k x ps sp) (hr : Room k X.A) (hg : Gl X x) (hx : Passes CX X E) (ha : jA X (e :: es) t) (hdb : (x == ("__debug__" : Str)) = false := by decide) (h1 : isStar e = false := by rfl) (h2 : es.all (fun e => !isStar e) = true := by rfl) :
    jE X (.Call (.Name x p) (e :: es) [] pos) (tCall sp [] E t) := let ⟨_, _, G, b, kp, mg⟩ := F.ex; je_fn G hr hg mg kp b .nil hx ha hdb h1 h2
theorem je_me {pl : Sem Bool} (he : jE X o ta) (c : Cls X.K C) (F : Me X.prog X.w X.K X.mg X.base CX k C m ps sp) (hr : Room k X.A) (hx : Passes CX X E) (ha : jA X (e :: es) t) (h1 : isStar e = false := by rfl) (h2 : es.all (fun e => !isStar e) = true := by rfl)
    (ht : eval (.Call (.Attribute o m apos) (e :: es) [] pos) X.env = (do
      let ov <- eval o X.env
      standAt apos.atName
      let (f, first) <- holding [ov] (getMethod ov m pl)
      callWith pos f first (backTo pos (starEach (e :: es) X.env)) (backToKw pos (keywordEach [] X.env))) := by rfl) :
    jE X (.Call (.Attribute o m apos) (e :: es) [] pos) (tMeth C m sp [] E ta t) := let ⟨_, _, G, b, mt⟩ := F.ex; ⟨pe_meth he.out c mt G hr b .nil hx ha.out (star_cons h1) (star_any h2) ht⟩
theorem je_me0 {pl : Sem Bool} (he : jE X o ta) (c : Cls X.K C) (F : Me X.prog X.w X.K X.mg X.base CX k C m ps sp) (hr : Room k X.A) (hx : Passes CX X E)
    (ht : eval (.Call (.Attribute o m apos) [] [] pos) X.env = (do
      let ov <- eval o X.env
      standAt apos.atName
      let (f, first) <- holding [ov] (getMethod ov m pl)
      callWith pos f first (backTo pos (starEach [] X.env)) (backToKw pos (keywordEach [] X.env))) := by rfl) :
    jE X (.Call (.Attribute o m apos) [] [] pos) (tMeth C m sp [] E ta tNil) := let ⟨_, _, G, b, mt⟩ := F.ex; ⟨pe_meth0 he.out c mt G hr b .nil hx ht⟩
theorem je_ma (F : Ma X.prog X.w X.K X.mg X.base CX k x C ps sp) (hr : Room (k + 1) X.A) (hg : Gl X x) (hx : Passes CX X E) (ha : jA X (e :: es) t) (hdb : (x == ("__debug__" : Str)) = false := by decide) (h1 : isStar e = false := by rfl) (h2 : es.all (fun e => !isStar e) = true := by rfl) :
    jE X (.Call (.Name x p) (e :: es) [] pos) (tMake C sp [] E t) := let ⟨_, _, M, G, b, mg⟩ := F.ex; ⟨pe_make M G hr hg mg b .nil hx ha.out hdb (star_cons h1) (star_any h2)⟩
theorem je_fld (he : jE X e ta) (hb : attributeBase e f X.env (eval e X.env) = eval e X.env := by rfl) : jE X (.Attribute e f pos) (tFld X.K ta f) := ⟨pe_fld he.out hb⟩
theorem js_fld (ha : jE X o ta) (hv : jE X value tv) (hs : swapsWith value (some (.Attribute o f pos')) pos.line X.env = pure false := by rfl) : jS X (.Assign [.Attribute o f pos'] value pos) (sFld X.K ta tv f) := ⟨ps_fld ha.out hv.out hs⟩
theorem js_raise (F : Xa X.prog X.w X.K X.mg X.base k x C ps sp) (hr : Room (k + 1) X.A) (hg : Gl X x) (hx : Throws X E) (ha : jA X (a :: as) t) (hdb : (x == ("__debug__" : Str)) = false := by decide) (h1 : isStar a = false := by rfl) (h2 : as.all (fun e => !isStar e) = true := by rfl) :
    jS X (.Raise (some (.Call (.Name x np) (a :: as) [] cpos)) none pos) (tRaise C sp E t) := let ⟨_, _, M, G, b, mg⟩ := F.ex; ⟨ps_raise M G hr hg mg b hx ha.out hdb h1 h2⟩
theorem je_alt (h1 : jE X e t1) (h2 : jE X e t2) : jE X e (fun σ H Q => t1 σ H Q \/ t2 σ H Q) := ⟨fun pins s σ H Q I h => h.elim (h1.out pins s σ H Q I) (h2.out pins s σ H Q I)⟩
theorem jt_isN {j pos'} (ha : jE X a ta) : jT X (.Compare a [.Is] [.Constant .none j pos'] pos) (tB (tIsN ta)) := ⟨pt_cmp (pc_isN ha.out)⟩
theorem jt_notN {j pos'} (ha : jE X a ta) : jT X (.Compare a [.IsNot] [.Constant .none j pos'] pos) (tB (tNotN ta)) := ⟨pt_cmp (pc_notN ha.out)⟩
end
theorem FnOk.no {P : Program} {w : World} {K : PySem.W.Frag} {mg : Str -> Option Value} {base : Heap} {CX : CXT} {k : Nat} {f : Addr} {fd : FuncData} {ps : List Str} : FnOk P w K mg base CX k f fd ps (fun _ _ _ _ => False) :=
  ⟨fun _ _ _ _ h => h.elim, fun _ _ _ _ _ _ _ _ _ _ _ _ _ h => h.elim⟩
end L2
namespace L2
open PySem PySem.Spec PyProof.Rows
section
variable {X : Cx}
theorem call_int_text : CallR X (.type "int") (fun xs H Q => ∃ z n, xs = [.str z] /\ PySem.intText? z = some n /\ z.length <= 640 /\ Q (.int n) H) := by
  intro pins s σ H xs us Q I r h
  obtain ⟨z, n, rfl, hn, hl, q⟩ := h
  obtain ⟨u, rfl, t, rfl⟩ := vals1 r
  exact PySem.W.KIN.call_text hn hl ⟨.int n, H, I.tok _, ⟨_, rfl⟩, q⟩
theorem jc_int_text : jCa X (.type "int") (fun xs H Q => ∃ z n, xs = [.str z] /\ PySem.intText? z = some n /\ z.length <= 640 /\ Q (.int n) H) := ⟨call_int_text⟩
end
end L2
namespace L2
open PySem PySem.Spec PyProof.Rows
section
variable {X : Cx} {pins : List (Addr × Obj)} {σ : St} {H : Hp} {s : Shared} {h' : Heap}
theorem Inv.turns {t' : Nat} {ch : List Addr} (I : Inv X pins σ H s) (k : ∀ b o, b ∉ ch -> s.heap.get? b = some o -> h'.get? b = some o) (hf : ∀ b ∈ ch, FpOk X pins H b) : Inv X pins σ H { s with heap := h', toks := t' } := by
  have nit : ∀ b u, H b = some u -> b ∉ ch := fun b u e z => by rw [(hf b z).1] at e; cases e
  refine I.call (g' := s.gens) (d' := s.drawn) (t' := t') (ch := ch) ⟨fun b o q _ _ x => k b o x q, fun b o q _ _ x => ⟨o.slots, k b o x q⟩, fun _ _ _ n _ => n, fun b o q x => ⟨o, k b o x q⟩, fun _ _ q => q, fun _ _ _ q => q, fun _ ps q => ⟨#[], by rw [q]; simp⟩⟩
    (fun b u e => (I.hok b u e).stay (fun c v hc q => k c v ?_ q) (fun _ q => q) fun _ _ q => q) I.bare fun b hb => ?_
  · rcases hc with z | z
    · rw [z]; exact nit b u e
    · exact nit c _ z
  · obtain ⟨f0, f1, f2, f3, f4, f5⟩ := hf b hb
    exact ⟨f3, f1, f4, f5⟩
theorem Inv.turnsLaid {t' : Nat} {ch : List Addr} {a : Addr} {o : HO} (I : Inv X pins σ H s) (k : ∀ b o, b ∉ ch -> s.heap.get? b = some o -> h'.get? b = some o) (hf : ∀ b ∈ ch, FpOk X pins H b) (hp : s.heap.objs.size <= a) (new : ObjOk X.prog X.w (upd H a o) h' a o) :
    Inv X pins σ (upd H a o) { s with heap := h', toks := t' } := by
  have hn := I.hok.fresh hp
  have nit : ∀ b u, H b = some u -> b ∉ ch := fun b u e z => by rw [(hf b z).1] at e; cases e
  refine I.call (g' := s.gens) (d' := s.drawn) (t' := t') (ch := ch) ⟨fun b o q _ _ x => k b o x q, fun b o q _ _ x => ⟨o.slots, k b o x q⟩, fun b u q n _ => by rw [upd_ne (Nat.ne_of_lt (Nat.lt_of_lt_of_le (Heap.lt_size q) hp))]; exact n, fun b o q x => ⟨o, k b o x q⟩,
      fun b xs q => by rw [upd_ne (ne_of_none q hn)]; exact q, fun b u xs q => by rw [upd_ne (ne_of_none q hn)]; exact q, fun b ps q => ⟨#[], by rw [upd_ne (ne_of_none q hn), q]; simp⟩⟩
    (fun b u e => ?_) I.bare fun b hb => ?_
  · by_cases hb : b = a
    · subst hb
      rw [upd_same] at e
      cases e
      exact new
    · rw [upd_ne hb] at e
      refine (I.hok b u e).stay (fun c v hc q => k c v ?_ q) (fun c q => by rw [upd_ne (ne_of_none q hn)]; exact q) fun c xs q => by rw [upd_ne (ne_of_none q hn)]; exact q
      rcases hc with z | z
      · rw [z]; exact nit b u e
      · exact nit c _ z
  · obtain ⟨f0, f1, f2, f3, f4, f5⟩ := hf b hb
    exact ⟨f3, f1, f4, f5⟩
end
def Ite (K : PySem.W.Frag) (a : Addr) : It :=
  ⟨fun i H => ∃ xs x, SqL K H a xs /\ xs[i]? = some x, fun i H x H' => ∃ T v, x = .ref T /\ H T = none /\ H' = upd H T (.tup [.int i, v]) /\ ∀ xs, SqL K H a xs -> xs[i]? = some v, fun i H => ∃ xs, SqL K H a xs /\ xs.length <= i⟩
theorem turn_enum {P : Program} {w : World} {K : PySem.W.Frag} {elts : List Expr} {k : Nat} {pos : Pos} {a e it : Addr} (hne : e ≠ it) : Turn P w K (.Tuple elts k pos) (Ite K a) [e, it] e (fun i h => (∃ old, IsEnum h e it (i : Int) old) /\ h.IsListIter it a i) where
  mem := by simp
  obj := fun i h st b hb => by
    obtain ⟨⟨old, he⟩, hit⟩ := st
    have e' : b = e \/ b = it := by simpa using hb
    rcases e' with z | z
    · subst z
      exact ⟨_, he, fun v z => by cases z⟩
    · subst z
      obtain ⟨o, e, c, d⟩ := hit
      exact ⟨o, e, fun v z => by rw [d] at z; cases z⟩
  keep := fun i h h' st k => ⟨st.1.imp fun old he => k e (by simp) _ he, st.2.at fun o x => k it (by simp) o x⟩
  item := by
    intro X hP hw hK hc i pins s σ H E I hf st hg
    subst hP hw hK
    obtain ⟨xs, x, hq, hx⟩ := hg
    obtain ⟨its, rv, p, hz⟩ := I.list hq
    obtain ⟨u, hu, ru⟩ := rv.get hx
    obtain ⟨⟨old, he⟩, hit⟩ := st
    refine wpAny_pyNext_enum_item he hit p.isList (x := u) (by simpa using hu) hne fun h' ho hit' hT hsz hk => ?_
    have new : ObjOk X.prog X.w (upd H s.heap.objs.size (.tup [.int i, x])) h' s.heap.objs.size (.tup [.int i, x]) := ⟨by show 2 <= sizeLine; decide, [.int i s.toks, u], .cons ⟨_, rfl⟩ (.cons ru .nil), ⟨_, hT, rfl, _, rfl⟩⟩
    have I1 : Inv X pins σ (upd H s.heap.objs.size (.tup [.int i, x])) { s with heap := h', toks := s.toks + 1 } := I.turnsLaid (ch := [e, it]) (fun b o hb q => hk b o (fun z => hb (by simp [z])) (fun z => hb (by simp [z])) q) hf (Nat.le_refl _) new
    have hlt : ∀ b ∈ [e, it], b ≠ s.heap.objs.size := fun b hb => by
      have e' : b = e \/ b = it := by simpa using hb
      rcases e' with z | z
      · rw [z]; exact Nat.ne_of_lt (Heap.lt_size he)
      · rw [z]; obtain ⟨o, q, _⟩ := hit; exact Nat.ne_of_lt (Heap.lt_size q)
    have hn : ∀ b ∈ [e, it], upd H s.heap.objs.size (.tup [.int i, x]) b = none := fun b hb => by rw [upd_ne (hlt b hb)]; exact (hf b hb).1
    have hf1 : ∀ b ∈ [e, it], FpOk X pins (upd H s.heap.objs.size (.tup [.int i, x])) b := fun b hb => ⟨hn b hb, (hf b hb).2⟩
    refine ⟨_, rfl, wpAny_letOwnedTupleGo_enum (s := { s with heap := h', toks := s.toks + 1 }) ho fun h'' he' hs' => ?_⟩
    have I2 : Inv X pins σ (upd H s.heap.objs.size (.tup [.int i, x])) { s with heap := h'', toks := s.toks + 1 } := Inv.turns (s := { s with heap := h', toks := s.toks + 1 }) (t' := s.toks + 1) (ch := [e, it]) I1 (fun b o hb q => (hs'.2 b fun z => hb (by simp [z])).trans q) hf1
    refine ⟨.ref s.heap.objs.size, _, I2, rfl, ⟨_, x, rfl, I.fresh, rfl, fun ys hy => by rw [I.list_inj hy hq]; exact hx⟩, ⟨⟨u, ?_⟩, hit'.at fun o q => (hs'.2 it hne.symm).trans q⟩, hn⟩
    have e1 : (((i + 1 : Nat)) : Int) = (i : Int) + 1 := by omega
    rw [e1]
    exact he'
  done := by
    intro X hP hw hK hc i pins s σ H E I hf st hg
    subst hP hw hK
    obtain ⟨xs, hq, hx⟩ := hg
    obtain ⟨its, rv, p, hz⟩ := I.list hq
    have hl := rv.length
    obtain ⟨⟨old, he⟩, hit⟩ := st
    exact wpAny_pyNext_enum_end (I.ok.hd hc) he hit p.isList (by simp; omega) fun h' eb => ⟨rfl, I.turns (t' := s.toks) (ch := [e, it]) (fun b o hb q => eb b o (fun z => hb (by simp [z])) q) hf⟩
  self := fun _ _ _ _ _ st h => by
    obtain ⟨⟨old, he⟩, _⟩ := st
    exact wpAny_pyIter_enum he h
section
variable {X : Cx} {elts : List Expr} {k : Nat} {tpos : Pos}
def iEnum (K : PySem.W.Frag) (ta : TA) : TI := fun σ H R => ta σ H fun vs H1 => ∃ a, vs = [.ref a] /\ (∃ xs, SqL K H1 a xs) /\ R (Ite K a) H1
theorem pi_enum {a : Expr} {ta : TA} {p pos : Pos} (hg : Gl X "enumerate") (hm : X.mg "enumerate" = none) (ha : PA X [a] ta) (hs : starEach [a] X.env = [(false, eval a X.env)] := by rfl) : PI X (.Tuple elts k tpos) (.Call (.Name "enumerate" p) [a] [] pos) (iEnum X.K ta) := by
  intro pins s σ H R I h
  refine Call_ (ld_blt I hg hm boot_enumerate (PyProof.Rows.callWith_type1 (thn (ha pos pins s σ H _ I h) fun us s1 ⟨vs, H1, I1, r1, q1⟩ => ?_) hs rfl))
  obtain ⟨l, e, ⟨xs, hq⟩, q⟩ := q1
  subst e
  obtain ⟨u, rfl, rx⟩ := vals1 r1
  cases rx
  obtain ⟨its, rv, pl, hz⟩ := I1.list hq
  refine call_enumerate_list pl.isList fun h' hE hI hsz hk => ?_
  refine wpAny_pyIter_enum hE ?_
  refine ⟨s1.heap.objs.size + 1, [s1.heap.objs.size + 1, s1.heap.objs.size], _, _, H1, rfl, I1.kept (t' := s1.toks) hk, turn_enum (a := l) (Nat.succ_ne_self _), ⟨⟨_, hE⟩, hI⟩, fun b hb => ?_, q⟩
  have e : b = s1.heap.objs.size + 1 \/ b = s1.heap.objs.size := by simpa using hb
  rcases e with e | e
  · subst e
    exact I1.fpOk (Nat.le_succ _) (I1.hok.fresh (Nat.le_succ _))
  · subst e
    exact I1.fpOk (Nat.le_refl _) (I1.hok.fresh (Nat.le_refl _))
theorem ji_enum {a : Expr} {t : TA} {p pos : Pos} (hg : Gl X "enumerate") (hm : X.mg "enumerate" = none) (ha : jA X [a] t) (h : isStar a = false := by rfl) : jI X (.Tuple elts k tpos) (.Call (.Name "enumerate" p) [a] [] pos) (iEnum X.K t) := ⟨pi_enum hg hm ha.out (star_cons h)⟩
end
end L2
namespace L2
open PySem PySem.Spec PyProof.Rows Builtin Builtin.Str
section
variable {X : Cx}
theorem strs_of_vals : ∀ {zs : List Str} {us : List Value}, Vals (zs.map V.str) us -> ∃ l : List (Str × Tok), us = strValues l /\ l.map (·.1) = zs
  | [], _, .nil => ⟨[], rfl, rfl⟩
  | z :: zs, _, .cons ⟨t, e⟩ r => by
    obtain ⟨l, rfl, h⟩ := strs_of_vals r
    exact ⟨(z, t) :: l, by rw [e]; rfl, by rw [List.map_cons, h]⟩
theorem fold_len (sep : Str) : ∀ (zs : List Str) (a : Nat), zs.foldl (· + ·.length + sep.length) a = a + ((zs.map (·.length)).sum + zs.length * sep.length)
  | [], a => by simp
  | z :: zs, a => by
    rw [List.foldl_cons, fold_len sep zs]
    simp only [List.map_cons, List.sum_cons, List.length_cons, Nat.add_mul, Nat.one_mul]
    omega
def wide (sep : Str) (zs : List Str) : Nat := (zs.map (·.length)).sum + zs.length * sep.length
def rJoin (K : PySem.W.Frag) : V -> List V -> Hp -> VK -> Prop := fun x vs H Q => ∃ sep p zs, x = .str sep /\ vs = [.ref p] /\ SqL K H p (zs.map V.str) /\ wide sep zs <= sizeLine /\ Q (.str (Str.join sep zs)) H
theorem mt_join : MtR X "str.join" (rJoin X.K) := by
  intro pins s σ H x vs v us Q I rx rv h
  obtain ⟨sep, p, zs, rfl, rfl, hq, hw, q⟩ := h
  obtain ⟨t, rfl⟩ := rx
  obtain ⟨u, rfl, ru⟩ := rv.one
  cases ru
  obtain ⟨its, r, pl, hz⟩ := I.list hq
  obtain ⟨l, rfl, hl⟩ := strs_of_vals r
  have big : tooLong ((l.map (·.1)).toArray.foldl (· + ·.length + sep.length) 0) = false := by
    rw [hl, List.foldl_toArray, fold_len]
    unfold tooLong
    rw [decide_eq_false_iff_not]
    unfold wide at hw
    omega
  have hg := size_glued sep zs
  have hle : (glued sep zs).length <= sizeLine := by
    rw [hg]
    unfold wide at hw
    have : (zs.length - 1) * sep.length <= zs.length * sep.length := Nat.mul_le_mul_right _ (Nat.sub_le _ _)
    omega
  refine call_meets F.slot_str_join (typeIs_str _ _ _) F.entry_str_join (F.args_str_join_2 _ _) (meets_str_join_list sep t p l big) ⟨pl.isList, ?_⟩
  rw [<- StrLaws.glued_eq_join] at q
  match l, hl with
  | [], hl => exact ⟨by rw [hl]; exact hle, .str _, H, I.tok _, ⟨_, rfl⟩, by rw [hl]; exact q⟩
  | [(z, tz)], hl =>
    have e : glued sep zs = z := by
      rw [<- hl]
      rfl
    rw [e] at q
    exact ⟨.str z, H, I, ⟨tz, rfl⟩, q⟩
  | a :: b :: r, hl => exact ⟨by rw [hl]; exact hle, .str _, H, I.tok _, ⟨_, rfl⟩, by rw [hl]; exact q⟩
theorem jm_join : jMt X "str.join" (rJoin X.K) := ⟨mt_join⟩
def rEqE (K : PySem.W.Frag) (neg : Bool) : R2 := fun x y H Q => ∃ p p' xs, x = .ref p /\ y = .ref p' /\ SqL K H p xs /\ SqL K H p' [] /\ Q (.bl (if neg then !xs.isEmpty else xs.isEmpty)) H
theorem op_eqE (hu : X.A.units < cLine) : OpR X (compareOp .Eq) (rEqE X.K false) := by
  intro pins s σ H x y v u Q I rx ry h
  obtain ⟨p, p', xs, rfl, rfl, h1, h2, q⟩ := h
  cases rx
  cases ry
  obtain ⟨its, r, pl, _⟩ := I.list h1
  obtain ⟨its', r', pl', _⟩ := I.list h2
  cases r'
  cases r with
  | nil => exact SeqAt.eq_listAt (e := fun _ => true) pl.isList pl'.isList rfl hu (fun j h => absurd h (Nat.not_lt_zero _)) ⟨.bl true, H, I, rfl, q⟩
  | cons a b => exact SeqAt.eq_list_lengthsAt pl.isList pl'.isList rfl hu ⟨.bl false, H, I, rfl, q⟩
theorem op_neE (hu : X.A.units < cLine) : OpR X (compareOp .NotEq) (rEqE X.K true) := by
  intro pins s σ H x y v u Q I rx ry h
  obtain ⟨p, p', xs, rfl, rfl, h1, h2, q⟩ := h
  cases rx
  cases ry
  obtain ⟨its, r, pl, _⟩ := I.list h1
  obtain ⟨its', r', pl', _⟩ := I.list h2
  cases r'
  cases r with
  | nil => exact SeqAt.RcNeAt.lists (e := fun _ => true) pl.isList pl'.isList rfl hu (fun j h => absurd h (Nat.not_lt_zero _)) _ _ _ _ ⟨.bl false, H, I, rfl, q⟩
  | cons a b => exact SeqAt.RcNeAt.lists_lengths pl.isList pl'.isList rfl hu _ _ _ _ ⟨.bl true, H, I, rfl, q⟩
theorem jo_eqE {k : Nat} (hr : Room k X.A) : jOp X (compareOp .Eq) (rEqE X.K false) := ⟨op_eqE hr.units0⟩
theorem jo_neE {k : Nat} (hr : Room k X.A) : jOp X (compareOp .NotEq) (rEqE X.K true) := ⟨op_neE hr.units0⟩
theorem ints_of_vals : ∀ {ns : List Int} {us : List Value}, Vals (ns.map V.int) us -> ∃ l : List (Int × Tok), us = (intItems l.toArray).toList /\ l.map (·.1) = ns
  | [], _, .nil => ⟨[], by simp [intItems], rfl⟩
  | z :: zs, _, .cons ⟨t, e⟩ r => by
    obtain ⟨l, rfl, h⟩ := ints_of_vals r
    exact ⟨(z, t) :: l, by rw [e]; simp [intItems], by rw [List.map_cons, h]⟩
theorem call_sum_ints (hc : X.calm = true) : CallR X (.builtin "sum") (fun xs H Q => ∃ (p : Addr) (ns : List Int), xs = [.ref p] /\ SqL X.K H p (ns.map V.int) /\ Q (.int ns.sum) H) := by
  intro pins s σ H xs us Q I r h
  obtain ⟨p, ns, rfl, hq, q⟩ := h
  obtain ⟨u, rfl, rx⟩ := vals1 r
  cases rx
  obtain ⟨its, rv, pl, hz⟩ := I.list hq
  obtain ⟨l, rfl, hl⟩ := ints_of_vals rv
  have pl2 : s.heap.IsList p (intItems l.toArray) := by
    have := pl.isList
    simpa using this
  refine sum_intListG (I.ok.hd hc) pl2 fun h' tk t' hk => ⟨.int ns.sum, H, I.kept hk, ⟨t', ?_⟩, q⟩
  rw [preSum_eq, List.take_of_length_le (by simp)]
  simp [hl]
theorem jc_sum (hc : X.calm = true) : jCa X (.builtin "sum") (fun xs H Q => ∃ (p : Addr) (ns : List Int), xs = [.ref p] /\ SqL X.K H p (ns.map V.int) /\ Q (.int ns.sum) H) := ⟨call_sum_ints hc⟩
end
end L2
namespace L2
open PySem PySem.Spec PyProof.Rows
def Sq (k : Bool) (h : Heap) (l : Addr) (xs : Array Value) : Prop := match k with
  | true => h.IsList l xs
  | false => h.IsTuple l xs
def SqI (k : Bool) (h : Heap) (j l : Addr) (n : Nat) : Prop := match k with
  | true => h.IsListIter j l n
  | false => h.IsTupleIter j l n
def SqN (k : Bool) : String := if k then "list_iterator" else "tuple_iterator"
theorem Sq.at {k : Bool} {h h' : Heap} {l : Addr} {xs : Array Value} (x : Sq k h l xs) (e : ∀ o, h.get? l = some o -> h'.get? l = some o) : Sq k h' l xs := by
  cases k <;> obtain ⟨o, ho, r⟩ := x <;> exact ⟨o, e _ ho, r⟩
theorem SqI.at {k : Bool} {h h' : Heap} {j l : Addr} {n : Nat} (x : SqI k h j l n) (e : ∀ o, h.get? j = some o -> h'.get? j = some o) : SqI k h' j l n := by
  cases k <;> obtain ⟨o, ho, r⟩ := x <;> exact ⟨o, e _ ho, r⟩
theorem SqI.ex {k : Bool} {h : Heap} {j l : Addr} {n : Nat} (x : SqI k h j l n) : ∃ o, h.get? j = some o /\ o.cls = .type (SqN k) /\ o.data = .fields #[.ref l, .int n 0] := by
  cases k <;> exact x
theorem SqI.of {k : Bool} {h : Heap} {j l : Addr} {n : Nat} (x : ∃ o, h.get? j = some o /\ o.cls = .type (SqN k) /\ o.data = .fields #[.ref l, .int n 0]) : SqI k h j l n := by
  cases k <;> exact x
section
variable {P : Program} {w : World} {A : Around} {E : Value -> Shared -> Prop} {s : Shared}
theorem tup_next {j l : Addr} {n : Nat} {xs : Array Value} {x : Value} {Q : Value -> Shared -> Prop} (hj : s.heap.IsTupleIter j l n) (hl : s.heap.IsTuple l xs) (hx : xs[n]? = some x)
    (q : ∀ h', h'.IsTupleIter j l (n + 1) -> Heap.SameBut j s.heap h' -> Q x { s with heap := h' }) : wpAny (model P w) A (Builtin.SmallTypes.nextOf (.ref j)) Q E s := by
  have ⟨oj, hoj, cj, dj⟩ := hj
  have ⟨ol, hol, _, m, dl⟩ := hl
  unfold Builtin.SmallTypes.nextOf
  refine wpAny_bind (wpAny_callSpecial?_slot hj.typeIs F.slot_tuple_iterator_next (wpAny_call_entry F.slot_tuple_iterator_next hj.typeIs F.entry_tuple_iterator_next ?_ (F.args_tuple_iterator_next_1 (.ref j))))
  refine wpAny_bind (m := field (.ref j) 0) (wpAny_field hoj dj (x := .ref l) rfl ?_)
  have nn : ¬ ((Value.ref l == Value.none) = true) := Bool.false_ne_true
  show wpAny _ _ (ite ((Value.ref l == Value.none) = true) _ _) _ _ _
  rw [if_neg nn]
  refine wpAny_bind (m := field (.ref j) 1) (wpAny_field hoj dj (x := .int n 0) rfl ?_)
  refine wpAny_bind (m := seqItems? (.ref l)) (wpAny_seqItems hol dl ?_)
  simp only [Int.toNat_natCast, hx]
  refine wpAny_bind (wpAny_setField hoj dj (by simp) (wpAny_pure ⟨x, rfl, wpAny_pure (q _ ⟨_, Heap.get?_update_self _ hoj (Obj.isFreed_of_fields (Obj.data_mapFields dj _)), (Obj.cls_mapFields ..).trans cj, ?_⟩ (Heap.SameBut.update ..))⟩))
  rw [Obj.data_mapFields dj]
  simp [rawInt]
theorem tup_end {j l : Addr} {n : Nat} {xs : Array Value} {Q : Value -> Shared -> Prop} (hA : A.handled = none) (hj : s.heap.IsTupleIter j l n) (hl : s.heap.IsTuple l xs) (hx : xs[n]? = none)
    (q : ∀ h' e, Heap.ExtBut j s.heap h' -> (∃ o, h'.get? e = some o /\ o.cls = .type "StopIteration") -> E (.ref e) { s with heap := h' }) : wpAny (model P w) A (Builtin.SmallTypes.nextOf (.ref j)) Q E s := by
  have ⟨oj, hoj, cj, dj⟩ := hj
  have ⟨ol, hol, _, m, dl⟩ := hl
  unfold Builtin.SmallTypes.nextOf
  refine wpAny_bind (wpAny_callSpecial?_slot hj.typeIs F.slot_tuple_iterator_next (wpAny_call_entry F.slot_tuple_iterator_next hj.typeIs F.entry_tuple_iterator_next ?_ (F.args_tuple_iterator_next_1 (.ref j))))
  refine wpAny_bind (m := field (.ref j) 0) (wpAny_field hoj dj (x := .ref l) rfl ?_)
  have nn : ¬ ((Value.ref l == Value.none) = true) := Bool.false_ne_true
  show wpAny _ _ (ite ((Value.ref l == Value.none) = true) _ _) _ _ _
  rw [if_neg nn]
  refine wpAny_bind (m := field (.ref j) 1) (wpAny_field hoj dj (x := .int n 0) rfl ?_)
  refine wpAny_bind (m := seqItems? (.ref l)) (wpAny_seqItems hol dl ?_)
  simp only [Int.toNat_natCast, hx]
  refine wpAny_bind (wpAny_rule (wpAny_bind (wpAny_setField hoj dj (by simp) ?_)))
  refine wpAny_bind (m := newExc (.type "StopIteration") []) ?_
  unfold newExc newTuple
  refine wpAny_bind (wpAny_newObj_type (wpAny_bind (m := firstArgMember _ _) (wpAny_of_eq (a := Value.none) (by first | rfl | (simp only [firstArgMember]; rfl)) (wpAny_newObj_type ?_ (by size_fits)))) (by size_fits))
  unfold raiseNew
  refine wpAny_bind (wpAny_handled ?_)
  rw [show A.in1.handled = none from hA]
  exact wpAny_bind (wpAny_pure (wpAny_throw (q _ _ (((Heap.SameBut.update ..).extBut.push _).push _) ⟨_, Heap.get?_push_size _ rfl, rfl⟩)))
theorem sq_next {k : Bool} {j l : Addr} {n : Nat} {xs : Array Value} {x : Value} {Q : Value -> Shared -> Prop} (hj : SqI k s.heap j l n) (hl : Sq k s.heap l xs) (hx : xs[n]? = some x)
    (q : ∀ h', SqI k h' j l (n + 1) -> Heap.SameBut j s.heap h' -> Q x { s with heap := h' }) : wpAny (model P w) A (Builtin.SmallTypes.nextOf (.ref j)) Q E s := by
  cases k with
  | true => exact wpAny_nextOf_list_item hj hl hx q
  | false => exact tup_next hj hl hx q
theorem sq_end {k : Bool} {j l : Addr} {n : Nat} {xs : Array Value} {Q : Value -> Shared -> Prop} (hA : A.handled = none) (hj : SqI k s.heap j l n) (hl : Sq k s.heap l xs) (hx : xs[n]? = none)
    (q : ∀ h' e, Heap.ExtBut j s.heap h' -> (∃ o, h'.get? e = some o /\ o.cls = .type "StopIteration") -> E (.ref e) { s with heap := h' }) : wpAny (model P w) A (Builtin.SmallTypes.nextOf (.ref j)) Q E s := by
  cases k with
  | true => exact wpAny_nextOf_list_end hA hj hl hx q
  | false => exact tup_end hA hj hl hx q
theorem sq_iter {k : Bool} {l : Addr} {xs : Array Value} {Q : Value -> Shared -> Prop} (hl : Sq k s.heap l xs) (q : Q (.ref s.heap.objs.size) { s with heap := s.heap.push { cls := .type (SqN k), data := .fields #[.ref l, .int 0 0] } }) :
    wpAny (model P w) A (pyIter (.ref l)) Q E s := by
  cases k with
  | true => exact wpAny_pyIter_list hl q
  | false => exact wpAny_pyIter_tuple hl q
end
abbrev za (k : Bool) (h : Heap) (l : Addr) : Heap := h.push { cls := .type (SqN k), data := .fields #[.ref l, .int 0 0] }
abbrev zb (k m : Bool) (h : Heap) (l r : Addr) : Heap := za m (za k h l) r
abbrev zc (k m : Bool) (h : Heap) (l r : Addr) : Heap := (zb k m h l r).push { cls := .type "tuple", data := .seq #[.ref h.objs.size, .ref (za k h l).objs.size] }
abbrev zd (k m : Bool) (h : Heap) (l r : Addr) : Heap := (zc k m h l r).push { cls := .type "tuple", data := .seq #[.none, .none] }
abbrev ze (k m : Bool) (h : Heap) (l r : Addr) : Heap := (zd k m h l r).push { cls := .type "zip", data := .fields #[.none, .bool false, .bool false, .ref (zb k m h l r).objs.size, .ref (zc k m h l r).objs.size] }
theorem zip_made (k m : Bool) (l r : Addr) (xs ys : Array Value) : Meets (Builtin.«zip.__new__» ⟨[.type "zip", .ref l, .ref r], []⟩)
    (fun _ R s => Sq k s.heap l xs /\ Sq m s.heap r ys /\ R (.ok (.ret (.ref (zd k m s.heap l r).objs.size))) { s with heap := ze k m s.heap l r }) :=
  .of_wp fun prog w A R s h => by
    obtain ⟨hp, g, d, tk, os⟩ := s
    obtain ⟨h1, h2, h⟩ := h
    have hs := sub_zip
    have q1 : Sq k (Shared.heap ⟨hp, g, d, tk, os⟩) l xs := h1
    have q2 : Sq m (Shared.heap ⟨za k hp l, g, d, tk, os⟩) r ys := h2.at fun o e => Heap.get?_push_of_some _ e
    wp_walk using sq_iter q1, sq_iter q2
    exact ⟨_, rfl, h⟩
structure ZS (k m : Bool) (h : Heap) (B l r : Nat) (n : Nat) (f g : Value) : Prop where
  z : h.get? (B + 4) = some { cls := .type "zip", data := .fields #[f, g, .bool false, .ref (B + 2), .ref (B + 3)] }
  ti : IsPair h (B + 2) (.ref B) (.ref (B + 1))
  to : ∃ a b, IsPair h (B + 3) a b
  i : SqI k h B l n
  j : SqI m h (B + 1) r n
theorem ZS.at {k m : Bool} {h h' : Heap} {B l r : Nat} {n : Nat} {f g : Value} (x : ZS k m h B l r n f g) (e : ∀ (b : Nat) o, B <= b -> b <= B + 4 -> h.get? b = some o -> h'.get? b = some o) : ZS k m h' B l r n f g where
  z := e _ _ (by omega) (by omega) x.z
  ti := e _ _ (by omega) (by omega) x.ti
  to := let ⟨a, b, y⟩ := x.to; ⟨a, b, e _ _ (by omega) (by omega) y⟩
  i := x.i.at fun o => e _ o (by omega) (by omega)
  j := x.j.at fun o => e _ o (by omega) (by omega)
def KeptZ (B : Nat) (h h' : Heap) : Prop := ∀ (c : Nat) o, (c < B \/ B + 4 < c) -> h.get? c = some o -> h'.get? c = some o
section
variable {P : Program} {w : World} {A : Around} {E : Value -> Shared -> Prop} {s : Shared} {k m : Bool} {B l r : Nat} {n : Nat} {xs ys : Array Value} {x y f g : Value}
theorem zip_call {Q : Value -> Shared -> Prop} (hl : Sq k s.heap l xs) (hr : Sq m s.heap r ys)
    (q : ∀ h', ZS k m h' s.heap.objs.size l r 0 .none (.bool false) -> h'.objs.size = s.heap.objs.size + 5 -> (∀ c o, s.heap.get? c = some o -> h'.get? c = some o) -> Q (.ref (s.heap.objs.size + 4)) { s with heap := h' }) :
    wpAny (model P w) A (call (.type "zip") [.ref l, .ref r]) Q E s := by
  apply callType_new F.called_zip (by decide) (F.typeCall_zip_2 _ _) (F.newCall_zip_2 _ _) (fun obj => F.args_object_init_3 obj _ _) F.entry_zip_new (zip_made k m l r xs ys)
  refine ⟨hl, hr, ?_⟩
  have s1 : (za k s.heap l).objs.size = s.heap.objs.size + 1 := Heap.size_push ..
  have s2 : (zb k m s.heap l r).objs.size = s.heap.objs.size + 2 := by rw [Heap.size_push, s1]
  have s3 : (zc k m s.heap l r).objs.size = s.heap.objs.size + 3 := by rw [Heap.size_push, s2]
  have s4 : (zd k m s.heap l r).objs.size = s.heap.objs.size + 4 := by rw [Heap.size_push, s3]
  have s5 : (ze k m s.heap l r).objs.size = s.heap.objs.size + 5 := by rw [Heap.size_push, s4]
  have up : ∀ {c o}, (zd k m s.heap l r).get? c = some o -> (ze k m s.heap l r).get? c = some o := fun e => Heap.get?_push_of_some _ e
  have p5 : (ze k m s.heap l r).get? (zd k m s.heap l r).objs.size = some _ := Heap.get?_push_size _ rfl
  have p4 : (ze k m s.heap l r).get? (zc k m s.heap l r).objs.size = some _ := up (Heap.get?_push_size _ rfl)
  have p3 : (ze k m s.heap l r).get? (zb k m s.heap l r).objs.size = some _ := up (Heap.get?_push_of_some _ (Heap.get?_push_size _ rfl))
  have p2 : (ze k m s.heap l r).get? (za k s.heap l).objs.size = some _ := up (Heap.get?_push_of_some _ (Heap.get?_push_of_some _ (Heap.get?_push_size _ rfl)))
  have p1 : (ze k m s.heap l r).get? s.heap.objs.size = some _ := up (Heap.get?_push_of_some _ (Heap.get?_push_of_some _ (Heap.get?_push_of_some _ (Heap.get?_push_size _ rfl))))
  rw [s4, s2, s3] at p5
  rw [s3] at p4
  rw [s2, s1] at p3
  rw [s1] at p2
  show _ /\ _
  rw [s4]
  exact ⟨⟨_, p5, rfl⟩, q _ ⟨p5, p3, ⟨_, _, p4⟩, .of ⟨_, p1, rfl, rfl⟩, .of ⟨_, p2, rfl, rfl⟩⟩ s5 fun c o e => up (Heap.get?_push_of_some _ (Heap.get?_push_of_some _ (Heap.get?_push_of_some _ (Heap.get?_push_of_some _ e))))⟩
theorem zip_free {Q : Value -> Shared -> Prop} (Z : ZS k m s.heap B l r n .none g) (hl : Sq k s.heap l xs) (hr : Sq m s.heap r ys) (ll : l < B) (rl : r < B) (hx : xs[n]? = some x) (hy : ys[n]? = some y)
    (q : ∀ h', ZS k m h' B l r (n + 1) (rawInt s.heap.objs.size) (.bool false) -> IsPair h' s.heap.objs.size x y -> h'.objs.size = s.heap.objs.size + 1 -> KeptZ B s.heap h' -> Q (.ref s.heap.objs.size) { s with heap := h' }) :
    wpAny (model P w) A (Builtin.«zip.__next__» ⟨[.ref (B + 4)], []⟩) (fun fin s' => ∃ v, fin = .done (.ret v) /\ Q v s') E s := by
  obtain ⟨a, b, hto⟩ := Z.to
  refine wpAny_bind (m := field (.ref (B + 4)) 2) (wpAny_field Z.z rfl (x := .bool false) rfl ?_)
  refine wpAny_bind (m := field (.ref (B + 4)) 3) (wpAny_field Z.z rfl (x := .ref (B + 2)) rfl (wpAny_bind (wpAny_seqItems Z.ti rfl ?_)))
  refine wpAny_bind (m := Builtin.SmallTypes.ownedTupleIsFree (.ref (B + 4))) ?_
  unfold Builtin.SmallTypes.ownedTupleIsFree
  refine wpAny_bind (wpAny_field Z.z rfl (x := .none) rfl (wpAny_pure ?_))
  rw [if_pos rfl]
  refine wpAny_bind (wpAny_rule (wpAny_bind (wpAny_field Z.z rfl (x := .ref (B + 3)) rfl (wpAny_bind (wpAny_setField_rec Z.z (by simp) fun h1 z1 u1 => wpAny_bind ?_)))))
  replace z1 : h1.get? (B + 4) = some { cls := .type "zip", data := .fields #[.ellipsis, g, .bool false, .ref (B + 2), .ref (B + 3)] } := z1
  have k1 : ∀ (c : Nat) o, c ≠ B + 4 -> s.heap.get? c = some o -> h1.get? c = some o := fun c o n e => (u1.2 c n).trans e
  simp only [List.zipIdx_cons, List.zipIdx_nil, List.forIn_cons, List.forIn_nil]
  refine wpAny_bind (wpAny_bind (wpAny_onRaise (wpAny_bind (m := Builtin.SmallTypes.nextOf (.ref B)) ?_)))
  refine sq_next (Z.i.at fun o => k1 _ o (by omega)) (hl.at fun o => k1 _ o (by omega)) hx fun h2 i2 u2 => wpAny_pure ?_
  have k2 : ∀ (c : Nat) o, c ≠ B -> h1.get? c = some o -> h2.get? c = some o := fun c o n e => (u2.2 c n).trans e
  have to2 : IsPair h2 (B + 3) a b := k2 _ _ (by omega) (k1 _ _ (by omega) hto)
  refine wpAny_bind (wpAny_seqItems to2 rfl (wpAny_bind (wpAny_updateSeq_pair to2 fun h3 to3 u3 => ?_)))
  replace to3 : IsPair h3 (B + 3) x b := to3
  have k3 : ∀ (c : Nat) o, c ≠ B + 3 -> h2.get? c = some o -> h3.get? c = some o := fun c o n e => (u3.2 c n).trans e
  refine wpAny_bind (wpAny_letGo (wpAny_pure (wpAny_bind (wpAny_bind (wpAny_onRaise (wpAny_bind (m := Builtin.SmallTypes.nextOf (.ref (B + 1))) ?_))))))
  refine sq_next (Z.j.at fun o e => k3 _ o (by omega) (k2 _ o (by omega) (k1 _ o (by omega) e))) (hr.at fun o e => k3 _ o (by omega) (k2 _ o (by omega) (k1 _ o (by omega) e))) hy fun h4 i4 u4 => wpAny_pure ?_
  have k4 : ∀ (c : Nat) o, c ≠ B + 1 -> h3.get? c = some o -> h4.get? c = some o := fun c o n e => (u4.2 c n).trans e
  have to4 : IsPair h4 (B + 3) x b := k4 _ _ (by omega) to3
  refine wpAny_bind (wpAny_seqItems to4 rfl (wpAny_bind (wpAny_updateSeq_pair to4 fun h5 to5 u5 => ?_)))
  replace to5 : IsPair h5 (B + 3) x y := to5
  have k5 : ∀ (c : Nat) o, c ≠ B + 3 -> h4.get? c = some o -> h5.get? c = some o := fun c o n e => (u5.2 c n).trans e
  refine wpAny_bind (wpAny_letGo (wpAny_pure (wpAny_pure (wpAny_bind (wpAny_seqItems to5 rfl (wpAny_bind (wpAny_newTuple ?_)))))))
  have sz : h5.objs.size = s.heap.objs.size := by rw [u5.1, u4.1, u3.1, u2.1, u1.1]
  have z5 : h5.get? (B + 4) = some { cls := .type "zip", data := .fields #[.ellipsis, g, .bool false, .ref (B + 2), .ref (B + 3)] } := k5 _ _ (by omega) (k4 _ _ (by omega) (k3 _ _ (by omega) (k2 _ _ (by omega) z1)))
  have lt4 : B + 4 < h5.objs.size := Heap.lt_size z5
  refine wpAny_bind (m := Builtin.SmallTypes.ownedTupleHandOut (.ref (B + 4)) (.ref h5.objs.size)) ?_
  unfold Builtin.SmallTypes.ownedTupleHandOut
  refine wpAny_bind (wpAny_setField_rec (Heap.get?_push_of_some { cls := .type "tuple", data := .seq #[x, y] } z5) (by simp) fun h7 z7 u7 => ?_)
  refine wpAny_setField_rec z7 (by simp) fun h8 z8 u8 => wpAny_pure ⟨.ref h5.objs.size, rfl, ?_⟩
  have k8 : ∀ (c : Nat) o, c ≠ B + 4 -> h5.get? c = some o -> h8.get? c = some o := fun c o n e => (u8.2 c n).trans ((u7.2 c n).trans (Heap.get?_push_of_some _ e))
  have p8 : IsPair h8 h5.objs.size x y := (u8.2 _ (Nat.ne_of_gt lt4)).trans ((u7.2 _ (Nat.ne_of_gt lt4)).trans (Heap.get?_push_size _ rfl))
  have s8 : h8.objs.size = h5.objs.size + 1 := by rw [u8.1, u7.1, Heap.size_push]
  rw [sz] at p8 s8 ⊢
  refine q h8 ⟨?_, k8 _ _ (by omega) (k5 _ _ (by omega) (k4 _ _ (by omega) (k3 _ _ (by omega) (k2 _ _ (by omega) (k1 _ _ (by omega) Z.ti))))), ⟨x, y, k8 _ _ (by omega) to5⟩,
    i2.at fun o e => k8 _ _ (by omega) (k5 _ _ (by omega) (k4 _ _ (by omega) (k3 _ _ (by omega) e))), i4.at fun o e => k8 _ _ (by omega) (k5 _ _ (by omega) e)⟩ p8 s8
    fun c o hc e => k8 _ _ (by omega) (k5 _ _ (by omega) (k4 _ _ (by omega) (k3 _ _ (by omega) (k2 _ _ (by omega) (k1 _ _ (by omega) e)))))
  rw [<- sz]
  exact z8
theorem if_alive {a : Addr} {o : Obj} {Q : Option Obj -> Shared -> Prop} (ho : s.heap.get? a = some o) (h : Q (some o) s) : wpAny (model P w) A (loadIfAlive a) Q E s := fun Γ p _ => by
  unfold loadIfAlive
  rw [Sem.wp_loadIfAlive, ho]
  simpa using h
theorem own_held {Q : Bool -> Shared -> Prop} {T : Nat} {ot : Obj} {c : Bool} (hz : s.heap.get? (B + 4) = some { cls := .type "zip", data := .fields #[rawInt T, .bool c, .bool false, .ref (B + 2), .ref (B + 3)] }) (hT : s.heap.get? T = some ot)
    (q : ∀ h1, h1.get? (B + 4) = some { cls := .type "zip", data := .fields #[rawInt T, .bool true, .bool false, .ref (B + 2), .ref (B + 3)] } -> h1.objs.size = s.heap.objs.size -> (∀ (d : Nat) o, d ≠ B + 4 -> s.heap.get? d = some o -> h1.get? d = some o) -> Q false { s with heap := h1 }) :
    wpAny (model P w) A (Builtin.SmallTypes.ownedTupleIsFree (.ref (B + 4))) Q E s := by
  unfold Builtin.SmallTypes.ownedTupleIsFree
  refine wpAny_bind (wpAny_field hz rfl (x := rawInt T) rfl ?_)
  refine wpAny_bind (m := loadIfAlive ((T : Int).toNat)) (if_alive (o := ot) (by rw [Int.toNat_natCast]; exact hT) ?_)
  rw [if_neg (by simp)]
  refine wpAny_bind (wpAny_field hz rfl (x := .bool c) rfl ?_)
  cases c with
  | true =>
    rw [if_neg (by decide)]
    exact wpAny_pure (q _ hz rfl fun d o _ e => e)
  | false =>
    rw [if_pos (by decide)]
    exact wpAny_bind (wpAny_setField_rec hz (by simp) fun h1 z1 u1 => wpAny_pure (q h1 z1 u1.1 fun d o n e => (u1.2 d n).trans e))
theorem zip_held {Q : Value -> Shared -> Prop} {T : Nat} {ot : Obj} {c : Bool} (Z : ZS k m s.heap B l r n (rawInt T) (.bool c)) (hT : s.heap.get? T = some ot) (hl : Sq k s.heap l xs) (hr : Sq m s.heap r ys) (ll : l < B) (rl : r < B) (hx : xs[n]? = some x) (hy : ys[n]? = some y)
    (q : ∀ h', ZS k m h' B l r (n + 1) (rawInt T) (.bool true) -> IsPair h' s.heap.objs.size x y -> h'.objs.size = s.heap.objs.size + 1 -> KeptZ B s.heap h' -> Q (.ref s.heap.objs.size) { s with heap := h' }) :
    wpAny (model P w) A (Builtin.«zip.__next__» ⟨[.ref (B + 4)], []⟩) (fun fin s' => ∃ v, fin = .done (.ret v) /\ Q v s') E s := by
  obtain ⟨a, b, hto⟩ := Z.to
  refine wpAny_bind (m := field (.ref (B + 4)) 2) (wpAny_field Z.z rfl (x := .bool false) rfl ?_)
  refine wpAny_bind (m := field (.ref (B + 4)) 3) (wpAny_field Z.z rfl (x := .ref (B + 2)) rfl (wpAny_bind (wpAny_seqItems Z.ti rfl ?_)))
  refine wpAny_bind (m := Builtin.SmallTypes.ownedTupleIsFree (.ref (B + 4))) (own_held Z.z hT fun h1 z1 s1 k1 => ?_)
  rw [if_neg Bool.false_ne_true]
  refine wpAny_bind ?_
  rw [<- Array.forIn_toList]
  simp only [List.forIn_cons, List.forIn_nil]
  refine wpAny_bind (wpAny_bind (wpAny_holding (wpAny_bind (m := Builtin.SmallTypes.nextOf (.ref B)) ?_)))
  refine sq_next (Z.i.at fun o => k1 _ o (by omega)) (hl.at fun o => k1 _ o (by omega)) hx fun h2 i2 u2 => wpAny_pure (wpAny_pure ?_)
  have k2 : ∀ (c : Nat) o, c ≠ B -> h1.get? c = some o -> h2.get? c = some o := fun c o n e => (u2.2 c n).trans e
  refine wpAny_bind (wpAny_bind (wpAny_holding (wpAny_bind (m := Builtin.SmallTypes.nextOf (.ref (B + 1))) ?_)))
  refine sq_next (Z.j.at fun o e => k2 _ o (by omega) (k1 _ o (by omega) e)) (hr.at fun o e => k2 _ o (by omega) (k1 _ o (by omega) e)) hy fun h4 i4 u4 => wpAny_pure (wpAny_pure (wpAny_pure ?_))
  have k4 : ∀ (c : Nat) o, c ≠ B + 1 -> h2.get? c = some o -> h4.get? c = some o := fun c o n e => (u4.2 c n).trans e
  have sz : h4.objs.size = s.heap.objs.size := by rw [u4.1, u2.1]; exact s1
  refine wpAny_bind (wpAny_newTuple (hsz := by show 2 <= sizeLine; decide) (wpAny_pure ⟨.ref h4.objs.size, rfl, ?_⟩))
  have p5 : IsPair (h4.push { cls := .type "tuple", data := .seq #[x, y] }) h4.objs.size x y := Heap.get?_push_size _ rfl
  have s5 : (h4.push { cls := .type "tuple", data := .seq #[x, y] }).objs.size = h4.objs.size + 1 := Heap.size_push ..
  rw [sz] at p5 s5 ⊢
  have k5 : ∀ (c : Nat) o, h4.get? c = some o -> (h4.push { cls := .type "tuple", data := .seq #[x, y] }).get? c = some o := fun c o e => Heap.get?_push_of_some _ e
  exact q _ ⟨k5 _ _ (k4 _ _ (by omega) (k2 _ _ (by omega) z1)), k5 _ _ (k4 _ _ (by omega) (k2 _ _ (by omega) (k1 _ _ (by omega) Z.ti))), ⟨a, b, k5 _ _ (k4 _ _ (by omega) (k2 _ _ (by omega) (k1 _ _ (by omega) hto)))⟩,
    i2.at fun o e => k5 _ _ (k4 _ _ (by omega) e), i4.at fun o e => k5 _ _ e⟩ p5 s5 fun c o hc e => k5 _ _ (k4 _ _ (by omega) (k2 _ _ (by omega) (k1 _ _ (by omega) e)))
theorem zip_out {Q : PySem.Fin -> Shared -> Prop} (hA : A.handled = none) (Z : ZS k m s.heap B l r n .none g) (hl : Sq k s.heap l xs) (hr : Sq m s.heap r ys) (ll : l < B) (rl : r < B) (hx : xs[n]? = none \/ ys[n]? = none)
    (q : ∀ h' e, KeptZ B s.heap h' -> (∃ o, h'.get? e = some o /\ o.cls = .type "StopIteration") -> E (.ref e) { s with heap := h' }) : wpAny (model P w) A (Builtin.«zip.__next__» ⟨[.ref (B + 4)], []⟩) Q E s := by
  obtain ⟨a, b, hto⟩ := Z.to
  refine wpAny_bind (m := field (.ref (B + 4)) 2) (wpAny_field Z.z rfl (x := .bool false) rfl ?_)
  refine wpAny_bind (m := field (.ref (B + 4)) 3) (wpAny_field Z.z rfl (x := .ref (B + 2)) rfl (wpAny_bind (wpAny_seqItems Z.ti rfl ?_)))
  refine wpAny_bind (m := Builtin.SmallTypes.ownedTupleIsFree (.ref (B + 4))) ?_
  unfold Builtin.SmallTypes.ownedTupleIsFree
  refine wpAny_bind (wpAny_field Z.z rfl (x := .none) rfl (wpAny_pure ?_))
  rw [if_pos rfl]
  refine wpAny_bind (wpAny_rule (wpAny_bind (wpAny_field Z.z rfl (x := .ref (B + 3)) rfl (wpAny_bind (wpAny_setField_rec Z.z (by simp) fun h1 z1 u1 => wpAny_bind ?_)))))
  replace z1 : h1.get? (B + 4) = some { cls := .type "zip", data := .fields #[.ellipsis, g, .bool false, .ref (B + 2), .ref (B + 3)] } := z1
  have k1 : ∀ (c : Nat) o, c ≠ B + 4 -> s.heap.get? c = some o -> h1.get? c = some o := fun c o n e => (u1.2 c n).trans e
  have nz : ∀ {h : Heap} {e : Nat} {v : Value} {o : Obj}, h.get? (B + 4) = some { cls := .type "zip", data := .fields #[v, g, .bool false, .ref (B + 2), .ref (B + 3)] } -> h.get? e = some o -> o.cls = .type "StopIteration" -> e ≠ B + 4 := fun h1 h2 h3 e => by
    rw [e, h1] at h2
    cases h2
    simp at h3
  simp only [List.zipIdx_cons, List.zipIdx_nil, List.forIn_cons, List.forIn_nil]
  refine wpAny_bind (wpAny_bind (wpAny_onRaise (wpAny_bind (m := Builtin.SmallTypes.nextOf (.ref B)) ?_)))
  cases e1 : xs[n]? with
  | none =>
    refine sq_end hA (Z.i.at fun o => k1 _ o (by omega)) (hl.at fun o => k1 _ o (by omega)) e1 fun h2 e u2 he => ?_
    obtain ⟨oe, he, ce⟩ := he
    have k2 : ∀ (c : Nat) o, c ≠ B -> h1.get? c = some o -> h2.get? c = some o := fun c o n e => u2 c o n e
    have z2 := k2 _ _ (show B + 4 ≠ B by omega) z1
    refine wpAny_setField_rec z2 (by simp) fun h3 z3 u3 => q h3 e (fun c o hc x => (u3.2 c (show (c : Nat) ≠ B + 4 by omega)).trans (k2 _ _ (by omega) (k1 _ _ (by omega) x))) ⟨oe, (u3.2 e (nz z2 he ce)).trans he, ce⟩
  | some x =>
    have hy : ys[n]? = none := hx.resolve_left (by rw [e1]; simp)
    refine sq_next (Z.i.at fun o => k1 _ o (by omega)) (hl.at fun o => k1 _ o (by omega)) e1 fun h2 i2 u2 => wpAny_pure ?_
    have k2 : ∀ (c : Nat) o, c ≠ B -> h1.get? c = some o -> h2.get? c = some o := fun c o n e => (u2.2 c n).trans e
    have to2 : IsPair h2 (B + 3) a b := k2 _ _ (by omega) (k1 _ _ (by omega) hto)
    refine wpAny_bind (wpAny_seqItems to2 rfl (wpAny_bind (wpAny_updateSeq_pair to2 fun h3 to3 u3 => ?_)))
    have k3 : ∀ (c : Nat) o, c ≠ B + 3 -> h2.get? c = some o -> h3.get? c = some o := fun c o n e => (u3.2 c n).trans e
    refine wpAny_bind (wpAny_letGo (wpAny_pure (wpAny_bind (wpAny_bind (wpAny_onRaise (wpAny_bind (m := Builtin.SmallTypes.nextOf (.ref (B + 1))) ?_))))))
    refine sq_end hA (Z.j.at fun o e => k3 _ o (by omega) (k2 _ o (by omega) (k1 _ o (by omega) e))) (hr.at fun o e => k3 _ o (by omega) (k2 _ o (by omega) (k1 _ o (by omega) e))) hy fun h4 e u4 he => ?_
    obtain ⟨oe, he, ce⟩ := he
    have k4 : ∀ (c : Nat) o, c ≠ B + 1 -> h3.get? c = some o -> h4.get? c = some o := fun c o n e => u4 c o n e
    have z4 := k4 _ _ (show B + 4 ≠ B + 1 by omega) (k3 _ _ (by omega) (k2 _ _ (by omega) z1))
    refine wpAny_setField_rec z4 (by simp) fun h5 z5 u5 => q h5 e (fun c o hc x => (u5.2 c (show (c : Nat) ≠ B + 4 by omega)).trans (k4 _ _ (by omega) (k3 _ _ (by omega) (k2 _ _ (by omega) (k1 _ _ (by omega) x))))) ⟨oe, (u5.2 e (nz z4 he ce)).trans he, ce⟩
theorem zip_out_held {Q : PySem.Fin -> Shared -> Prop} {T : Nat} {ot : Obj} {c : Bool} (hA : A.handled = none) (Z : ZS k m s.heap B l r n (rawInt T) (.bool c)) (hT : s.heap.get? T = some ot) (hl : Sq k s.heap l xs) (hr : Sq m s.heap r ys) (ll : l < B) (rl : r < B) (hx : xs[n]? = none \/ ys[n]? = none)
    (q : ∀ h' e, KeptZ B s.heap h' -> (∃ o, h'.get? e = some o /\ o.cls = .type "StopIteration") -> E (.ref e) { s with heap := h' }) : wpAny (model P w) A (Builtin.«zip.__next__» ⟨[.ref (B + 4)], []⟩) Q E s := by
  refine wpAny_bind (m := field (.ref (B + 4)) 2) (wpAny_field Z.z rfl (x := .bool false) rfl ?_)
  refine wpAny_bind (m := field (.ref (B + 4)) 3) (wpAny_field Z.z rfl (x := .ref (B + 2)) rfl (wpAny_bind (wpAny_seqItems Z.ti rfl ?_)))
  refine wpAny_bind (m := Builtin.SmallTypes.ownedTupleIsFree (.ref (B + 4))) (own_held Z.z hT fun h1 z1 s1 k1 => ?_)
  rw [if_neg Bool.false_ne_true]
  refine wpAny_bind ?_
  rw [<- Array.forIn_toList]
  simp only [List.forIn_cons, List.forIn_nil]
  refine wpAny_bind (wpAny_bind (wpAny_holding (wpAny_bind (m := Builtin.SmallTypes.nextOf (.ref B)) ?_)))
  cases e1 : xs[n]? with
  | none => exact sq_end hA (Z.i.at fun o => k1 _ o (by omega)) (hl.at fun o => k1 _ o (by omega)) e1 fun h2 e u2 he => q h2 e (fun c o hc x => u2 _ _ (show (c : Nat) ≠ B by omega) (k1 _ _ (by omega) x)) he
  | some x =>
    have hy : ys[n]? = none := hx.resolve_left (by rw [e1]; simp)
    refine sq_next (Z.i.at fun o => k1 _ o (by omega)) (hl.at fun o => k1 _ o (by omega)) e1 fun h2 i2 u2 => wpAny_pure (wpAny_pure ?_)
    have k2 : ∀ (c : Nat) o, c ≠ B -> h1.get? c = some o -> h2.get? c = some o := fun c o n e => (u2.2 c n).trans e
    refine wpAny_bind (wpAny_bind (wpAny_holding (wpAny_bind (m := Builtin.SmallTypes.nextOf (.ref (B + 1))) ?_)))
    exact sq_end hA (Z.j.at fun o e => k2 _ o (by omega) (k1 _ o (by omega) e)) (hr.at fun o e => k2 _ o (by omega) (k1 _ o (by omega) e)) hy fun h4 e u4 he => q h4 e (fun c o hc x => u4 _ _ (show (c : Nat) ≠ B + 1 by omega) (k2 _ _ (by omega) (k1 _ _ (by omega) x))) he
end
end L2
namespace L2
open PySem PySem.Spec PyProof.Rows
def ZF (B : Nat) (h : Heap) (f g : Value) : Prop := f = .none \/ ∃ (T : Nat) (c : Bool) (o : Obj), f = rawInt T /\ g = .bool c /\ h.get? T = some o /\ B + 5 < T
section
variable {P : Program} {w : World} {A : Around} {E : Value -> Shared -> Prop} {s : Shared} {k m : Bool} {B l r : Nat} {n : Nat} {xs ys : Array Value} {x y f g : Value}
theorem zip_step {Q : Option Value -> Shared -> Prop} (Z : ZS k m s.heap B l r n f g) (hf : ZF B s.heap f g) (hl : Sq k s.heap l xs) (hr : Sq m s.heap r ys) (ll : l < B) (rl : r < B) (hx : xs[n]? = some x) (hy : ys[n]? = some y)
    (q : ∀ h' (T : Nat) (c : Bool), ZS k m h' B l r (n + 1) (rawInt T) (.bool c) -> (T = s.heap.objs.size \/ B + 5 < T /\ ∃ o, s.heap.get? T = some o) -> IsPair h' s.heap.objs.size x y -> h'.objs.size = s.heap.objs.size + 1 -> KeptZ B s.heap h' -> Q (some (.ref s.heap.objs.size)) { s with heap := h' }) :
    wpAny (model P w) A (pyNext (.ref (B + 4))) Q E s := by
  have ty : s.TypeIs (.ref (B + 4)) "zip" := ⟨_, Z.z, rfl⟩
  unfold pyNext
  refine wpAny_bind (wpAny_attempt (wpAny_callSpecial?_slot ty F.slot_zip_next (wpAny_call_entry F.slot_zip_next ty F.entry_zip_next ?_ (F.args_zip_next_1 (.ref (B + 4))))))
  rcases hf with rfl | ⟨T, c, o, rfl, rfl, hT, lT⟩
  · exact zip_free Z hl hr ll rl hx hy fun h' z p sz kz => wpAny_pure (q h' _ _ z (.inl rfl) p sz kz)
  · exact zip_held Z hT hl hr ll rl hx hy fun h' z p sz kz => wpAny_pure (q h' _ _ z (.inr ⟨lT, o, hT⟩) p sz kz)
theorem zip_stop {Q : Option Value -> Shared -> Prop} (hA : A.handled = none) (Z : ZS k m s.heap B l r n f g) (hf : ZF B s.heap f g) (hl : Sq k s.heap l xs) (hr : Sq m s.heap r ys) (ll : l < B) (rl : r < B) (hx : xs[n]? = none \/ ys[n]? = none)
    (q : ∀ h', KeptZ B s.heap h' -> Q none { s with heap := h' }) : wpAny (model P w) A (pyNext (.ref (B + 4))) Q E s := by
  have ty : s.TypeIs (.ref (B + 4)) "zip" := ⟨_, Z.z, rfl⟩
  unfold pyNext
  refine wpAny_bind (wpAny_attempt (wpAny_callSpecial?_slot ty F.slot_zip_next (wpAny_call_entry F.slot_zip_next ty F.entry_zip_next ?_ (F.args_zip_next_1 (.ref (B + 4))))))
  have fin : ∀ h' e, KeptZ B s.heap h' -> (∃ o, h'.get? e = some o /\ o.cls = .type "StopIteration") -> wpAny (model P w) A (do
      if <- isInstance (.ref e) (.type "StopIteration") then pure none else throw (.ref e)) Q E { s with heap := h' } := by
    intro h' e kz ⟨o, ho, hc⟩
    exact wpAny_bind (wpAny_isInstance (T := "StopIteration") (b := true) ⟨o, ho, hc⟩ isSubtype_stop (wpAny_pure (q _ kz)))
  rcases hf with rfl | ⟨T, c, o, rfl, rfl, hT, lT⟩
  · exact zip_out hA Z hl hr ll rl hx fun h' e kz he => fin h' e kz he
  · exact zip_out_held hA Z hT hl hr ll rl hx fun h' e kz he => fin h' e kz he
end
structure ZL (k m : Bool) (h0 h : Heap) (B l r n : Nat) (xs ys acc : Array Value) (c : Nat) (f g : Value) : Prop where
  zs : ZS k m h B l r n f g
  zf : ZF B h f g
  hl : Sq k h l xs
  hr : Sq m h r ys
  sz : h.objs.size = B + 6 + n
  lst : h.get? (B + 5) = some { cls := .type "list", data := .seq acc c }
  asz : acc.size = n
  par : ∀ i x y, i < n -> xs[i]? = some x -> ys[i]? = some y -> acc[i]? = some (.ref (B + 6 + i)) /\ IsPair h (B + 6 + i) x y
  old : ∀ (b : Nat) o, b < B -> h0.get? b = some o -> h.get? b = some o
section
variable {P : Program} {w : World} {A : Around} {R : Result -> Shared -> Prop} {h0 : Heap} {k m : Bool} {B l r N : Nat} {xs ys : Array Value} {res : Value}
theorem zip_loop (hA : A.handled = none) (ll : l < B) (rl : r < B) (hN : N <= sizeLine) (hx : N <= xs.size) (hy : N <= ys.size) (he : xs.size <= N \/ ys.size <= N) : ∀ (d n : Nat) (s : Shared) (acc : Array Value) (c : Nat) (f g : Value), n + d = N -> ZL k m h0 s.heap B l r n xs ys acc c f g ->
    (∀ h' acc' c', h'.get? (B + 5) = some { cls := .type "list", data := .seq acc' c' } -> acc'.size = N -> (∀ i x y, i < N -> xs[i]? = some x -> ys[i]? = some y -> acc'[i]? = some (.ref (B + 6 + i)) /\ IsPair h' (B + 6 + i) x y) -> (∀ (b : Nat) o, b < B -> h0.get? b = some o -> h'.get? b = some o) -> R (.ok (.ret res)) { s with heap := h' }) ->
    codeAny (model P w) A (.builtin "list.extend.loop" ⟨[.ref (B + 5), .ref (B + 4), res], []⟩) R s
  | 0, n, s, acc, c, f, g, hd, Z, q => by
    have e : n = N := by omega
    subst e
    refine codeAny_builtin F.entry_extend_loop ?_
    rw [Around.under_plainId F.plain_extend_loop _]
    refine wpAny_bind (m := pyNext (.ref (B + 4))) (zip_stop (A := A.in1) hA Z.zs Z.zf Z.hl Z.hr ll rl ?_ fun h' kz => wpAny_pure (q h' acc c (kz _ _ (by omega) Z.lst) Z.asz ?_ fun b o hb x => kz _ _ (by omega) (Z.old b o hb x)))
    · rcases he with he | he
      · exact .inl (Array.getElem?_eq_none (by omega))
      · exact .inr (Array.getElem?_eq_none (by omega))
    · intro i x y hi h1 h2
      obtain ⟨p1, p2⟩ := Z.par i x y hi h1 h2
      exact ⟨p1, kz _ _ (by omega) p2⟩
  | d + 1, n, s, acc, c, f, g, hd, Z, q => by
    refine codeAny_builtin F.entry_extend_loop ?_
    rw [Around.under_plainId F.plain_extend_loop _]
    have hx' : n < xs.size := by omega
    have hy' : n < ys.size := by omega
    refine wpAny_bind (m := pyNext (.ref (B + 4))) (zip_step (A := A.in1) Z.zs Z.zf Z.hl Z.hr ll rl (Array.getElem?_eq_getElem hx') (Array.getElem?_eq_getElem hy') fun h' T ct z hT p sz kz => ?_)
    have s0 := Z.sz
    rw [s0] at p sz
    have l1 : h'.get? (B + 5) = some { cls := .type "list", data := .seq acc c } := kz _ _ (by omega) Z.lst
    have as := Z.asz
    have up : ∀ (b : Nat) o, b ≠ B + 5 -> h'.get? b = some o -> (h'.update (B + 5) (Obj.mapSeq (·.push (.ref (B + 6 + n))))).get? b = some o := fun b o nb e => (Heap.get?_update_other _ _ (Ne.symm nb)).trans e
    rw [s0]
    refine wpAny_bind (m := updateSeq (B + 5) (·.push (.ref (B + 6 + n)))) (wpAny_updateSeq l1 rfl (wpAny_pure ⟨plainId_quiet F.plain_extend_loop _, zip_loop hA ll rl hN hx hy he d (n + 1) _ (acc.push (.ref (B + 6 + n))) _ (rawInt T) (.bool ct) (by omega) ⟨?_, ?_, ?_, ?_, ?_, Heap.get?_update_self _ l1 rfl, ?_, ?_, ?_⟩ q⟩) (by omega) (by show (acc.push _).size <= sizeLine + 1; rw [Array.size_push]; omega))
    · exact z.at fun b o h1 h2 e => up b o (by omega) e
    · rcases hT with e | ⟨lT, o, hT⟩
      · rw [s0] at e
        subst e
        exact .inr ⟨_, ct, _, rfl, rfl, up _ _ (by omega) p, by omega⟩
      · exact .inr ⟨T, ct, o, rfl, rfl, up _ _ (by omega) (kz _ _ (by omega) hT), lT⟩
    · exact Z.hl.at fun o e => up _ o (by omega) (kz _ o (by omega) e)
    · exact Z.hr.at fun o e => up _ o (by omega) (kz _ o (by omega) e)
    · show (h'.update _ _).objs.size = _
      rw [Heap.size_update, sz]
      omega
    · rw [Array.size_push, as]
    · intro i x y hi h1 h2
      by_cases c1 : i = n
      · subst c1
        rw [Array.getElem?_eq_getElem hx'] at h1
        rw [Array.getElem?_eq_getElem hy'] at h2
        cases h1
        cases h2
        refine ⟨?_, up _ _ (by omega) p⟩
        rw [Array.getElem?_push, if_pos as.symm]
      · obtain ⟨p1, p2⟩ := Z.par i x y (by omega) h1 h2
        refine ⟨?_, up _ _ (by omega) (kz _ _ (by omega) p2)⟩
        rw [Array.getElem?_push, if_neg (by omega)]
        exact p1
    · exact fun b o hb x => up _ _ (by omega) (kz _ _ (by omega) (Z.old b o hb x))
end
end L2
namespace L2
open PySem PySem.Spec PyProof.Rows
theorem zip_len : typeLookup (.type "zip") "__len__" = pure none := by rw [typeLookup_type, builtinLookup_eq_fast]; kernel_rfl
theorem zip_hint : typeLookup (.type "zip") "__length_hint__" = pure none := by rw [typeLookup_type, builtinLookup_eq_fast]; kernel_rfl
section
variable {P : Program} {w : World} {A : Around} {E : Value -> Shared -> Prop} {s : Shared} {k m : Bool} {B l r N : Nat} {xs ys : Array Value}
theorem list_zip {Q : Value -> Shared -> Prop} (hA : A.handled = none) (Z : ZS k m s.heap B l r 0 .none (.bool false)) (hl : Sq k s.heap l xs) (hr : Sq m s.heap r ys) (ll : l < B) (rl : r < B) (sz : s.heap.objs.size = B + 5)
    (hN : N <= sizeLine) (hx : N <= xs.size) (hy : N <= ys.size) (he : xs.size <= N \/ ys.size <= N)
    (q : ∀ h' acc' c', h'.get? (B + 5) = some { cls := .type "list", data := .seq acc' c' } -> acc'.size = N -> (∀ i x y, i < N -> xs[i]? = some x -> ys[i]? = some y -> acc'[i]? = some (.ref (B + 6 + i)) /\ IsPair h' (B + 6 + i) x y) -> (∀ (b : Nat) o, b < B -> s.heap.get? b = some o -> h'.get? b = some o) -> Q (.ref (B + 5)) { s with heap := h' }) :
    wpAny (model P w) A (call (.type "list") [.ref (B + 4)]) Q E s := by
  refine callType_codes (Q₁ := fun obj s₁ => obj = .ref (B + 5) /\ s₁ = { s with heap := s.heap.push { cls := .type "list", data := .seq #[] } }) F.called_list (F.typeCall_list_1 _) F.entry_list_init (code_list_new _ ⟨by rw [sz], rfl⟩) ?_
  rintro obj s1 ⟨rfl, rfl⟩
  have l0 : (s.heap.push { cls := .type "list", data := .seq #[] }).get? (B + 5) = some { cls := .type "list", data := .seq #[] } := by
    rw [<- sz]
    exact Heap.get?_push_size _ rfl
  have z0 : (s.heap.push { cls := .type "list", data := .seq #[] }).objs.size = B + 6 := by rw [Heap.size_push, sz]
  have up : ∀ (b : Nat) o, s.heap.get? b = some o -> (s.heap.push { cls := .type "list", data := .seq #[] }).get? b = some o := fun b o e => Heap.get?_push_of_some _ e
  generalize s.heap.push { cls := .type "list", data := .seq #[] } = h at l0 z0 up
  refine ⟨⟨_, l0, rfl⟩, F.args_list_init_2 _ _, ?_⟩
  refine wpAny_bind (m := Builtin.List.listItems (.ref (B + 5))) ?_
  unfold Builtin.List.listItems
  refine wpAny_bind (wpAny_seqItems l0 rfl (wpAny_pure ?_))
  refine wpAny_bind (m := updateSeq (B + 5) (fun _ => #[])) (wpAny_updateSeq l0 rfl ?_)
  have l1 := Heap.get?_update_self (Obj.mapSeq (fun _ => (#[] : Array Value))) l0 rfl
  have u1 : ∀ (b : Nat) o, b ≠ B + 5 -> h.get? b = some o -> (h.update (B + 5) (Obj.mapSeq (fun _ => (#[] : Array Value)))).get? b = some o := fun b o n e => (Heap.get?_update_other _ _ (Ne.symm n)).trans e
  have z1 : (h.update (B + 5) (Obj.mapSeq (fun _ => (#[] : Array Value)))).objs.size = B + 6 := by rw [Heap.size_update, z0]
  refine wpAny_bind (wpAny_letGo ?_)
  show wpAny _ _ (Builtin.List.listExtendWith (.ref (B + 5)) (.ref (B + 4)) .none) _ _ _
  generalize h.update (B + 5) (Obj.mapSeq (fun _ => (#[] : Array Value))) = h1 at l1 u1 z1 ⊢
  replace up : ∀ (b : Nat) o, b < B + 5 -> s.heap.get? b = some o -> h1.get? b = some o := fun b o n e => u1 b o (by omega) (up b o e)
  have Z1 : ZS k m h1 B l r 0 .none (.bool false) := Z.at fun b o h1 h2 e => up b o (by omega) e
  unfold Builtin.List.listExtendWith
  refine wpAny_bind (wpAny_typeOf (T := "zip") ⟨_, Z1.z, rfl⟩ ?_)
  have n1 : Builtin.List.listSameRef (.ref (B + 5)) (.ref (B + 4)) = false := by simp [Builtin.List.listSameRef]
  have n2 : (Value.type "zip" == Value.type "list" || Value.type "zip" == Value.type "tuple") = false := by decide
  rw [n1, Bool.false_or, n2, if_neg Bool.false_ne_true]
  refine wpAny_bind (wpAny_pyIter_zip Z1.z (wpAny_bind (wpAny_holding ?_)))
  unfold Builtin.List.listLengthHint
  refine wpAny_bind (wpAny_specialOf (T := "zip") ⟨_, Z1.z, rfl⟩ zip_len ?_)
  refine wpAny_bind (m := specialOf (Value.ref (B + 4)) (Str.ofString "__length_hint__")) (wpAny_specialOf (T := "zip") ⟨_, Z1.z, rfl⟩ zip_hint (wpAny_pure ?_))
  refine wpAny_bind (m := rule "list.extend.makes-room") (wpAny_rule (wpAny_bind ?_))
  refine wpAny_bind (m := updateSeq (B + 5) (·.push .none)) (wpAny_updateSeq l1 rfl ?_)
  have l2 := Heap.get?_update_self (Obj.mapSeq (·.push Value.none)) l1 rfl
  refine wpAny_updateSeq (a := B + 5) (f := (·.pop)) (hz := by seq_fits) l2 rfl ?_
  have l3 := Heap.get?_update_self (Obj.mapSeq (·.pop)) l2 rfl
  have u3 : ∀ (b : Nat) o, b ≠ B + 5 -> h1.get? b = some o -> ((h1.update (B + 5) (Obj.mapSeq (·.push Value.none))).update (B + 5) (Obj.mapSeq (·.pop))).get? b = some o := fun b o n e => (Heap.get?_update_other _ _ (Ne.symm n)).trans ((Heap.get?_update_other _ _ (Ne.symm n)).trans e)
  refine wpAny_pure ⟨plainId_quiet F.plain_extend_loop _, zip_loop (h0 := s.heap) (A := A.in1) (acc := #[]) hA ll rl hN hx hy he N 0 _ _ .none (.bool false) (by omega) ⟨Z1.at fun b o h1 h2 e => u3 b o (by omega) e, .inl rfl, ?_, ?_, ?_, l3, rfl, ?_, ?_⟩ ?_⟩
  · exact hl.at fun o e => u3 _ o (by omega) (up _ o (by omega) e)
  · exact hr.at fun o e => u3 _ o (by omega) (up _ o (by omega) e)
  · show (Heap.update (Heap.update _ _ _) _ _).objs.size = _
    rw [Heap.size_update, Heap.size_update, z1]
  · intro i x y hi
    omega
  · exact fun b o hb e => u3 _ _ (by omega) (up _ _ (by omega) e)
  · exact fun h' acc' c' h1 h2 h3 h4 => ⟨rfl, q h' acc' c' h1 h2 h3 h4⟩
end
theorem vals_refs (g : Nat -> Nat) : ∀ l : List Nat, Vals (l.map fun i => V.ref (g i)) (l.map fun i => Value.ref (g i))
  | [] => .nil
  | i :: l => .cons rfl (vals_refs g l)
def hpZ (H : Hp) (B N : Nat) (f : Nat -> List V) : Hp := fun (b : Nat) => if b = B + 5 then some (.lst ((List.range N).map fun i => V.ref (B + 6 + i))) else if B + 6 <= b /\ b < B + 6 + N then some (.tup (f (b - (B + 6)))) else H b
theorem hpZ_old {H : Hp} {B N : Nat} {f : Nat -> List V} {b : Nat} (h : b < B + 5) : hpZ H B N f b = H b := by
  unfold hpZ
  rw [if_neg (by omega), if_neg (by omega)]
theorem hpZ_lst {H : Hp} {B N : Nat} {f : Nat -> List V} : hpZ H B N f (B + 5) = some (.lst ((List.range N).map fun i => V.ref (B + 6 + i))) := if_pos rfl
theorem hpZ_tup {H : Hp} {B N : Nat} {f : Nat -> List V} {i : Nat} (h : i < N) : hpZ H B N f (B + 6 + i) = some (.tup (f i)) := by
  unfold hpZ
  rw [if_neg (by omega), if_pos (by omega)]
  rw [show B + 6 + i - (B + 6) = i by omega]
theorem Inv.zipped {X : Cx} {pins : List (Addr × Obj)} {σ : St} {H : Hp} {s : Shared} {h' : Heap} {B N : Nat} {f : Nat -> List V} {us : Nat -> Array Value} {acc : Array Value} {c : Nat} (I : Inv X pins σ H s) (hB : s.heap.objs.size = B) (k : ∀ (b : Nat) o, b < B -> s.heap.get? b = some o -> h'.get? b = some o)
    (hl : h'.get? (B + 5) = some { cls := .type "list", data := .seq acc c }) (hN : N <= sizeLine) (hs : acc.size = N) (ha : ∀ i, i < N -> acc[i]? = some (.ref (B + 6 + i))) (ht : ∀ i, i < N -> (f i).length <= sizeLine /\ Vals (f i) (us i).toList /\ h'.get? (B + 6 + i) = some { cls := .type "tuple", data := .seq (us i) }) :
    Inv X pins σ (hpZ H B N f) { s with heap := h' } := by
  have lt : ∀ {b : Nat} {u}, H b = some u -> b < B := fun e => by rw [<- hB]; exact I.hok.lt e
  have lt' : ∀ {b : Nat} {o}, s.heap.get? b = some o -> b < B := fun e => by rw [<- hB]; exact Heap.lt_size e
  refine I.un (t' := s.toks) ⟨fun b o e _ _ _ => k b o (lt' e) e, fun b o e _ _ _ => ⟨o.slots, k b o (lt' e) e⟩, fun b o e n _ => by rw [hpZ_old (by have := lt' e; omega)]; exact n, fun b o e _ => ⟨o, k b o (lt' e) e⟩,
    fun b xs e => by rw [hpZ_old (by have := lt e; omega)]; exact e, fun b u xs e => by rw [hpZ_old (by have := lt e; omega)]; exact e, fun b ps e => ⟨#[], by rw [hpZ_old (by have := lt e; omega), e]; simp⟩⟩ fun (b : Nat) u e => ?_
  by_cases c1 : b = B + 5
  · subst c1
    rw [hpZ_lst] at e
    cases e
    refine ⟨by simpa using hN, acc.toList, c, ?_, by simpa using hl⟩
    have e2 : acc.toList = (List.range N).map fun i => Value.ref (B + 6 + i) := by
      apply List.ext_getElem?
      intro i
      by_cases hi : i < N
      · have := ha i hi
        simp [hi]
        simpa using this
      · simp [hi]
        omega
    rw [e2]
    exact vals_refs _ _
  · by_cases c2 : B + 6 <= b /\ b < B + 6 + N
    · obtain ⟨i, rfl⟩ : ∃ i, b = B + 6 + i := ⟨b - (B + 6), by omega⟩
      have hi : i < N := by omega
      rw [hpZ_tup hi] at e
      cases e
      obtain ⟨t1, t2, t3⟩ := ht i hi
      exact ⟨t1, (us i).toList, t2, ⟨_, t3, rfl, 0, rfl⟩⟩
    · have e' : H b = some u := by
        unfold hpZ at e
        rw [if_neg c1, if_neg c2] at e
        exact e
      exact (I.hok b u e').stay (fun d v _ q => k d v (lt' q) q) (fun d q => by rw [hpZ_old (by have := lt q; omega)]; exact q) fun d xs q => by rw [hpZ_old (by have := lt q; omega)]; exact q
def rZipL (K : PySem.W.Frag) : List V -> Hp -> VK -> Prop := fun vs H Q => ∃ a b xs ys, vs = [.ref a, .ref b] /\ (SqL K H a xs \/ SqT K H a xs) /\ (SqL K H b ys \/ SqT K H b ys) /\
  ∀ (H' : Hp) (p : Addr) (ps : List Addr), Same H H' -> H p = none -> H' p = some (.lst (ps.map V.ref)) -> ps.length = min xs.length ys.length -> (∀ t ∈ ps, H t = none /\ t ≠ p) -> ps.Nodup -> (∀ (i : Nat) x y, xs[i]? = some x -> ys[i]? = some y -> ∃ t, ps[i]? = some t /\ H' t = some (.tup [x, y])) -> Q (.ref p) H'
def tZipL (K : PySem.W.Frag) (ta : TA) : TE := fun σ H Q => ta σ H fun vs H1 => rZipL K vs H1 Q
theorem Inv.sq {X : Cx} {pins : List (Addr × Obj)} {σ : St} {H : Hp} {s : Shared} {a : Addr} {xs : List V} (I : Inv X pins σ H s) (h : SqL X.K H a xs \/ SqT X.K H a xs) : ∃ (k : Bool) (its : List Value), Vals xs its /\ Sq k s.heap a its.toArray /\ xs.length <= sizeLine /\ (a : Nat) < s.heap.objs.size := by
  rcases h with h | h
  · obtain ⟨its, r, p, z⟩ := I.list h
    have ⟨o, n, e, _⟩ := p
    exact ⟨true, its, r, p.isList, z, Heap.lt_size e⟩
  · obtain ⟨its, r, p, z⟩ := I.tuple h
    have ⟨o, e, _⟩ := p
    exact ⟨false, its, r, p, z, Heap.lt_size e⟩
section
variable {X : Cx} {a b : Expr} {ta : TA} {p1 p2 pos1 pos2 : Pos}
theorem pe_zipL (hc : X.calm = true) (hgL : Gl X "list") (hmL : X.mg "list" = none) (hgZ : Gl X "zip") (hmZ : X.mg "zip" = none) (ha : PA X [a, b] ta)
    (h1 : starEach [a, b] X.env = [(false, eval a X.env), (false, eval b X.env)] := by rfl) (h2 : starEach [b] X.env = [(false, eval b X.env)] := by rfl) : PE X (.Call (.Name "list" p1) [.Call (.Name "zip" p2) [a, b] [] pos2] [] pos1) (tZipL X.K ta) := by
  intro pins s σ H Q I h
  refine Call_ (ld_blt I hgL hmL PyProof.Rows.boot_list (PyProof.Rows.callWith_type1 (Calls.spliced_cons (Call_ (ld_blt I hgZ hmZ boot_zip (PyProof.Rows.callWith_type1 (thn (ha pos2 pins s σ H _ I h) fun us s1 g => ?_) (by rw [h1, h2]) (by rw [h2]; rfl))))) rfl rfl))
  obtain ⟨vs, H1, I1, r1, a1, b1, xs, ys, rfl, hq1, hq2, q⟩ := g
  obtain ⟨u, u', rfl, e1, e2⟩ := vals2 r1
  cases e1
  cases e2
  obtain ⟨k1, i1, v1, q1, z1, l1⟩ := I1.sq hq1
  obtain ⟨k2, i2, v2, q2, z2, l2⟩ := I1.sq hq2
  refine zip_call q1 q2 fun h' Z sz kp => Calls.spliced_nil ?_
  have hh : X.A.handled = none := I1.ok.hd hc
  have n1 := v1.length
  have n2 := v2.length
  refine list_zip (s := { s1 with heap := h' }) (N := min xs.length ys.length) hh Z (q1.at fun o => kp _ o) (q2.at fun o => kp _ o) l1 l2 sz (by omega) (by rw [List.size_toArray]; omega) (by rw [List.size_toArray]; omega) (by rw [List.size_toArray, List.size_toArray]; omega) fun h'' acc c hl hs hp ho => ?_
  have pairs : ∀ i, i < min xs.length ys.length -> ∃ x y u v, xs[i]? = some x /\ ys[i]? = some y /\ i1[i]? = some u /\ i2[i]? = some v /\ RelV x u /\ RelV y v := fun i hi => by
    have c1 : i < xs.length := by omega
    have c2 : i < ys.length := by omega
    obtain ⟨u, e1, r1⟩ := v1.get (List.getElem?_eq_getElem c1)
    obtain ⟨v, e2, r2⟩ := v2.get (List.getElem?_eq_getElem c2)
    exact ⟨_, _, u, v, List.getElem?_eq_getElem c1, List.getElem?_eq_getElem c2, e1, e2, r1, r2⟩
  have I2 : Inv X pins σ (hpZ H1 s1.heap.objs.size (min xs.length ys.length) fun i => [xs.getD i .non, ys.getD i .non]) { s1 with heap := h'' } := by
    refine I1.zipped (us := fun i => #[i1.getD i .none, i2.getD i .none]) (acc := acc) (c := c) rfl (fun b o hb e => ho b o hb (kp _ _ e)) hl (by omega) hs (fun i hi => ?_) fun i hi => ?_
    · obtain ⟨x, y, u, v, _, _, e1, e2, _⟩ := pairs i hi
      exact (hp i u v hi (by simpa using e1) (by simpa using e2)).1
    · obtain ⟨x, y, u, v, f1, f2, e1, e2, r1, r2⟩ := pairs i hi
      refine ⟨by show 2 <= sizeLine; decide, ?_, ?_⟩
      · rw [List.getD_eq_getElem?_getD, List.getD_eq_getElem?_getD, f1, f2]
        rw [List.getD_eq_getElem?_getD, List.getD_eq_getElem?_getD, e1, e2]
        exact .cons r1 (.cons r2 .nil)
      · rw [List.getD_eq_getElem?_getD, List.getD_eq_getElem?_getD, e1, e2]
        exact (hp i u v hi (by simpa using e1) (by simpa using e2)).2
  have old : ∀ {c : Nat} {o}, H1 c = some o -> c < s1.heap.objs.size := fun e => I1.hok.lt e
  refine ⟨.ref (s1.heap.objs.size + 5), _, I2, rfl, q _ _ ((List.range (min xs.length ys.length)).map fun i => s1.heap.objs.size + 6 + i) (fun c o e => ?_) (I1.hok.fresh (Nat.le_add_right _ _)) ?_ (by simp) ?_ ?_ ?_⟩
  · rw [hpZ_old (by have := old e; omega)]
    exact e
  · rw [hpZ_lst, List.map_map]
    rfl
  · intro t ht
    obtain ⟨i, _, rfl⟩ := List.mem_map.mp ht
    refine ⟨I1.hok.fresh ?_, ?_⟩
    · show s1.heap.objs.size <= s1.heap.objs.size + 6 + i
      omega
    · show s1.heap.objs.size + 6 + i ≠ s1.heap.objs.size + 5
      omega
  · refine List.Pairwise.map _ (fun i j (ne : i ≠ j) e => ne ?_) List.nodup_range
    have e' : s1.heap.objs.size + 6 + i = s1.heap.objs.size + 6 + j := e
    exact Nat.add_left_cancel e'
  · intro i x y hx hy
    have c1 : i < xs.length := (List.getElem?_eq_some_iff.mp hx).1
    have c2 : i < ys.length := (List.getElem?_eq_some_iff.mp hy).1
    refine ⟨s1.heap.objs.size + 6 + i, ?_, ?_⟩
    · rw [List.getElem?_map, List.getElem?_range (by omega)]
      rfl
    · rw [hpZ_tup (by omega), List.getD_eq_getElem?_getD, List.getD_eq_getElem?_getD, hx, hy]
      rfl
theorem je_zipL (hc : X.calm = true) (hgL : Gl X "list") (hmL : X.mg "list" = none) (hgZ : Gl X "zip") (hmZ : X.mg "zip" = none) (ha : jA X [a, b] ta) (h1 : isStar a = false := by rfl) (h2 : isStar b = false := by rfl) :
    jE X (.Call (.Name "list" p1) [.Call (.Name "zip" p2) [a, b] [] pos2] [] pos1) (tZipL X.K ta) := ⟨pe_zipL hc hgL hmL hgZ hmZ ha.out (by rw [star_cons h1, star_cons h2]; rfl) (by rw [star_cons h2]; rfl)⟩
end
end L2
namespace L2
open PySem PySem.Spec PyProof.Rows
theorem KeptZ.of {B : Nat} {h h' : Heap} (z : KeptZ B h h') : ∀ (b : Nat) o, b ∉ [B, B + 1, B + 2, B + 3, B + 4] -> h.get? b = some o -> h'.get? b = some o := fun b o n e => z b o (by simp only [List.mem_cons, List.not_mem_nil, or_false, not_or] at n; omega) e
section
variable {X : Cx} {elts : List Expr} {n : Nat} {tpos : Pos}
end
end L2
namespace L2
open PySem PySem.Spec PySem.Calls PyProof.Rows
section
variable {P : Program} {w : World} {A : Around} {E : Value -> Shared -> Prop} {s : Shared} {K : PySem.W.Frag}
end
section
variable {X : Cx} {e C : Addr} {oe : Obj} {ex : Expr} {te : TE} {name : Str} {pos : Pos} {f : Addr}
end
section
variable {X : Cx} {Ch : Addr} {x n : Str} {i k : Nat} {np hpos tpos : Pos} {b0 : Stmt} {suite : List Stmt} {th : Addr -> Obj -> TS} {ps : List Str} {sp : Sp} {y : Str} {p cpos epos : Pos} {a : Expr} {as : List Expr} {t : TA}
end
end L2
namespace L2
open PySem PySem.Spec PyProof.Rows
section
variable {P : Program} {w : World} {A : Around} {E : Value -> Shared -> Prop}
theorem draws {j l : Addr} {xs : Array Value} (ne : l ≠ j) : ∀ (k i : Nat) (s : Shared) (Q : List Value -> Shared -> Prop), s.heap.IsListIter j l i -> s.heap.IsList l xs -> i + k <= xs.size ->
    (∀ h', h'.IsListIter j l (i + k) -> Heap.SameBut j s.heap h' -> Q ((xs.toList.drop i).take k) { s with heap := h' }) -> wpAny (model P w) A (draw (.ref j) k) Q E s
  | 0, i, s, Q, hj, _, _, q => wpAny_pure (by simpa using q s.heap hj (Heap.SameBut.refl ..))
  | k + 1, i, s, Q, hj, hl, le, q => by
    have lt : i < xs.size := by omega
    refine wpAny_bind (m := pyNext (.ref j)) (wpAny_pyNext_list_item hj hl (Array.getElem?_eq_getElem lt) fun h1 j1 u1 => ?_)
    refine wpAny_bind (wpAny_holding (draws ne k (i + 1) _ _ j1 (hl.extBut u1.extBut ne) (by omega) fun h2 j2 u2 => wpAny_pure ?_))
    have e : xs.toList.drop i = xs[i] :: xs.toList.drop (i + 1) := by simp [List.drop_eq_getElem_cons, lt]
    have r := q h2 (by rw [show i + (k + 1) = i + 1 + k by omega]; exact j2) (u1.trans u2)
    rw [e, List.take_succ_cons] at r
    exact r
theorem unpacks {s : Shared} {l : Addr} {xs : Array Value} {ts : List (Bool × (Value -> Sem Unit))} {Q : Unit -> Shared -> Prop} (hA : A.handled = none) (hl : s.heap.IsList l xs) (hn : ts.length = xs.size) (hs : ts.findIdx? (·.1) = none)
    (q : ∀ h', Heap.ExtBut s.heap.objs.size s.heap h' -> wpAny (model P w) A (assignInOrder (ts.map (·.2)) xs.toList) Q E { s with heap := h' }) : wpAny (model P w) A (unpack (.ref l) ts) Q E s := by
  have ne : l ≠ s.heap.objs.size := by
    obtain ⟨o, ho, _⟩ := hl
    exact Nat.ne_of_lt (Heap.lt_size ho)
  unfold unpack
  rw [hn, hs]
  refine wpAny_bind (wpAny_holding ?_)
  unfold unpackItems
  refine wpAny_bind ?_
  unfold notIterableAtAll
  refine wpAny_bind (wpAny_specialOf hl.typeIs slot_list_iter.lookup (wpAny_pure ?_))
  simp only [Bool.false_eq_true, if_false]
  refine wpAny_bind (wpAny_holding (wpAny_pyIter_list hl ?_))
  refine wpAny_bind (wpAny_holding (draws ne xs.size 0 _ _ ⟨_, Heap.get?_push_size _ rfl, rfl, rfl⟩ (hl.push _) (by omega) fun h1 j1 u1 => ?_))
  have all : List.take xs.size (List.drop 0 xs.toList) = xs.toList := by rw [List.drop_zero]; exact List.take_of_length_le (by simp)
  rw [all, if_neg (by simp)]
  refine wpAny_bind (wpAny_holding (wpAny_pyNext_list_end hA j1 ((hl.push _).extBut u1.extBut ne) (by simp) fun h2 e2 => ?_))
  simp only [Option.isSome_none, Bool.false_eq_true, if_false]
  exact wpAny_pure (q h2 fun b o hb e => e2 b o hb (u1.extBut b o hb (Heap.get?_push_of_some _ e)))
end
section
variable {X : Cx} {pos : Pos}
def gLst (K : PySem.W.Frag) (n : Nat) (t : TGs) : TG := fun v σ H Q => ∃ a xs, v = .ref a /\ SqL K H a xs /\ xs.length = n /\ t xs σ H Q
theorem pg_lst {es : List Expr} {k : Nat} {t : TGs} {n : Nat} (hc : X.calm = true) (h : PGs X es t)
    (hn : (assignEach es X.env).length = n := by rfl) (hst : (assignEach es X.env).findIdx? (·.1) = none := by rfl) : PG X (.Tuple es k pos) (gLst X.K n t) := by
  intro pins s σ H v u Q I r g
  obtain ⟨a, xs, rfl, hq, hl, g⟩ := g
  cases r
  obtain ⟨its, rv, p, hz⟩ := I.list hq
  rw [assign_Tuple]
  refine wpAny_bind (wpAny_standAt (unpacks (I.ok.hd hc) p.isList (by simp [hn, <- hl, rv.length]) hst fun h' hx => ?_))
  have I1 : Inv X pins σ H { s with heap := h' } := I.kept (t' := s.toks) fun b o e => hx b o (Nat.ne_of_lt (Heap.lt_size e)) e
  exact h pins _ σ H xs _ Q I1 (by simpa using rv) g
theorem jg_lst {es : List Expr} {k : Nat} {gs : TGs} {n : Nat} (hc : X.calm = true) (h : jGs X es gs) (hn : (assignEach es X.env).length = n := by rfl) (hst : (assignEach es X.env).findIdx? (·.1) = none := by rfl) : jG X (.Tuple es k pos) (gLst X.K n gs) := ⟨pg_lst hc h.out hn hst⟩
end
end L2
namespace Rdr
open PySem L2
def top (i : Nat) : Stmt := PySem.Challenge.pw_reusewise_k14_whole_there_and_back.main.body.getD i (.Pass ⟨0, 0, 0, 0⟩)
abbrev sNoText : Stmt := inClass (top 2) 0
abbrev sMade : Stmt := top 11
abbrev sName : Stmt := top 12
abbrev sNumber : Stmt := top 13
abbrev sWInit : Stmt := inClass (top 17) 0
abbrev sInsist : Stmt := inClass (top 17) 1
abbrev sAllRead : Stmt := inClass (top 17) 2
abbrev sNextWord : Stmt := inClass (top 17) 3
abbrev sNextName : Stmt := inClass (top 17) 4
abbrev sNextNumber : Stmt := inClass (top 17) 5
abbrev sNextSize : Stmt := inClass (top 17) 6
abbrev sUntil : Stmt := inClass (top 17) 7
abbrev sPassed : Stmt := inClass (top 17) 8
abbrev sLInit : Stmt := inClass (top 18) 0
abbrev sLFill : Stmt := inClass (top 18) 1
abbrev sIInit : Stmt := inClass (top 19) 0
abbrev sIFill : Stmt := inClass (top 19) 1
abbrev sCInit : Stmt := inClass (top 20) 0
abbrev sCFill : Stmt := inClass (top 20) 1
abbrev sRead : Stmt := top 21
abbrev sReadKind : Stmt := top 22
abbrev sReadPair : Stmt := top 23
abbrev sReadDef : Stmt := top 24
abbrev sReadBody : Stmt := top 25
abbrev sBegin : Stmt := top 26
abbrev sReadHead : Stmt := top 27
abbrev sReadDeed : Stmt := top 28
abbrev sWhole : Stmt := top 37
abbrev sAlike : Stmt := top 38
abbrev sStream : Stmt := top 39
abbrev sLName : Stmt := top 40
abbrev sLNames : Stmt := top 41
abbrev sLNumber : Stmt := top 42
abbrev sLDeed : Stmt := top 43
abbrev sLArms : Stmt := top 44
abbrev sLPut : Stmt := top 45
abbrev sLMany : Stmt := top 46
abbrev sLTree : Stmt := top 47
abbrev sLLaw : Stmt := top 52
abbrev sShown : Stmt := top 30
abbrev sKindRow : Stmt := top 31
abbrev sDefRow : Stmt := top 32
abbrev sWritten : Stmt := top 33
abbrev sCaseW : Stmt := top 34
abbrev sDeedW : Stmt := top 35
abbrev sLKind : Stmt := top 48
abbrev sLDef : Stmt := top 49
abbrev sLRows : Stmt := top 50
abbrev sLAlone : Stmt := top 51
end Rdr
namespace Rd
open PySem
inductive D where
  | int (i : Int)
  | str (x : Str)
  | tup (ds : List D)
structure Lex where
  nm : Str -> Bool
  nu : Str -> Bool
  iv : Str -> Int
  dg : Str -> Option Nat
def OPS : List Str := ["plus", "minus", "times", "over", "rest", "less", "same"]
def DEEDS : List Str := ["make", "call", "func", "ask"]
def «strs» (l : List Str) : D := .tup (l.map D.str)
section
variable (L : Lex)
def nextName : List Str -> Option (Str × List Str)
  | [] => none
  | w :: r => if L.nm w = true then some (w, r) else none
def nextNumber : List Str -> Option (Int × List Str)
  | [] => none
  | w :: r => if L.nu w = true then some (L.iv w, r) else none
def until_ (stop : Str) : List Str -> List Str -> Option (List Str × List Str)
  | _, [] => none
  | acc, w :: r => if w = stop then some (acc, r) else if acc.length < 9 /\ L.nm w = true then until_ stop (acc ++ [w]) r else none
def deed : List Str -> Option (D × List Str)
  | [] => none
  | w :: r =>
    if w = "num" then (nextNumber L r).map fun p => (.tup [.str "num", .int p.1], p.2)
    else if w ∈ OPS then (nextName L r).bind fun p => (nextName L p.2).map fun q => (.tup [.str "op", .str w, .str p.1, .str q.1], q.2)
    else if w ∈ DEEDS then (nextName L r).bind fun p => (until_ L ";" [] p.2).map fun q => (.tup [.str w, .str p.1, «strs» q.1], q.2)
    else none
def head (ws : List Str) : Option ((Str × List Str) × List Str) := (nextName L ws).bind fun p => (until_ L ":" [] p.2).map fun q => ((p.1, q.1), q.2)
inductive Fr where
  | lt (x : Str) (d : D)
  | if0 (x : Str)
  | if1 (x : Str) (b : D)
  | cs (x : Str) (arms : List D) (tag : Str) (names : List Str)
structure S where
  begun : List Fr
  body : Option D
  ws : List Str
def begin_ (st : List Fr) : List Str -> Option S
  | [] => none
  | w :: r =>
    if w = "give" then (nextName L r).map fun p => ⟨st, some (.tup [.str "give", .str p.1]), p.2⟩
    else if w = "let" then (nextName L r).bind fun p => (deed L p.2).map fun q => ⟨.lt p.1 q.1 :: st, none, q.2⟩
    else if w = "if" then (nextName L r).map fun p => ⟨.if0 p.1 :: st, none, p.2⟩
    else if w = "case" then (nextName L r).bind fun p => (head L p.2).map fun q => ⟨.cs p.1 [] q.1.1 q.1.2 :: st, none, q.2⟩
    else none
def fill (b : D) (st : List Fr) : Fr -> List Str -> Option S
  | .lt x d, ws => some ⟨st, some (.tup [.str "let", .str x, d, b]), ws⟩
  | .if0 x, ws => match ws with
    | [] => none
    | w :: r => if w = "else" then some ⟨.if1 x b :: st, none, r⟩ else none
  | .if1 x a, ws => some ⟨st, some (.tup [.str "if", .str x, a, b]), ws⟩
  | .cs x arms tag names, ws =>
    let arms' := arms ++ [.tup [.str tag, «strs» names, b]]
    match ws with
    | [] => none
    | w :: r => if w = "end" then some ⟨st, some (.tup [.str "case", .str x, .tup arms']), r⟩
      else if arms'.length < 20 then (head L (w :: r)).map fun q => ⟨.cs x arms' q.1.1 q.1.2 :: st, none, q.2⟩ else none
def step (s : S) : Option S := match s.body, s.begun with
  | none, st => begin_ L st s.ws
  | some b, f :: st => fill L b st f s.ws
  | some _, [] => none
inductive Runs : Nat -> S -> Option (D × List Str) -> Prop
  | done {b : D} {ws : List Str} : Runs 0 ⟨[], some b, ws⟩ (some (b, ws))
  | turn {n : Nat} {s s' : S} {r : Option (D × List Str)} : (s.body = none \/ s.begun ≠ []) -> step L s = some s' -> Runs n s' r -> Runs (n + 1) s r
  | fail {s : S} : (s.body = none \/ s.begun ≠ []) -> step L s = none -> Runs 0 s none
theorem nextName_app {ws r more : List Str} {x : Str} (h : nextName L ws = some (x, r)) : nextName L (ws ++ more) = some (x, r ++ more) := by
  cases ws with
  | nil => cases h
  | cons w t =>
    unfold nextName at h ⊢
    dsimp only at h ⊢
    split at h
    · rename_i q; cases h; simp [q]
    · cases h
theorem nextNumber_app {ws r more : List Str} {x : Int} (h : nextNumber L ws = some (x, r)) : nextNumber L (ws ++ more) = some (x, r ++ more) := by
  cases ws with
  | nil => cases h
  | cons w t =>
    unfold nextNumber at h ⊢
    dsimp only at h ⊢
    split at h
    · rename_i q; cases h; simp [q]
    · cases h
theorem until_app {stop : Str} {more : List Str} : ∀ {ws acc ns r : List Str}, until_ L stop acc ws = some (ns, r) -> until_ L stop acc (ws ++ more) = some (ns, r ++ more)
  | [], acc, ns, r, h => by cases h
  | w :: t, acc, ns, r, h => by
    rw [List.cons_append]
    unfold until_ at h ⊢
    split at h
    · rename_i q; cases h; simp [q]
    · rename_i q
      rw [if_neg q]
      split at h
      · rename_i q2; rw [if_pos q2]; exact until_app h
      · cases h
theorem deed_app {ws r more : List Str} {d : D} (h : deed L ws = some (d, r)) : deed L (ws ++ more) = some (d, r ++ more) := by
  cases ws with
  | nil => cases h
  | cons w t =>
    rw [List.cons_append]
    unfold deed at h ⊢
    dsimp only at h ⊢
    split at h
    · rename_i q
      rw [if_pos q]
      obtain ⟨⟨n, r'⟩, h1, h2⟩ := Option.map_eq_some_iff.mp h
      cases h2
      rw [nextNumber_app L h1]; rfl
    · rename_i q
      rw [if_neg q]
      split at h
      · rename_i q
        rw [if_pos q]
        obtain ⟨⟨a, r1⟩, h1, h⟩ := Option.bind_eq_some_iff.mp h
        obtain ⟨⟨b, r2⟩, h2, h3⟩ := Option.map_eq_some_iff.mp h
        cases h3
        rw [nextName_app L h1]
        simp only [Option.bind_some]
        rw [nextName_app L h2]; rfl
      · rename_i q
        rw [if_neg q]
        split at h
        · rename_i q
          rw [if_pos q]
          obtain ⟨⟨a, r1⟩, h1, h⟩ := Option.bind_eq_some_iff.mp h
          obtain ⟨⟨b, r2⟩, h2, h3⟩ := Option.map_eq_some_iff.mp h
          cases h3
          rw [nextName_app L h1]
          simp only [Option.bind_some]
          rw [until_app L h2]; rfl
        · cases h
theorem head_app {ws r more : List Str} {p : Str × List Str} (h : head L ws = some (p, r)) : head L (ws ++ more) = some (p, r ++ more) := by
  unfold head at h ⊢
  obtain ⟨⟨a, r1⟩, h1, h⟩ := Option.bind_eq_some_iff.mp h
  obtain ⟨⟨b, r2⟩, h2, h3⟩ := Option.map_eq_some_iff.mp h
  cases h3
  rw [nextName_app L h1]
  simp only [Option.bind_some]
  rw [until_app L h2]; rfl
theorem step_app {s s' : S} {more : List Str} (h : step L s = some s') : step L ⟨s.begun, s.body, s.ws ++ more⟩ = some ⟨s'.begun, s'.body, s'.ws ++ more⟩ := by
  obtain ⟨st, b, ws⟩ := s
  unfold step at h ⊢
  cases b with
  | none =>
    dsimp only at h ⊢
    cases ws with
    | nil => cases h
    | cons w t =>
      rw [List.cons_append]
      unfold begin_ at h ⊢
      dsimp only at h ⊢
      split at h
      · rename_i q
        rw [if_pos q]
        obtain ⟨⟨a, r1⟩, h1, h2⟩ := Option.map_eq_some_iff.mp h
        cases h2
        rw [nextName_app L h1]; rfl
      · rename_i q
        rw [if_neg q]
        split at h
        · rename_i q
          rw [if_pos q]
          obtain ⟨⟨a, r1⟩, h1, h⟩ := Option.bind_eq_some_iff.mp h
          obtain ⟨⟨d, r2⟩, h2, h3⟩ := Option.map_eq_some_iff.mp h
          cases h3
          rw [nextName_app L h1]
          simp only [Option.bind_some]
          rw [deed_app L h2]; rfl
        · rename_i q
          rw [if_neg q]
          split at h
          · rename_i q
            rw [if_pos q]
            obtain ⟨⟨a, r1⟩, h1, h2⟩ := Option.map_eq_some_iff.mp h
            cases h2
            rw [nextName_app L h1]; rfl
          · rename_i q
            rw [if_neg q]
            split at h
            · rename_i q
              rw [if_pos q]
              obtain ⟨⟨a, r1⟩, h1, h⟩ := Option.bind_eq_some_iff.mp h
              obtain ⟨⟨d, r2⟩, h2, h3⟩ := Option.map_eq_some_iff.mp h
              cases h3
              rw [nextName_app L h1]
              simp only [Option.bind_some]
              rw [head_app L h2]; rfl
            · cases h
  | some b =>
    cases st with
    | nil => cases h
    | cons f st =>
      dsimp only at h ⊢
      cases f with
      | lt x d => cases h; rfl
      | if1 x a => cases h; rfl
      | if0 x =>
        cases ws with
        | nil => cases h
        | cons w t =>
          rw [List.cons_append]
          unfold fill at h ⊢
          dsimp only at h ⊢
          split at h
          · rename_i q; cases h; rw [if_pos q]
          · cases h
      | cs x arms tag names =>
        cases ws with
        | nil => cases h
        | cons w t =>
          rw [List.cons_append]
          unfold fill at h ⊢
          dsimp only at h ⊢
          split at h
          · rename_i q; cases h; rw [if_pos q]
          · rename_i q
            rw [if_neg q]
            split at h
            · rename_i q2
              rw [if_pos q2]
              obtain ⟨⟨p, r1⟩, h1, h2⟩ := Option.map_eq_some_iff.mp h
              cases h2
              have e := head_app L (more := more) h1
              rw [List.cons_append] at e
              rw [e]; rfl
            · cases h
theorem Runs.app {n : Nat} {s : S} {d : D} {r more : List Str} (h : Runs L n s (some (d, r))) : Runs L n ⟨s.begun, s.body, s.ws ++ more⟩ (some (d, r ++ more)) := by
  generalize hr : some (d, r) = x at h
  induction h with
  | done => cases hr; exact .done
  | turn hh hs _ ih => exact .turn hh (step_app L hs) (ih hr)
  | fail => cases hr
theorem nextName_len {ws r : List Str} {x : Str} (h : nextName L ws = some (x, r)) : ws.length = r.length + 1 := by
  cases ws with
  | nil => cases h
  | cons w t =>
    unfold nextName at h
    dsimp only at h
    split at h
    · cases h; rfl
    · cases h
theorem nextNumber_len {ws r : List Str} {x : Int} (h : nextNumber L ws = some (x, r)) : ws.length = r.length + 1 := by
  cases ws with
  | nil => cases h
  | cons w t =>
    unfold nextNumber at h
    dsimp only at h
    split at h
    · cases h; rfl
    · cases h
theorem until_len {stop : Str} : ∀ {ws acc ns r : List Str}, until_ L stop acc ws = some (ns, r) -> r.length < ws.length
  | [], acc, ns, r, h => by cases h
  | w :: t, acc, ns, r, h => by
    unfold until_ at h
    split at h
    · cases h; exact Nat.lt_succ_self _
    · split at h
      · exact Nat.lt_succ_of_lt (until_len h)
      · cases h
theorem deed_len {ws r : List Str} {d : D} (h : deed L ws = some (d, r)) : r.length < ws.length := by
  cases ws with
  | nil => cases h
  | cons w t =>
    unfold deed at h
    dsimp only at h
    split at h
    · obtain ⟨⟨n, r'⟩, h1, h2⟩ := Option.map_eq_some_iff.mp h
      cases h2
      have := nextNumber_len L h1
      dsimp only at *
      rw [List.length_cons]; omega
    · split at h
      · obtain ⟨⟨a, r1⟩, h1, h⟩ := Option.bind_eq_some_iff.mp h
        obtain ⟨⟨b, r2⟩, h2, h3⟩ := Option.map_eq_some_iff.mp h
        cases h3
        have := nextName_len L h1
        have := nextName_len L h2
        dsimp only at *
        rw [List.length_cons]; omega
      · split at h
        · obtain ⟨⟨a, r1⟩, h1, h⟩ := Option.bind_eq_some_iff.mp h
          obtain ⟨⟨b, r2⟩, h2, h3⟩ := Option.map_eq_some_iff.mp h
          cases h3
          have := nextName_len L h1
          have := until_len L h2
          dsimp only at *
          rw [List.length_cons]; omega
        · cases h
theorem head_len {ws r : List Str} {p : Str × List Str} (h : head L ws = some (p, r)) : r.length < ws.length := by
  unfold head at h
  obtain ⟨⟨a, r1⟩, h1, h⟩ := Option.bind_eq_some_iff.mp h
  obtain ⟨⟨b, r2⟩, h2, h3⟩ := Option.map_eq_some_iff.mp h
  cases h3
  have := nextName_len L h1
  have := until_len L h2
  dsimp only at *
  omega
structure LexOk (L : Lex) : Prop where
  kept : ∀ w ∈ (["def", "kind", "give", "let", "if", "else", "case", "end", "num", "=", ":", ";"] : List Str) ++ OPS ++ DEEDS, L.nm w = false
variable {L} (ok : LexOk L)
theorem until_ok {stop : Str} (hs : L.nm stop = false) : ∀ {ns acc r : List Str}, (∀ x ∈ ns, L.nm x = true) -> acc.length + ns.length <= 9 -> until_ L stop acc (ns ++ stop :: r) = some (acc ++ ns, r)
  | [], acc, r, _, _ => by simp [until_]
  | x :: ns, acc, r, h, hl => by
    have hx := h x List.mem_cons_self
    have ne : x ≠ stop := fun z => by rw [z, hs] at hx; cases hx
    have ln : acc.length < 9 := by rw [List.length_cons] at hl; omega
    rw [List.cons_append]
    unfold until_
    rw [if_neg ne, if_pos ⟨ln, hx⟩, until_ok hs (fun y hy => h y (List.mem_cons_of_mem _ hy)) (by rw [List.length_append, List.length_cons, List.length_nil]; rw [List.length_cons] at hl; omega)]
    simp
theorem name_ok {x : Str} {r : List Str} (h : L.nm x = true) : nextName L (x :: r) = some (x, r) := by simp [nextName, h]
include ok
theorem head_ok {t : Str} {ns r : List Str} (ht : L.nm t = true) (hn : ∀ x ∈ ns, L.nm x = true) (hl : ns.length <= 9) : head L (t :: (ns ++ (":" : Str) :: r)) = some ((t, ns), r) := by
  unfold head
  rw [name_ok ht]
  simp only [Option.bind_some]
  rw [until_ok (ok.kept _ (by decide)) hn (by simpa using hl)]
  rfl
theorem num_ok {x : Str} {r : List Str} (h : L.nu x = true) : deed L ("num" :: x :: r) = some (.tup [.str "num", .int (L.iv x)], r) := by
  unfold deed
  dsimp only
  rw [if_pos rfl]
  simp [nextNumber, h]
theorem op_ok {w a b : Str} {r : List Str} (hw : w ∈ OPS) (ha : L.nm a = true) (hb : L.nm b = true) : deed L (w :: a :: b :: r) = some (.tup [.str "op", .str w, .str a, .str b], r) := by
  unfold deed
  dsimp only
  rw [if_neg (fun z => by rw [z] at hw; revert hw; decide), if_pos hw, name_ok ha]
  simp only [Option.bind_some]
  rw [name_ok hb]
  rfl
theorem names_ok {w g : Str} {ns r : List Str} (hw : w ∈ DEEDS) (hg : L.nm g = true) (hn : ∀ x ∈ ns, L.nm x = true) (hl : ns.length <= 9) : deed L (w :: g :: (ns ++ (";" : Str) :: r)) = some (.tup [.str w, .str g, «strs» ns], r) := by
  unfold deed
  dsimp only
  rw [if_neg (fun z => by rw [z] at hw; revert hw; decide), if_neg (fun z => by revert hw z; simp only [OPS, DEEDS, List.mem_cons, List.not_mem_nil, or_false]; rintro (rfl | rfl | rfl | rfl) <;> decide), if_pos hw, name_ok hg]
  simp only [Option.bind_some]
  rw [until_ok (ok.kept _ (by decide)) hn (by simpa using hl)]
  rfl
omit ok
inductive Goes (L : Lex) : Nat -> S -> S -> Prop
  | here {s : S} : Goes L 0 s s
  | turn {n : Nat} {s s1 s2 : S} : (s.body = none \/ s.begun ≠ []) -> step L s = some s1 -> Goes L n s1 s2 -> Goes L (n + 1) s s2
theorem Goes.trans {n m : Nat} {a b c : S} (h : Goes L n a b) (g : Goes L m b c) : ∃ k, Goes L k a c := by
  induction h with
  | here => exact ⟨m, g⟩
  | turn h1 h2 _ ih =>
    obtain ⟨k, q⟩ := ih g
    exact ⟨k + 1, .turn h1 h2 q⟩
theorem Goes.runs {n m : Nat} {a b : S} {r : Option (D × List Str)} (h : Goes L n a b) (g : Runs L m b r) : ∃ k, Runs L k a r := by
  induction h with
  | here => exact ⟨m, g⟩
  | turn h1 h2 _ ih =>
    obtain ⟨k, q⟩ := ih g
    exact ⟨k + 1, .turn h1 h2 q⟩
def BodyOk (L : Lex) (ws : List Str) (b : D) : Prop := ∀ (st : List Fr) (rest : List Str), ∃ n, Goes L n ⟨st, none, ws ++ rest⟩ ⟨st, some b, rest⟩
theorem BodyOk.runs {ws : List Str} {b : D} (h : BodyOk L ws b) (rest : List Str) : ∃ n, Runs L n ⟨[], none, ws ++ rest⟩ (some (b, rest)) := by
  obtain ⟨n, g⟩ := h [] rest
  exact g.runs .done
theorem body_give {x : Str} (hx : L.nm x = true) : BodyOk L ["give", x] (.tup [.str "give", .str x]) := fun st rest => by
  refine ⟨1, .turn (.inl rfl) (s1 := ⟨st, some (.tup [.str "give", .str x]), rest⟩) ?_ .here⟩
  show begin_ L st ("give" :: x :: rest) = _
  unfold begin_
  dsimp only
  rw [if_pos rfl, name_ok hx]
  rfl
theorem body_let {x : Str} {dw bw : List Str} {d b : D} (hx : L.nm x = true) (hd : deed L dw = some (d, [])) (hb : BodyOk L bw b) : BodyOk L ("let" :: x :: (dw ++ bw)) (.tup [.str "let", .str x, d, b]) := fun st rest => by
  obtain ⟨n, g⟩ := hb (.lt x d :: st) rest
  have s1 : step L ⟨st, none, ("let" : Str) :: x :: (dw ++ bw) ++ rest⟩ = some ⟨.lt x d :: st, none, bw ++ rest⟩ := by
    show begin_ L st ("let" :: x :: ((dw ++ bw) ++ rest)) = _
    unfold begin_
    dsimp only
    rw [if_neg (by decide), if_pos rfl, name_ok hx]
    simp only [Option.bind_some]
    rw [List.append_assoc, deed_app L hd]
    rfl
  exact (Goes.turn (.inl rfl) s1 .here).trans ((g.trans (.turn (.inr (by simp)) rfl .here)).choose_spec) |> fun ⟨k, q⟩ => ⟨k, q⟩
theorem body_if {x : Str} {aw bw : List Str} {a b : D} (hx : L.nm x = true) (ha : BodyOk L aw a) (hb : BodyOk L bw b) : BodyOk L ("if" :: x :: (aw ++ ("else" : Str) :: bw)) (.tup [.str "if", .str x, a, b]) := fun st rest => by
  obtain ⟨n, g⟩ := ha (.if0 x :: st) (("else" : Str) :: bw ++ rest)
  obtain ⟨m, g2⟩ := hb (.if1 x a :: st) rest
  have s1 : step L ⟨st, none, ("if" : Str) :: x :: (aw ++ ("else" : Str) :: bw) ++ rest⟩ = some ⟨.if0 x :: st, none, aw ++ (("else" : Str) :: bw ++ rest)⟩ := by
    show begin_ L st ("if" :: x :: ((aw ++ ("else" : Str) :: bw) ++ rest)) = _
    unfold begin_
    dsimp only
    rw [if_neg (by decide), if_neg (by decide), if_pos rfl, name_ok hx]
    simp
  have s2 : step L ⟨.if0 x :: st, some a, ("else" : Str) :: bw ++ rest⟩ = some ⟨.if1 x a :: st, none, bw ++ rest⟩ := by
    show fill L a st (.if0 x) ("else" :: (bw ++ rest)) = _
    unfold fill
    dsimp only
    rw [if_pos rfl]
  have e1 := (g2.trans (.turn (.inr (by simp)) rfl .here)).choose_spec
  have e2 := ((Goes.turn (.inr (by simp)) s2 .here).trans e1).choose_spec
  have e3 := (g.trans e2).choose_spec
  exact ⟨_, ((Goes.turn (.inl rfl) s1 .here).trans e3).choose_spec⟩
structure Arm where
  tag : Str
  names : List Str
  bw : List Str
  b : D
def Arm.words (a : Arm) : List Str := a.tag :: (a.names ++ (":" : Str) :: a.bw)
def Arm.dat (a : Arm) : D := .tup [.str a.tag, «strs» a.names, a.b]
structure Arm.Ok (L : Lex) (a : Arm) : Prop where
  tag : L.nm a.tag = true
  names : ∀ x ∈ a.names, L.nm x = true
  few : a.names.length <= 9
  body : BodyOk L a.bw a.b
include ok
theorem arms_go {x : Str} {st : List Fr} {rest : List Str} : ∀ (more : List Arm) (a : Arm) (done : List D), a.Ok L -> (∀ c ∈ more, c.Ok L) -> done.length + 1 + more.length <= 20 ->
    ∃ n, Goes L n ⟨.cs x done a.tag a.names :: st, none, a.bw ++ (more.flatMap Arm.words ++ ("end" : Str) :: rest)⟩ ⟨st, some (.tup [.str "case", .str x, .tup (done ++ a.dat :: more.map Arm.dat)]), rest⟩
  | [], a, done, ha, _, _ => by
    obtain ⟨n, g⟩ := ha.body (.cs x done a.tag a.names :: st) ("end" :: rest)
    have s1 : step L ⟨.cs x done a.tag a.names :: st, some a.b, ("end" : Str) :: rest⟩ = some ⟨st, some (.tup [.str "case", .str x, .tup (done ++ [a.dat])]), rest⟩ := by
      show fill L a.b st (.cs x done a.tag a.names) ("end" :: rest) = _
      unfold fill
      dsimp only
      rw [if_pos rfl]
      rfl
    exact ⟨_, (g.trans (.turn (.inr (by simp)) s1 .here)).choose_spec⟩
  | c :: more, a, done, ha, hm, hl => by
    obtain ⟨n, g⟩ := ha.body (.cs x done a.tag a.names :: st) (c.tag :: (c.names ++ (":" : Str) :: (c.bw ++ (more.flatMap Arm.words ++ ("end" : Str) :: rest))))
    have hc := hm c List.mem_cons_self
    obtain ⟨m, g2⟩ := arms_go more c (done ++ [a.dat]) hc (fun y hy => hm y (List.mem_cons_of_mem _ hy)) (by rw [List.length_append, List.length_cons, List.length_nil]; rw [List.length_cons] at hl; omega)
    have ne : c.tag ≠ "end" := fun z => by
      have := hc.tag
      rw [z, ok.kept "end" (by decide)] at this
      cases this
    have s1 : step L ⟨.cs x done a.tag a.names :: st, some a.b, c.tag :: (c.names ++ (":" : Str) :: (c.bw ++ (more.flatMap Arm.words ++ ("end" : Str) :: rest)))⟩ = some ⟨.cs x (done ++ [a.dat]) c.tag c.names :: st, none, c.bw ++ (more.flatMap Arm.words ++ ("end" : Str) :: rest)⟩ := by
      unfold step
      dsimp only
      unfold fill
      dsimp only
      rw [if_neg ne, if_pos (by rw [List.length_append, List.length_cons, List.length_nil]; rw [List.length_cons] at hl; omega), head_ok ok hc.tag hc.names hc.few]
      rfl
    have e1 := ((Goes.turn (.inr (by simp)) s1 .here).trans g2).choose_spec
    have e2 := (g.trans e1).choose_spec
    have w1 : (c :: more).flatMap Arm.words ++ ("end" : Str) :: rest = c.tag :: (c.names ++ (":" : Str) :: (c.bw ++ (more.flatMap Arm.words ++ ("end" : Str) :: rest))) := by
        simp [Arm.words, List.flatMap_cons]
    rw [w1]
    have w2 : done ++ a.dat :: (c :: more).map Arm.dat = (done ++ [a.dat]) ++ c.dat :: more.map Arm.dat := by simp
    rw [w2]
    exact ⟨_, e2⟩
theorem body_case {x : Str} {a : Arm} {more : List Arm} (hx : L.nm x = true) (ha : a.Ok L) (hm : ∀ c ∈ more, c.Ok L) (hl : 1 + more.length <= 20) :
    BodyOk L ("case" :: x :: ((a :: more).flatMap Arm.words ++ [("end" : Str)])) (.tup [.str "case", .str x, .tup ((a :: more).map Arm.dat)]) := fun st rest => by
  obtain ⟨n, g⟩ := arms_go ok (x := x) (st := st) (rest := rest) more a [] ha hm (by simpa using hl)
  have s1 : step L ⟨st, none, ("case" : Str) :: x :: ((a :: more).flatMap Arm.words ++ [("end" : Str)]) ++ rest⟩ = some ⟨.cs x [] a.tag a.names :: st, none, a.bw ++ (more.flatMap Arm.words ++ ("end" : Str) :: rest)⟩ := by
    have w1 : ("case" : Str) :: x :: ((a :: more).flatMap Arm.words ++ [("end" : Str)]) ++ rest = ("case" : Str) :: x :: a.tag :: (a.names ++ (":" : Str) :: (a.bw ++ (more.flatMap Arm.words ++ ("end" : Str) :: rest))) := by
      simp [Arm.words, List.flatMap_cons]
    rw [w1]
    unfold step
    dsimp only
    unfold begin_
    dsimp only
    rw [if_neg (by decide), if_neg (by decide), if_neg (by decide), if_pos rfl, name_ok hx]
    simp only [Option.bind_some]
    rw [head_ok ok ha.tag ha.names ha.few]
    rfl
  exact ⟨_, ((Goes.turn (.inl rfl) s1 .here).trans g).choose_spec⟩
end
end Rd
namespace Rdr
open PySem L2 K11
theorem same_new {H : Hp} {p : Addr} (h : H p = none) (o : HO) : Same H (upd H p o) := fun b u q => by rw [upd_ne (ne_of_none q h)]; exact q
theorem line : sizeLine = 16777216 := by decide
theorem take_map {α β : Type} {l : List α} {i : Nat} {x : α} (f : α -> β) (h : l[i]? = some x) : (l.take i).map f ++ [f x] = (l.take (i + 1)).map f := by
  rw [List.take_add_one, h, List.map_append]
  rfl
theorem sign_at {z : Str} {i c : Nat} (h : z.cps[i]? = some c) : (signs z)[i]? = some (sg c) := by
  unfold signs
  rw [List.getElem?_map, Array.getElem?_toList, h]
  rfl
section
variable {P : Program} {w : World} {K : PySem.W.Frag} {mg : Str -> Option Value} {base : Heap} {f : Addr} {fd : FuncData}
def spMade : Sp := fun vs H Q _ => ∃ z j : Str, vs = [.str z, .str j] /\ z.length <= 1000 /\ ∀ H', Same H H' -> Q (.bl (madeOf z j)) H'
theorem scMade : FnScope ["word", "signs"] ["word", "signs"] (defScope sMade) := ⟨rfl, rfl, rfl, by decide +kernel, rfl, by decide +kernel, by decide +kernel⟩
theorem ndMade : (["word", "signs", "sign"] : List Str).Nodup := by decide +kernel
theorem ok_made (F : Fun K "made_of" "made_of" sMade f fd) (mA : mg "all" = none) : FnOk P w K mg base CX0 1 f fd ["word", "signs"] spMade := by
  refine F.by scMade (fun vs H Q E h => ?_) (fun cdv A outer s H vs Q E hr h => ?_)
  · obtain ⟨z, j, rfl, _⟩ := h
    rfl
  obtain ⟨z, j, rfl, hz, q⟩ := h
  refine ⟨_, jss_one (js_ret (je_fnB (jc_all_bools rfl) rfl mA PyProof.Rows.boot_all (ja_c (je_comp ["sign"] rfl (ji_str rfl (jv 0))
    (fun _ _ _ _ _ => jg_name (i := 2) ndMade rfl (Or.inl rfl)) (fun _ _ _ _ _ => jts_nil) (fun _ _ _ _ _ => je_cmpR jo_in_str (jv 2) (jv 1) (by with_unfolding_all rfl))) ja_nil))), ?_⟩
  have hl := signs_len z
  have hs := line
  refine ⟨_, rfl, z, rfl, lc_str (fun i τ ys H' => H' = H /\ (∃ v, τ = [some (.str z), some (.str j), v]) /\ ys = ((signs z).take i).map fun c => V.bl (inS c j)) ⟨rfl, ⟨none, rfl⟩, rfl⟩ ?_ ?_⟩
  · rintro i c τ ys H' hc ⟨rfl, ⟨v, rfl⟩, rfl⟩
    refine ⟨_, rfl, _, rfl, _, _, rfl, rfl, ?_, rfl, ⟨_, rfl⟩, ?_⟩
    · rw [List.length_map, List.length_take]
      omega
    · exact take_map (fun c => V.bl (inS c j)) (sign_at hc)
  · rintro τ ys H' ⟨rfl, _, rfl⟩ p hp
    refine ⟨p, (signs z).map (inS · j), rfl, SqL.of ?_, ?_⟩
    · rw [upd_same, List.take_of_length_le (by rw [hl]; exact Nat.le_refl _), List.map_map]
      rfl
    · have e : ((signs z).map (inS · j)).all id = madeOf z j := by
        unfold madeOf
        rw [List.all_map]
        rfl
      have r := q _ (same_new hp (.lst (((signs z).take z.cps.size).map fun c => V.bl (inS c j))))
      rw [<- e] at r
      exact r
end
def KEPT : List Str := ["def", "kind", "give", "let", "if", "else", "case", "end", "num", "plus", "minus", "times", "over", "rest", "less", "same", "make", "call", "func", "ask"]
def LETS : Str := "abcdefghijklmnopqrstuvwxyz"
def FIGS : Str := "0123456789"
def lenIn (z : Str) (n : Int) : Bool := decide ((1 : Int) <= (z.length : Nat)) && decide (((z.length : Nat) : Int) <= n)
def isName (z : Str) : Bool := lenIn z 12 && (madeOf z LETS && !inV (.str z) (KEPT.map V.str))
def figsOf (z : Str) : Str := if Txt.startswith z "-" = true then Txt.slice z (some 1) none else z
def isNumber (z : Str) : Bool := if (!lenIn (figsOf z) 30 || !madeOf (figsOf z) FIGS) = true then false else decide (V.str z = V.str "0") || !Txt.startswith (figsOf z) "0"
theorem figs_len (z : Str) : (figsOf z).length <= z.length := by
  unfold figsOf
  split
  · exact Txt.slice_le _ _ _
  · exact Nat.le_refl _
theorem flat_kept : (KEPT.map V.str).all flatV = true := by decide +kernel
def spName : Sp := fun vs H Q _ => ∃ z : Str, vs = [.str z] /\ z.length <= 1000 /\ ∀ H', Same H H' -> Q (.bl (isName z)) H'
def spNumber : Sp := fun vs H Q _ => ∃ z : Str, vs = [.str z] /\ z.length <= 1000 /\ ∀ H', Same H H' -> Q (.bl (isNumber z)) H'
section
variable {P : Program} {w : World} {K : PySem.W.Frag} {mg : Str -> Option Value} {base : Heap} {f g g2 a : Addr} {fd gd gd2 : FuncData} {t1 t2 t3 t4 : Tok}
theorem scName : FnScope ["word"] ["word"] (defScope sName) := ⟨rfl, rfl, rfl, by decide +kernel, rfl, by decide +kernel, by decide +kernel⟩
theorem ok_name (F : Fun K "is_name" "is_name" sName f fd) (G : FnOk P w K mg base CX0 1 g gd ["word", "signs"] spMade) (bG : Binds K gd ["word", "signs"] []) (kG : PySem.W.keepIn K (.ref g) = true) (mG : mg "made_of" = some (.ref g)) (ml : mg "len" = none)
    (mL : mg "LETTERS" = some (.str LETS t1)) (mM : mg "MOST_LETTERS" = some (.int 12 t2)) (mK : mg "KEPT_WORDS" = some (.ref a)) (hK : ∀ H : Hp, SqT K H a (KEPT.map V.str)) : FnOk P w K mg base CX0 2 f fd ["word"] spName := by
  refine F.by scName (fun vs H Q E h => ?_) (fun cdv A outer s H vs Q E hr h => ?_)
  · obtain ⟨z, rfl, _⟩ := h
    rfl
  obtain ⟨z, rfl, hz, q⟩ := h
  refine ⟨_, jss_one (js_ret (je_and (je_chain jo_le jo_le je_int (je_fnB jc_len_str rfl ml PySem.boot_len (ja_c (jv 0) ja_nil)) (je_glob (v := .int 12) rfl mM ⟨_, rfl⟩))
    (je_and (je_fn G hr rfl mG kG bG .nil pass0 (ja_c (jv 0) (ja_c (je_glob (v := .str LETS) rfl mL ⟨_, rfl⟩) ja_nil))) (je_one (je_cmpR jo_notIn_seq (jv 0) (je_glob (v := .ref a) rfl mK rfl) (by with_unfolding_all rfl)))))), ?_⟩
  have hs := line
  have no : ∀ {H' : Hp}, Same H H' -> isName z = false -> Q (.bl false) H' := fun sm e => by
    have r := q _ sm
    rw [e] at r
    exact r
  refine ⟨_, rfl, z, rfl, by omega, _, _, rfl, rfl, _, rfl, ?_⟩
  refine ite2 (fun c1 => ?_) (fun c1 => ?_)
  · refine ⟨_, _, rfl, rfl, _, rfl, ?_⟩
    refine ite2 (fun c2 => ?_) (fun c2 => ?_)
    · refine ⟨_, rfl, z, LETS, rfl, hz, fun H1 s1 => ⟨_, rfl, ?_⟩⟩
      refine ite2 (fun c3 => ?_) (fun c3 => ?_)
      · refine ⟨_, rfl, a, _, rfl, .inr (hK _), rfl, flat_kept, ?_⟩
        have r := q _ s1
        unfold isName lenIn at r
        rw [c1, c2, c3] at r
        exact r
      · refine no s1 ?_
        unfold isName
        rw [Bool.eq_false_iff.mpr c3, Bool.false_and, Bool.and_false]
    · refine no (Same.refl _) ?_
      unfold isName lenIn
      rw [Bool.eq_false_iff.mpr c2, Bool.and_false, Bool.false_and]
  · refine ⟨_, rfl, iteF ?_⟩
    refine no (Same.refl _) ?_
    unfold isName lenIn
    rw [Bool.eq_false_iff.mpr c1, Bool.false_and, Bool.false_and]
theorem scNumber : FnScope ["word", "figures"] ["word"] (defScope sNumber) := ⟨rfl, rfl, rfl, by decide +kernel, rfl, by decide +kernel, by decide +kernel⟩
theorem ok_number (F : Fun K "is_number" "is_number" sNumber f fd) (G : FnOk P w K mg base CX0 1 g gd ["word", "signs"] spMade) (bG : Binds K gd ["word", "signs"] []) (kG : PySem.W.keepIn K (.ref g) = true) (mG : mg "made_of" = some (.ref g)) (ml : mg "len" = none)
    (mF : mg "FIGURES" = some (.str FIGS t1)) (mM : mg "MOST_FIGURES" = some (.int 30 t2)) : FnOk P w K mg base CX0 2 f fd ["word"] spNumber := by
  refine F.by scNumber (fun vs H Q E h => ?_) (fun cdv A outer s H vs Q E hr h => ?_)
  · obtain ⟨z, rfl, _⟩ := h
    rfl
  obtain ⟨z, rfl, hz, q⟩ := h
  refine ⟨_, jss_cons (js_set (i := 1) scNumber.nd rfl (Or.inl rfl) (je_ifExp (jt_val (je_bm PySem.F.plainAttrs_str PySem.F.slot_str_startswith PySem.F.type_str_startswith jm_startswith (jv 0) (ja_c je_str ja_nil))) (je_slice jl_str (jv 0) (jo_some je_int) jo_none) (jv 0)))
    (jss_cons (js_if (jW.pt (jw_or (jt_not (jt_chain jo_le jo_le je_int (je_fnB jc_len_str rfl ml PySem.boot_len (ja_c (jv 1) ja_nil)) (je_glob (v := .int 30) rfl mM ⟨_, rfl⟩)))
      (jw_or1 (jt_not (jt_val (je_fn G hr rfl mG kG bG .nil pass0 (ja_c (jv 1) (ja_c (je_glob (v := .str FIGS) rfl mF ⟨_, rfl⟩) ja_nil)))))))) (jss_one (js_ret je_bl)) jss_nil)
    (jss_one (js_ret (je_or (je_cmpR jo_eq (jv 0) je_str (nomark _)) (je_one (je_not (je_bm PySem.F.plainAttrs_str PySem.F.slot_str_startswith PySem.F.type_str_startswith jm_startswith (jv 1) (ja_c je_str ja_nil)))))))), ?_⟩
  have hs := line
  have hfl := figs_len z
  have no : ∀ {H' : Hp}, Same H H' -> isNumber z = false -> Q (.bl false) H' := fun sm e => by
    have r := q _ sm
    rw [e] at r
    exact r
  -- the rest, from the figures on
  suffices rest : ∀ (y : Str), y = figsOf z -> (tSeq _ _ : TS) { nx := fun _ H' => Q .non H', rt := Q } [some (.str z), some (.str y)] H by
    refine ⟨_, rfl, rfl, _, _, rfl, rfl, _, rfl, ?_⟩
    refine ite2 (fun c => ?_) (fun c => ?_)
    · refine ⟨_, rfl, _, rfl, z, rfl, by omega, ?_⟩
      exact rest _ (by unfold figsOf; rw [if_pos (show Txt.startswith z "-" = true from c)])
    · refine ⟨_, rfl, ?_⟩
      exact rest _ (by unfold figsOf; rw [if_neg (show ¬ Txt.startswith z "-" = true from c)])
  rintro y rfl
  refine ⟨_, rfl, figsOf z, rfl, by omega, _, _, rfl, rfl, _, rfl, ?_⟩
  refine ite2 (fun c1 => ?_) (fun c1 => ?_)
  · have c1' : decide ((1 : Int) <= ((figsOf z).length : Nat)) = true := c1
    refine ⟨_, _, rfl, rfl, _, rfl, ?_⟩
    cases c2 : decide ((((figsOf z).length : Nat) : Int) <= 30) with
    | false =>
      refine iteT (iteT ?_)
      refine no (Same.refl _) ?_
      unfold isNumber lenIn
      rw [c2, Bool.and_false]
      rfl
    | true =>
      refine iteF ?_
      refine ⟨_, rfl, figsOf z, FIGS, rfl, by omega, fun H1 s1 => ⟨_, rfl, ?_⟩⟩
      cases c3 : madeOf (figsOf z) FIGS with
      | false =>
        refine iteT ?_
        refine no s1 ?_
        unfold isNumber
        rw [c3]
        simp
      | true =>
        refine iteF ?_
        have fin : ∀ v, (decide (V.str z = V.str "0") || !Txt.startswith (figsOf z) "0") = v -> Q (.bl v) H1 := fun v e => by
          have r := q _ s1
          have e2 : isNumber z = v := by
            unfold isNumber lenIn
            rw [c1', c2, c3]
            exact e
          rw [e2] at r
          exact r
        refine ⟨_, rfl, rfl, _, rfl, ?_⟩
        refine ite2 (fun c4 => ?_) (fun c4 => ?_)
        · exact fin true (by rw [show decide (V.str z = V.str "0") = true from c4, Bool.true_or])
        · refine ⟨_, rfl, rfl, _, _, rfl, rfl, _, rfl, ?_⟩
          exact fin _ (by rw [Bool.eq_false_iff.mpr c4, Bool.false_or])
  · refine ⟨_, rfl, iteT (iteT ?_)⟩
    refine no (Same.refl _) ?_
    unfold isNumber lenIn
    rw [Bool.eq_false_iff.mpr c1, Bool.false_and]
    rfl
end
end Rdr
namespace Rdr
open PySem L2 K11 Rd
def intOf (z : Str) : Int := (PySem.intText? z).getD 0
def LX : Lex := ⟨isName, isNumber, intOf, fun _ => none⟩
structure Adr where
  cN : Addr
  cW : Addr
  cL : Addr
  cI : Addr
  cC : Addr
structure Txt (K : PySem.W.Frag) (mg : Str -> Option Value) (A : Adr) : Prop where
  clW : Cls K A.cW
  clL : Cls K A.cL
  clI : Cls K A.cI
  clC : Cls K A.cC
  nRow : NoAttr K A.cW "row"
  nWords : NoAttr K A.cW "words"
  nAt : NoAttr K A.cW "at"
  nBinds : NoAttr K A.cL "binds"
  nDeed : NoAttr K A.cL "deed"
  nLooked : NoAttr K A.cI "looked"
  nFirst : NoAttr K A.cI "first"
  nCLooked : NoAttr K A.cC "looked"
  nArms : NoAttr K A.cC "arms"
  nHead : NoAttr K A.cC "head"
  xRow : PySem.W.takerIn K A.cN "row" = some none
  len : mg "len" = none
  tuple : mg "tuple" = none
  int : mg "int" = none
  mostN : ∃ t, mg "MOST_NAMES" = some (.int 9 t)
  mostA : ∃ t, mg "MOST_ARMS" = some (.int 20 t)
def KpS (S : Addr -> Prop) (H H' : Hp) : Prop := ∀ b o, ¬ S b -> H b = some o -> H' b = some o
theorem KpS.refl {S : Addr -> Prop} {H : Hp} : KpS S H H := fun _ _ _ h => h
theorem KpS.trans {S : Addr -> Prop} {H H1 H2 : Hp} (a : KpS S H H1) (b : KpS S H1 H2) : KpS S H H2 := fun c o n h => b c o n (a c o n h)
theorem KpS.mono {S S' : Addr -> Prop} {H H1 : Hp} (a : KpS S H H1) (h : ∀ b, S b -> S' b) : KpS S' H H1 := fun c o n q => a c o (fun z => n (h c z)) q
theorem KpS.of {S : Addr -> Prop} {H H' : Hp} (h : Same H H') : KpS S H H' := fun b o _ q => h b o q
theorem KpS.put {S : Addr -> Prop} {H : Hp} {a : Addr} {o : HO} (h : S a) : KpS S H (upd H a o) := fun b u n q => by
  have e : b ≠ a := fun z => n (by rw [z]; exact h)
  rw [upd_ne e]
  exact q
theorem KpS.new {S : Addr -> Prop} {H : Hp} {a : Addr} {o : HO} (h : H a = none) : KpS S H (upd H a o) := .of (same_new h o)
abbrev WI (A : Adr) (dw lw : Addr) (row : Int) (i : Nat) : HO := .ins A.cW dw [("row", .int row), ("words", .ref lw), ("at", .int i)]
structure AtR (A : Adr) (H : Hp) (w lw : Addr) (row : Int) (r : List Str) : Prop where
  ex : ∃ (dw : Addr) (ws : List Str) (i : Nat), H w = some (WI A dw lw row i) /\ H lw = some (.lst (ws.map V.str)) /\ r = ws.drop i /\ i <= ws.length /\ ws.length <= 1000000 /\ ∀ x ∈ ws, x.length <= 1000
theorem AtR.kept {A : Adr} {H H' : Hp} {w lw : Addr} {row : Int} {r : List Str} {S : Addr -> Prop} (h : AtR A H w lw row r) (k : KpS S H H') (n1 : ¬ S w) (n2 : ¬ S lw) : AtR A H' w lw row r :=
  let ⟨dw, ws, i, a, b, c⟩ := h.ex; ⟨dw, ws, i, k _ _ n1 a, k _ _ n2 b, c⟩
theorem AtR.same {A : Adr} {H H' : Hp} {w lw : Addr} {row : Int} {r : List Str} (h : AtR A H w lw row r) (k : Same H H') : AtR A H' w lw row r := h.kept (S := fun _ => False) (.of k) (fun z => z) fun z => z
theorem AtR.ne {A : Adr} {H : Hp} {w lw : Addr} {row : Int} {r : List Str} (h : AtR A H w lw row r) : w ≠ lw := by
  obtain ⟨dw, ws, i, a, b, _⟩ := h.ex
  exact ne_of a b (by intro z; cases z)
def Err (A : Adr) (E : XK) (S : Addr -> Prop) (H : Hp) (row : Int) : Prop := ∀ d H', KpS S H H' -> H' d = some (XD d [("row", .int row)]) -> E (.ref A.cN) (some d) H'
theorem Err.at {A : Adr} {E : XK} {S S' : Addr -> Prop} {H H1 : Hp} {row : Int} (h : Err A E S H row) (k : KpS S H H1) (m : ∀ b, S' b -> S b) : Err A E S' H1 row := fun d H' k' q => h d H' (k.trans (k'.mono m)) q
def spNoText (A : Adr) : Sp := fun vs H Q _ => ∃ e v, vs = [.ref e, v] /\ H e = some (XO e A.cN none) /\ ∀ d, H d = none -> d ≠ e -> Q .non (upd (upd H d (XD d [("row", v)])) e (XO e A.cN (some d)))
def spInsist (A : Adr) : Sp := fun vs H Q E => ∃ (w lw : Addr) (row : Int) (r : List Str) (b : Bool), vs = [.ref w, .bl b] /\ AtR A H w lw row r /\ (b = true -> Q .non H) /\ (b = false -> Err A E (fun _ => False) H row)
def spAll (A : Adr) : Sp := fun vs H Q _ => ∃ (w lw : Addr) (row : Int) (r : List Str), vs = [.ref w] /\ AtR A H w lw row r /\ Q (.bl r.isEmpty) H
def spPassed (A : Adr) : Sp := fun vs H Q _ => ∃ (w lw : Addr) (row : Int) (r : List Str) (x : Str), vs = [.ref w, .str x] /\ AtR A H w lw row r /\ (match r with
  | [] => Q (.bl false) H
  | y :: r' => if y = x then ∀ H', KpS (· = w) H H' -> AtR A H' w lw row r' -> Q (.bl true) H' else Q (.bl false) H)
def spWord (A : Adr) : Sp := fun vs H Q E => ∃ (w lw : Addr) (row : Int) (r : List Str), vs = [.ref w] /\ AtR A H w lw row r /\ (match r with
  | [] => Err A E (· = w) H row
  | y :: r' => y.length <= 1000 -> ∀ H', KpS (· = w) H H' -> AtR A H' w lw row r' -> Q (.str y) H')
def spNextName (A : Adr) : Sp := fun vs H Q E => ∃ (w lw : Addr) (row : Int) (r : List Str), vs = [.ref w] /\ AtR A H w lw row r /\ (match nextName LX r with
  | none => Err A E (· = w) H row
  | some (x, r') => ∀ H', KpS (· = w) H H' -> AtR A H' w lw row r' -> Q (.str x) H')
def spNextNumber (A : Adr) : Sp := fun vs H Q E => ∃ (w lw : Addr) (row : Int) (r : List Str), vs = [.ref w] /\ AtR A H w lw row r /\ (match nextNumber LX r with
  | none => Err A E (· = w) H row
  | some (x, r') => ∀ H', KpS (· = w) H H' -> AtR A H' w lw row r' -> Q (.int x) H')
def spUntil (A : Adr) : Sp := fun vs H Q E => ∃ (w lw : Addr) (row : Int) (r : List Str) (stop : Str), vs = [.ref w, .str stop] /\ AtR A H w lw row r /\ (match until_ LX stop [] r with
  | none => Err A E (· = w) H row
  | some (ns, r') => ∀ H' p, KpS (· = w) H H' -> AtR A H' w lw row r' -> H' p = some (.tup (ns.map V.str)) -> Q (.ref p) H')
section
variable {P : Program} {w : World} {K : PySem.W.Frag} {mg : Str -> Option Value} {base : Heap} {f R : Addr} {fd : FuncData} {A : Adr}
theorem scNoText : FnScope ["self", "row"] ["self", "row"] (defScope sNoText) := ⟨rfl, rfl, rfl, by decide +kernel, rfl, by decide +kernel, by decide +kernel⟩
theorem ok_notext {fi : Addr} (F : Fun K "__init__" "NoText.__init__" sNoText f fd) (T : Txt K mg A) (M : XCl K A.cN fi) (B : XBase K R) (mR : mg "ReuseError" = some (.ref R)) : FnOk P w K mg base CX0 1 f fd ["self", "row"] (spNoText A) := by
  refine F.by scNoText (fun vs H Q E h => ?_) (fun cdv A' outer s H vs Q E hr h => ?_)
  · obtain ⟨e, v, rfl, _⟩ := h
    rfl
  obtain ⟨e, v, rfl, hX, q⟩ := h
  refine ⟨_, jss_cons (js_expr ⟨pe_xinit M B rfl mR (ja_c (jv 0) (ja_c (jv 1) ja_nil)).out⟩) (jss_one ⟨ps_xnew M (jv 0).out (jv 1).out⟩), ?_⟩
  refine ⟨_, rfl, _, rfl, e, [v], none, rfl, by show 1 <= sizeLine; decide, hX, ?_⟩
  exact ⟨_, rfl, _, rfl, e, rfl, hX, T.xRow, fun d hd ne => q d hd ne⟩
theorem scInsist : FnScope ["self", "fits"] ["self", "fits"] (defScope sInsist) := ⟨rfl, rfl, rfl, by decide +kernel, rfl, by decide +kernel, by decide +kernel⟩
theorem ok_insist (F : Fun K "insist" "Words.insist" sInsist f fd) (T : Txt K mg A) (G : Xa P w K mg base 1 "NoText" A.cN ["self", "row"] (spNoText A)) : FnOk P w K mg base (CXf P w) 3 f fd ["self", "fits"] (spInsist A) := by
  refine F.byx scInsist (fun vs H Q E h => ?_) (fun cdv A' outer s H vs Q E hr h => ?_)
  · obtain ⟨w, lw, row, r, b, rfl, _⟩ := h
    rfl
  obtain ⟨w, lw, row, r, b, rfl, hA, hT, hF⟩ := h
  refine ⟨_, jss_one (js_if (jt_not (jt_val (jv 1))) (jss_one (js_raise G hr rfl throwx (ja_c (je_fld (jv 0)) ja_nil))) jss_nil), ?_⟩
  refine ⟨_, rfl, b, rfl, ?_⟩
  obtain ⟨dw, ws, i, a1, a2, a3⟩ := hA.ex
  cases b with
  | true =>
    refine iteF ?_
    exact hT rfl
  | false =>
    refine iteT ?_
    refine ⟨_, rfl, w, A.cW, dw, _, _, rfl, a1, T.clW, T.nRow, rfl, by show 1 <= sizeLine; decide, fun e he => ?_⟩
    refine ⟨e, .int row, rfl, upd_same, fun d hd ne => ⟨rfl, some d, upd_same, ?_⟩⟩
    have hd' : H d = none := by
      rw [upd_ne ne] at hd
      exact hd
    refine hF rfl d _ (fun b o _ q => ?_) ?_
    · have n1 : b ≠ e := ne_of_none q he
      have n2 : b ≠ d := ne_of_none q hd'
      rw [drp_ne n1, upd_ne n1, upd_ne n2, upd_ne n1]
      exact q
    · rw [drp_ne ne, upd_ne ne, upd_same]
theorem scAll : FnScope ["self"] ["self"] (defScope sAllRead) := ⟨rfl, rfl, rfl, by decide +kernel, rfl, by decide +kernel, by decide +kernel⟩
theorem ok_all (F : Fun K "all_read" "Words.all_read" sAllRead f fd) (T : Txt K mg A) : FnOk P w K mg base CX0 1 f fd ["self"] (spAll A) := by
  refine F.by scAll (fun vs H Q E h => ?_) (fun cdv A' outer s H vs Q E hr h => ?_)
  · obtain ⟨w, lw, row, r, rfl, _⟩ := h
    rfl
  obtain ⟨w, lw, row, r, rfl, hA, q⟩ := h
  refine ⟨_, jss_one (js_ret (je_cmpR jo_eq (je_fld (jv 0)) (je_fnB jc_len_seq rfl T.len PySem.boot_len (ja_c (je_fld (jv 0)) ja_nil)) (nomark _))), ?_⟩
  obtain ⟨dw, ws, i, a1, a2, rfl, a4, a5⟩ := hA.ex
  refine ⟨_, rfl, w, A.cW, dw, _, _, rfl, a1, T.clW, T.nAt, rfl, _, rfl, w, A.cW, dw, _, _, rfl, a1, T.clW, T.nWords, rfl, lw, _, rfl, .inl (SqL.of a2), rfl, ?_⟩
  have e : decide (V.int (i : Int) = V.int (((ws.map V.str).length : Nat) : Int)) = (ws.drop i).isEmpty := by
    rw [List.length_map, Bool.eq_iff_iff, decide_eq_true_iff, List.isEmpty_iff, List.drop_eq_nil_iff]
    constructor
    · intro h
      injection h with h
      omega
    · intro h
      have : i = ws.length := by omega
      rw [this]
  have r := q
  rw [<- e] at r
  exact r
theorem scPassed : FnScope ["self", "word"] ["self", "word"] (defScope sPassed) := ⟨rfl, rfl, rfl, by decide +kernel, rfl, by decide +kernel, by decide +kernel⟩
theorem drop_cons {α : Type} {l : List α} {i : Nat} {y : α} {r : List α} (h : y :: r = l.drop i) : l[i]? = some y /\ r = l.drop (i + 1) /\ i + 1 <= l.length := by
  have hi : i < l.length := by
    by_cases z : i < l.length
    · exact z
    · rw [List.drop_eq_nil_iff.mpr (by omega)] at h
      cases h
  rw [List.drop_eq_getElem_cons hi] at h
  injection h with h1 h2
  exact ⟨by rw [List.getElem?_eq_getElem hi, h1], h2, hi⟩
theorem ok_passed (F : Fun K "passed" "Words.passed" sPassed f fd) (T : Txt K mg A) (G : Me P w K mg base CX0 1 A.cW "all_read" ["self"] (spAll A)) : FnOk P w K mg base CX0 2 f fd ["self", "word"] (spPassed A) := by
  refine F.by scPassed (fun vs H Q E h => ?_) (fun cdv A' outer s H vs Q E hr h => ?_)
  · obtain ⟨w, lw, row, r, x, rfl, _⟩ := h
    rfl
  obtain ⟨w, lw, row, r, x, rfl, hA, q⟩ := h
  refine ⟨_, jss_cons (js_if (jW.pt (jw_or (jt_val (je_me0 (jv 0) T.clW G hr pass0)) (jw_or1 (jt_cmpR jo_ne (je_ix jx_list (je_fld (jv 0)) (je_fld (jv 0)) (fun _ _ => rfl)) (jv 1) (nomark _))))) (jss_one (js_ret je_bl)) jss_nil)
    (jss_cons (js_fld (jv 0) (je_op jo_add (je_fld (jv 0)) je_int)) (jss_one (js_ret je_bl))), ?_⟩
  obtain ⟨dw, ws, i, a1, a2, a3, a4, a5, a6⟩ := hA.ex
  refine ⟨_, rfl, w, dw, _, rfl, a1, rfl, w, lw, row, r, rfl, hA, _, rfl, ?_⟩
  cases r with
  | nil =>
    refine iteT (iteT ?_)
    exact q
  | cons y r' =>
    refine iteF ?_
    obtain ⟨b1, b2, b3⟩ := drop_cons a3
    have ix : atI (ws.map V.str) (i : Int) = some (.str y) := atI_nat (by rw [List.getElem?_map, b1]; rfl)
    refine ⟨_, rfl, w, A.cW, dw, _, _, rfl, a1, T.clW, T.nWords, rfl, _, rfl, w, A.cW, dw, _, _, rfl, a1, T.clW, T.nAt, rfl, lw, _, _, _, rfl, rfl, SqL.of a2, ix, _, rfl, rfl, _, rfl, ?_⟩
    dsimp only at q
    by_cases c : y = x
    · rw [if_pos c] at q
      refine iteNS (by rw [c]) ?_
      refine ⟨_, rfl, w, A.cW, dw, _, _, rfl, a1, T.clW, T.nAt, rfl, _, _, rfl, rfl, _, rfl, w, A.cW, dw, _, rfl, a1, T.clW, T.nAt, by show 3 < 1000; decide, ?_⟩
      refine q _ (KpS.put rfl) ⟨dw, ws, i + 1, ?_, by rw [upd_ne hA.ne.symm]; exact a2, b2, b3, a5, a6⟩
      exact upd_same
    · rw [if_neg c] at q
      have e : (!decide (V.str y = V.str x)) = true := by
        rw [decide_eq_false (fun z => c (by injection z))]
        rfl
      rw [e]
      exact iteT q
end
end Rdr
namespace Rdr
open PySem L2 K11 Rd
section
variable {P : Program} {w : World} {K : PySem.W.Frag} {mg : Str -> Option Value} {base : Heap} {f R : Addr} {fd : FuncData} {A : Adr}
theorem scWord : FnScope ["self"] ["self"] (defScope sNextWord) := ⟨rfl, rfl, rfl, by decide +kernel, rfl, by decide +kernel, by decide +kernel⟩
theorem ok_word (F : Fun K "next_word" "Words.next_word" sNextWord f fd) (T : Txt K mg A) (GA : Me P w K mg base CX0 1 A.cW "all_read" ["self"] (spAll A)) (GI : Me P w K mg base (CXf P w) 3 A.cW "insist" ["self", "fits"] (spInsist A)) : FnOk P w K mg base (CXf P w) 4 f fd ["self"] (spWord A) := by
  refine F.byx scWord (fun vs H Q E h => ?_) (fun cdv A' outer s H vs Q E hr h => ?_)
  · obtain ⟨w, lw, row, r, rfl, _⟩ := h
    rfl
  obtain ⟨w, lw, row, r, rfl, hA, q⟩ := h
  refine ⟨_, jss_cons (js_expr (je_me (jv 0) T.clW GI hr passx (ja_c (je_not (je_me0 (jv 0) T.clW GA (hr.mono (by decide)) pass0)) ja_nil)))
    (jss_cons (js_fld (jv 0) (je_op jo_add (je_fld (jv 0)) je_int)) (jss_one (js_ret (je_ix jx_list (je_fld (jv 0)) (je_op jo_sub (je_fld (jv 0)) je_int) (fun _ _ => rfl))))), ?_⟩
  obtain ⟨dw, ws, i, a1, a2, a3, a4, a5, a6⟩ := hA.ex
  refine ⟨_, rfl, w, dw, _, rfl, a1, rfl, _, rfl, w, dw, _, rfl, a1, rfl, w, lw, row, r, rfl, hA, _, rfl, w, lw, row, r, _, rfl, hA, fun hb => ?_, fun hb => ?_⟩
  · cases r with
    | nil => cases hb
    | cons y r' =>
      obtain ⟨b1, b2, b3⟩ := drop_cons a3
      dsimp only at q
      have hy := a6 y (List.mem_of_getElem? b1)
      refine ⟨_, rfl, w, A.cW, dw, _, _, rfl, a1, T.clW, T.nAt, rfl, _, _, rfl, rfl, _, rfl, w, A.cW, dw, _, rfl, a1, T.clW, T.nAt, by show 3 < 1000; decide, ?_⟩
      have u1 : upd H w (HO.ins A.cW dw (putF "at" (V.int ((i : Int) + 1)) [("row", .int row), ("words", .ref lw), ("at", .int i)])) w = some (WI A dw lw row (i + 1)) := upd_same
      have u2 : upd H w (HO.ins A.cW dw (putF "at" (V.int ((i : Int) + 1)) [("row", .int row), ("words", .ref lw), ("at", .int i)])) lw = some (.lst (ws.map V.str)) := by rw [upd_ne hA.ne.symm]; exact a2
      have ix : atI (ws.map V.str) (((i + 1 : Nat) : Int) - 1) = some (.str y) := by
        have e : (((i + 1 : Nat) : Int) - 1) = (i : Int) := by omega
        rw [e]
        exact atI_nat (by rw [List.getElem?_map, b1]; rfl)
      refine ⟨_, rfl, w, A.cW, dw, _, _, rfl, u1, T.clW, T.nWords, rfl, _, rfl, w, A.cW, dw, _, _, rfl, u1, T.clW, T.nAt, rfl, _, _, rfl, rfl, lw, _, _, _, rfl, rfl, SqL.of u2, ix, ?_⟩
      exact q hy _ (KpS.put rfl) ⟨dw, ws, i + 1, u1, u2, b2, b3, a5, a6⟩
  · cases r with
    | nil => exact q.at KpS.refl (fun b z => z.elim)
    | cons y r' => cases hb
theorem scNextName : FnScope ["self", "word"] ["self"] (defScope sNextName) := ⟨rfl, rfl, rfl, by decide +kernel, rfl, by decide +kernel, by decide +kernel⟩
theorem ok_nextname (F : Fun K "next_name" "Words.next_name" sNextName f fd) (T : Txt K mg A) (GW : Me P w K mg base (CXf P w) 4 A.cW "next_word" ["self"] (spWord A)) (GI : Me P w K mg base (CXf P w) 3 A.cW "insist" ["self", "fits"] (spInsist A))
    (GN : Ca P w K mg base CX0 2 "is_name" ["word"] spName) : FnOk P w K mg base (CXf P w) 5 f fd ["self"] (spNextName A) := by
  refine F.byx scNextName (fun vs H Q E h => ?_) (fun cdv A' outer s H vs Q E hr h => ?_)
  · obtain ⟨w, lw, row, r, rfl, _⟩ := h
    rfl
  obtain ⟨w, lw, row, r, rfl, hA, q⟩ := h
  refine ⟨_, jss_cons (js_set (i := 1) scNextName.nd rfl (Or.inl rfl) (je_me0 (jv 0) T.clW GW hr passx))
    (jss_cons (js_expr (je_me (jv 0) T.clW GI (hr.mono (by decide)) passx (ja_c (je_ca GN (hr.mono (by decide)) rfl pass0 (ja_c (jv 1) ja_nil)) ja_nil))) (jss_one (js_ret (jv 1)))), ?_⟩
  obtain ⟨dw, ws, i, a1, _⟩ := hA.ex
  refine ⟨_, rfl, w, dw, _, rfl, a1, rfl, w, lw, row, r, rfl, hA, ?_⟩
  cases r with
  | nil => exact q
  | cons y r' =>
    dsimp only
    intro hy H1 k1 hA1
    obtain ⟨dw1, ws1, i1, c1, _⟩ := hA1.ex
    refine ⟨_, rfl, w, dw1, _, rfl, c1, rfl, _, rfl, y, rfl, hy, fun H2 s2 => ?_⟩
    have hA2 := hA1.same s2
    have k2 : KpS (· = w) H H2 := k1.trans (.of s2)
    refine ⟨w, lw, row, r', _, rfl, hA2, fun hb => ⟨_, rfl, ?_⟩, fun hb => ?_⟩
    · have e : nextName LX (y :: r') = some (y, r') := name_ok (L := LX) hb
      rw [e] at q
      exact q H2 k2 hA2
    · have e : nextName LX (y :: r') = none := by
        show (if isName y = true then some (y, r') else none) = none
        rw [hb]
        rfl
      rw [e] at q
      exact q.at k2 (fun b z => z.elim)
theorem scUntil : FnScope ["self", "stop", "names"] ["self", "stop"] (defScope sUntil) := ⟨rfl, rfl, rfl, by decide +kernel, rfl, by decide +kernel, by decide +kernel⟩
theorem ok_until (F : Fun K "names_until" "Words.names_until" sUntil f fd) (T : Txt K mg A) (GP : Me P w K mg base CX0 2 A.cW "passed" ["self", "word"] (spPassed A)) (GI : Me P w K mg base (CXf P w) 3 A.cW "insist" ["self", "fits"] (spInsist A))
    (GN : Me P w K mg base (CXf P w) 5 A.cW "next_name" ["self"] (spNextName A)) : FnOk P w K mg base (CXf P w) 6 f fd ["self", "stop"] (spUntil A) := by
  refine F.byx scUntil (fun vs H Q E h => ?_) (fun cdv A' outer s H vs Q E hr h => ?_)
  · obtain ⟨w, lw, row, r, x, rfl, _⟩ := h
    rfl
  obtain ⟨w, lw, row, r0, stop, rfl, hA0, q⟩ := h
  obtain ⟨t9, m9⟩ := T.mostN
  refine ⟨_, jss_cons (js_set (i := 2) scUntil.nd rfl (Or.inl rfl) (je_lst ja_nil))
    (jss_cons (js_while ownx (jt_not (jt_val (je_me (jv 0) T.clW GP (hr.mono (by decide)) pass0 (ja_c (jv 1) ja_nil))))
      (jss_cons (js_expr (je_me (jv 0) T.clW GI (hr.mono (by decide)) passx (ja_c (je_cmpR jo_lt (je_fnB jc_len_seq rfl T.len PySem.boot_len (ja_c (jv 2) ja_nil)) (je_glob (v := .int 9) rfl m9 ⟨_, rfl⟩) (nomark _)) ja_nil)))
      (jss_one (js_expr (je_bm PySem.F.plainAttrs_list PySem.F.slot_list_append PySem.F.type_list_append jm_append (jv 2) (ja_c (je_me0 (jv 0) T.clW GN hr passx) ja_nil))))))
    (jss_one (js_ret (je_fnTy jc_tuple_of rfl T.tuple PyProof.Rows.boot_tuple (ja_c (jv 2) ja_nil))))), ?_⟩
  refine ⟨by show 0 <= sizeLine; decide, fun p hp => ?_⟩
  have nw : ∀ {b o}, H b = some o -> b ≠ p := fun h => ne_of_none h hp
  obtain ⟨dw0, ws0, i0, z1, z2, _⟩ := hA0.ex
  have npw : p ≠ w := (nw z1).symm
  have npl : p ≠ lw := (nw z2).symm
  refine ⟨fun m σ H2 => ∃ r acc, m = r.length /\ σ = [some (.ref w), some (.str stop), some (.ref p)] /\ AtR A H2 w lw row r /\ H2 p = some (.lst (acc.map V.str)) /\ KpS (· = w) H H2 /\ until_ LX stop acc r = until_ LX stop [] r0 /\ acc.length <= 9,
    ⟨_, r0, [], rfl, rfl, hA0.same (same_new hp _), upd_same, KpS.new hp, rfl, by decide⟩, ?_⟩
  rintro m σ H2 ⟨r, acc, rfl, rfl, hA, hl, k2, hu, h9⟩
  obtain ⟨dw, ws, i, a1, _⟩ := hA.ex
  refine ⟨_, rfl, w, dw, _, rfl, a1, rfl, _, rfl, w, lw, row, r, stop, rfl, hA, ?_⟩
  have sl := line
  have ln : (acc.map V.str).length = acc.length := List.length_map _
  cases r with
  | nil =>
    dsimp only
    refine ⟨_, rfl, iteT ⟨_, fun _ _ h => h, ?_⟩⟩
    have e0 : until_ LX stop acc [] = none := rfl
    rw [<- hu, e0] at q
    refine ⟨_, rfl, w, dw, _, rfl, a1, rfl, _, rfl, p, _, rfl, .inl (SqL.of hl), _, _, rfl, rfl, w, lw, row, [], _, rfl, hA, fun hb => ?_, fun hb => q.at k2 (fun b z => z.elim)⟩
    exact ⟨_, rfl, .inl ⟨rfl, _, SqL.of hl⟩, _, rfl, w, dw, _, rfl, a1, rfl, w, lw, row, [], rfl, hA, q.at k2 (fun b z => z)⟩
  | cons y r' =>
    dsimp only
    by_cases c : y = stop
    · rw [if_pos c]
      intro H3 k3 hA3
      refine ⟨_, rfl, iteF ?_⟩
      have e0 : until_ LX stop acc (y :: r') = some (acc, r') := by
        unfold until_
        rw [if_pos c]
      rw [<- hu, e0] at q
      refine ⟨_, rfl, p, _, rfl, .inl ⟨SqL.of (k3 _ _ npw hl), fun p2 hp2 => ?_⟩⟩
      exact q _ p2 ((k2.trans k3).trans (KpS.new hp2)) (hA3.same (same_new hp2 _)) upd_same
    · rw [if_neg c]
      refine ⟨_, rfl, iteT ⟨_, fun _ _ h => h, ?_⟩⟩
      refine ⟨_, rfl, w, dw, _, rfl, a1, rfl, _, rfl, p, _, rfl, .inl (SqL.of hl), _, _, rfl, rfl, w, lw, row, y :: r', _, rfl, hA, fun hb => ?_, fun hb => ?_⟩
      · have h9' : acc.length < 9 := by
          have := of_decide_eq_true hb
          rw [ln] at this
          omega
        refine ⟨_, rfl, .inl ⟨rfl, _, SqL.of hl⟩, _, rfl, w, dw, _, rfl, a1, rfl, w, lw, row, y :: r', rfl, hA, ?_⟩
        by_cases cn : isName y = true
        · have e1 : nextName LX (y :: r') = some (y, r') := name_ok (L := LX) cn
          rw [e1]
          dsimp only
          intro H3 k3 hA3
          refine ⟨p, _, _, rfl, rfl, k3 _ _ npw hl, by rw [ln]; omega, ?_⟩
          have e2 : until_ LX stop acc (y :: r') = until_ LX stop (acc ++ [y]) r' := by
            rw [until_]
            rw [if_neg c, if_pos ⟨h9', cn⟩]
          refine ⟨_, Nat.lt_succ_self _, r', acc ++ [y], rfl, rfl, hA3.kept (S := (· = p)) (KpS.put rfl) npw.symm npl.symm, ?_, fun b o nb hb2 => by rw [upd_ne (nw hb2)]; exact (k2.trans k3) b o nb hb2, by rw [<- e2]; exact hu, by rw [List.length_append, List.length_singleton]; omega⟩
          · rw [upd_same, List.map_append]
            rfl
        · have e1 : nextName LX (y :: r') = none := by
            show (if isName y = true then some (y, r') else none) = none
            rw [if_neg cn]
          rw [e1]
          have e0 : until_ LX stop acc (y :: r') = none := by
            rw [until_]
            rw [if_neg c, if_neg (fun z => cn z.2)]
          rw [<- hu, e0] at q
          exact q.at k2 (fun b z => z)
      · have h9' : ¬ acc.length < 9 := by
          have := of_decide_eq_false hb
          rw [ln] at this
          omega
        have e0 : until_ LX stop acc (y :: r') = none := by
          rw [until_]
          rw [if_neg c, if_neg (fun z => h9' z.1)]
        rw [<- hu, e0] at q
        exact q.at k2 (fun b z => z.elim)
end
end Rdr
namespace Rdr
open PySem L2 K11 Rd
theorem minus_sg : ("-" : Str) = sg 45 := by decide
theorem zero_sg : ("0" : Str) = sg 48 := by decide
theorem figs_mem : ∀ c ∈ cl FIGS, 48 <= c /\ c <= 57 := by decide
theorem mem_figs {c : Nat} (h : 48 <= c /\ c <= 57) : c ∈ cl FIGS := by
  have e : cl FIGS = [48, 49, 50, 51, 52, 53, 54, 55, 56, 57] := by decide
  rw [e]
  simp only [List.mem_cons, List.not_mem_nil, or_false]
  omega
theorem starts_minus {z : Str} : Txt.startswith z "-" = true ↔ ∃ cs, cl z = 45 :: cs := by
  rw [minus_sg, starts_one]
  obtain ⟨⟨l⟩⟩ := z
  cases l with
  | nil => simp
  | cons c r =>
    show (some c == some 45) = true ↔ ∃ cs, c :: r = 45 :: cs
    constructor
    · intro h
      have h' : c = 45 := by simpa using h
      exact ⟨r, by rw [h']⟩
    · rintro ⟨cs, h⟩
      injection h with h1 _
      rw [h1]
      rfl
theorem figs_minus {z : Str} {cs : List Nat} (h : cl z = 45 :: cs) : cl (figsOf z) = cs := by
  unfold figsOf
  rw [if_pos (starts_minus.mpr ⟨cs, h⟩), cl_slice]
  have hl : z.length = cs.length + 1 := by rw [<- cl_len, h, List.length_cons]
  have c1 : cutAt z.length (some 1) 0 = 1 := by
    unfold cutAt
    dsimp only
    rw [if_neg (by omega)]
    omega
  rw [c1, h]
  show cs.take _ = cs
  exact List.take_of_length_le (by show cs.length <= z.length - 1; omega)
theorem figs_plain {z : Str} (h : ¬ ∃ cs, cl z = 45 :: cs) : figsOf z = z := by
  unfold figsOf
  rw [if_neg (fun e => h (starts_minus.mp e))]
theorem isNumber_iff {z : Str} : isNumber z = true ↔ (1 <= (cl (figsOf z)).length /\ (cl (figsOf z)).length <= 30) /\ NumText.AllDigits (cl (figsOf z)) /\ (z = sg 48 \/ (cl (figsOf z))[0]? ≠ some 48) := by
  unfold isNumber lenIn
  rw [<- zero_sg, zero_sg, starts_one, cl_len]
  have e0 : (figsOf z).cps[0]? = (cl (figsOf z))[0]? := by simp
  rw [e0]
  cases hm : madeOf (figsOf z) FIGS with
  | false =>
    simp only [Bool.not_false, Bool.or_true, if_true]
    constructor
    · intro h
      cases h
    · rintro ⟨_, h, _⟩
      have := madeOf_iff.mpr fun c hc => mem_figs (h c hc)
      rw [hm] at this
      cases this
  | true =>
    have all : NumText.AllDigits (cl (figsOf z)) := fun c hc => figs_mem c (madeOf_iff.mp hm c hc)
    simp only [Bool.not_true, Bool.or_false, Bool.not_eq_true']
    by_cases hl : 1 <= (figsOf z).length /\ (figsOf z).length <= 30
    · have d1 : (decide ((1 : Int) <= ((figsOf z).length : Nat)) && decide ((((figsOf z).length : Nat) : Int) <= 30)) = true := by
        rw [decide_eq_true (by omega), decide_eq_true (by omega)]
        rfl
      rw [d1, if_neg (by decide)]
      simp only [Bool.or_eq_true, decide_eq_true_eq, Bool.not_eq_true', beq_eq_false_iff_ne]
      constructor
      · rintro (h | h)
        · exact ⟨hl, all, .inl (by injection h)⟩
        · exact ⟨hl, all, .inr h⟩
      · rintro ⟨_, _, h | h⟩
        · exact .inl (by rw [h])
        · exact .inr h
    · have d1 : (decide ((1 : Int) <= ((figsOf z).length : Nat)) && decide ((((figsOf z).length : Nat) : Int) <= 30)) = false := by
        rw [Bool.eq_false_iff]
        intro h
        simp only [Bool.and_eq_true, decide_eq_true_eq] at h
        exact hl (by omega)
      rw [d1, if_pos rfl]
      constructor
      · intro h
        cases h
      · rintro ⟨h, _⟩
        exact absurd h hl
theorem number_int {z : Str} (h : isNumber z = true) : PySem.intText? z = some (intOf z) /\ z.length <= 640 := by
  obtain ⟨⟨h1, h2⟩, h3, _⟩ := isNumber_iff.mp h
  have key : ∃ n, PySem.intText? z = some n /\ z.length <= 640 := by
    by_cases c : ∃ cs, cl z = 45 :: cs
    · obtain ⟨cs, hc⟩ := c
      rw [figs_minus hc] at h1 h2 h3
      have hl : z.length = cs.length + 1 := by rw [<- cl_len, hc, List.length_cons]
      exact ⟨_, PySem.intText_neg hc h3 (fun e => by rw [e] at h1; simp at h1) (by omega), by omega⟩
    · rw [figs_plain c] at h1 h2 h3
      have hl := cl_len z
      exact ⟨_, PySem.intText_digits h3 (fun e => by rw [show cl z = [] from e] at h1; simp at h1) (by omega), by omega⟩
  obtain ⟨n, e, hl⟩ := key
  exact ⟨by unfold intOf; rw [e]; rfl, hl⟩
theorem number_made {n : Int} (h : n.natAbs < 10 ^ 30) : isNumber (Str.ofString (toString n)) = true /\ intOf (Str.ofString (toString n)) = n := by
  have len : ∀ m : Nat, m < 10 ^ 30 -> 1 <= ((Nat.toDigits 10 m).map Char.toNat).length /\ ((Nat.toDigits 10 m).map Char.toNat).length <= 30 := fun m hm => by
    rw [List.length_map]
    exact ⟨Nat.length_toDigits_pos, (Nat.length_toDigits_le_iff (by decide) (by decide)).mpr hm⟩
  cases n with
  | ofNat m =>
    have hm : m < 10 ^ 30 := h
    have e : cl (Str.ofString (toString (Int.ofNat m))) = (Nat.toDigits 10 m).map Char.toNat := cl_nat m
    have all := figs_all m
    have np : ¬ ∃ cs, cl (Str.ofString (toString (Int.ofNat m))) = 45 :: cs := by
      rintro ⟨cs, hc⟩
      rw [e] at hc
      have := all 45 (by rw [hc]; exact List.mem_cons_self)
      omega
    have l := len m hm
    refine ⟨isNumber_iff.mpr ?_, ?_⟩
    · rw [figs_plain np, e]
      refine ⟨l, all, ?_⟩
      by_cases m0 : m = 0
      · left
        rw [m0]
        decide
      · right
        obtain ⟨c, r, hc, h49⟩ := figs_head m m0
        rw [hc]
        simp
        omega
    · unfold intOf
      rw [PySem.intText_digits (x := Str.ofString (toString (Int.ofNat m))) (by rw [show (Str.ofString (toString (Int.ofNat m))).cps.toList = _ from e]; exact all) (fun z => by rw [show (Str.ofString (toString (Int.ofNat m))).cps.toList = _ from e] at z; rw [z] at l; simp at l) (by rw [<- cl_len, e]; omega)]
      rw [show (Str.ofString (toString (Int.ofNat m))).cps.toList = _ from e, PySem.W.KIN.val_back]
      rfl
  | negSucc m =>
    have hm : m + 1 < 10 ^ 30 := h
    have e := cl_neg m
    have all := figs_all (m + 1)
    have l := len (m + 1) hm
    refine ⟨isNumber_iff.mpr ?_, ?_⟩
    · rw [figs_minus e]
      refine ⟨l, all, .inr ?_⟩
      obtain ⟨c, r, hc, h49⟩ := figs_head (m + 1) (by omega)
      rw [hc]
      simp
      omega
    · unfold intOf
      rw [PySem.intText_neg e all (fun z => by rw [z] at l; simp at l) (by rw [<- cl_len, e, List.length_cons]; omega), PySem.W.KIN.val_back]
      rfl
mutual
inductive Is (H : Hp) : D -> V -> Prop
  | int (i : Int) : Is H (.int i) (.int i)
  | str (x : Str) : Is H (.str x) (.str x)
  | tup {ds : List D} {vs : List V} {p : Addr} : H p = some (.tup vs) -> IsL H ds vs -> Is H (.tup ds) (.ref p)
inductive IsL (H : Hp) : List D -> List V -> Prop
  | nil : IsL H [] []
  | cons {d : D} {v : V} {ds : List D} {vs : List V} : Is H d v -> IsL H ds vs -> IsL H (d :: ds) (v :: vs)
end
def Tups (H H' : Hp) : Prop := ∀ p xs, H p = some (.tup xs) -> H' p = some (.tup xs)
theorem Tups.trans {H H1 H2 : Hp} (a : Tups H H1) (b : Tups H1 H2) : Tups H H2 := fun p xs h => b p xs (a p xs h)
mutual
theorem Is.keep {H H' : Hp} (k : Tups H H') : ∀ {d : D} {v : V}, Is H d v -> Is H' d v
  | _, _, .int i => .int i
  | _, _, .str x => .str x
  | _, _, .tup h l => .tup (k _ _ h) (IsL.keep k l)
theorem IsL.keep {H H' : Hp} (k : Tups H H') : ∀ {ds : List D} {vs : List V}, IsL H ds vs -> IsL H' ds vs
  | _, _, .nil => .nil
  | _, _, .cons a b => .cons (Is.keep k a) (IsL.keep k b)
end
theorem IsL.strs {H : Hp} : ∀ (l : List Str), IsL H (l.map D.str) (l.map V.str)
  | [] => .nil
  | x :: l => .cons (.str x) (IsL.strs l)
theorem IsL.app {H : Hp} : ∀ {ds es : List D} {vs us : List V}, IsL H ds vs -> IsL H es us -> IsL H (ds ++ es) (vs ++ us)
  | _, _, _, _, .nil, b => b
  | _, _, _, _, .cons a l, b => .cons a (IsL.app l b)
theorem IsL.len {H : Hp} : ∀ {ds : List D} {vs : List V}, IsL H ds vs -> ds.length = vs.length
  | _, _, .nil => rfl
  | _, _, .cons _ l => by rw [List.length_cons, List.length_cons, IsL.len l]
theorem KpS.tups {S : Addr -> Prop} {H H' : Hp} (k : KpS S H H') (n : ∀ b, S b -> ∀ xs, H b ≠ some (.tup xs)) : Tups H H' := fun p xs h => k p _ (fun z => n p z xs h) h
theorem Tups.new {H : Hp} {a : Addr} {o : HO} (h : H a = none) : Tups H (upd H a o) := fun p xs q => by rw [upd_ne (ne_of_none q h)]; exact q
theorem AtR.notup {A : Adr} {H : Hp} {w lw : Addr} {row : Int} {r : List Str} (h : AtR A H w lw row r) : ∀ b, b = w -> ∀ xs, H b ≠ some (.tup xs) := fun b e xs z => by
  obtain ⟨dw, ws, i, a1, _⟩ := h.ex
  rw [e, a1] at z
  cases z
theorem AtR.tups {A : Adr} {H H' : Hp} {w lw : Addr} {row : Int} {r : List Str} (h : AtR A H w lw row r) (k : KpS (· = w) H H') : Tups H H' := k.tups h.notup
def spDeed (A : Adr) : Sp := fun vs H Q E => ∃ (w lw : Addr) (row : Int) (r : List Str), vs = [.ref w] /\ AtR A H w lw row r /\ (match deed LX r with
  | none => Err A E (· = w) H row
  | some (d, r') => ∀ H' v, KpS (· = w) H H' -> AtR A H' w lw row r' -> Is H' d v -> Q v H')
def spHead (A : Adr) : Sp := fun vs H Q E => ∃ (w lw : Addr) (row : Int) (r : List Str), vs = [.ref w] /\ AtR A H w lw row r /\ (match head LX r with
  | none => Err A E (· = w) H row
  | some ((t, ns), r') => ∀ H' p pn, KpS (· = w) H H' -> AtR A H' w lw row r' -> H' p = some (.tup [.str t, .ref pn]) -> H' pn = some (.tup (ns.map V.str)) -> Q (.ref p) H')
section
variable {P : Program} {w : World} {K : PySem.W.Frag} {mg : Str -> Option Value} {base : Heap} {f R ao ad : Addr} {fd : FuncData} {A : Adr}
theorem scNextNumber : FnScope ["self", "word"] ["self"] (defScope sNextNumber) := ⟨rfl, rfl, rfl, by decide +kernel, rfl, by decide +kernel, by decide +kernel⟩
theorem ok_nextnumber (F : Fun K "next_number" "Words.next_number" sNextNumber f fd) (T : Txt K mg A) (GW : Me P w K mg base (CXf P w) 4 A.cW "next_word" ["self"] (spWord A)) (GI : Me P w K mg base (CXf P w) 3 A.cW "insist" ["self", "fits"] (spInsist A))
    (GN : Ca P w K mg base CX0 2 "is_number" ["word"] spNumber) : FnOk P w K mg base (CXf P w) 5 f fd ["self"] (spNextNumber A) := by
  refine F.byx scNextNumber (fun vs H Q E h => ?_) (fun cdv A' outer s H vs Q E hr h => ?_)
  · obtain ⟨w, lw, row, r, rfl, _⟩ := h
    rfl
  obtain ⟨w, lw, row, r, rfl, hA, q⟩ := h
  refine ⟨_, jss_cons (js_set (i := 1) scNextNumber.nd rfl (Or.inl rfl) (je_me0 (jv 0) T.clW GW hr passx))
    (jss_cons (js_expr (je_me (jv 0) T.clW GI (hr.mono (by decide)) passx (ja_c (je_ca GN (hr.mono (by decide)) rfl pass0 (ja_c (jv 1) ja_nil)) ja_nil))) (jss_one (js_ret (je_fnTy jc_int_text rfl T.int PyProof.Rows.boot_int (ja_c (jv 1) ja_nil))))), ?_⟩
  obtain ⟨dw, ws, i, a1, _⟩ := hA.ex
  refine ⟨_, rfl, w, dw, _, rfl, a1, rfl, w, lw, row, r, rfl, hA, ?_⟩
  cases r with
  | nil => exact q
  | cons y r' =>
    dsimp only
    intro hy H1 k1 hA1
    obtain ⟨dw1, ws1, i1, c1, _⟩ := hA1.ex
    refine ⟨_, rfl, w, dw1, _, rfl, c1, rfl, _, rfl, y, rfl, hy, fun H2 s2 => ?_⟩
    have hA2 := hA1.same s2
    have k2 : KpS (· = w) H H2 := k1.trans (.of s2)
    refine ⟨w, lw, row, r', _, rfl, hA2, fun hb => ⟨_, rfl, ?_⟩, fun hb => ?_⟩
    · have e : nextNumber LX (y :: r') = some (intOf y, r') := by
        show (if isNumber y = true then some (intOf y, r') else none) = _
        rw [if_pos hb]
      rw [e] at q
      obtain ⟨n1, n2⟩ := number_int hb
      exact ⟨y, _, rfl, n1, n2, q H2 k2 hA2⟩
    · have e : nextNumber LX (y :: r') = none := by
        show (if isNumber y = true then some (intOf y, r') else none) = none
        rw [hb]
        rfl
      rw [e] at q
      exact q.at k2 (fun b z => z.elim)
theorem scReadHead : FnScope ["words", "tag"] ["words"] (defScope sReadHead) := ⟨rfl, rfl, rfl, by decide +kernel, rfl, by decide +kernel, by decide +kernel⟩
theorem ok_head (F : Fun K "read_head" "read_head" sReadHead f fd) (T : Txt K mg A) (GN : Me P w K mg base (CXf P w) 5 A.cW "next_name" ["self"] (spNextName A)) (GU : Me P w K mg base (CXf P w) 6 A.cW "names_until" ["self", "stop"] (spUntil A)) : FnOk P w K mg base (CXf P w) 7 f fd ["words"] (spHead A) := by
  refine F.byx scReadHead (fun vs H Q E h => ?_) (fun cdv A' outer s H vs Q E hr h => ?_)
  · obtain ⟨w, lw, row, r, rfl, _⟩ := h
    rfl
  obtain ⟨w, lw, row, r, rfl, hA, q⟩ := h
  refine ⟨_, jss_cons (js_set (i := 1) scReadHead.nd rfl (Or.inl rfl) (je_me0 (jv 0) T.clW GN (hr.mono (by decide)) passx))
    (jss_one (js_ret (je_tup (ja_c (jv 1) (ja_c (je_me (jv 0) T.clW GU hr passx (ja_c je_str ja_nil)) ja_nil))))), ?_⟩
  obtain ⟨dw, ws, i, a1, _⟩ := hA.ex
  refine ⟨_, rfl, w, dw, _, rfl, a1, rfl, w, lw, row, r, rfl, hA, ?_⟩
  unfold head at q
  cases e : nextName LX r with
  | none =>
    rw [e] at q
    exact q
  | some pr =>
    obtain ⟨t, r1⟩ := pr
    rw [e] at q
    dsimp only [Option.bind_some] at q ⊢
    intro H1 k1 hA1
    obtain ⟨dw1, ws1, i1, c1, _⟩ := hA1.ex
    refine ⟨_, rfl, _, rfl, w, dw1, _, rfl, c1, rfl, w, lw, row, r1, _, rfl, hA1, ?_⟩
    cases e2 : until_ LX ":" [] r1 with
    | none =>
      rw [e2] at q
      exact q.at k1 (fun b z => z)
    | some pr2 =>
      obtain ⟨ns, r2⟩ := pr2
      rw [e2] at q
      dsimp only [Option.map_some] at q ⊢
      intro H2 pn k2 hA2 hpn
      refine ⟨by show 2 <= sizeLine; decide, fun p hp => ?_⟩
      exact q _ p pn ((k1.trans k2).trans (KpS.new hp)) (hA2.same (same_new hp _)) upd_same (by rw [upd_ne (ne_of_none hpn hp)]; exact hpn)
theorem scDeed : FnScope ["words", "word", "a", "name"] ["words"] (defScope sReadDeed) := ⟨rfl, rfl, rfl, by decide +kernel, rfl, by decide +kernel, by decide +kernel⟩
theorem in_strs {x : Str} : ∀ {l : List Str}, inV (.str x) (l.map V.str) = decide (x ∈ l)
  | [] => rfl
  | y :: l => by
    have ih := in_strs (x := x) (l := l)
    unfold inV at ih ⊢
    rw [List.map_cons, List.any_cons, ih]
    show ((y == x) || decide (x ∈ l)) = decide (x ∈ y :: l)
    rw [Bool.eq_iff_iff]
    simp only [Bool.or_eq_true, beq_iff_eq, decide_eq_true_iff, List.mem_cons]
    constructor
    · rintro (h | h)
      · exact .inl h.symm
      · exact .inr h
    · rintro (h | h)
      · exact .inl h.symm
      · exact .inr h
theorem iteS {x y : Str} {A B : Prop} (e : x = y) (h : A) : if decide (V.str x = V.str y) = true then A else B := by
  rw [decide_eq_true (congrArg V.str e)]
  exact iteT h
theorem iteSN {x y : Str} {A B : Prop} (e : x ≠ y) (h : B) : if decide (V.str x = V.str y) = true then A else B := by
  rw [decide_eq_false (fun z => e (by injection z))]
  exact iteF h
theorem iteD {c A B : Prop} [Decidable c] (e : c) (h : A) : if decide c = true then A else B := by
  rw [decide_eq_true e]
  exact iteT h
theorem iteDN {c A B : Prop} [Decidable c] (e : ¬ c) (h : B) : if decide c = true then A else B := by
  rw [decide_eq_false e]
  exact iteF h
theorem ok_deed (F : Fun K "read_deed" "read_deed" sReadDeed f fd) (T : Txt K mg A) (GW : Me P w K mg base (CXf P w) 4 A.cW "next_word" ["self"] (spWord A)) (GI : Me P w K mg base (CXf P w) 3 A.cW "insist" ["self", "fits"] (spInsist A))
    (GN : Me P w K mg base (CXf P w) 5 A.cW "next_name" ["self"] (spNextName A)) (GM : Me P w K mg base (CXf P w) 5 A.cW "next_number" ["self"] (spNextNumber A)) (GU : Me P w K mg base (CXf P w) 6 A.cW "names_until" ["self", "stop"] (spUntil A))
    (mO : mg "OPS" = some (.ref ao)) (hO : ∀ H : Hp, SqT K H ao (OPS.map V.str)) (mD : mg "NAMING_DEEDS" = some (.ref ad)) (hD : ∀ H : Hp, SqT K H ad (DEEDS.map V.str)) : FnOk P w K mg base (CXf P w) 7 f fd ["words"] (spDeed A) := by
  refine F.byx scDeed (fun vs H Q E h => ?_) (fun cdv A' outer s H vs Q E hr h => ?_)
  · obtain ⟨w, lw, row, r, rfl, _⟩ := h
    rfl
  obtain ⟨w, lw, row, r, rfl, hA, q⟩ := h
  refine ⟨_, jss_cons (js_set (i := 1) scDeed.nd rfl (Or.inl rfl) (je_me0 (jv 0) T.clW GW (hr.mono (by decide)) passx))
    (jss_cons (js_if (jt_cmpR jo_eq (jv 1) je_str (nomark _)) (jss_one (js_ret (je_tup (ja_c je_str (ja_c (je_me0 (jv 0) T.clW GM (hr.mono (by decide)) passx) ja_nil))))) jss_nil)
    (jss_cons (js_if (jt_cmpR jo_in_seq (jv 1) (je_glob (v := .ref ao) rfl mO rfl) (by with_unfolding_all rfl)) (jss_cons (js_set (i := 2) scDeed.nd rfl (Or.inl rfl) (je_me0 (jv 0) T.clW GN (hr.mono (by decide)) passx)) (jss_one (js_ret (je_tup (ja_c je_str (ja_c (jv 1) (ja_c (jv 2) (ja_c (je_me0 (jv 0) T.clW GN (hr.mono (by decide)) passx) ja_nil)))))))) jss_nil)
    (jss_cons (js_expr (je_me (jv 0) T.clW GI (hr.mono (by decide)) passx (ja_c (je_cmpR jo_in_seq (jv 1) (je_glob (v := .ref ad) rfl mD rfl) (by with_unfolding_all rfl)) ja_nil)))
    (jss_cons (js_set (i := 3) scDeed.nd rfl (Or.inl rfl) (je_me0 (jv 0) T.clW GN (hr.mono (by decide)) passx))
    (jss_one (js_ret (je_tup (ja_c (jv 1) (ja_c (jv 3) (ja_c (je_me (jv 0) T.clW GU hr passx (ja_c je_str ja_nil)) ja_nil)))))))))), ?_⟩
  obtain ⟨dw, ws, i, a1, _⟩ := hA.ex
  refine ⟨_, rfl, w, dw, _, rfl, a1, rfl, w, lw, row, r, rfl, hA, ?_⟩
  cases r with
  | nil => exact q
  | cons y r' =>
    dsimp only
    intro hy H1 k1 hA1
    obtain ⟨dw1, ws1, i1, c1, _⟩ := hA1.ex
    refine ⟨_, rfl, rfl, _, rfl, ?_⟩
    unfold deed at q
    dsimp only at q
    by_cases y1 : y = "num"
    · rw [if_pos y1] at q
      refine iteS y1 ?_
      refine ⟨_, rfl, w, dw1, _, rfl, c1, rfl, w, lw, row, r', rfl, hA1, ?_⟩
      cases e : nextNumber LX r' with
      | none =>
        rw [e] at q
        exact q.at k1 (fun b z => z)
      | some pr =>
        obtain ⟨n, r2⟩ := pr
        rw [e] at q
        dsimp only [Option.map_some] at q ⊢
        intro H2 k2 hA2
        refine ⟨by show 2 <= sizeLine; decide, fun p hp => ?_⟩
        exact q _ _ ((k1.trans k2).trans (KpS.new hp)) (hA2.same (same_new hp _)) (.tup upd_same (.cons (.str _) (.cons (.int _) .nil)))
    rw [if_neg y1] at q
    refine iteSN y1 ?_
    refine ⟨_, rfl, ao, _, rfl, .inr (hO _), rfl, by decide +kernel, _, rfl, ?_⟩
    rw [in_strs]
    by_cases y2 : y ∈ OPS
    · rw [if_pos y2] at q
      refine iteD y2 ?_
      refine ⟨_, rfl, w, dw1, _, rfl, c1, rfl, w, lw, row, r', rfl, hA1, ?_⟩
      cases e : nextName LX r' with
      | none =>
        rw [e] at q
        exact q.at k1 (fun b z => z)
      | some pr =>
        obtain ⟨a, r2⟩ := pr
        rw [e] at q
        dsimp only [Option.bind_some] at q ⊢
        intro H2 k2 hA2
        obtain ⟨dw2, ws2, i2, c2, _⟩ := hA2.ex
        refine ⟨_, rfl, _, rfl, _, rfl, w, dw2, _, rfl, c2, rfl, w, lw, row, r2, rfl, hA2, ?_⟩
        cases e2 : nextName LX r2 with
        | none =>
          rw [e2] at q
          exact q.at (k1.trans k2) (fun b z => z)
        | some pr2 =>
          obtain ⟨b, r3⟩ := pr2
          rw [e2] at q
          dsimp only [Option.map_some] at q ⊢
          intro H3 k3 hA3
          refine ⟨by show 4 <= sizeLine; decide, fun p hp => ?_⟩
          exact q _ _ (((k1.trans k2).trans k3).trans (KpS.new hp)) (hA3.same (same_new hp _)) (.tup upd_same (.cons (.str _) (.cons (.str _) (.cons (.str _) (.cons (.str _) .nil)))))
    rw [if_neg y2] at q
    refine iteDN y2 ?_
    refine ⟨_, rfl, w, dw1, _, rfl, c1, rfl, _, rfl, ad, _, rfl, .inr (hD _), rfl, by decide +kernel, ?_⟩
    rw [if_neg Bool.false_ne_true, in_strs]
    refine ⟨w, lw, row, r', _, rfl, hA1, fun hb => ?_, fun hb => ?_⟩
    · rw [if_pos (of_decide_eq_true hb)] at q
      refine ⟨_, rfl, w, dw1, _, rfl, c1, rfl, w, lw, row, r', rfl, hA1, ?_⟩
      cases e : nextName LX r' with
      | none =>
        rw [e] at q
        exact q.at k1 (fun b z => z)
      | some pr =>
        obtain ⟨a, r2⟩ := pr
        rw [e] at q
        dsimp only [Option.bind_some] at q ⊢
        intro H2 k2 hA2
        obtain ⟨dw2, ws2, i2, c2, _⟩ := hA2.ex
        refine ⟨_, rfl, _, rfl, _, rfl, w, dw2, _, rfl, c2, rfl, w, lw, row, r2, _, rfl, hA2, ?_⟩
        cases e2 : until_ LX ";" [] r2 with
        | none =>
          rw [e2] at q
          exact q.at (k1.trans k2) (fun b z => z)
        | some pr2 =>
          obtain ⟨ns, r3⟩ := pr2
          rw [e2] at q
          dsimp only [Option.map_some] at q ⊢
          intro H3 pn k3 hA3 hpn
          refine ⟨by show 3 <= sizeLine; decide, fun p hp => ?_⟩
          have hpn' : upd H3 p (.tup [.str y, .str a, .ref pn]) pn = some (.tup (ns.map V.str)) := by rw [upd_ne (ne_of_none hpn hp)]; exact hpn
          exact q _ _ (((k1.trans k2).trans k3).trans (KpS.new hp)) (hA3.same (same_new hp _)) (.tup upd_same (.cons (.str _) (.cons (.str _) (.cons (.tup hpn' (IsL.strs ns)) .nil))))
    · rw [if_neg (of_decide_eq_false hb)] at q
      exact q.at k1 (fun b z => z.elim)
end
end Rdr
namespace Rdr
open PySem L2 K11 Rd
theorem Is.nn {H : Hp} {d : D} {v : V} (h : Is H d v) : v ≠ .non := by
  cases h <;> intro z <;> cases z
def FrIs (A : Adr) (H : Hp) : Fr -> Addr -> List Addr -> Prop
  | .lt x d, b, fp => fp = [b] /\ ∃ dx v, H b = some (.ins A.cL dx [("binds", .str x), ("deed", v)]) /\ Is H d v
  | .if0 x, b, fp => fp = [b] /\ ∃ dx, H b = some (.ins A.cI dx [("looked", .str x), ("first", .non)])
  | .if1 x d, b, fp => fp = [b] /\ ∃ dx v, H b = some (.ins A.cI dx [("looked", .str x), ("first", v)]) /\ Is H d v
  | .cs x arms tag ns, b, fp => ∃ la, fp = [b, la] /\ ∃ dx ph pn va, H b = some (.ins A.cC dx [("looked", .str x), ("arms", .ref la), ("head", .ref ph)]) /\ H la = some (.lst va) /\ IsL H arms va /\ arms.length <= 20 /\ H ph = some (.tup [.str tag, .ref pn]) /\ H pn = some (.tup (ns.map V.str))
theorem FrIs.keep {A : Adr} {H H' : Hp} {fr : Fr} {b : Addr} {fp : List Addr} (h : FrIs A H fr b fp) (k : ∀ x ∈ fp, ∀ o, H x = some o -> H' x = some o) (t : Tups H H') : FrIs A H' fr b fp := by
  cases fr with
  | lt x d =>
    obtain ⟨rfl, dx, v, h1, h2⟩ := h
    exact ⟨rfl, dx, v, k _ (List.mem_singleton.mpr rfl) _ h1, h2.keep t⟩
  | if0 x =>
    obtain ⟨rfl, dx, h1⟩ := h
    exact ⟨rfl, dx, k _ (List.mem_singleton.mpr rfl) _ h1⟩
  | if1 x d =>
    obtain ⟨rfl, dx, v, h1, h2⟩ := h
    exact ⟨rfl, dx, v, k _ (List.mem_singleton.mpr rfl) _ h1, h2.keep t⟩
  | cs x arms tag ns =>
    obtain ⟨la, rfl, dx, ph, pn, va, h1, h2, h3, h4, h5, h6⟩ := h
    exact ⟨la, rfl, dx, ph, pn, va, k _ List.mem_cons_self _ h1, k _ (List.mem_cons_of_mem _ List.mem_cons_self) _ h2, h3.keep t, h4, t _ _ h5, t _ _ h6⟩
theorem FrIs.mem {A : Adr} {H : Hp} {fr : Fr} {b : Addr} {fp : List Addr} (h : FrIs A H fr b fp) : b ∈ fp /\ ∀ x ∈ fp, ∃ o, H x = some o /\ ∀ xs, o ≠ .tup xs := by
  cases fr with
  | lt x d =>
    obtain ⟨rfl, dx, v, h1, h2⟩ := h
    exact ⟨List.mem_singleton.mpr rfl, fun y hy => by rw [List.mem_singleton.mp hy]; exact ⟨_, h1, by intro xs z; cases z⟩⟩
  | if0 x =>
    obtain ⟨rfl, dx, h1⟩ := h
    exact ⟨List.mem_singleton.mpr rfl, fun y hy => by rw [List.mem_singleton.mp hy]; exact ⟨_, h1, by intro xs z; cases z⟩⟩
  | if1 x d =>
    obtain ⟨rfl, dx, v, h1, h2⟩ := h
    exact ⟨List.mem_singleton.mpr rfl, fun y hy => by rw [List.mem_singleton.mp hy]; exact ⟨_, h1, by intro xs z; cases z⟩⟩
  | cs x arms tag ns =>
    obtain ⟨la, rfl, dx, ph, pn, va, h1, h2, _⟩ := h
    refine ⟨List.mem_cons_self, fun y hy => ?_⟩
    rcases List.mem_cons.mp hy with e | hy
    · rw [e]; exact ⟨_, h1, by intro xs z; cases z⟩
    · rw [List.mem_singleton.mp hy]; exact ⟨_, h2, by intro xs z; cases z⟩
def spLInit (A : Adr) : Sp := fun vs H Q E => ∃ (b w lw dx : Addr) (row : Int) (r : List Str), vs = [.ref b, .ref w] /\ AtR A H w lw row r /\ H b = some (.ins A.cL dx []) /\ b ≠ w /\ (match (nextName LX r).bind fun p => (deed LX p.2).map fun q => (p.1, q) with
  | none => Err A E (fun y => y = w \/ y = b) H row
  | some (x, d, r') => ∀ H', KpS (fun y => y = w \/ y = b) H H' -> AtR A H' w lw row r' -> FrIs A H' (.lt x d) b [b] -> Q .non H')
def spIInit (A : Adr) : Sp := fun vs H Q E => ∃ (b w lw dx : Addr) (row : Int) (r : List Str), vs = [.ref b, .ref w] /\ AtR A H w lw row r /\ H b = some (.ins A.cI dx []) /\ b ≠ w /\ (match nextName LX r with
  | none => Err A E (fun y => y = w \/ y = b) H row
  | some (x, r') => ∀ H', KpS (fun y => y = w \/ y = b) H H' -> AtR A H' w lw row r' -> FrIs A H' (.if0 x) b [b] -> Q .non H')
def spCInit (A : Adr) : Sp := fun vs H Q E => ∃ (b w lw dx : Addr) (row : Int) (r : List Str), vs = [.ref b, .ref w] /\ AtR A H w lw row r /\ H b = some (.ins A.cC dx []) /\ b ≠ w /\ (match (nextName LX r).bind fun p => (head LX p.2).map fun q => (p.1, q) with
  | none => Err A E (fun y => y = w \/ y = b) H row
  | some (x, (t, ns), r') => ∀ H' la, KpS (fun y => y = w \/ y = b) H H' -> AtR A H' w lw row r' -> H la = none -> FrIs A H' (.cs x [] t ns) b [b, la] -> Q .non H')
def kL : Fr -> Bool
  | .lt _ _ => true
  | _ => false
def kI : Fr -> Bool
  | .if0 _ => true
  | .if1 _ _ => true
  | _ => false
def kC : Fr -> Bool
  | .cs _ _ _ _ => true
  | _ => false
def spFill (A : Adr) (c : Fr -> Bool) : Sp := fun vs H Q E => ∃ (b w lw : Addr) (row : Int) (r : List Str) (fr : Fr) (fp : List Addr) (d : D) (v : V), vs = [.ref b, .ref w, v] /\ AtR A H w lw row r /\ FrIs A H fr b fp /\ c fr = true /\ (w :: lw :: fp).Nodup /\ Is H d v /\ (match fill LX d [] fr r with
  | none => Err A E (fun y => y = w \/ y ∈ fp) H row
  | some ⟨_, some d', r'⟩ => ∀ H' v', KpS (fun y => y = w \/ y ∈ fp) H H' -> AtR A H' w lw row r' -> Is H' d' v' -> Q v' H'
  | some ⟨f' :: _, none, r'⟩ => ∀ H', KpS (fun y => y = w \/ y ∈ fp) H H' -> AtR A H' w lw row r' -> FrIs A H' f' b fp -> Q .non H'
  | some ⟨[], none, r'⟩ => True)
section
variable {P : Program} {w : World} {K : PySem.W.Frag} {mg : Str -> Option Value} {base : Heap} {f : Addr} {fd : FuncData} {A : Adr}
theorem scLInit : FnScope ["self", "words"] ["self", "words"] (defScope sLInit) := ⟨rfl, rfl, rfl, by decide +kernel, rfl, by decide +kernel, by decide +kernel⟩
theorem ok_linit (F : Fun K "__init__" "BegunLet.__init__" sLInit f fd) (T : Txt K mg A) (GN : Me P w K mg base (CXf P w) 5 A.cW "next_name" ["self"] (spNextName A)) (GD : Ca P w K mg base (CXf P w) 7 "read_deed" ["words"] (spDeed A)) : FnOk P w K mg base (CXf P w) 8 f fd ["self", "words"] (spLInit A) := by
  refine F.byx scLInit (fun vs H Q E h => ?_) (fun cdv A' outer s H vs Q E hr h => ?_)
  · obtain ⟨b, w, lw, dx, row, r, rfl, _⟩ := h
    rfl
  obtain ⟨b, w, lw, dx, row, r, rfl, hA, hb, nbw, q⟩ := h
  refine ⟨_, jss_cons (js_fld (jv 0) (je_me0 (jv 1) T.clW GN (hr.mono (by decide)) passx)) (jss_one (js_fld (jv 0) (je_ca GD hr rfl passx (ja_c (jv 1) ja_nil)))), ?_⟩
  obtain ⟨dw, ws, i, a1, a2, _⟩ := hA.ex
  have nbl : b ≠ lw := ne_of hb a2 (by intro z; cases z)
  refine ⟨_, rfl, w, dw, _, rfl, a1, rfl, w, lw, row, r, rfl, hA, ?_⟩
  cases e : nextName LX r with
  | none =>
    rw [e] at q
    exact q.at KpS.refl (fun y z => .inl z)
  | some pr =>
    obtain ⟨x, r1⟩ := pr
    rw [e] at q
    dsimp only [Option.bind_some] at q ⊢
    intro H1 k1 hA1
    refine ⟨_, rfl, b, A.cL, dx, _, rfl, k1 _ _ nbw hb, T.clL, T.nBinds, by show 0 < 1000; decide, ?_⟩
    have k1' : KpS (fun y => y = w \/ y = b) H (upd H1 b (.ins A.cL dx (putF "binds" (.str x) []))) := (k1.mono fun y z => .inl z).trans (KpS.put (.inr rfl))
    have hA1' : AtR A (upd H1 b (.ins A.cL dx (putF "binds" (.str x) []))) w lw row r1 := hA1.kept (S := (· = b)) (KpS.put rfl) nbw.symm nbl.symm
    refine ⟨_, rfl, w, lw, row, r1, rfl, hA1', ?_⟩
    cases e2 : deed LX r1 with
    | none =>
      rw [e2] at q
      exact q.at k1' (fun y z => .inl z)
    | some pr2 =>
      obtain ⟨d, r2⟩ := pr2
      rw [e2] at q
      dsimp only [Option.map_some] at q ⊢
      intro H2 v k2 hA2 hv
      have hb2 : H2 b = some (.ins A.cL dx [("binds", .str x)]) := k2 _ _ nbw upd_same
      refine ⟨_, rfl, b, A.cL, dx, _, rfl, hb2, T.clL, T.nDeed, by show 1 < 1000; decide, ?_⟩
      have tp : Tups H2 (upd H2 b (.ins A.cL dx (putF "deed" v [("binds", .str x)]))) := fun p xs z => by rw [upd_ne (ne_of z hb2 (by intro z; cases z))]; exact z
      refine q _ ((k1'.trans (k2.mono fun y z => .inl z)).trans (KpS.put (.inr rfl))) (hA2.kept (S := (· = b)) (KpS.put rfl) nbw.symm nbl.symm) ⟨rfl, dx, v, upd_same, hv.keep tp⟩
theorem scIInit : FnScope ["self", "words"] ["self", "words"] (defScope sIInit) := ⟨rfl, rfl, rfl, by decide +kernel, rfl, by decide +kernel, by decide +kernel⟩
theorem ok_iinit (F : Fun K "__init__" "BegunIf.__init__" sIInit f fd) (T : Txt K mg A) (GN : Me P w K mg base (CXf P w) 5 A.cW "next_name" ["self"] (spNextName A)) : FnOk P w K mg base (CXf P w) 6 f fd ["self", "words"] (spIInit A) := by
  refine F.byx scIInit (fun vs H Q E h => ?_) (fun cdv A' outer s H vs Q E hr h => ?_)
  · obtain ⟨b, w, lw, dx, row, r, rfl, _⟩ := h
    rfl
  obtain ⟨b, w, lw, dx, row, r, rfl, hA, hb, nbw, q⟩ := h
  refine ⟨_, jss_cons (js_fld (jv 0) (je_me0 (jv 1) T.clW GN hr passx)) (jss_one (js_fld (jv 0) je_non)), ?_⟩
  obtain ⟨dw, ws, i, a1, a2, _⟩ := hA.ex
  have nbl : b ≠ lw := ne_of hb a2 (by intro z; cases z)
  refine ⟨_, rfl, w, dw, _, rfl, a1, rfl, w, lw, row, r, rfl, hA, ?_⟩
  cases e : nextName LX r with
  | none =>
    rw [e] at q
    exact q.at KpS.refl (fun y z => .inl z)
  | some pr =>
    obtain ⟨x, r1⟩ := pr
    rw [e] at q
    dsimp only at q ⊢
    intro H1 k1 hA1
    refine ⟨_, rfl, b, A.cI, dx, _, rfl, k1 _ _ nbw hb, T.clI, T.nLooked, by show 0 < 1000; decide, ?_⟩
    refine ⟨_, rfl, b, A.cI, dx, _, rfl, upd_same, T.clI, T.nFirst, by show 1 < 1000; decide, ?_⟩
    refine q _ (((k1.mono fun y z => .inl z).trans (KpS.put (.inr rfl))).trans (KpS.put (.inr rfl))) ((hA1.kept (S := (· = b)) (KpS.put rfl) nbw.symm nbl.symm).kept (S := (· = b)) (KpS.put rfl) nbw.symm nbl.symm) ⟨rfl, dx, upd_same⟩
theorem scCInit : FnScope ["self", "words"] ["self", "words"] (defScope sCInit) := ⟨rfl, rfl, rfl, by decide +kernel, rfl, by decide +kernel, by decide +kernel⟩
theorem ok_cinit (F : Fun K "__init__" "BegunCase.__init__" sCInit f fd) (T : Txt K mg A) (GN : Me P w K mg base (CXf P w) 5 A.cW "next_name" ["self"] (spNextName A)) (GH : Ca P w K mg base (CXf P w) 7 "read_head" ["words"] (spHead A)) : FnOk P w K mg base (CXf P w) 8 f fd ["self", "words"] (spCInit A) := by
  refine F.byx scCInit (fun vs H Q E h => ?_) (fun cdv A' outer s H vs Q E hr h => ?_)
  · obtain ⟨b, w, lw, dx, row, r, rfl, _⟩ := h
    rfl
  obtain ⟨b, w, lw, dx, row, r, rfl, hA, hb, nbw, q⟩ := h
  refine ⟨_, jss_cons (js_fld (jv 0) (je_me0 (jv 1) T.clW GN (hr.mono (by decide)) passx)) (jss_cons (js_fld (jv 0) (je_lst ja_nil)) (jss_one (js_fld (jv 0) (je_ca GH hr rfl passx (ja_c (jv 1) ja_nil))))), ?_⟩
  obtain ⟨dw, ws, i, a1, a2, _⟩ := hA.ex
  have nbl : b ≠ lw := ne_of hb a2 (by intro z; cases z)
  refine ⟨_, rfl, w, dw, _, rfl, a1, rfl, w, lw, row, r, rfl, hA, ?_⟩
  cases e : nextName LX r with
  | none =>
    rw [e] at q
    exact q.at KpS.refl (fun y z => .inl z)
  | some pr =>
    obtain ⟨x, r1⟩ := pr
    rw [e] at q
    dsimp only [Option.bind_some] at q ⊢
    intro H1 k1 hA1
    refine ⟨_, rfl, b, A.cC, dx, _, rfl, k1 _ _ nbw hb, T.clC, T.nCLooked, by show 0 < 1000; decide, ?_⟩
    have u1 : upd H1 b (.ins A.cC dx (putF "looked" (.str x) [])) b = some (.ins A.cC dx [("looked", .str x)]) := upd_same
    have hA1' : AtR A (upd H1 b (.ins A.cC dx (putF "looked" (.str x) []))) w lw row r1 := hA1.kept (S := (· = b)) (KpS.put rfl) nbw.symm nbl.symm
    have k1' : KpS (fun y => y = w \/ y = b) H (upd H1 b (.ins A.cC dx (putF "looked" (.str x) []))) := (k1.mono fun y z => .inl z).trans (KpS.put (.inr rfl))
    generalize upd H1 b (.ins A.cC dx (putF "looked" (.str x) [])) = H2 at *
    refine ⟨by show 0 <= sizeLine; decide, fun la hla => ?_⟩
    have nla : ∀ {y o}, H2 y = some o -> y ≠ la := fun z => ne_of_none z hla
    have k2 : KpS (fun y => y = w \/ y = b) H (upd H2 la (.lst [])) := k1'.trans (KpS.new hla)
    refine ⟨_, rfl, b, A.cC, dx, _, rfl, by rw [upd_ne (nla u1)]; exact u1, T.clC, T.nArms, by show 1 < 1000; decide, ?_⟩
    have u3 : upd (upd H2 la (.lst [])) b (.ins A.cC dx (putF "arms" (.ref la) [("looked", .str x)])) b = some (.ins A.cC dx [("looked", .str x), ("arms", .ref la)]) := upd_same
    have l3 : upd (upd H2 la (.lst [])) b (.ins A.cC dx (putF "arms" (.ref la) [("looked", .str x)])) la = some (.lst []) := by rw [upd_ne (nla u1).symm, upd_same]
    have k3 := k2.trans (KpS.put (S := fun y => y = w \/ y = b) (H := upd H2 la (.lst [])) (a := b) (o := .ins A.cC dx (putF "arms" (.ref la) [("looked", .str x)])) (.inr rfl))
    have hA3 : AtR A (upd (upd H2 la (.lst [])) b (.ins A.cC dx (putF "arms" (.ref la) [("looked", .str x)]))) w lw row r1 := (hA1'.same (same_new hla _)).kept (S := (· = b)) (KpS.put rfl) nbw.symm nbl.symm
    have laH : H la = none := by
      cases z : H la with
      | none => rfl
      | some o =>
        by_cases c : la = w \/ la = b
        · rcases c with c | c
          · obtain ⟨_, _, _, c1, _⟩ := hA1'.ex
            rw [c, c1] at hla
            cases hla
          · rw [c, u1] at hla
            cases hla
        · rw [k1' la o c z] at hla
          cases hla
    generalize upd (upd H2 la (.lst [])) b (.ins A.cC dx (putF "arms" (.ref la) [("looked", .str x)])) = H3 at *
    refine ⟨_, rfl, w, lw, row, r1, rfl, hA3, ?_⟩
    cases e2 : head LX r1 with
    | none =>
      rw [e2] at q
      exact q.at k3 (fun y z => .inl z)
    | some pr2 =>
      obtain ⟨⟨t, ns⟩, r2⟩ := pr2
      rw [e2] at q
      dsimp only [Option.map_some] at q ⊢
      intro H4 ph pn k4 hA4 hph hpn
      have nlw : la ≠ w := fun z => by
        obtain ⟨_, _, _, c1, _⟩ := hA3.ex
        rw [z, c1] at l3
        cases l3
      have b4 := k4 _ _ nbw u3
      have l4 := k4 _ _ nlw l3
      refine ⟨_, rfl, b, A.cC, dx, _, rfl, b4, T.clC, T.nHead, by show 2 < 1000; decide, ?_⟩
      refine q _ la ((k3.trans (k4.mono fun y z => .inl z)).trans (KpS.put (.inr rfl))) (hA4.kept (S := (· = b)) (KpS.put rfl) nbw.symm nbl.symm) laH ⟨la, rfl, dx, ph, pn, [], upd_same, ?_, .nil, by decide, ?_, ?_⟩
      · rw [upd_ne (ne_of l4 b4 (by intro z; cases z))]
        exact l4
      · rw [upd_ne (ne_of hph b4 (by intro z; cases z))]
        exact hph
      · rw [upd_ne (ne_of hpn b4 (by intro z; cases z))]
        exact hpn
end
end Rdr
namespace Rdr
open PySem L2 K11 Rd
section
variable {P : Program} {w : World} {K : PySem.W.Frag} {mg : Str -> Option Value} {base : Heap} {f : Addr} {fd : FuncData} {A : Adr}
theorem scLFill : FnScope ["self", "words", "body"] ["self", "words", "body"] (defScope sLFill) := ⟨rfl, rfl, rfl, by decide +kernel, rfl, by decide +kernel, by decide +kernel⟩
theorem ok_lfill (F : Fun K "filled" "BegunLet.filled" sLFill f fd) (T : Txt K mg A) : FnOk P w K mg base (CXf P w) 8 f fd ["self", "words", "body"] (spFill A kL) := by
  refine F.byx scLFill (fun vs H Q E h => ?_) (fun cdv A' outer s H vs Q E hr h => ?_)
  · obtain ⟨b, w, lw, row, r, fr, fp, d, v, rfl, _⟩ := h
    rfl
  obtain ⟨b, w, lw, row, r, fr, fp, d, v, rfl, hA, hF, hc, nd, hv, q⟩ := h
  cases fr with
  | lt x dd =>
    obtain ⟨rfl, dx, vd, hb, hd⟩ := hF
    refine ⟨_, jss_one (js_ret (je_tup (ja_c je_str (ja_c (je_fld (jv 0)) (ja_c (je_fld (jv 0)) (ja_c (jv 2) ja_nil)))))), ?_⟩
    refine ⟨_, rfl, b, A.cL, dx, _, _, rfl, hb, T.clL, T.nBinds, rfl, _, rfl, b, A.cL, dx, _, _, rfl, hb, T.clL, T.nDeed, rfl, _, rfl, by show 4 <= sizeLine; decide, fun p hp => ?_⟩
    have tp := Tups.new (o := .tup [.str "let", .str x, vd, v]) hp
    exact q _ _ (KpS.new hp) (hA.same (same_new hp _)) (.tup upd_same (.cons (.str _) (.cons (.str _) (.cons (hd.keep tp) (.cons (hv.keep tp) .nil)))))
  | if0 x => cases hc
  | if1 x e => cases hc
  | cs x a t n => cases hc
theorem scIFill : FnScope ["self", "words", "body"] ["self", "words", "body"] (defScope sIFill) := ⟨rfl, rfl, rfl, by decide +kernel, rfl, by decide +kernel, by decide +kernel⟩
theorem ok_ifill (F : Fun K "filled" "BegunIf.filled" sIFill f fd) (T : Txt K mg A) (GP : Me P w K mg base CX0 2 A.cW "passed" ["self", "word"] (spPassed A)) (GI : Me P w K mg base (CXf P w) 3 A.cW "insist" ["self", "fits"] (spInsist A)) : FnOk P w K mg base (CXf P w) 8 f fd ["self", "words", "body"] (spFill A kI) := by
  refine F.byx scIFill (fun vs H Q E h => ?_) (fun cdv A' outer s H vs Q E hr h => ?_)
  · obtain ⟨b, w, lw, row, r, fr, fp, d, v, rfl, _⟩ := h
    rfl
  obtain ⟨b, w, lw, row, r, fr, fp, d, v, rfl, hA, hF, hc, nd, hv, q⟩ := h
  refine ⟨_, jss_cons (js_if (jt_isN (je_fld (jv 0))) (jss_cons (js_expr (je_me (jv 1) T.clW GI (hr.mono (by decide)) passx (ja_c (je_me (jv 1) T.clW GP (hr.mono (by decide)) pass0 (ja_c je_str ja_nil)) ja_nil))) (jss_cons (js_fld (jv 0) (jv 2)) (jss_one (js_ret je_non)))) jss_nil)
    (jss_one (js_ret (je_tup (ja_c je_str (ja_c (je_fld (jv 0)) (ja_c (je_fld (jv 0)) (ja_c (jv 2) ja_nil))))))), ?_⟩
  obtain ⟨dw, ws, i, a1, a2, _⟩ := hA.ex
  cases fr with
  | lt x e => cases hc
  | cs x a t n => cases hc
  | if1 x e =>
    obtain ⟨rfl, dx, ve, hb, he⟩ := hF
    refine ⟨_, rfl, b, A.cI, dx, _, _, rfl, hb, T.clI, T.nFirst, rfl, _, rfl, ?_⟩
    refine iteDN he.nn ?_
    refine ⟨_, rfl, b, A.cI, dx, _, _, rfl, hb, T.clI, T.nLooked, rfl, _, rfl, b, A.cI, dx, _, _, rfl, hb, T.clI, T.nFirst, rfl, _, rfl, by show 4 <= sizeLine; decide, fun p hp => ?_⟩
    have tp := Tups.new (o := .tup [.str "if", .str x, ve, v]) hp
    exact q _ _ (KpS.new hp) (hA.same (same_new hp _)) (.tup upd_same (.cons (.str _) (.cons (.str _) (.cons (he.keep tp) (.cons (hv.keep tp) .nil)))))
  | if0 x =>
    obtain ⟨rfl, dx, hb⟩ := hF
    have nbw : b ≠ w := fun z => by rw [z] at nd; simp at nd
    have nbl : b ≠ lw := fun z => by rw [z] at nd; simp at nd
    refine ⟨_, rfl, b, A.cI, dx, _, _, rfl, hb, T.clI, T.nFirst, rfl, _, rfl, ?_⟩
    refine iteD rfl ?_
    refine ⟨_, rfl, w, dw, _, rfl, a1, rfl, _, rfl, w, dw, _, rfl, a1, rfl, w, lw, row, r, _, rfl, hA, ?_⟩
    cases r with
    | nil => exact ⟨w, lw, row, [], false, rfl, hA, (fun z => by cases z), fun _ => q.at KpS.refl (fun b z => z.elim)⟩
    | cons y r' =>
      dsimp only
      unfold fill at q
      dsimp only at q
      by_cases c : y = "else"
      · rw [if_pos c] at q ⊢
        intro H1 k1 hA1
        refine ⟨w, lw, row, r', true, rfl, hA1, (fun _ => ?_), fun z => by cases z⟩
        have hb1 := k1 _ _ nbw hb
        refine ⟨_, rfl, _, rfl, b, A.cI, dx, _, rfl, hb1, T.clI, T.nFirst, by show 2 < 1000; decide, ?_⟩
        have tp : Tups H (upd H1 b (.ins A.cI dx (putF "first" v [("looked", .str x), ("first", .non)]))) := (hA.tups k1).trans fun p xs z => by rw [upd_ne (ne_of z hb1 (by intro z; cases z))]; exact z
        exact q _ ((k1.mono fun y z => .inl z).trans (KpS.put (.inr (List.mem_singleton.mpr rfl)))) (hA1.kept (S := (· = b)) (KpS.put rfl) nbw.symm nbl.symm) ⟨rfl, dx, v, upd_same, hv.keep tp⟩
      · rw [if_neg c] at q ⊢
        exact ⟨w, lw, row, y :: r', false, rfl, hA, (fun z => by cases z), fun _ => q.at KpS.refl (fun b z => z.elim)⟩
theorem scCFill : FnScope ["self", "words", "body"] ["self", "words", "body"] (defScope sCFill) := ⟨rfl, rfl, rfl, by decide +kernel, rfl, by decide +kernel, by decide +kernel⟩
theorem ok_cfill (F : Fun K "filled" "BegunCase.filled" sCFill f fd) (T : Txt K mg A) (GP : Me P w K mg base CX0 2 A.cW "passed" ["self", "word"] (spPassed A)) (GI : Me P w K mg base (CXf P w) 3 A.cW "insist" ["self", "fits"] (spInsist A)) (GH : Ca P w K mg base (CXf P w) 7 "read_head" ["words"] (spHead A)) : FnOk P w K mg base (CXf P w) 8 f fd ["self", "words", "body"] (spFill A kC) := by
  refine F.byx scCFill (fun vs H Q E h => ?_) (fun cdv A' outer s H vs Q E hr h => ?_)
  · obtain ⟨b, w, lw, row, r, fr, fp, d, v, rfl, _⟩ := h
    rfl
  obtain ⟨b, w, lw, row, r, fr, fp, d, v, rfl, hA, hF, hc, nd, hv, q⟩ := h
  obtain ⟨t20, m20⟩ := T.mostA
  refine ⟨_, jss_cons (js_expr (je_bm PySem.F.plainAttrs_list PySem.F.slot_list_append PySem.F.type_list_append jm_append (je_fld (jv 0)) (ja_c (je_op jo_catT (je_fld (jv 0)) (je_tup (ja_c (jv 2) ja_nil))) ja_nil)))
    (jss_cons (js_if (jt_val (je_me (jv 1) T.clW GP (hr.mono (by decide)) pass0 (ja_c je_str ja_nil))) (jss_one (js_ret (je_tup (ja_c je_str (ja_c (je_fld (jv 0)) (ja_c (je_fnTy jc_tuple_of rfl T.tuple PyProof.Rows.boot_tuple (ja_c (je_fld (jv 0)) ja_nil)) ja_nil)))))) jss_nil)
    (jss_cons (js_expr (je_me (jv 1) T.clW GI (hr.mono (by decide)) passx (ja_c (je_cmpR jo_lt (je_fnB jc_len_seq rfl T.len PySem.boot_len (ja_c (je_fld (jv 0)) ja_nil)) (je_glob (v := .int 20) rfl m20 ⟨_, rfl⟩) (nomark _)) ja_nil)))
    (jss_cons (js_fld (jv 0) (je_ca GH hr rfl passx (ja_c (jv 1) ja_nil))) (jss_one (js_ret je_non))))), ?_⟩
  obtain ⟨dw, ws, i, a1, a2, _⟩ := hA.ex
  cases fr with
  | lt x e => cases hc
  | if0 x => cases hc
  | if1 x e => cases hc
  | cs x arms tag ns =>
    obtain ⟨la, rfl, dx, ph, pn, va, hb, hla, har, h20, hph, hpn⟩ := hF
    have nbw : b ≠ w := fun z => by rw [z] at nd; simp at nd
    have nbl : b ≠ lw := fun z => by rw [z] at nd; simp at nd
    have naw : la ≠ w := fun z => by rw [z] at nd; simp at nd
    have nal : la ≠ lw := fun z => by rw [z] at nd; simp at nd
    have nba : b ≠ la := ne_of hb hla (by intro z; cases z)
    have sl := line
    have lva := har.len
    refine ⟨_, rfl, b, A.cC, dx, _, _, rfl, hb, T.clC, T.nArms, rfl, .inl ⟨rfl, _, SqL.of hla⟩, _, rfl, b, A.cC, dx, _, _, rfl, hb, T.clC, T.nHead, rfl, _, rfl, by show 1 <= sizeLine; decide, fun p1 hp1 => ?_⟩
    have n1 : ∀ {y o}, H y = some o -> y ≠ p1 := fun z => ne_of_none z hp1
    refine ⟨ph, p1, _, _, rfl, rfl, SqT.of (by rw [upd_ne (n1 hph)]; exact hph), SqT.of upd_same, by simp, by show 3 <= sizeLine; decide, (fun z => by cases z), fun _ p2 hp2 => ?_⟩
    have hla2 : upd (upd H p1 (.tup [v])) p2 (.tup ([.str tag, .ref pn] ++ [v])) la = some (.lst va) := by
      have e1 : upd H p1 (.tup [v]) la = some (.lst va) := by rw [upd_ne (n1 hla)]; exact hla
      rw [upd_ne (ne_of_none e1 hp2)]
      exact e1
    refine ⟨la, va, _, rfl, rfl, hla2, by omega, ?_⟩
    -- the heap with the new arm
    have sm : Same H (upd (upd H p1 (.tup [v])) p2 (.tup ([.str tag, .ref pn] ++ [v]))) := (same_new hp1 _).trans (same_new hp2 _)
    have hp2' : upd (upd H p1 (.tup [v])) p2 (.tup ([.str tag, .ref pn] ++ [v])) p2 = some (.tup [.str tag, .ref pn, v]) := upd_same
    generalize upd (upd H p1 (.tup [v])) p2 (.tup ([.str tag, .ref pn] ++ [v])) = H2 at *
    have tl : Tups H2 (upd H2 la (.lst (va ++ [.ref p2]))) := fun p xs z => by rw [upd_ne (ne_of z hla2 (by intro z; cases z))]; exact z
    have tp0 : Tups H (upd H2 la (.lst (va ++ [.ref p2]))) := fun p xs z => tl _ _ (sm _ _ z)
    have kp : KpS (fun y => y = w \/ y ∈ [b, la]) H (upd H2 la (.lst (va ++ [.ref p2]))) := (KpS.of sm).trans (KpS.put (.inr (by simp)))
    have hA2 : AtR A (upd H2 la (.lst (va ++ [.ref p2]))) w lw row r := (hA.same sm).kept (S := (· = la)) (KpS.put rfl) naw.symm nal.symm
    have hb2 : upd H2 la (.lst (va ++ [.ref p2])) b = some (.ins A.cC dx [("looked", .str x), ("arms", .ref la), ("head", .ref ph)]) := by rw [upd_ne nba]; exact sm _ _ hb
    have hl2 : upd H2 la (.lst (va ++ [.ref p2])) la = some (.lst (va ++ [.ref p2])) := upd_same
    have arm : Is (upd H2 la (.lst (va ++ [.ref p2]))) (.tup [.str tag, Rd.«strs» ns, d]) (.ref p2) := .tup (tl _ _ hp2') (.cons (.str _) (.cons (.tup (tp0 _ _ hpn) (IsL.strs ns)) (.cons (hv.keep tp0) .nil)))
    have arms' : IsL (upd H2 la (.lst (va ++ [.ref p2]))) (arms ++ [.tup [.str tag, Rd.«strs» ns, d]]) (va ++ [.ref p2]) := (har.keep tp0).app (.cons arm .nil)
    generalize upd H2 la (.lst (va ++ [.ref p2])) = H3 at *
    have ⟨dw3, _, _, c3, _⟩ := hA2.ex
    have ln3 : (va ++ [V.ref p2]).length = arms.length + 1 := by rw [List.length_append, List.length_singleton, lva]
    refine ⟨_, rfl, w, dw3, _, rfl, c3, rfl, w, lw, row, r, _, rfl, hA2, ?_⟩
    unfold fill at q
    dsimp only at q
    have la' : (arms ++ [D.tup [.str tag, Rd.«strs» ns, d]]).length = (va ++ [V.ref p2]).length := arms'.len
    by_cases ce : ∃ r', r = ("end" : Str) :: r'
    · obtain ⟨r', rfl⟩ := ce
      dsimp only at q ⊢
      rw [if_pos rfl] at q ⊢
      intro H4 k4 hA4
      have hb4 := k4 _ _ nbw hb2
      have hl4 := k4 _ _ naw hl2
      have tp4 : Tups H3 H4 := hA2.tups k4
      refine ⟨_, rfl, iteT ?_⟩
      refine ⟨_, rfl, b, A.cC, dx, _, _, rfl, hb4, T.clC, T.nCLooked, rfl, _, rfl, b, A.cC, dx, _, _, rfl, hb4, T.clC, T.nArms, rfl, la, _, rfl, .inl ⟨SqL.of hl4, fun p3 hp3 => ⟨by show 3 <= sizeLine; decide, fun p4 hp4 => ?_⟩⟩⟩
      have k5 : KpS (fun y => y = w \/ y ∈ [b, la]) H _ := ((kp.trans (k4.mono fun y z => .inl z)).trans (KpS.new (o := .tup (va ++ [.ref p2])) hp3)).trans (KpS.new (o := .tup [.str "case", .str x, .ref p3]) hp4)
      have tp5 : Tups H3 _ := (tp4.trans (Tups.new (o := .tup (va ++ [.ref p2])) hp3)).trans (Tups.new (o := .tup [.str "case", .str x, .ref p3]) hp4)
      have hp3' : upd (upd H4 p3 (.tup (va ++ [.ref p2]))) p4 (.tup [.str "case", .str x, .ref p3]) p3 = some (.tup (va ++ [.ref p2])) := by rw [upd_ne (ne_of_none upd_same hp4)]; exact upd_same
      exact q _ _ k5 ((hA4.same (same_new hp3 _)).same (same_new hp4 _)) (.tup upd_same (.cons (.str _) (.cons (.str _) (.cons (.tup hp3' (arms'.keep tp5)) .nil))))
    have q1 : (va ++ [V.ref p2]).length < 20 -> (match head LX r with
        | none => Err A E (fun y => y = w \/ y ∈ [b, la]) H row
        | some ((t, ns'), r') => ∀ H', KpS (fun y => y = w \/ y ∈ [b, la]) H H' -> AtR A H' w lw row r' -> FrIs A H' (.cs x (arms ++ [D.tup [.str tag, Rd.«strs» ns, d]]) t ns') b [b, la] -> Q .non H') := by
      intro c
      cases r with
      | nil => exact q
      | cons y r' =>
        dsimp only at q
        rw [if_neg (fun z => ce ⟨r', by rw [z]⟩), if_pos (by rw [la']; exact c)] at q
        cases e : head LX (y :: r') with
        | none => rw [e] at q; exact q
        | some pr =>
          obtain ⟨⟨t, ns'⟩, r2⟩ := pr
          rw [e] at q
          exact q
    have q2 : ¬ (va ++ [V.ref p2]).length < 20 -> Err A E (fun y => y = w \/ y ∈ [b, la]) H row := by
      intro c
      cases r with
      | nil => exact q
      | cons y r' =>
        dsimp only at q
        rw [if_neg (fun z => ce ⟨r', by rw [z]⟩), if_neg (by rw [la']; exact c)] at q
        exact q
    clear q
    cases r
    case' cons y r' =>
      dsimp only
      rw [if_neg (fun z => ce ⟨_, by rw [z]⟩)]
    all_goals
      refine ⟨_, rfl, iteF ?_⟩
      refine ⟨_, rfl, w, dw3, _, rfl, c3, rfl, _, rfl, b, A.cC, dx, _, _, rfl, hb2, T.clC, T.nArms, rfl, la, _, rfl, .inl (SqL.of hl2), _, _, rfl, rfl, w, lw, row, _, _, rfl, hA2, fun hb => ?_, fun hb => (q2 (fun z => of_decide_eq_false hb (by omega))).at kp (fun b z => z.elim)⟩
      have lt20 := of_decide_eq_true hb
      have q1' := q1 (by omega)
      clear q1 q2
      refine ⟨_, rfl, w, lw, row, _, rfl, hA2, ?_⟩
      revert q1'
      generalize head LX _ = hd
      intro q1'
      cases hd with
      | none => exact q1'.at kp (fun b z => .inl z)
      | some pr =>
        obtain ⟨⟨t, ns'⟩, r2⟩ := pr
        dsimp only at q1' ⊢
        intro H4 p4 pn4 k4 hA4 hp4 hpn4
        have hb4 := k4 _ _ nbw hb2
        have hl4 := k4 _ _ naw hl2
        have tp4 : Tups H3 H4 := hA2.tups k4
        refine ⟨_, rfl, b, A.cC, dx, _, rfl, hb4, T.clC, T.nHead, by show 3 < 1000; decide, ?_⟩
        have tp5 : Tups H4 (upd H4 b (.ins A.cC dx (putF "head" (.ref p4) [("looked", .str x), ("arms", .ref la), ("head", .ref ph)]))) := fun p xs z => by rw [upd_ne (ne_of z hb4 (by intro z; cases z))]; exact z
        exact q1' _ ((kp.trans (k4.mono fun y z => .inl z)).trans (KpS.put (.inr List.mem_cons_self))) (hA4.kept (S := (· = b)) (KpS.put rfl) nbw.symm nbl.symm) ⟨la, rfl, dx, p4, pn4, _, upd_same, by rw [upd_ne nba.symm]; exact hl4, arms'.keep (tp4.trans tp5), by rw [la']; omega, tp5 _ _ hp4, tp5 _ _ hpn4⟩
end
end Rdr
namespace Rdr
open PySem L2 K11 Rd
def spBegin (A : Adr) : Sp := fun vs H Q E => ∃ (w lw lb : Addr) (row : Int) (r : List Str) (bs : List V), vs = [.ref w, .ref lb] /\ AtR A H w lw row r /\ H lb = some (.lst bs) /\ lb ≠ lw /\ bs.length <= 1000000 /\ (match begin_ LX [] r with
  | none => Err A E (· = w) H row
  | some ⟨_, some d, r'⟩ => ∀ H' v, KpS (· = w) H H' -> AtR A H' w lw row r' -> Is H' d v -> Q v H'
  | some ⟨fr :: _, none, r'⟩ => ∀ H' b fp, KpS (fun y => y = w \/ y = lb) H H' -> AtR A H' w lw row r' -> H' lb = some (.lst (bs ++ [.ref b])) -> FrIs A H' fr b fp -> (∀ y ∈ fp, H y = none) -> fp.Nodup -> Q .non H'
  | some ⟨[], none, r'⟩ => True)
theorem Err.fresh {A : Adr} {E : XK} {H H1 H2 : Hp} {row : Int} {w b : Addr} (h : Err A E (· = w) H row) (k1 : KpS (· = w) H H1) (s : Same H1 H2) (hb : H1 b = none) : Err A E (fun y => y = w \/ y = b) H2 row :=
  fun d H' k' q => h d H' (fun y o n z => k' y o (fun m => m.elim n (fun e => by have := k1 y o n z; rw [e, hb] at this; cases this)) (s _ _ (k1 y o n z))) q
theorem same_made {H : Hp} {x dx : Addr} {o o' : HO} (hx : H x = none) (hd : H dx = none) (n : dx ≠ x) : Same H (upd (upd H dx o) x o') := (same_new hd o).trans (same_new (by rw [upd_ne n.symm]; exact hx) o')
theorem begun_in {A : Adr} {H H1 H2 H3 : Hp} {w lw lb b : Addr} {row : Int} {r1 r3 : List Str} {fr : Fr} {fp : List Addr} {bs : List V} {Q : VK} (k1 : KpS (· = w) H H1) (hA1 : AtR A H1 w lw row r1) (s : Same H1 H2) (hb : H1 b = none) (hl1 : H1 lb = some (.lst bs)) (nll : lb ≠ lw)
    (hA3 : AtR A H3 w lw row r3) (k3 : KpS (fun y => y = w \/ y = b) H2 H3) (hF : FrIs A H3 fr b fp) (hf : ∀ y ∈ fp, H1 y = none) (nd : fp.Nodup)
    (q : ∀ H' b fp, KpS (fun y => y = w \/ y = lb) H H' -> AtR A H' w lw row r3 -> H' lb = some (.lst (bs ++ [.ref b])) -> FrIs A H' fr b fp -> (∀ y ∈ fp, H y = none) -> fp.Nodup -> Q .non H') :
    H3 lb = some (.lst bs) /\ Q .non (upd H3 lb (.lst (bs ++ [.ref b]))) := by
  have ⟨dw, _, _, a1, a2, _⟩ := hA1.ex
  have nlw : lb ≠ w := ne_of hl1 a1 (by intro z; cases z)
  have nlb : lb ≠ b := ne_of_none hl1 hb
  have hl3 : H3 lb = some (.lst bs) := k3 _ _ (fun m => m.elim nlw nlb) (s _ _ hl1)
  refine ⟨hl3, q _ b fp (fun y o n z => ?_) (hA3.kept (S := (· = lb)) (KpS.put rfl) nlw.symm nll.symm) upd_same (hF.keep (fun x hx o z => ?_) fun p xs z => ?_) (fun y hy => ?_) nd⟩
  · have z1 := k1 y o (fun e => n (.inl e)) z
    rw [upd_ne (fun e => n (.inr e))]
    exact k3 _ _ (fun m => m.elim (fun e => n (.inl e)) (ne_of_none z1 hb)) (s _ _ z1)
  · rw [upd_ne (fun e => by have := hf x hx; rw [e, hl1] at this; cases this)]
    exact z
  · rw [upd_ne (ne_of z hl3 (by intro z; cases z))]
    exact z
  · cases e : H y with
    | none => rfl
    | some o =>
      by_cases c : y = w
      · have := hf y hy
        rw [c, a1] at this
        cases this
      · have := k1 y o c e
        rw [hf y hy] at this
        cases this
section
variable {P : Program} {w : World} {K : PySem.W.Frag} {mg : Str -> Option Value} {base : Heap} {f : Addr} {fd : FuncData} {A : Adr}
theorem scBegin : FnScope ["words", "begun"] ["words", "begun"] (defScope sBegin) := ⟨rfl, rfl, rfl, by decide +kernel, rfl, by decide +kernel, by decide +kernel⟩
theorem ok_begin (F : Fun K "begin_body" "begin_body" sBegin f fd) (T : Txt K mg A) (GP : Me P w K mg base CX0 2 A.cW "passed" ["self", "word"] (spPassed A)) (GI : Me P w K mg base (CXf P w) 3 A.cW "insist" ["self", "fits"] (spInsist A))
    (GN : Me P w K mg base (CXf P w) 5 A.cW "next_name" ["self"] (spNextName A))
    (ML : Ma P w K mg base (CXf P w) 8 "BegunLet" A.cL ["self", "words"] (spLInit A)) (MI : Ma P w K mg base (CXf P w) 8 "BegunIf" A.cI ["self", "words"] (spIInit A)) (MC : Ma P w K mg base (CXf P w) 8 "BegunCase" A.cC ["self", "words"] (spCInit A)) :
    FnOk P w K mg base (CXf P w) 10 f fd ["words", "begun"] (spBegin A) := by
  refine F.byx scBegin (fun vs H Q E h => ?_) (fun cdv A' outer s H vs Q E hr h => ?_)
  · obtain ⟨w, lw, lb, row, r, bs, rfl, _⟩ := h
    rfl
  obtain ⟨w, lw, lb, row, r, bs, rfl, hA, hl, nll, hm, q⟩ := h
  refine ⟨_, jss_cons (js_if (jt_val (je_me (jv 0) T.clW GP (hr.mono (by decide)) pass0 (ja_c je_str ja_nil))) (jss_one (js_ret (je_tup (ja_c je_str (ja_c (je_me0 (jv 0) T.clW GN (hr.mono (by decide)) passx) ja_nil))))) jss_nil)
    (jss_cons (js_if (jt_val (je_me (jv 0) T.clW GP (hr.mono (by decide)) pass0 (ja_c je_str ja_nil))) (jss_one (js_expr (je_bm PySem.F.plainAttrs_list PySem.F.slot_list_append PySem.F.type_list_append jm_append (jv 1) (ja_c (je_ma ML hr rfl passx (ja_c (jv 0) ja_nil)) ja_nil))))
      (jss_one (js_if (jt_val (je_me (jv 0) T.clW GP (hr.mono (by decide)) pass0 (ja_c je_str ja_nil))) (jss_one (js_expr (je_bm PySem.F.plainAttrs_list PySem.F.slot_list_append PySem.F.type_list_append jm_append (jv 1) (ja_c (je_ma MI hr rfl passx (ja_c (jv 0) ja_nil)) ja_nil))))
        (jss_cons (js_expr (je_me (jv 0) T.clW GI (hr.mono (by decide)) passx (ja_c (je_me (jv 0) T.clW GP (hr.mono (by decide)) pass0 (ja_c je_str ja_nil)) ja_nil)))
        (jss_one (js_expr (je_bm PySem.F.plainAttrs_list PySem.F.slot_list_append PySem.F.type_list_append jm_append (jv 1) (ja_c (je_ma MC hr rfl passx (ja_c (jv 0) ja_nil)) ja_nil))))))))
    (jss_one (js_ret je_non))), ?_⟩
  have ⟨dw, _, _, a1, a2, _⟩ := hA.ex
  have nlw : lb ≠ w := ne_of hl a1 (by intro z; cases z)
  refine ⟨_, rfl, w, dw, _, rfl, a1, rfl, w, lw, row, r, _, rfl, hA, ?_⟩
  cases r with
  | nil =>
    refine ⟨_, rfl, iteF ?_⟩
    refine ⟨_, rfl, w, dw, _, rfl, a1, rfl, w, lw, row, [], _, rfl, hA, ⟨_, rfl, iteF ?_⟩⟩
    refine ⟨_, rfl, w, dw, _, rfl, a1, rfl, w, lw, row, [], _, rfl, hA, ⟨_, rfl, iteF ?_⟩⟩
    refine ⟨_, rfl, w, dw, _, rfl, a1, rfl, _, rfl, w, dw, _, rfl, a1, rfl, w, lw, row, [], _, rfl, hA, ?_⟩
    exact ⟨w, lw, row, [], false, rfl, hA, (fun z => by cases z), fun _ => q.at KpS.refl (fun b z => z.elim)⟩
  | cons y r' =>
    unfold begin_ at q
    dsimp only at q ⊢
    by_cases y1 : y = "give"
    · rw [if_pos y1] at q ⊢
      intro H1 k1 hA1
      have ⟨dw1, _, _, c1, _⟩ := hA1.ex
      refine ⟨_, rfl, iteT ?_⟩
      refine ⟨_, rfl, w, dw1, _, rfl, c1, rfl, w, lw, row, r', rfl, hA1, ?_⟩
      cases e : nextName LX r' with
      | none => rw [e] at q; exact q.at k1 (fun b z => z)
      | some pr =>
        obtain ⟨x, r2⟩ := pr
        rw [e] at q
        dsimp only [Option.map_some] at q ⊢
        intro H2 k2 hA2
        refine ⟨by show 2 <= sizeLine; decide, fun p hp => ?_⟩
        exact q _ _ ((k1.trans k2).trans (KpS.new hp)) (hA2.same (same_new hp _)) (.tup upd_same (.cons (.str _) (.cons (.str _) .nil)))
    rw [if_neg y1] at q ⊢
    refine ⟨_, rfl, iteF ?_⟩
    refine ⟨_, rfl, w, dw, _, rfl, a1, rfl, w, lw, row, y :: r', _, rfl, hA, ?_⟩
    dsimp only
    have sl := line
    by_cases y2 : y = "let"
    · rw [if_pos y2] at q ⊢
      intro H1 k1 hA1
      refine ⟨_, rfl, iteT ?_⟩
      have hl1 := k1 _ _ nlw hl
      refine ⟨_, rfl, .inl ⟨rfl, _, SqL.of hl1⟩, _, rfl, fun b dx hb hdx ndx => ?_⟩
      have sm := same_made (o := .own b) (o' := .ins A.cL dx []) hb hdx ndx
      have hA2 := hA1.same sm
      have ⟨_, _, _, c1, _⟩ := hA1.ex
      refine ⟨b, w, lw, dx, row, r', rfl, hA2, upd_same, (ne_of_none c1 hb).symm, ?_⟩
      cases e : nextName LX r' with
      | none => rw [e] at q; exact q.fresh k1 sm hb
      | some pr =>
        obtain ⟨x, r2⟩ := pr
        rw [e] at q
        dsimp only [Option.bind_some] at q ⊢
        cases e2 : deed LX r2 with
        | none => rw [e2] at q; exact q.fresh k1 sm hb
        | some pr2 =>
          obtain ⟨d, r3⟩ := pr2
          rw [e2] at q
          dsimp only [Option.map_some] at q ⊢
          intro H3 k3 hA3 hF
          have ⟨hl3, g⟩ := begun_in k1 hA1 sm hb hl1 nll hA3 k3 hF (fun y hy => by rw [List.mem_singleton.mp hy]; exact hb) (by simp) q
          exact ⟨rfl, lb, bs, _, rfl, rfl, hl3, by omega, g⟩
    rw [if_neg y2] at q ⊢
    refine ⟨_, rfl, iteF ?_⟩
    refine ⟨_, rfl, w, dw, _, rfl, a1, rfl, w, lw, row, y :: r', _, rfl, hA, ?_⟩
    dsimp only
    by_cases y3 : y = "if"
    · rw [if_pos y3] at q ⊢
      intro H1 k1 hA1
      refine ⟨_, rfl, iteT ?_⟩
      have hl1 := k1 _ _ nlw hl
      refine ⟨_, rfl, .inl ⟨rfl, _, SqL.of hl1⟩, _, rfl, fun b dx hb hdx ndx => ?_⟩
      have sm := same_made (o := .own b) (o' := .ins A.cI dx []) hb hdx ndx
      have hA2 := hA1.same sm
      have ⟨_, _, _, c1, _⟩ := hA1.ex
      refine ⟨b, w, lw, dx, row, r', rfl, hA2, upd_same, (ne_of_none c1 hb).symm, ?_⟩
      cases e : nextName LX r' with
      | none => rw [e] at q; exact q.fresh k1 sm hb
      | some pr =>
        obtain ⟨x, r2⟩ := pr
        rw [e] at q
        dsimp only [Option.map_some] at q ⊢
        intro H3 k3 hA3 hF
        have ⟨hl3, g⟩ := begun_in k1 hA1 sm hb hl1 nll hA3 k3 hF (fun y hy => by rw [List.mem_singleton.mp hy]; exact hb) (by simp) q
        exact ⟨rfl, lb, bs, _, rfl, rfl, hl3, by omega, g⟩
    rw [if_neg y3] at q ⊢
    refine ⟨_, rfl, iteF ?_⟩
    refine ⟨_, rfl, w, dw, _, rfl, a1, rfl, _, rfl, w, dw, _, rfl, a1, rfl, w, lw, row, y :: r', _, rfl, hA, ?_⟩
    dsimp only
    by_cases y4 : y = "case"
    · rw [if_pos y4] at q ⊢
      intro H1 k1 hA1
      refine ⟨w, lw, row, r', true, rfl, hA1, (fun _ => ?_), fun z => by cases z⟩
      have hl1 := k1 _ _ nlw hl
      refine ⟨_, rfl, .inl ⟨rfl, _, SqL.of hl1⟩, _, rfl, fun b dx hb hdx ndx => ?_⟩
      have sm := same_made (o := .own b) (o' := .ins A.cC dx []) hb hdx ndx
      have hA2 := hA1.same sm
      have ⟨_, _, _, c1, _⟩ := hA1.ex
      refine ⟨b, w, lw, dx, row, r', rfl, hA2, upd_same, (ne_of_none c1 hb).symm, ?_⟩
      cases e : nextName LX r' with
      | none => rw [e] at q; exact q.fresh k1 sm hb
      | some pr =>
        obtain ⟨x, r2⟩ := pr
        rw [e] at q
        dsimp only [Option.bind_some] at q ⊢
        cases e2 : head LX r2 with
        | none => rw [e2] at q; exact q.fresh k1 sm hb
        | some pr2 =>
          obtain ⟨⟨t, ns⟩, r3⟩ := pr2
          rw [e2] at q
          dsimp only [Option.map_some] at q ⊢
          intro H3 la k3 hA3 hla hF
          have hla1 : H1 la = none := by
            cases z : H1 la with
            | none => rfl
            | some o => rw [sm _ _ z] at hla; cases hla
          have nbl : b ≠ la := ne_of_none upd_same hla
          have fr2 : ∀ y ∈ [b, la], H1 y = none := by
            intro y hy
            rcases List.mem_cons.mp hy with z | z
            · rw [z]; exact hb
            · rw [List.mem_singleton.mp z]; exact hla1
          have ⟨hl3, g⟩ := begun_in k1 hA1 sm hb hl1 nll hA3 k3 hF fr2 (by simp [nbl]) q
          exact ⟨rfl, lb, bs, _, rfl, rfl, hl3, by omega, g⟩
    rw [if_neg y4] at q ⊢
    exact ⟨w, lw, row, y :: r', false, rfl, hA, (fun z => by cases z), fun _ => q.at KpS.refl (fun b z => z.elim)⟩
end
end Rdr
namespace Rd
open PySem
variable (L : Lex)
theorem begin_cases (st : List Fr) (r : List Str) : (begin_ L [] r = none /\ begin_ L st r = none) \/ (∃ d r', begin_ L [] r = some ⟨[], some d, r'⟩ /\ begin_ L st r = some ⟨st, some d, r'⟩ /\ r'.length < r.length) \/ (∃ fr r', begin_ L [] r = some ⟨[fr], none, r'⟩ /\ begin_ L st r = some ⟨fr :: st, none, r'⟩ /\ r'.length < r.length) := by
  cases r with
  | nil => exact .inl ⟨rfl, rfl⟩
  | cons w t =>
    unfold begin_
    dsimp only
    by_cases c1 : w = "give"
    · rw [if_pos c1, if_pos c1]
      cases e : nextName L t with
      | none => exact .inl ⟨rfl, rfl⟩
      | some p =>
        have := nextName_len L e
        exact .inr (.inl ⟨_, _, rfl, rfl, by rw [List.length_cons]; omega⟩)
    rw [if_neg c1, if_neg c1]
    by_cases c2 : w = "let"
    · rw [if_pos c2, if_pos c2]
      cases e : nextName L t with
      | none => exact .inl ⟨rfl, rfl⟩
      | some p =>
        have := nextName_len L e
        simp only [Option.bind_some]
        cases e2 : deed L p.2 with
        | none => exact .inl ⟨rfl, rfl⟩
        | some p2 =>
          have := deed_len L e2
          exact .inr (.inr ⟨_, _, rfl, rfl, by rw [List.length_cons]; omega⟩)
    rw [if_neg c2, if_neg c2]
    by_cases c3 : w = "if"
    · rw [if_pos c3, if_pos c3]
      cases e : nextName L t with
      | none => exact .inl ⟨rfl, rfl⟩
      | some p =>
        have := nextName_len L e
        exact .inr (.inr ⟨_, _, rfl, rfl, by rw [List.length_cons]; omega⟩)
    rw [if_neg c3, if_neg c3]
    by_cases c4 : w = "case"
    · rw [if_pos c4, if_pos c4]
      cases e : nextName L t with
      | none => exact .inl ⟨rfl, rfl⟩
      | some p =>
        have := nextName_len L e
        simp only [Option.bind_some]
        cases e2 : head L p.2 with
        | none => exact .inl ⟨rfl, rfl⟩
        | some p2 =>
          have := head_len L e2
          exact .inr (.inr ⟨_, _, rfl, rfl, by rw [List.length_cons]; omega⟩)
    rw [if_neg c4, if_neg c4]
    exact .inl ⟨rfl, rfl⟩
theorem fill_cases (b : D) (st : List Fr) (fr : Fr) (r : List Str) : (fill L b [] fr r = none /\ fill L b st fr r = none) \/ (∃ d r', fill L b [] fr r = some ⟨[], some d, r'⟩ /\ fill L b st fr r = some ⟨st, some d, r'⟩ /\ r'.length <= r.length) \/ (∃ fr' r', fill L b [] fr r = some ⟨[fr'], none, r'⟩ /\ fill L b st fr r = some ⟨fr' :: st, none, r'⟩ /\ r'.length <= r.length) := by
  cases fr with
  | lt x d => exact .inr (.inl ⟨_, _, rfl, rfl, Nat.le_refl _⟩)
  | if1 x d => exact .inr (.inl ⟨_, _, rfl, rfl, Nat.le_refl _⟩)
  | if0 x =>
    cases r with
    | nil => exact .inl ⟨rfl, rfl⟩
    | cons w t =>
      unfold fill
      dsimp only
      by_cases c : w = "else"
      · rw [if_pos c, if_pos c]
        exact .inr (.inr ⟨_, _, rfl, rfl, by rw [List.length_cons]; omega⟩)
      · rw [if_neg c, if_neg c]
        exact .inl ⟨rfl, rfl⟩
  | cs x arms tag names =>
    cases r with
    | nil => exact .inl ⟨rfl, rfl⟩
    | cons w t =>
      unfold fill
      dsimp only
      by_cases c : w = "end"
      · rw [if_pos c, if_pos c]
        exact .inr (.inl ⟨_, _, rfl, rfl, by rw [List.length_cons]; omega⟩)
      rw [if_neg c, if_neg c]
      by_cases c2 : (arms ++ [D.tup [.str tag, Rd.«strs» names, b]]).length < 20
      · rw [if_pos c2, if_pos c2]
        cases e : head L (w :: t) with
        | none => exact .inl ⟨rfl, rfl⟩
        | some p =>
          have := head_len L e
          exact .inr (.inr ⟨_, _, rfl, rfl, by omega⟩)
      · rw [if_neg c2, if_neg c2]
        exact .inl ⟨rfl, rfl⟩
theorem Runs.inv {n : Nat} {s : S} {o : Option (D × List Str)} (h : Runs L n s o) (g : s.body = none \/ s.begun ≠ []) : (step L s = none /\ o = none) \/ ∃ m s', n = m + 1 /\ step L s = some s' /\ Runs L m s' o := by
  cases h with
  | done => rcases g with g | g <;> simp at g
  | turn _ h1 h2 => exact .inr ⟨_, _, rfl, h1, h2⟩
  | fail _ h1 => exact .inl ⟨h1, rfl⟩
end Rd
namespace Rdr
open PySem L2 K11 Rd
inductive StIs (A : Adr) (H : Hp) : List Fr -> List Addr -> List Addr -> Prop
  | nil : StIs A H [] [] []
  | cons {fr : Fr} {b : Addr} {fp : List Addr} {st : List Fr} {bs fps : List Addr} : FrIs A H fr b fp -> StIs A H st bs fps -> StIs A H (fr :: st) (b :: bs) (fp ++ fps)
theorem StIs.len {A : Adr} {H : Hp} {st : List Fr} {bs fps : List Addr} (h : StIs A H st bs fps) : st.length = bs.length := by
  induction h with
  | nil => rfl
  | cons _ _ ih => rw [List.length_cons, List.length_cons, ih]
theorem StIs.keep {A : Adr} {H H' : Hp} {st : List Fr} {bs fps : List Addr} (h : StIs A H st bs fps) (k : ∀ x ∈ fps, ∀ o, H x = some o -> H' x = some o) (t : Tups H H') : StIs A H' st bs fps := by
  induction h with
  | nil => exact .nil
  | cons h1 _ ih => exact .cons (h1.keep (fun x hx => k x (List.mem_append_left _ hx)) t) (ih fun x hx => k x (List.mem_append_right _ hx))
theorem StIs.mem {A : Adr} {H : Hp} {st : List Fr} {bs fps : List Addr} (h : StIs A H st bs fps) : ∀ x ∈ fps, ∃ o, H x = some o /\ ∀ xs, o ≠ .tup xs := by
  induction h with
  | nil => intro x hx; cases hx
  | cons h1 _ ih =>
    intro x hx
    rcases List.mem_append.mp hx with z | z
    · exact h1.mem.2 x z
    · exact ih x z
def spBody (A : Adr) : Sp := fun vs H Q E => ∃ (w lw : Addr) (row : Int) (r : List Str) (n : Nat) (o : Option (D × List Str)), vs = [.ref w] /\ AtR A H w lw row r /\ Runs LX n ⟨[], none, r⟩ o /\ (match o with
  | none => Err A E (· = w) H row
  | some (d, r') => ∀ H' v, KpS (· = w) H H' -> AtR A H' w lw row r' -> Is H' d v -> Q v H')
end Rdr
namespace Rdr
open PySem L2 K11 Rd
theorem KpS.fresh {S : Addr -> Prop} {H H2 H3 : Hp} {w : Addr} (k : KpS (· = w) H H2) (k' : KpS S H2 H3) (hs : ∀ y, S y -> y = w \/ H y = none) : KpS (· = w) H H3 := fun y o n z => k' y o (fun m => (hs y m).elim n (fun e => by rw [z] at e; cases e)) (k y o n z)
theorem Err.new {A : Adr} {E : XK} {S : Addr -> Prop} {H H2 : Hp} {w : Addr} {row : Int} (h : Err A E (· = w) H row) (k : KpS (· = w) H H2) (hs : ∀ y, S y -> y = w \/ H y = none) : Err A E S H2 row := fun d H' k' q => h d H' (k.fresh k' hs) q
theorem nod {w lw lb : Addr} {fp fps : List Addr} (h : (w :: lw :: lb :: fps).Nodup) (g : fp.Nodup) (f : ∀ y ∈ fp, y ≠ w /\ y ≠ lw /\ y ≠ lb /\ y ∉ fps) : (w :: lw :: lb :: (fp ++ fps)).Nodup := by
  simp only [List.nodup_cons, List.mem_cons, List.mem_append, List.nodup_append, not_or] at h ⊢
  obtain ⟨⟨h1, h2, h3⟩, ⟨h4, h5⟩, h6, h7⟩ := h
  refine ⟨⟨h1, h2, fun z => (f _ z).1 rfl, h3⟩, ⟨h4, fun z => (f _ z).2.1 rfl, h5⟩, ⟨fun z => (f _ z).2.2.1 rfl, h6⟩, g, h7, fun a ha b hb e => (f _ ha).2.2.2 (by rw [e]; exact hb)⟩
theorem nod_tail {w lw lb : Addr} {fp fps : List Addr} (h : (w :: lw :: lb :: (fp ++ fps)).Nodup) : (w :: lw :: lb :: fps).Nodup /\ (w :: lw :: fp).Nodup /\ (∀ y ∈ fp, y ≠ w /\ y ≠ lw /\ y ≠ lb /\ y ∉ fps) /\ ∀ y ∈ fps, y ≠ w /\ y ≠ lw /\ y ≠ lb /\ y ∉ fp := by
  simp only [List.nodup_cons, List.mem_cons, List.mem_append, List.nodup_append, not_or] at h ⊢
  obtain ⟨⟨h1, h2, h3, h3'⟩, ⟨h4, h5, h5'⟩, ⟨h6, h6'⟩, g, h7, h8⟩ := h
  refine ⟨⟨⟨h1, h2, h3'⟩, ⟨h4, h5'⟩, h6', h7⟩, ⟨⟨h1, h3⟩, h5, g⟩, fun y hy => ⟨fun e => h3 (by rw [<- e]; exact hy), fun e => h5 (by rw [<- e]; exact hy), fun e => h6 (by rw [<- e]; exact hy), fun z => h8 _ hy _ z rfl⟩, fun y hy => ⟨fun e => h3' (by rw [<- e]; exact hy), fun e => h5' (by rw [<- e]; exact hy), fun e => h6' (by rw [<- e]; exact hy), fun z => h8 _ z _ hy rfl⟩⟩
theorem iteN {c A B : Prop} [Decidable c] (e : c) (h : B) : if (!decide c) = true then A else B := by
  rw [decide_eq_true e]
  exact iteF h
theorem iteNN {c A B : Prop} [Decidable c] (e : ¬ c) (h : A) : if (!decide c) = true then A else B := by
  rw [decide_eq_false e]
  exact iteT h
section
variable {P : Program} {w : World} {K : PySem.W.Frag} {mg : Str -> Option Value} {base : Heap} {f : Addr} {fd : FuncData} {A : Adr}
theorem scBody : FnScope ["words", "begun", "body"] ["words"] (defScope sReadBody) := ⟨rfl, rfl, rfl, by decide +kernel, rfl, by decide +kernel, by decide +kernel⟩
structure BW (A : Adr) (H : Hp) (w lw lb : Addr) (row : Int) (k : Nat) (o : Option (D × List Str)) (n : Nat) (σ : St) (H2 : Hp) (st : List Fr) (body : Option D) (r : List Str) (bs fps : List Addr) (vb : V) : Prop where
  runs : Runs LX n ⟨st, body, r⟩ o
  loc : σ = [some (.ref w), some (.ref lb), some vb]
  at_ : AtR A H2 w lw row r
  lst : H2 lb = some (.lst (bs.reverse.map V.ref))
  sts : StIs A H2 st bs fps
  nod : (w :: lw :: lb :: fps).Nodup
  new : ∀ y ∈ fps, H y = none
  newl : H lb = none
  kps : KpS (· = w) H H2
  len : st.length + r.length <= k
  big : k <= 1000000
  bod : match body with | none => vb = .non /\ st ≠ [] | some d => Is H2 d vb
def BWx (A : Adr) (H : Hp) (w lw lb : Addr) (row : Int) (k : Nat) (o : Option (D × List Str)) (n : Nat) (σ : St) (H2 : Hp) : Prop := ∃ st body r bs fps vb, BW A H w lw lb row k o n σ H2 st body r bs fps vb
theorem begin_mono {vs : List V} {H : Hp} {Q Q' : VK} {E : XK} (h : spBegin A vs H Q' E) (g : ∀ v H', Q' v H' -> Q v H') : spBegin A vs H Q E := by
  obtain ⟨w, lw, lb, row, r, bs, e, hA, hl, n, m, q⟩ := h
  refine ⟨w, lw, lb, row, r, bs, e, hA, hl, n, m, ?_⟩
  rcases begin_cases LX [] r with ⟨e, _⟩ | ⟨d, r1, e, _⟩ | ⟨fr, r1, e, _⟩ <;> rw [e] at q ⊢
  · exact q
  · exact fun H' v a b c => g _ _ (q H' v a b c)
  · exact fun H' b fp a1 a2 a3 a4 a5 a6 => g _ _ (q H' b fp a1 a2 a3 a4 a5 a6)
theorem fill_mono {c : Fr -> Bool} {vs : List V} {H : Hp} {Q Q' : VK} {E : XK} (h : spFill A c vs H Q' E) (g : ∀ v H', Q' v H' -> Q v H') : spFill A c vs H Q E := by
  obtain ⟨b, w, lw, row, r, fr, fp, d, v, e, hA, hF, hc, nd, hv, q⟩ := h
  refine ⟨b, w, lw, row, r, fr, fp, d, v, e, hA, hF, hc, nd, hv, ?_⟩
  rcases fill_cases LX d [] fr r with ⟨e, _⟩ | ⟨d, r1, e, _⟩ | ⟨fr', r1, e, _⟩ <;> rw [e] at q ⊢
  · exact q
  · exact fun H' v a b c => g _ _ (q H' v a b c)
  · exact fun H' a b c => g _ _ (q H' a b c)
theorem begin_turn {H H2 : Hp} {E : XK} {w lw lb : Addr} {row : Int} {k n : Nat} {o : Option (D × List Str)} {st : List Fr} {r : List Str} {bs fps : List Addr} (hR : Runs LX n ⟨st, none, r⟩ o) (hA : AtR A H2 w lw row r) (hl : H2 lb = some (.lst (bs.reverse.map V.ref))) (hs : StIs A H2 st bs fps)
    (nd : (w :: lw :: lb :: fps).Nodup) (new : ∀ y ∈ fps, H y = none) (newl : H lb = none) (k2 : KpS (· = w) H H2) (len : st.length + r.length <= k) (big : k <= 1000000) (q : o = none -> Err A E (· = w) H row) :
    spBegin A [.ref w, .ref lb] H2 (fun v H' => ∃ m, m < n /\ BWx A H w lw lb row k o m [some (.ref w), some (.ref lb), some v] H') E := by
  have ⟨dw, _, _, a1, a2, _⟩ := hA.ex
  have nlw : lb ≠ w := ne_of hl a1 (by intro z; cases z)
  have nll : lb ≠ lw := fun e => by rw [e] at nd; simp at nd
  have hsl := hs.len
  refine ⟨w, lw, lb, row, r, _, rfl, hA, hl, nll, by rw [List.length_map, List.length_reverse]; omega, ?_⟩
  rcases begin_cases LX st r with ⟨e, e'⟩ | ⟨d, r1, e, e', hlt⟩ | ⟨fr, r1, e, e', hlt⟩ <;> rw [e]
  · rcases hR.inv LX (.inl rfl) with ⟨_, h2⟩ | ⟨m, s', _, h2, _⟩
    · exact (q h2).at k2 (fun b z => z)
    · have h3 : begin_ LX st r = some s' := h2
      rw [e'] at h3
      cases h3
  · rcases hR.inv LX (.inl rfl) with ⟨h2, _⟩ | ⟨m, s', rfl, h2, hR'⟩
    · have h3 : begin_ LX st r = none := h2
      rw [e'] at h3
      cases h3
    · have h3 : begin_ LX st r = some s' := h2
      rw [e'] at h3
      cases h3
      intro H3 v k3 hA3 hv
      have nw : ∀ y ∈ fps, y ≠ w := fun y hy e => by rw [e] at hy; simp [hy] at nd
      exact ⟨m, Nat.lt_succ_self _, st, some d, r1, bs, fps, v, hR', rfl, hA3, k3 _ _ nlw hl, hs.keep (fun x hx o z => k3 _ _ (nw x hx) z) (hA.tups k3), nd, new, newl, k2.trans k3, by omega, big, hv⟩
  · rcases hR.inv LX (.inl rfl) with ⟨h2, _⟩ | ⟨m, s', rfl, h2, hR'⟩
    · have h3 : begin_ LX st r = none := h2
      rw [e'] at h3
      cases h3
    · have h3 : begin_ LX st r = some s' := h2
      rw [e'] at h3
      cases h3
      intro H3 b fp k3 hA3 hl3 hF hn hnd
      have nw : ∀ y ∈ fps, ¬ (y = w \/ y = lb) := fun y hy e => by rcases e with e | e <;> · rw [e] at hy; simp [hy] at nd
      have tp : Tups H2 H3 := k3.tups fun b z xs y => by
        rcases z with z | z
        · rw [z, a1] at y; cases y
        · rw [z, hl] at y; cases y
      have hs3 : StIs A H3 (fr :: st) (b :: bs) (fp ++ fps) := .cons hF (hs.keep (fun x hx o z => k3 _ _ (nw x hx) z) tp)
      refine ⟨m, Nat.lt_succ_self _, fr :: st, none, r1, b :: bs, fp ++ fps, .non, hR', rfl, hA3, by rw [hl3]; simp, hs3, nod nd hnd (fun y hy => ?_), (fun y hy => ?_), newl, k2.fresh k3 (fun y z => z.elim .inl fun e => .inr (by rw [e]; exact newl)), by rw [List.length_cons]; omega, big, rfl, by simp⟩
      · have z := hn y hy
        exact ⟨(fun e => by rw [e, a1] at z; cases z), (fun e => by rw [e, a2] at z; cases z), (fun e => by rw [e, hl] at z; cases z), fun h => by obtain ⟨o, h1, _⟩ := hs.mem y h; rw [h1] at z; cases z⟩
      · rcases List.mem_append.mp hy with z | z
        · have z' := hn y z
          cases h : H y with
          | none => rfl
          | some o =>
            by_cases c : y = w
            · rw [c, a1] at z'; cases z'
            · rw [k2 _ _ c h] at z'; cases z'
        · exact new y z
theorem fill_turn {c : Fr -> Bool} {H H2 : Hp} {E : XK} {w lw lb b : Addr} {row : Int} {k n : Nat} {o : Option (D × List Str)} {fr : Fr} {d : D} {vb : V} {st : List Fr} {r : List Str} {bs fps fp : List Addr} (hc : c fr = true) (hR : Runs LX n ⟨fr :: st, some d, r⟩ o) (hA : AtR A H2 w lw row r) (hl : H2 lb = some (.lst ((b :: bs).reverse.map V.ref))) (hF : FrIs A H2 fr b fp) (hs : StIs A H2 st bs fps)
    (nd : (w :: lw :: lb :: (fp ++ fps)).Nodup) (new : ∀ y ∈ fp ++ fps, H y = none) (newl : H lb = none) (k2 : KpS (· = w) H H2) (len : (fr :: st).length + r.length <= k) (big : k <= 1000000) (hv : Is H2 d vb) (q : o = none -> Err A E (· = w) H row) :
    spFill A c [.ref b, .ref w, vb] H2 (fun v H' => (v = .non /\ ∃ m, m < n /\ BWx A H w lw lb row k o m [some (.ref w), some (.ref lb), some .non] H') \/ (v ≠ .non /\ H' lb = some (.lst ((b :: bs).reverse.map V.ref)) /\ ∃ m, m < n /\ BWx A H w lw lb row k o m [some (.ref w), some (.ref lb), some v] (upd H' lb (.lst (bs.reverse.map V.ref))))) E := by
  have ⟨dw, _, _, a1, a2, _⟩ := hA.ex
  have nlw : lb ≠ w := ne_of hl a1 (by intro z; cases z)
  have nll : lb ≠ lw := fun e => by rw [e] at nd; simp at nd
  obtain ⟨nd1, nd2, n3, n4⟩ := nod_tail nd
  have hlen := len
  rw [List.length_cons] at hlen
  refine ⟨b, w, lw, row, r, fr, fp, d, vb, rfl, hA, hF, hc, nd2, hv, ?_⟩
  have fs : ∀ y, (y = w \/ y ∈ fp) -> y = w \/ H y = none := fun y z => z.imp_right fun z => new y (List.mem_append_left _ z)
  have tp : ∀ {H3}, KpS (fun y => y = w \/ y ∈ fp) H2 H3 -> Tups H2 H3 := fun k3 => k3.tups fun b z xs y => by
    rcases z with z | z
    · rw [z, a1] at y; cases y
    · obtain ⟨o, h1, h2⟩ := hF.mem.2 b z
      rw [h1] at y
      injection y with y
      exact h2 _ y
  rcases fill_cases LX d st fr r with ⟨e, e'⟩ | ⟨d', r1, e, e', hlt⟩ | ⟨fr', r1, e, e', hlt⟩ <;> rw [e]
  · rcases hR.inv LX (.inr (by simp)) with ⟨_, h2⟩ | ⟨m, s', _, h2, _⟩
    · exact (q h2).new k2 fs
    · have h3 : fill LX d st fr r = some s' := h2
      rw [e'] at h3
      cases h3
  · rcases hR.inv LX (.inr (by simp)) with ⟨h2, _⟩ | ⟨m, s', rfl, h2, hR'⟩
    · have h3 : fill LX d st fr r = none := h2
      rw [e'] at h3
      cases h3
    · have h3 : fill LX d st fr r = some s' := h2
      rw [e'] at h3
      cases h3
      intro H3 v k3 hA3 hv3
      have hl3 : H3 lb = some (.lst ((b :: bs).reverse.map V.ref)) := k3 _ _ (fun z => z.elim nlw fun z => (n3 _ z).2.2.1 rfl) hl
      have tl : Tups H3 (upd H3 lb (.lst (bs.reverse.map V.ref))) := fun p xs z => by rw [upd_ne (ne_of z hl3 (by intro z; cases z))]; exact z
      have hs3 : StIs A (upd H3 lb (.lst (bs.reverse.map V.ref))) st bs fps := hs.keep (fun x hx o z => by rw [upd_ne (n4 x hx).2.2.1]; exact k3 _ _ (fun m => m.elim (n4 x hx).1 (n4 x hx).2.2.2) z) ((tp k3).trans tl)
      refine .inr ⟨hv3.nn, hl3, m, Nat.lt_succ_self _, st, some d', r1, bs, fps, v, hR', rfl, hA3.kept (S := (· = lb)) (KpS.put rfl) nlw.symm nll.symm, upd_same, hs3, nd1, fun y hy => new y (List.mem_append_right _ hy), newl, ?_, by omega, big, hv3.keep tl⟩
      exact (k2.fresh k3 fs).fresh (S := (· = lb)) (KpS.put rfl) fun y e => .inr (by rw [e]; exact newl)
  · rcases hR.inv LX (.inr (by simp)) with ⟨h2, _⟩ | ⟨m, s', rfl, h2, hR'⟩
    · have h3 : fill LX d st fr r = none := h2
      rw [e'] at h3
      cases h3
    · have h3 : fill LX d st fr r = some s' := h2
      rw [e'] at h3
      cases h3
      intro H3 k3 hA3 hF3
      have hl3 : H3 lb = some (.lst ((b :: bs).reverse.map V.ref)) := k3 _ _ (fun z => z.elim nlw fun z => (n3 _ z).2.2.1 rfl) hl
      have hs3 : StIs A H3 st bs fps := hs.keep (fun x hx o z => k3 _ _ (fun m => m.elim (n4 x hx).1 (n4 x hx).2.2.2) z) (tp k3)
      exact .inl ⟨rfl, m, Nat.lt_succ_self _, fr' :: st, none, r1, b :: bs, fp ++ fps, .non, hR', rfl, hA3, hl3, .cons hF3 hs3, nd, new, newl, k2.fresh k3 fs, by rw [List.length_cons]; omega, big, rfl, by simp⟩
theorem ok_body (F : Fun K "read_body" "read_body" sReadBody f fd) (T : Txt K mg A) (GB : Ca P w K mg base (CXf P w) 10 "begin_body" ["words", "begun"] (spBegin A)) (FL : Me P w K mg base (CXf P w) 8 A.cL "filled" ["self", "words", "body"] (spFill A kL)) (FI : Me P w K mg base (CXf P w) 8 A.cI "filled" ["self", "words", "body"] (spFill A kI)) (FC : Me P w K mg base (CXf P w) 8 A.cC "filled" ["self", "words", "body"] (spFill A kC)) :
    FnOk P w K mg base (CXf P w) 11 f fd ["words"] (spBody A) := by
  refine F.byx scBody (fun vs H Q E h => ?_) (fun cdv A' outer s H vs Q E hr h => ?_)
  · obtain ⟨w, lw, row, r, n, o, rfl, _⟩ := h
    rfl
  obtain ⟨w, lw, row, r0, n0, o, rfl, hA, hR, q⟩ := h
  refine ⟨_, jss_cons (js_set (i := 1) scBody.nd rfl (Or.inl rfl) (je_lst ja_nil))
    (jss_cons (js_set (i := 2) scBody.nd rfl (Or.inl rfl) (je_ca GB hr rfl passx (ja_c (jv 0) (ja_c (jv 1) ja_nil))))
    (jss_cons (js_while ownx (jt_cmpR jo_gt (je_fnB jc_len_seq rfl T.len PySem.boot_len (ja_c (jv 1) ja_nil)) je_int (nomark _))
      (jss_one (js_if (jt_isN (jv 2)) (jss_one (js_set (i := 2) scBody.nd rfl (Or.inl rfl) (je_ca GB hr rfl passx (ja_c (jv 0) (ja_c (jv 1) ja_nil)))))
        (jss_cons (js_set (i := 2) scBody.nd rfl (Or.inl rfl)
          (je_alt (je_alt (je_me (je_ix jx_list (jv 1) (je_neg je_int) (fun _ _ => rfl)) T.clL FL (hr.mono (by decide)) passx (ja_c (jv 0) (ja_c (jv 2) ja_nil)))
            (je_me (je_ix jx_list (jv 1) (je_neg je_int) (fun _ _ => rfl)) T.clI FI (hr.mono (by decide)) passx (ja_c (jv 0) (ja_c (jv 2) ja_nil))))
            (je_me (je_ix jx_list (jv 1) (je_neg je_int) (fun _ _ => rfl)) T.clC FC (hr.mono (by decide)) passx (ja_c (jv 0) (ja_c (jv 2) ja_nil)))))
        (jss_one (js_if (jt_notN (jv 2)) (jss_one (js_expr (je_bm0 PySem.F.plainAttrs_list PySem.F.slot_list_pop PySem.F.type_list_pop jm_pop (jv 1)))) jss_nil))))))
    (jss_one (js_ret (jv 2))))), ?_⟩
  have ⟨dw, ws, i, a1, a2, a3, a4, a5, _⟩ := hA.ex
  have hk : r0.length <= 1000000 := by rw [a3, List.length_drop]; omega
  refine ⟨by show 0 <= sizeLine; decide, fun lb hlb => ?_⟩
  have nlw : lb ≠ w := (ne_of_none a1 hlb).symm
  have nll : lb ≠ lw := (ne_of_none a2 hlb).symm
  have hE : o = none -> Err A E (· = w) H row := fun e => by rw [e] at q; exact q
  refine ⟨_, rfl, _, rfl, begin_mono (begin_turn (bs := []) (fps := []) hR (hA.same (same_new hlb _)) upd_same .nil (by simp [nlw.symm, nll.symm, hA.ne]) (fun y hy => by cases hy) hlb (KpS.new hlb) (by show 0 + r0.length <= r0.length; omega) hk hE) ?_⟩
  rintro v1 H1 ⟨m1, _, w1⟩
  refine ⟨BWx A H w lw lb row r0.length o, ⟨m1, w1⟩, ?_⟩
  rintro m σ H2 ⟨st, body, r, bs, fps, vb, B⟩
  have hlen := B.len
  have hsl := B.sts.len
  rw [B.loc]
  refine ⟨_, rfl, lb, _, rfl, .inl (SqL.of B.lst), _, _, rfl, rfl, _, rfl, ?_⟩
  cases st with
  | nil =>
    cases body with
    | none => exact absurd rfl B.bod.2
    | some d =>
      have e0 : bs = [] := by cases B.sts; rfl
      have hr := B.runs
      refine iteDN (by rw [e0]; decide) ?_
      refine ⟨_, rfl, ?_⟩
      cases hr with
      | done => exact q H2 vb B.kps B.at_ B.bod
      | turn h _ _ => rcases h with h | h <;> simp at h
      | fail h _ => rcases h with h | h <;> simp at h
  | cons fr st =>
    refine iteD (by rw [List.length_map, List.length_reverse]; rw [List.length_cons] at hsl; omega) ⟨_, fun _ _ h => h, ?_⟩
    cases body with
    | none =>
      rw [B.bod.1]
      refine ⟨_, rfl, _, rfl, iteD rfl ?_⟩
      refine ⟨_, rfl, _, rfl, begin_mono (begin_turn B.runs B.at_ B.lst B.sts B.nod B.new B.newl B.kps B.len B.big hE) ?_⟩
      rintro v H3 ⟨m', h1, h2⟩
      exact ⟨m', h1, h2⟩
    | some d =>
      have hv : Is H2 d vb := B.bod
      refine ⟨_, rfl, _, rfl, iteDN hv.nn ?_⟩
      have hst := B.sts
      have hl := B.lst
      have nd := B.nod
      have nw := B.new
      have hsz := B.len
      cases hst with
      | cons hF hs =>
        rename_i b fp bs fps
        have e1 : (b :: bs).reverse.map V.ref = bs.reverse.map V.ref ++ [.ref b] := by simp
        have ix : atI ((b :: bs).reverse.map V.ref) (-1) = some (.ref b) := by rw [e1]; exact atI_last _ _
        have e2 : ((b :: bs).reverse.map V.ref)[((b :: bs).reverse.map V.ref).length - 1]? = some (.ref b) := by rw [e1]; simp
        have e3 : ((b :: bs).reverse.map V.ref).dropLast = bs.reverse.map V.ref := by rw [e1]; simp
        cases fr with
        | lt x dd =>
          obtain ⟨rfl, dx, vd, hb, hd⟩ := hF
          refine .inl (.inl ⟨_, rfl, _, rfl, lb, _, _, _, rfl, rfl, SqL.of hl, ix, b, dx, _, rfl, hb, rfl, _, rfl, _, rfl, fill_mono (fill_turn (c := kL) rfl B.runs B.at_ hl ⟨rfl, dx, vd, hb, hd⟩ hs nd nw B.newl B.kps hsz B.big hv hE) ?_⟩)
          rintro v H3 (⟨rfl, m', h1, h2⟩ | ⟨nn, hl3, m', h1, h2⟩)
          · exact ⟨_, rfl, _, rfl, iteN rfl ⟨m', h1, h2⟩⟩
          · exact ⟨_, rfl, _, rfl, iteNN nn ⟨_, rfl, .inl ⟨rfl, _, SqL.of hl3⟩, lb, _, _, rfl, rfl, hl3, e2, m', h1, by rw [e3]; exact h2⟩⟩
        | if0 x =>
          obtain ⟨rfl, dx, hb⟩ := hF
          refine .inl (.inr ⟨_, rfl, _, rfl, lb, _, _, _, rfl, rfl, SqL.of hl, ix, b, dx, _, rfl, hb, rfl, _, rfl, _, rfl, fill_mono (fill_turn (c := kI) rfl B.runs B.at_ hl ⟨rfl, dx, hb⟩ hs nd nw B.newl B.kps hsz B.big hv hE) ?_⟩)
          rintro v H3 (⟨rfl, m', h1, h2⟩ | ⟨nn, hl3, m', h1, h2⟩)
          · exact ⟨_, rfl, _, rfl, iteN rfl ⟨m', h1, h2⟩⟩
          · exact ⟨_, rfl, _, rfl, iteNN nn ⟨_, rfl, .inl ⟨rfl, _, SqL.of hl3⟩, lb, _, _, rfl, rfl, hl3, e2, m', h1, by rw [e3]; exact h2⟩⟩
        | if1 x dd =>
          obtain ⟨rfl, dx, vd, hb, hd⟩ := hF
          refine .inl (.inr ⟨_, rfl, _, rfl, lb, _, _, _, rfl, rfl, SqL.of hl, ix, b, dx, _, rfl, hb, rfl, _, rfl, _, rfl, fill_mono (fill_turn (c := kI) rfl B.runs B.at_ hl ⟨rfl, dx, vd, hb, hd⟩ hs nd nw B.newl B.kps hsz B.big hv hE) ?_⟩)
          rintro v H3 (⟨rfl, m', h1, h2⟩ | ⟨nn, hl3, m', h1, h2⟩)
          · exact ⟨_, rfl, _, rfl, iteN rfl ⟨m', h1, h2⟩⟩
          · exact ⟨_, rfl, _, rfl, iteNN nn ⟨_, rfl, .inl ⟨rfl, _, SqL.of hl3⟩, lb, _, _, rfl, rfl, hl3, e2, m', h1, by rw [e3]; exact h2⟩⟩
        | cs x arms tag ns =>
          have hF' := hF
          obtain ⟨la, rfl, dx, ph, pn, va, hb, _⟩ := hF
          refine .inr ⟨_, rfl, _, rfl, lb, _, _, _, rfl, rfl, SqL.of hl, ix, b, dx, _, rfl, hb, rfl, _, rfl, _, rfl, fill_mono (fill_turn (c := kC) rfl B.runs B.at_ hl hF' hs nd nw B.newl B.kps hsz B.big hv hE) ?_⟩
          rintro v H3 (⟨rfl, m', h1, h2⟩ | ⟨nn, hl3, m', h1, h2⟩)
          · exact ⟨_, rfl, _, rfl, iteN rfl ⟨m', h1, h2⟩⟩
          · exact ⟨_, rfl, _, rfl, iteNN nn ⟨_, rfl, .inl ⟨rfl, _, SqL.of hl3⟩, lb, _, _, rfl, rfl, hl3, e2, m', h1, by rw [e3]; exact h2⟩⟩
end
end Rdr
namespace Rdr
open PySem L2 K11 Rd
def isSize (z : Str) : Bool := decide (V.int ((z.length : Nat) : Int) = V.int 1) && inS z FIGS
theorem size_int {z : Str} (h : isSize z = true) : PySem.intText? z = some (intOf z) /\ z.length <= 640 := by
  unfold isSize at h
  rw [Bool.and_eq_true, decide_eq_true_eq] at h
  obtain ⟨h1, h2⟩ := h
  have h1' : z.length = 1 := by
    injection h1 with h1
    omega
  have e : ∃ c, cl z = [c] := by
    have := cl_len z
    rw [h1'] at this
    exact List.length_eq_one_iff.mp this
  obtain ⟨c, hc⟩ := e
  have ez : z = sg c := str_ext hc
  rw [ez] at h2
  have dg : NumText.AllDigits z.cps.toList := fun d hd => by
    rw [show z.cps.toList = [c] from hc, List.mem_singleton] at hd
    rw [hd]
    exact figs_mem c (inS_iff.mp h2)
  have t := PySem.intText_digits dg (fun z0 => by rw [show z.cps.toList = [c] from hc] at z0; cases z0) (by omega)
  exact ⟨by unfold intOf; rw [t]; rfl, by omega⟩
def sizeRd : List Str -> Option (Int × List Str)
  | [] => none
  | y :: r => if isSize y = true then some (intOf y, r) else none
def pairRd (r : List Str) : Option (D × List Str) := (nextName LX r).bind fun p => (sizeRd p.2).map fun q => (.tup [.str p.1, .int q.1], q.2)
def kindF : Nat -> List D -> List Str -> Option (List D)
  | 0, acc, r => if r.isEmpty = true then some acc else none
  | n + 1, acc, r => if r.isEmpty = true then some acc else (pairRd r).bind fun p => kindF n (acc ++ [p.1]) p.2
def kindRd (r : List Str) : Option (List D) := (pairRd r).bind fun p => kindF p.2.length [p.1] p.2
theorem pair_len {r r' : List Str} {d : D} (h : pairRd r = some (d, r')) : r'.length < r.length := by
  unfold pairRd at h
  obtain ⟨⟨x, r1⟩, h1, h⟩ := Option.bind_eq_some_iff.mp h
  obtain ⟨⟨n, r2⟩, h2, h3⟩ := Option.map_eq_some_iff.mp h
  cases h3
  dsimp only at h2
  have := nextName_len LX h1
  cases r1 with
  | nil => cases h2
  | cons y r1 =>
    unfold sizeRd at h2
    dsimp only at h2
    split at h2
    · cases h2
      rw [List.length_cons] at this
      show r2.length < r.length
      omega
    · cases h2
def DefRd (r : List Str) (o : Option D) : Prop := match (nextName LX r).bind fun p => (until_ LX "=" [] p.2).map fun q => (p.1, q) with
  | none => o = none
  | some (x, ns, r2) => ∃ n o2, Runs LX n ⟨[], none, r2⟩ o2 /\ o = match o2 with
    | some (d, []) => some (.tup [.str x, Rd.«strs» ns, d])
    | _ => none
def spSize (A : Adr) : Sp := fun vs H Q E => ∃ (w lw : Addr) (row : Int) (r : List Str), vs = [.ref w] /\ AtR A H w lw row r /\ (match sizeRd r with
  | none => Err A E (· = w) H row
  | some (x, r') => ∀ H', KpS (· = w) H H' -> AtR A H' w lw row r' -> Q (.int x) H')
def spPair (A : Adr) : Sp := fun vs H Q E => ∃ (w lw : Addr) (row : Int) (r : List Str), vs = [.ref w] /\ AtR A H w lw row r /\ (match pairRd r with
  | none => Err A E (· = w) H row
  | some (d, r') => ∀ H' v, KpS (· = w) H H' -> AtR A H' w lw row r' -> Is H' d v -> Q v H')
def spKind (A : Adr) : Sp := fun vs H Q E => ∃ (w lw : Addr) (row : Int) (r : List Str), vs = [.ref w] /\ AtR A H w lw row r /\ (match kindRd r with
  | none => Err A E (· = w) H row
  | some ds => ∀ H' v, KpS (· = w) H H' -> Is H' (.tup ds) v -> Q v H')
def spDef (A : Adr) : Sp := fun vs H Q E => ∃ (w lw : Addr) (row : Int) (r : List Str) (o : Option D), vs = [.ref w] /\ AtR A H w lw row r /\ DefRd r o /\ (match o with
  | none => Err A E (· = w) H row
  | some d => ∀ H' v, KpS (· = w) H H' -> Is H' d v -> Q v H')
section
variable {P : Program} {w : World} {K : PySem.W.Frag} {mg : Str -> Option Value} {base : Heap} {f : Addr} {fd : FuncData} {A : Adr} {t1 : Tok}
theorem scSize : FnScope ["self", "word"] ["self"] (defScope sNextSize) := ⟨rfl, rfl, rfl, by decide +kernel, rfl, by decide +kernel, by decide +kernel⟩
theorem ok_nextsize (F : Fun K "next_size" "Words.next_size" sNextSize f fd) (T : Txt K mg A) (mF : mg "FIGURES" = some (.str FIGS t1)) (GW : Me P w K mg base (CXf P w) 4 A.cW "next_word" ["self"] (spWord A)) (GI : Me P w K mg base (CXf P w) 3 A.cW "insist" ["self", "fits"] (spInsist A)) :
    FnOk P w K mg base (CXf P w) 5 f fd ["self"] (spSize A) := by
  refine F.byx scSize (fun vs H Q E h => ?_) (fun cdv A' outer s H vs Q E hr h => ?_)
  · obtain ⟨w, lw, row, r, rfl, _⟩ := h
    rfl
  obtain ⟨w, lw, row, r, rfl, hA, q⟩ := h
  refine ⟨_, jss_cons (js_set (i := 1) scSize.nd rfl (Or.inl rfl) (je_me0 (jv 0) T.clW GW hr passx))
    (jss_cons (js_expr (je_me (jv 0) T.clW GI (hr.mono (by decide)) passx (ja_c (je_and (je_cmpR jo_eq (je_fnB jc_len_str rfl T.len PySem.boot_len (ja_c (jv 1) ja_nil)) je_int (nomark _)) (je_one (je_cmpR jo_in_str (jv 1) (je_glob (v := .str FIGS) rfl mF ⟨_, rfl⟩) (by with_unfolding_all rfl)))) ja_nil)))
    (jss_one (js_ret (je_fnTy jc_int_text rfl T.int PyProof.Rows.boot_int (ja_c (jv 1) ja_nil))))), ?_⟩
  have ⟨dw, _, _, a1, _⟩ := hA.ex
  refine ⟨_, rfl, w, dw, _, rfl, a1, rfl, w, lw, row, r, rfl, hA, ?_⟩
  cases r with
  | nil => exact q
  | cons y r' =>
    dsimp only
    intro hy H1 k1 hA1
    have ⟨dw1, _, _, c1, _⟩ := hA1.ex
    have sl := line
    refine ⟨_, rfl, w, dw1, _, rfl, c1, rfl, _, rfl, y, rfl, by omega, rfl, _, rfl, ?_⟩
    have ok : isSize y = true -> ∀ H2, Same H1 H2 -> Q (.int (intOf y)) H2 := fun hb H2 s2 => by
      have e : sizeRd (y :: r') = some (intOf y, r') := by
        show (if isSize y = true then some (intOf y, r') else none) = _
        rw [if_pos hb]
      rw [e] at q
      exact q _ (k1.trans (.of s2)) (hA1.same s2)
    have no : isSize y = false -> Err A E (fun _ => False) H1 row := fun hb => by
      have e : sizeRd (y :: r') = none := by
        show (if isSize y = true then some (intOf y, r') else none) = none
        rw [hb]
        rfl
      rw [e] at q
      exact q.at k1 (fun b z => z.elim)
    refine ite2 (fun c1 => ?_) (fun c1 => ?_)
    · refine ⟨_, rfl, y, FIGS, rfl, rfl, w, lw, row, r', _, rfl, hA1, fun hb => ?_, fun hb => no ?_⟩
      · have hs : isSize y = true := by
          unfold isSize
          rw [c1]
          exact hb
        exact ⟨_, rfl, y, _, rfl, (size_int hs).1, (size_int hs).2, ok hs _ (Same.refl _)⟩
      · unfold isSize
        rw [c1]
        exact hb
    · refine ⟨w, lw, row, r', false, rfl, hA1, (fun z => by cases z), fun _ => no ?_⟩
      unfold isSize
      rw [Bool.eq_false_iff.mpr c1, Bool.false_and]
theorem scPair : FnScope ["words", "tag"] ["words"] (defScope sReadPair) := ⟨rfl, rfl, rfl, by decide +kernel, rfl, by decide +kernel, by decide +kernel⟩
theorem ok_pair (F : Fun K "read_pair" "read_pair" sReadPair f fd) (T : Txt K mg A) (GN : Me P w K mg base (CXf P w) 5 A.cW "next_name" ["self"] (spNextName A)) (GS : Me P w K mg base (CXf P w) 5 A.cW "next_size" ["self"] (spSize A)) : FnOk P w K mg base (CXf P w) 6 f fd ["words"] (spPair A) := by
  refine F.byx scPair (fun vs H Q E h => ?_) (fun cdv A' outer s H vs Q E hr h => ?_)
  · obtain ⟨w, lw, row, r, rfl, _⟩ := h
    rfl
  obtain ⟨w, lw, row, r, rfl, hA, q⟩ := h
  refine ⟨_, jss_cons (js_set (i := 1) scPair.nd rfl (Or.inl rfl) (je_me0 (jv 0) T.clW GN hr passx)) (jss_one (js_ret (je_tup (ja_c (jv 1) (ja_c (je_me0 (jv 0) T.clW GS hr passx) ja_nil))))), ?_⟩
  have ⟨dw, _, _, a1, _⟩ := hA.ex
  refine ⟨_, rfl, w, dw, _, rfl, a1, rfl, w, lw, row, r, rfl, hA, ?_⟩
  unfold pairRd at q
  cases e : nextName LX r with
  | none => rw [e] at q; exact q
  | some pr =>
    obtain ⟨x, r1⟩ := pr
    rw [e] at q
    dsimp only [Option.bind_some] at q ⊢
    intro H1 k1 hA1
    have ⟨dw1, _, _, c1, _⟩ := hA1.ex
    refine ⟨_, rfl, _, rfl, w, dw1, _, rfl, c1, rfl, w, lw, row, r1, rfl, hA1, ?_⟩
    cases e2 : sizeRd r1 with
    | none => rw [e2] at q; exact q.at k1 (fun b z => z)
    | some pr2 =>
      obtain ⟨n, r2⟩ := pr2
      rw [e2] at q
      dsimp only [Option.map_some] at q ⊢
      intro H2 k2 hA2
      refine ⟨by show 2 <= sizeLine; decide, fun p hp => ?_⟩
      exact q _ _ ((k1.trans k2).trans (KpS.new hp)) (hA2.same (same_new hp _)) (.tup upd_same (.cons (.str _) (.cons (.int _) .nil)))
theorem scKind : FnScope ["words", "pairs"] ["words"] (defScope sReadKind) := ⟨rfl, rfl, rfl, by decide +kernel, rfl, by decide +kernel, by decide +kernel⟩
theorem ok_kind (F : Fun K "read_kind" "read_kind" sReadKind f fd) (T : Txt K mg A) (GA : Me P w K mg base CX0 1 A.cW "all_read" ["self"] (spAll A)) (GP : Ca P w K mg base (CXf P w) 6 "read_pair" ["words"] (spPair A)) : FnOk P w K mg base (CXf P w) 7 f fd ["words"] (spKind A) := by
  refine F.byx scKind (fun vs H Q E h => ?_) (fun cdv A' outer s H vs Q E hr h => ?_)
  · obtain ⟨w, lw, row, r, rfl, _⟩ := h
    rfl
  obtain ⟨w, lw, row, r0, rfl, hA, q⟩ := h
  refine ⟨_, jss_cons (js_set (i := 1) scKind.nd rfl (Or.inl rfl) (je_lst (ja_c (je_ca GP hr rfl passx (ja_c (jv 0) ja_nil)) ja_nil)))
    (jss_cons (js_while ownx (jt_not (jt_val (je_me0 (jv 0) T.clW GA (hr.mono (by decide)) pass0)))
      (jss_one (js_expr (je_bm PySem.F.plainAttrs_list PySem.F.slot_list_append PySem.F.type_list_append jm_append (jv 1) (ja_c (je_ca GP hr rfl passx (ja_c (jv 0) ja_nil)) ja_nil)))))
    (jss_one (js_ret (je_fnTy jc_tuple_of rfl T.tuple PyProof.Rows.boot_tuple (ja_c (jv 1) ja_nil))))), ?_⟩
  have ⟨dw, ws, i, a1, a2, a3, a4, a5, _⟩ := hA.ex
  have hk : r0.length <= 1000000 := by rw [a3, List.length_drop]; omega
  have sl := line
  unfold kindRd at q
  refine ⟨_, rfl, w, lw, row, r0, rfl, hA, ?_⟩
  cases e : pairRd r0 with
  | none => rw [e] at q; exact q
  | some pr =>
    obtain ⟨d, r1⟩ := pr
    have l0 := pair_len e
    rw [e] at q
    dsimp only [Option.bind_some] at q ⊢
    intro H1 v k1 hA1 hv
    refine ⟨by show 1 <= sizeLine; decide, fun p hp => ?_⟩
    have ⟨dw1, _, _, c1, c2, _⟩ := hA1.ex
    have npw : p ≠ w := (ne_of_none c1 hp).symm
    have npl : p ≠ lw := (ne_of_none c2 hp).symm
    have hn : H p = none := by
      cases z : H p with
      | none => rfl
      | some o => rw [k1 _ _ npw z] at hp; cases hp
    refine ⟨fun m σ H2 => ∃ r acc vs n, m = r.length /\ r.length <= n /\ σ = [some (.ref w), some (.ref p)] /\ AtR A H2 w lw row r /\ H2 p = some (.lst vs) /\ IsL H2 acc vs /\ KpS (· = w) H H2 /\ kindF n acc r = kindF r1.length [d] r1 /\ acc.length + r.length <= r0.length,
      ⟨_, r1, [d], [v], r1.length, rfl, Nat.le_refl _, rfl, hA1.same (same_new hp _), upd_same, .cons (hv.keep (Tups.new hp)) .nil, k1.trans (KpS.new hp), rfl, by rw [List.length_singleton]; omega⟩, ?_⟩
    rintro m σ H2 ⟨r, acc, vs, n, rfl, hn2, rfl, hA2, hl, hi, k2, hu, hz⟩
    have ⟨dw2, _, _, c3, _⟩ := hA2.ex
    refine ⟨_, rfl, w, dw2, _, rfl, c3, rfl, w, lw, row, r, rfl, hA2, ?_⟩
    have hvl := hi.len
    cases r with
    | nil =>
      refine ⟨_, rfl, iteF ?_⟩
      have e0 : kindF n acc [] = some acc := by cases n <;> rfl
      rw [<- hu, e0] at q
      refine ⟨_, rfl, p, _, rfl, .inl ⟨SqL.of hl, fun p2 hp2 => ?_⟩⟩
      exact q _ _ (k2.trans (KpS.new hp2)) (.tup upd_same (hi.keep (Tups.new hp2)))
    | cons y r' =>
      refine ⟨_, rfl, iteT ⟨_, fun _ _ h => h, ?_⟩⟩
      refine ⟨_, rfl, .inl ⟨rfl, _, SqL.of hl⟩, _, rfl, w, lw, row, y :: r', rfl, hA2, ?_⟩
      cases n with
      | zero => simp at hn2
      | succ n =>
        have e1 : kindF (n + 1) acc (y :: r') = (pairRd (y :: r')).bind fun p => kindF n (acc ++ [p.1]) p.2 := rfl
        cases e2 : pairRd (y :: r') with
        | none =>
          rw [e1, e2] at hu
          rw [<- hu] at q
          exact q.at k2 (fun b z => z)
        | some pr =>
          obtain ⟨d2, r2⟩ := pr
          have l2 := pair_len e2
          rw [e1, e2] at hu
          dsimp only [Option.bind_some] at hu ⊢
          intro H3 v3 k3 hA3 hv3
          have hl3 := k3 _ _ npw hl
          refine ⟨p, vs, v3, rfl, rfl, hl3, by omega, ?_⟩
          have tp : Tups H3 (upd H3 p (.lst (vs ++ [v3]))) := fun b xs z => by rw [upd_ne (ne_of z hl3 (by intro z; cases z))]; exact z
          refine ⟨r2.length, l2, r2, acc ++ [d2], vs ++ [v3], n, rfl, by omega, rfl, hA3.kept (S := (· = p)) (KpS.put rfl) npw.symm npl.symm, upd_same, (hi.keep ((hA2.tups k3).trans tp)).app (.cons (hv3.keep tp) .nil), fun b o nb hb => ?_, hu, by rw [List.length_append, List.length_singleton]; omega⟩
          rw [upd_ne (fun z => by rw [z, hn] at hb; cases hb)]
          exact k3 _ _ nb (k2 _ _ nb hb)
theorem scDef : FnScope ["words", "name", "params", "body"] ["words"] (defScope sReadDef) := ⟨rfl, rfl, rfl, by decide +kernel, rfl, by decide +kernel, by decide +kernel⟩
theorem ok_def (F : Fun K "read_def" "read_def" sReadDef f fd) (T : Txt K mg A) (GN : Me P w K mg base (CXf P w) 5 A.cW "next_name" ["self"] (spNextName A)) (GU : Me P w K mg base (CXf P w) 6 A.cW "names_until" ["self", "stop"] (spUntil A)) (GB : Ca P w K mg base (CXf P w) 11 "read_body" ["words"] (spBody A))
    (GA : Me P w K mg base CX0 1 A.cW "all_read" ["self"] (spAll A)) (GI : Me P w K mg base (CXf P w) 3 A.cW "insist" ["self", "fits"] (spInsist A)) : FnOk P w K mg base (CXf P w) 12 f fd ["words"] (spDef A) := by
  refine F.byx scDef (fun vs H Q E h => ?_) (fun cdv A' outer s H vs Q E hr h => ?_)
  · obtain ⟨w, lw, row, r, o, rfl, _⟩ := h
    rfl
  obtain ⟨w, lw, row, r, o, rfl, hA, hD, q⟩ := h
  refine ⟨_, jss_cons (js_set (i := 1) scDef.nd rfl (Or.inl rfl) (je_me0 (jv 0) T.clW GN (hr.mono (by decide)) passx))
    (jss_cons (js_set (i := 2) scDef.nd rfl (Or.inl rfl) (je_me (jv 0) T.clW GU (hr.mono (by decide)) passx (ja_c je_str ja_nil)))
    (jss_cons (js_set (i := 3) scDef.nd rfl (Or.inl rfl) (je_ca GB hr rfl passx (ja_c (jv 0) ja_nil)))
    (jss_cons (js_expr (je_me (jv 0) T.clW GI (hr.mono (by decide)) passx (ja_c (je_me0 (jv 0) T.clW GA (hr.mono (by decide)) pass0) ja_nil)))
    (jss_one (js_ret (je_tup (ja_c (jv 1) (ja_c (jv 2) (ja_c (jv 3) ja_nil))))))))), ?_⟩
  have ⟨dw, _, _, a1, _⟩ := hA.ex
  refine ⟨_, rfl, w, dw, _, rfl, a1, rfl, w, lw, row, r, rfl, hA, ?_⟩
  unfold DefRd at hD
  cases e : nextName LX r with
  | none =>
    rw [e] at hD
    have hD' : o = none := hD
    rw [hD'] at q
    exact q
  | some pr =>
    obtain ⟨x, r1⟩ := pr
    rw [e] at hD
    dsimp only [Option.bind_some] at hD ⊢
    intro H1 k1 hA1
    have ⟨dw1, _, _, c1, _⟩ := hA1.ex
    refine ⟨_, rfl, w, dw1, _, rfl, c1, rfl, w, lw, row, r1, _, rfl, hA1, ?_⟩
    cases e2 : until_ LX "=" [] r1 with
    | none =>
      rw [e2] at hD
      have hD' : o = none := hD
      rw [hD'] at q
      exact q.at k1 (fun b z => z)
    | some pr2 =>
      obtain ⟨ns, r2⟩ := pr2
      rw [e2] at hD
      obtain ⟨n, o2, hR, ho⟩ := hD
      dsimp only
      intro H2 pn k2 hA2 hpn
      refine ⟨_, rfl, w, lw, row, r2, n, o2, rfl, hA2, hR, ?_⟩
      cases o2 with
      | none =>
        rw [show o = none from ho] at q
        exact q.at (k1.trans k2) (fun b z => z)
      | some pr3 =>
        obtain ⟨d, r3⟩ := pr3
        dsimp only
        intro H3 v k3 hA3 hv
        have ⟨dw3, _, _, c3, _⟩ := hA3.ex
        refine ⟨_, rfl, w, dw3, _, rfl, c3, rfl, _, rfl, w, dw3, _, rfl, c3, rfl, w, lw, row, r3, rfl, hA3, w, lw, row, r3, _, rfl, hA3, fun hb => ?_, fun hb => ?_⟩
        · cases r3 with
          | cons y r4 => cases hb
          | nil =>
            rw [show o = some (.tup [.str x, Rd.«strs» ns, d]) from ho] at q
            refine ⟨_, rfl, _, rfl, _, rfl, by show 3 <= sizeLine; decide, fun p hp => ?_⟩
            have tp := Tups.new (o := .tup [.str x, .ref pn, v]) hp
            have hpn' := tp _ _ (hA2.tups k3 _ _ hpn)
            exact q _ _ (((k1.trans k2).trans k3).trans (KpS.new hp)) (.tup upd_same (.cons (.str _) (.cons (.tup hpn' (IsL.strs ns)) (.cons (hv.keep tp) .nil))))
        · cases r3 with
          | nil => cases hb
          | cons y r4 =>
            rw [show o = none from ho] at q
            exact q.at ((k1.trans k2).trans k3) (fun b z => z.elim)
end
end Rdr
namespace Rdr
open PySem L2 K11 Rd
def NL : Str := "\n"
def SP : Str := " "
def rowsOf (z : Str) : List Str := if z = "" then [] else Txt.split z NL
def wordsOf (z : Str) : List Str := Txt.split z SP
def rowR (ks ds : List D) (ws : List Str) (o : Option (List D × List D)) : Prop := match ws with
  | [] => o = none
  | y :: r => if y = "def" then ∃ o2, DefRd r o2 /\ o = o2.map fun d => (ks, ds ++ [d]) else if y = "kind" /\ ds = [] then o = (kindRd r).map fun l => (ks ++ [.tup l], ds) else o = none
inductive RowsR : Nat -> List D -> List D -> List (List Str) -> Except Nat (List D × List D) -> Prop
  | nil {i : Nat} {ks ds : List D} : RowsR i ks ds [] (.ok (ks, ds))
  | row {i : Nat} {ks ds ks' ds' : List D} {ws : List Str} {rest : List (List Str)} {o : Except Nat (List D × List D)} : rowR ks ds ws (some (ks', ds')) -> RowsR (i + 1) ks' ds' rest o -> RowsR i ks ds (ws :: rest) o
  | bad {i : Nat} {ks ds : List D} {ws : List Str} {rest : List (List Str)} : rowR ks ds ws none -> RowsR i ks ds (ws :: rest) (.error i)
def spWInit (A : Adr) : Sp := fun vs H Q _ => ∃ (b dx lw : Addr) (row : Int) (ws : List Str), vs = [.ref b, .int row, .ref lw] /\ H b = some (.ins A.cW dx []) /\ H lw = some (.lst (ws.map V.str)) /\ ws.length <= 1000000 /\ (∀ x ∈ ws, x.length <= 1000) /\ ∀ H', KpS (· = b) H H' -> AtR A H' b lw row ws -> Q .non H'
structure Fit (z : Str) : Prop where
  len : z.length + 2 <= 1000000
  row : ∀ l ∈ rowsOf z, l.length + 2 <= 1000000
  word : ∀ l ∈ rowsOf z, ∀ x ∈ wordsOf l, x.length <= 1000
def spRead (A : Adr) : Sp := fun vs H Q E => ∃ (z : Str) (o : Except Nat (List D × List D)), vs = [.str z] /\ Fit z /\ RowsR 0 [] [] ((rowsOf z).map wordsOf) o /\ (match o with
  | .error i => Err A E (fun _ => False) H i
  | .ok (ks, ds) => ∀ H' v, Same H H' -> Is H' (.tup [.tup ks, .tup ds]) v -> Q v H')
section
variable {P : Program} {w : World} {K : PySem.W.Frag} {mg : Str -> Option Value} {base : Heap} {f : Addr} {fd : FuncData} {A : Adr}
theorem scWInit : FnScope ["self", "row", "words"] ["self", "row", "words"] (defScope sWInit) := ⟨rfl, rfl, rfl, by decide +kernel, rfl, by decide +kernel, by decide +kernel⟩
theorem ok_winit (F : Fun K "__init__" "Words.__init__" sWInit f fd) (T : Txt K mg A) : FnOk P w K mg base CX0 1 f fd ["self", "row", "words"] (spWInit A) := by
  refine F.by scWInit (fun vs H Q E h => ?_) (fun cdv A' outer s H vs Q E hr h => ?_)
  · obtain ⟨b, dx, lw, row, ws, rfl, _⟩ := h
    rfl
  obtain ⟨b, dx, lw, row, ws, rfl, hb, hl, h1, h2, q⟩ := h
  refine ⟨_, jss_cons (js_fld (jv 0) (jv 1)) (jss_cons (js_fld (jv 0) (jv 2)) (jss_one (js_fld (jv 0) je_int))), ?_⟩
  have nbl : lw ≠ b := ne_of hl hb (by intro z; cases z)
  refine ⟨_, rfl, _, rfl, b, A.cW, dx, _, rfl, hb, T.clW, T.nRow, by show 0 < 1000; decide, ?_⟩
  refine ⟨_, rfl, _, rfl, b, A.cW, dx, _, rfl, upd_same, T.clW, T.nWords, by show 1 < 1000; decide, ?_⟩
  refine ⟨_, rfl, b, A.cW, dx, _, rfl, upd_same, T.clW, T.nAt, by show 2 < 1000; decide, ?_⟩
  refine q _ (((KpS.put (S := (· = b)) rfl).trans (KpS.put rfl)).trans (KpS.put rfl)) ⟨dx, ws, 0, upd_same, ?_, rfl, Nat.zero_le _, h1, h2⟩
  rw [upd_ne nbl, upd_ne nbl, upd_ne nbl]
  exact hl
theorem scRead : FnScope ["text", "kinds", "defs", "rows", "row", "line", "words"] ["text"] (defScope sRead) := ⟨rfl, rfl, rfl, by decide +kernel, rfl, by decide +kernel, by decide +kernel⟩
theorem ok_read (F : Fun K "read" "read" sRead f fd) (T : Txt K mg A) (GX : Xa P w K mg base 1 "NoText" A.cN ["self", "row"] (spNoText A)) (GW : Ma P w K mg base CX0 1 "Words" A.cW ["self", "row", "words"] (spWInit A)) (GP : Me P w K mg base CX0 2 A.cW "passed" ["self", "word"] (spPassed A)) (GI : Me P w K mg base (CXf P w) 3 A.cW "insist" ["self", "fits"] (spInsist A))
    (GD : Ca P w K mg base (CXf P w) 12 "read_def" ["words"] (spDef A)) (GK : Ca P w K mg base (CXf P w) 7 "read_kind" ["words"] (spKind A)) (mI : mg "isinstance" = none) (mS : mg "str" = none) (mE : mg "enumerate" = none) : FnOk P w K mg base (CXf P w) 13 f fd ["text"] (spRead A) := by
  refine F.byx scRead (fun vs H Q E h => ?_) (fun cdv A' outer s H vs Q E hr h => ?_)
  · obtain ⟨z, o, rfl, _⟩ := h
    rfl
  obtain ⟨z, o, rfl, fit, hR, q⟩ := h
  refine ⟨_, jss_cons (js_if (jt_not (jt_val (je_fnB jc_isinst rfl mI PyProof.Rows.boot_isinstance (ja_c (jv 0) (ja_c (je_bltn (v := .ty "str") rfl mS PyProof.Rows.boot_str rfl) ja_nil))))) (jss_one (js_raise GX (hr.mono (by decide)) rfl throwx (ja_c je_int ja_nil))) jss_nil)
    (jss_cons (js_set (i := 1) scRead.nd rfl (Or.inl rfl) (je_lst ja_nil))
    (jss_cons (js_set (i := 2) scRead.nd rfl (Or.inl rfl) (je_lst ja_nil))
    (jss_cons (js_set (i := 3) scRead.nd rfl (Or.inl rfl) (je_ifExp (jt_cmpR jo_ne (jv 0) je_str (nomark _)) (je_bm PySem.F.plainAttrs_str PySem.F.slot_str_split PySem.F.type_str_split jm_split (jv 0) (ja_c je_str ja_nil)) (je_lst ja_nil)))
    (jss_cons (js_for ownx rfl (ji_enum rfl mE (ja_c (jv 3) ja_nil)) (jg_tup rfl (jgs_cons (jg_name (i := 4) scRead.nd rfl (Or.inl rfl)) (jgs_cons (jg_name (i := 5) scRead.nd rfl (Or.inl rfl)) jgs_nil)))
      (jss_cons (js_set (i := 6) scRead.nd rfl (Or.inl rfl) (je_ma GW (hr.mono (by decide)) rfl pass0 (ja_c (jv 4) (ja_c (je_bm PySem.F.plainAttrs_str PySem.F.slot_str_split PySem.F.type_str_split jm_split (jv 5) (ja_c je_str ja_nil)) ja_nil))))
      (jss_one (js_if (jt_val (je_me (jv 6) T.clW GP (hr.mono (by decide)) pass0 (ja_c je_str ja_nil)))
        (jss_one (js_expr (je_bm PySem.F.plainAttrs_list PySem.F.slot_list_append PySem.F.type_list_append jm_append (jv 2) (ja_c (je_ca GD hr rfl passx (ja_c (jv 6) ja_nil)) ja_nil))))
        (jss_cons (js_expr (je_me (jv 6) T.clW GI (hr.mono (by decide)) passx (ja_c (je_and (je_me (jv 6) T.clW GP (hr.mono (by decide)) pass0 (ja_c je_str ja_nil)) (je_one (je_cmpR jo_eq (je_fnB jc_len_seq rfl T.len PySem.boot_len (ja_c (jv 2) ja_nil)) je_int (nomark _)))) ja_nil)))
        (jss_one (js_expr (je_bm PySem.F.plainAttrs_list PySem.F.slot_list_append PySem.F.type_list_append jm_append (jv 1) (ja_c (je_ca GK (hr.mono (by decide)) rfl passx (ja_c (jv 6) ja_nil)) ja_nil)))))))))
    (jss_one (js_ret (je_tup (ja_c (je_fnTy jc_tuple_of rfl T.tuple PyProof.Rows.boot_tuple (ja_c (jv 1) ja_nil)) (ja_c (je_fnTy jc_tuple_of rfl T.tuple PyProof.Rows.boot_tuple (ja_c (jv 2) ja_nil)) ja_nil))))))))), ?_⟩
  have sl := line
  refine ⟨_, rfl, _, _, _, true, rfl, .str _, rfl, _, rfl, iteF ?_⟩
  refine ⟨by show 0 <= sizeLine; decide, fun lk hlk => ?_⟩
  refine ⟨by show 0 <= sizeLine; decide, fun ld hld => ?_⟩
  suffices rest : ∀ (lr : Addr) (H3 : Hp), upd (upd H lk (.lst [])) ld (.lst []) lr = none -> H3 = upd (upd (upd H lk (.lst [])) ld (.lst [])) lr (.lst ((rowsOf z).map V.str)) -> (tSeq _ _ : TS) { nx := fun _ H' => Q .non H', rt := Q } [some (.str z), some (.ref lk), some (.ref ld), some (.ref lr), none, none, none] H3 by
    refine ⟨_, rfl, rfl, _, rfl, ?_⟩
    by_cases c : z = ""
    · refine iteN (congrArg V.str c) ?_
      refine ⟨by show 0 <= sizeLine; decide, fun lr hlr => rest lr _ hlr ?_⟩
      rw [show rowsOf z = [] from if_pos c]
      rfl
    · refine iteNN (fun e => c (by injection e)) ?_
      refine ⟨_, rfl, rfl, z, NL, rfl, rfl, by decide, by have := fit.len; omega, fun lr hlr => rest lr _ hlr ?_⟩
      rw [show rowsOf z = Txt.split z NL from if_neg c]
  intro lr H3 hlr e3
  have hlk0 : H lk = none := hlk
  have nd : ld ≠ lk := (ne_of_none upd_same hld).symm
  have hld0 : H ld = none := by rw [upd_ne nd] at hld; exact hld
  have n1 : lr ≠ ld := (ne_of_none upd_same hlr).symm
  have n2 : lr ≠ lk := fun e => by rw [e, upd_ne nd.symm, upd_same] at hlr; cases hlr
  have hlr0 : H lr = none := by rw [upd_ne n1, upd_ne n2] at hlr; exact hlr
  have sm3 : Same H H3 := by rw [e3]; exact ((same_new hlk _).trans (same_new hld _)).trans (same_new hlr _)
  have k3 : H3 lk = some (.lst []) := by rw [e3, upd_ne n2.symm, upd_ne nd.symm, upd_same]
  have d3 : H3 ld = some (.lst []) := by rw [e3, upd_ne n1.symm, upd_same]
  have r3 : H3 lr = some (.lst ((rowsOf z).map V.str)) := by rw [e3, upd_same]
  clear e3 hlk hld hlr
  refine ⟨_, rfl, lr, rfl, ⟨_, SqL.of r3⟩, fun i m σ H4 => ∃ ks ds vk vd a b c, m + i = (rowsOf z).length /\ σ = [some (.str z), some (.ref lk), some (.ref ld), some (.ref lr), a, b, c] /\ Same H H4 /\ H4 lk = some (.lst vk) /\ H4 ld = some (.lst vd) /\ H4 lr = some (.lst ((rowsOf z).map V.str)) /\ IsL H4 ks vk /\ IsL H4 ds vd /\ ks.length <= i /\ ds.length <= i /\ RowsR i ks ds (((rowsOf z).drop i).map wordsOf) o,
    ⟨(rowsOf z).length, [], [], [], [], none, none, none, rfl, rfl, sm3, k3, d3, r3, .nil, .nil, Nat.le_refl _, Nat.le_refl _, hR⟩, ?_⟩
  rintro i m σ H4 ⟨ks, ds, vk, vd, a, b, c, hm, rfl, sm, hk, hd, hrw, ik, id', lk', ld', hR'⟩
  have nrows : (rowsOf z).length <= 1000002 := by
    unfold rowsOf
    by_cases c : z = ""
    · rw [if_pos c]; decide
    · rw [if_neg c]
      have := split_len z NL
      have := fit.len
      omega
  have lvk := ik.len
  have lvd := id'.len
  by_cases hi : (rowsOf z).length <= i
  · left
    refine ⟨⟨_, SqL.of hrw, by rw [List.length_map]; exact hi⟩, ?_⟩
    rw [List.drop_eq_nil_of_le hi] at hR'
    cases hR' with
    | nil =>
      refine ⟨_, rfl, lk, _, rfl, .inl ⟨SqL.of hk, fun p hp => ?_⟩⟩
      have hd5 : upd H4 p (.tup vk) ld = some (.lst vd) := by rw [upd_ne (ne_of_none hd hp)]; exact hd
      refine ⟨_, rfl, ld, _, rfl, .inl ⟨SqL.of hd5, fun p2 hp2 => ⟨by show 2 <= sizeLine; decide, fun p3 hp3 => ?_⟩⟩⟩
      have t1 := Tups.new (o := .tup vk) hp
      have t2 := Tups.new (o := .tup vd) hp2
      have t3 := Tups.new (o := .tup [.ref p, .ref p2]) hp3
      refine q _ _ (((sm.trans (same_new hp _)).trans (same_new hp2 _)).trans (same_new hp3 _)) (.tup upd_same (.cons (.tup (t3 _ _ (t2 _ _ upd_same)) (((ik.keep t1).keep t2).keep t3)) (.cons (.tup (t3 _ _ upd_same) (((id'.keep t1).keep t2).keep t3)) .nil)))
  · right
    have hi' : i < (rowsOf z).length := by omega
    have hix : ((rowsOf z).map V.str)[i]? = some (.str (rowsOf z)[i]) := by rw [List.getElem?_map, List.getElem?_eq_getElem hi']; rfl
    refine ⟨⟨_, _, SqL.of hrw, hix⟩, _, fun _ _ h => h, ?_⟩
    rintro x H5 ⟨T, v, rfl, hT, rfl, hy⟩
    have ev : v = .str (rowsOf z)[i] := by
      have := hy _ (SqL.of hrw)
      rw [hix] at this
      cases this
      rfl
    subst ev
    generalize hline : (rowsOf z)[i] = line at *
    have hmem : line ∈ rowsOf z := by rw [<- hline]; exact List.getElem_mem hi'
    rw [List.drop_eq_getElem_cons hi', hline, List.map_cons] at hR'
    have turn : ∃ ro, rowR ks ds (wordsOf line) ro /\ (ro = none -> o = .error i) /\ ∀ ks' ds', ro = some (ks', ds') -> RowsR (i + 1) ks' ds' (((rowsOf z).drop (i + 1)).map wordsOf) o := by
      cases hR' with
      | row h1 h2 => exact ⟨_, h1, (fun z => by cases z), fun ks' ds' e => by cases e; exact h2⟩
      | bad h1 => exact ⟨_, h1, fun _ => rfl, fun _ _ e => by cases e⟩
    obtain ⟨ro, hro, hbad, hgo⟩ := turn
    have hE : ro = none -> Err A E (fun _ => False) H (i : Int) := fun e => by
      rw [hbad e] at q
      exact q
    clear hR' q
    refine ⟨T, _, rfl, SqT.of upd_same, rfl, _, _, rfl, _, _, rfl, rfl, ?_⟩
    have fl := fit.row line hmem
    refine ⟨_, rfl, _, rfl, rfl, line, SP, rfl, rfl, by decide, by omega, fun lw hlw w dx hw hdx ndx => ?_⟩
    have wl : (wordsOf line).length <= 1000000 := by
      have := split_len line SP
      unfold wordsOf
      omega
    have sm7 := same_made (o := .own w) (o' := .ins A.cW dx []) hw hdx ndx
    refine ⟨w, dx, lw, i, wordsOf line, rfl, upd_same, sm7 _ _ upd_same, wl, fit.word line hmem, fun H8 k8 hA8 => ⟨rfl, ?_⟩⟩
    have s5 : Same H4 (upd H4 T (.tup [.int i, .str line])) := same_new hT _
    have s6 := same_new (o := .lst ((Txt.split line SP).map V.str)) hlw
    have sw : ∀ {y o}, H4 y = some o -> y ≠ w := fun e => ne_of_none (s6 _ _ (s5 _ _ e)) hw
    have s8 : Same H4 H8 := fun y o e => k8 _ _ (sw e) (sm7 _ _ (s6 _ _ (s5 _ _ e)))
    have t8 : Tups H4 H8 := fun p xs e => s8 _ _ e
    have hw0 : H w = none := by
      cases z0 : H w with
      | none => rfl
      | some o => exact absurd rfl (sw (sm _ _ z0))
    have er : ∀ {H9 : Hp}, ro = none -> Same H H9 -> Err A E (· = w) H9 i := fun e s9 d H' k' g => hE e d H' (fun y o _ z0 => k' _ _ (fun e => by rw [e, hw0] at z0; cases z0) (s9 _ _ z0)) g
    have er0 : ∀ {H9 : Hp}, ro = none -> Same H H9 -> Err A E (fun _ => False) H9 i := fun e s9 d H' k' g => hE e d H' (fun y o _ z0 => k' _ _ (fun e => e) (s9 _ _ z0)) g
    clear hE
    have ⟨dw8, _, _, a8, _⟩ := hA8.ex
    refine ⟨_, rfl, w, dw8, _, rfl, a8, rfl, w, lw, i, wordsOf line, _, rfl, hA8, ?_⟩
    generalize wordsOf line = ws at *
    have key : ∀ (H9 : Hp) (r : List Str), KpS (· = w) H8 H9 -> AtR A H9 w lw i r -> Same H H9 /\ Tups H4 H9 /\ H9 lk = some (.lst vk) /\ H9 ld = some (.lst vd) /\ H9 lr = some (.lst ((rowsOf z).map V.str)) := fun H9 r k9 hA9 =>
      ⟨fun y o e => k9 _ _ (sw (sm _ _ e)) (s8 _ _ (sm _ _ e)), t8.trans (hA8.tups k9), k9 _ _ (sw hk) (s8 _ _ hk), k9 _ _ (sw hd) (s8 _ _ hd), k9 _ _ (sw hrw) (s8 _ _ hrw)⟩
    cases ws with
    | nil =>
      have hn : ro = none := hro
      refine ⟨_, rfl, iteF ?_⟩
      refine ⟨_, rfl, w, dw8, _, rfl, a8, rfl, _, rfl, w, dw8, _, rfl, a8, rfl, w, lw, i, [], _, rfl, hA8, ?_⟩
      refine ⟨_, rfl, iteF ?_⟩
      exact ⟨w, lw, i, [], false, rfl, hA8, (fun z => by cases z), fun _ => er0 hn (key H8 [] KpS.refl hA8).1⟩
    | cons y r =>
      unfold rowR at hro
      dsimp only at hro ⊢
      by_cases y1 : y = "def"
      · rw [if_pos y1] at hro ⊢
        obtain ⟨o2, hD, ho⟩ := hro
        intro H9 k9 hA9
        obtain ⟨s9, t9, lk9, ld9, lr9⟩ := key H9 r k9 hA9
        refine ⟨_, rfl, iteT ?_⟩
        refine ⟨_, rfl, .inl ⟨rfl, _, SqL.of ld9⟩, _, rfl, w, lw, i, r, o2, rfl, hA9, hD, ?_⟩
        cases o2 with
        | none => exact er ho s9
        | some d =>
          dsimp only
          intro H10 v k10 hv
          have go := hgo ks (ds ++ [d]) ho
          have lk10 := k10 _ _ (sw hk) lk9
          have ld10 := k10 _ _ (sw hd) ld9
          have lr10 := k10 _ _ (sw hrw) lr9
          have t10 : Tups H4 H10 := t9.trans (hA9.tups k10)
          refine ⟨ld, vd, v, rfl, rfl, ld10, by omega, ?_⟩
          have tp : Tups H10 (upd H10 ld (.lst (vd ++ [v]))) := fun p xs z0 => by rw [upd_ne (ne_of z0 ld10 (by intro z; cases z))]; exact z0
          refine ⟨m - 1, by omega, ks, ds ++ [d], vk, vd ++ [v], _, _, _, by omega, rfl, fun y o e => ?_, by rw [upd_ne nd.symm]; exact lk10, upd_same, by rw [upd_ne n1]; exact lr10, ik.keep (t10.trans tp), (id'.keep (t10.trans tp)).app (.cons (hv.keep tp) .nil), by omega, by rw [List.length_append, List.length_singleton]; omega, go⟩
          rw [upd_ne (fun z0 => by rw [z0, hld0] at e; cases e)]
          exact k10 _ _ (sw (sm _ _ e)) (s9 _ _ e)
      rw [if_neg y1] at hro ⊢
      refine ⟨_, rfl, iteF ?_⟩
      refine ⟨_, rfl, w, dw8, _, rfl, a8, rfl, _, rfl, w, dw8, _, rfl, a8, rfl, w, lw, i, y :: r, _, rfl, hA8, ?_⟩
      dsimp only
      by_cases y2 : y = "kind"
      · rw [if_pos y2]
        intro H9 k9 hA9
        obtain ⟨s9, t9, lk9, ld9, lr9⟩ := key H9 r k9 hA9
        have ⟨dw9, _, _, a9, _⟩ := hA9.ex
        refine ⟨_, rfl, iteT ?_⟩
        refine ⟨_, rfl, ld, _, rfl, .inl (SqL.of ld9), rfl, w, lw, i, r, _, rfl, hA9, fun hb => ?_, fun hb => ?_⟩
        · have d0 : ds = [] := by
            have := of_decide_eq_true hb
            injection this with this
            have : vd.length = 0 := by omega
            exact List.length_eq_zero_iff.mp (by omega)
          rw [if_pos ⟨y2, d0⟩] at hro
          refine ⟨_, rfl, .inl ⟨rfl, _, SqL.of lk9⟩, _, rfl, w, lw, i, r, rfl, hA9, ?_⟩
          cases e : kindRd r with
          | none =>
            rw [e] at hro
            exact er hro s9
          | some l =>
            rw [e] at hro
            dsimp only
            intro H10 v k10 hv
            have go := hgo (ks ++ [D.tup l]) ds hro
            have lk10 := k10 _ _ (sw hk) lk9
            have ld10 := k10 _ _ (sw hd) ld9
            have lr10 := k10 _ _ (sw hrw) lr9
            have t10 : Tups H4 H10 := t9.trans (hA9.tups k10)
            refine ⟨lk, vk, v, rfl, rfl, lk10, by omega, ?_⟩
            have tp : Tups H10 (upd H10 lk (.lst (vk ++ [v]))) := fun p xs z0 => by rw [upd_ne (ne_of z0 lk10 (by intro z; cases z))]; exact z0
            refine ⟨m - 1, by omega, ks ++ [.tup l], ds, vk ++ [v], vd, _, _, _, by omega, rfl, fun y o e => ?_, upd_same, by rw [upd_ne nd]; exact ld10, by rw [upd_ne n2]; exact lr10, (ik.keep (t10.trans tp)).app (.cons (hv.keep tp) .nil), id'.keep (t10.trans tp), by rw [List.length_append, List.length_singleton]; omega, by omega, go⟩
            rw [upd_ne (fun z0 => by rw [z0, hlk0] at e; cases e)]
            exact k10 _ _ (sw (sm _ _ e)) (s9 _ _ e)
        · have d0 : ¬ (y = "kind" /\ ds = []) := fun c => of_decide_eq_false hb (by
            have : vd.length = 0 := by rw [<- lvd, c.2]; rfl
            rw [this]
            rfl)
          rw [if_neg d0] at hro
          exact er0 hro s9
      · rw [if_neg y2]
        rw [if_neg (fun c => y2 c.1)] at hro
        refine ⟨_, rfl, iteF ?_⟩
        exact ⟨w, lw, i, y :: r, false, rfl, hA8, (fun z => by cases z), fun _ => er0 hro (key H8 _ KpS.refl hA8).1⟩
end
end Rdr
namespace Rdr
open PySem L2 K11 Rd
mutual
def szD : D -> Nat
  | .int _ => 1
  | .str _ => 1
  | .tup ds => 1 + szL ds
def szL : List D -> Nat
  | [] => 0
  | d :: ds => szD d + szL ds
end
theorem szD_pos (d : D) : 1 <= szD d := by
  cases d <;> unfold szD <;> omega
theorem szL_app : ∀ (a b : List D), szL (a ++ b) = szL a + szL b
  | [], b => by rw [List.nil_append, szL]; omega
  | d :: a, b => by rw [List.cons_append, szL, szL, szL_app a b]; omega
theorem szL_len : ∀ (l : List D), l.length <= szL l
  | [] => Nat.zero_le _
  | d :: l => by
    have h1 := szD_pos d
    have h2 := szL_len l
    rw [szL, List.length_cons]
    omega
theorem kit_ib (K : PySem.W.Frag) : PySem.W.kitOne K (.type "int") (.type "bool") = some false := by rfl
theorem kit_st (K : PySem.W.Frag) : PySem.W.kitOne K (.type "str") (.type "tuple") = some false := by rfl
theorem kit_it (K : PySem.W.Frag) : PySem.W.kitOne K (.type "int") (.type "tuple") = some false := by rfl
theorem kit_is (K : PySem.W.Frag) : PySem.W.kitOne K (.type "int") (.type "str") = some false := by rfl
inductive Prs (H : Hp) : List D -> List Addr -> Prop
  | nil : Prs H [] []
  | cons {d : D} {p : Addr} {x y : V} {ds : List D} {ps : List Addr} : H p = some (.tup [x, y]) -> Is H d x -> Is H d y -> Prs H ds ps -> Prs H (d :: ds) (p :: ps)
theorem Prs.keep {H H' : Hp} (t : Tups H H') {ds : List D} {ps : List Addr} (h : Prs H ds ps) : Prs H' ds ps := by
  induction h with
  | nil => exact .nil
  | cons a b c _ ih => exact .cons (t _ _ a) (b.keep t) (c.keep t) ih
theorem Prs.app {H : Hp} {ds es : List D} {ps qs : List Addr} (h : Prs H ds ps) (g : Prs H es qs) : Prs H (ds ++ es) (ps ++ qs) := by
  induction h with
  | nil => exact g
  | cons a b c _ ih => exact .cons a b c ih
theorem Prs.rev {H : Hp} {ds : List D} {ps : List Addr} (h : Prs H ds ps) : Prs H ds.reverse ps.reverse := by
  induction h with
  | nil => exact .nil
  | cons a b c _ ih => rw [List.reverse_cons, List.reverse_cons]; exact ih.app (.cons a b c .nil)
theorem Prs.len {H : Hp} {ds : List D} {ps : List Addr} (h : Prs H ds ps) : ds.length = ps.length := by
  induction h with
  | nil => rfl
  | cons _ _ _ _ ih => rw [List.length_cons, List.length_cons, ih]
theorem szL_rev : ∀ l : List D, szL l.reverse = szL l
  | [] => rfl
  | d :: l => by rw [List.reverse_cons, szL_app, szL_rev l, szL, szL, szL]; omega
theorem prs_of {H : Hp} : ∀ {ds : List D} {xs ys : List V} {ps : List Addr}, IsL H ds xs -> IsL H ds ys -> ps.length = min xs.length ys.length -> (∀ (i : Nat) x y, xs[i]? = some x -> ys[i]? = some y -> ∃ t, ps[i]? = some t /\ H t = some (.tup [x, y])) -> Prs H ds ps
  | [], _, _, ps, .nil, .nil, hl, _ => by
    have : ps = [] := List.length_eq_zero_iff.mp (by simpa using hl)
    rw [this]
    exact .nil
  | d :: ds, _, _, [], .cons _ _, .cons _ _, hl, _ => by simp at hl
  | d :: ds, x :: xs, y :: ys, p :: ps, .cons a b, .cons a' b', hl, h => by
    obtain ⟨t, h1, h2⟩ := h 0 x y rfl rfl
    have e : p = t := by simpa using h1
    refine .cons (by rw [e]; exact h2) a a' (prs_of b b' (by simp only [List.length_cons] at hl; omega) fun i u v hu hv => ?_)
    obtain ⟨t, h1, h2⟩ := h (i + 1) u v (by simpa using hu) (by simpa using hv)
    exact ⟨t, by simpa using h1, h2⟩
def spWhole : Sp := fun vs H Q _ => ∃ i : Int, vs = [.int i] /\ Q (.bl true) H
def spAlike : Sp := fun vs H Q _ => ∃ (d : D) (v1 v2 : V), vs = [v1, v2] /\ Is H d v1 /\ Is H d v2 /\ szD d <= 1000000 /\ ∀ H', Same H H' -> Q (.bl true) H'
section
variable {P : Program} {w : World} {K : PySem.W.Frag} {mg : Str -> Option Value} {base : Heap} {f : Addr} {fd : FuncData}
theorem scWhole : FnScope ["_law_found"] ["_law_found"] (defScope sWhole) := ⟨rfl, rfl, rfl, by decide +kernel, rfl, by decide +kernel, by decide +kernel⟩
theorem ok_whole (F : Fun K "_law_whole" "_law_whole" sWhole f fd) (mI : mg "isinstance" = none) (mT : mg "int" = none) (mB : mg "bool" = none) : FnOk P w K mg base CX0 1 f fd ["_law_found"] spWhole := by
  refine F.by scWhole (fun vs H Q E h => ?_) (fun cdv A outer s H vs Q E hr h => ?_)
  · obtain ⟨i, rfl, _⟩ := h
    rfl
  obtain ⟨i, rfl, q⟩ := h
  refine ⟨_, jss_one (js_ret (je_and (je_fnB jc_isinst rfl mI PyProof.Rows.boot_isinstance (ja_c (jv 0) (ja_c (je_bltn (v := .ty "int") rfl mT PyProof.Rows.boot_int rfl) ja_nil)))
    (je_one (je_not (je_fnB jc_isinst rfl mI PyProof.Rows.boot_isinstance (ja_c (jv 0) (ja_c (je_bltn (v := .ty "bool") rfl mB PyProof.Rows.boot_bool rfl) ja_nil))))))), ?_⟩
  refine ⟨_, rfl, _, _, _, true, rfl, .int _, rfl, _, rfl, iteT ?_⟩
  exact ⟨_, rfl, _, _, _, false, rfl, .int _, kit_ib _, _, rfl, q⟩
theorem scAlike : FnScope ["_law_found", "_law_due", "_law_pairs", "_law_one", "_law_other"] ["_law_found", "_law_due"] (defScope sAlike) := ⟨rfl, rfl, rfl, by decide +kernel, rfl, by decide +kernel, by decide +kernel⟩
theorem ok_alike (F : Fun K "_law_alike" "_law_alike" sAlike f fd) (GW : Ca P w K mg base CX0 1 "_law_whole" ["_law_found"] spWhole) (mI : mg "isinstance" = none) (mT : mg "tuple" = none) (mS : mg "str" = none) (mL : mg "list" = none) (mZ : mg "zip" = none) (mN : mg "len" = none) : FnOk P w K mg base CX0 2 f fd ["_law_found", "_law_due"] spAlike := by
  refine F.by scAlike (fun vs H Q E h => ?_) (fun cdv A outer s H vs Q E hr h => ?_)
  · obtain ⟨d, v1, v2, rfl, _⟩ := h
    rfl
  obtain ⟨d, v1, v2, rfl, i1, i2, hz, q⟩ := h
  refine ⟨_, jss_cons (js_set (i := 2) scAlike.nd rfl (Or.inl rfl) (je_lst (ja_c (je_tup (ja_c (jv 0) (ja_c (jv 1) ja_nil))) ja_nil)))
    (jss_cons (js_while PassesOwn.never (jt_cmpR (jo_neE hr) (jv 2) (je_lst ja_nil) (nomark _))
      (jss_cons (js_asg (je_bm0 PySem.F.plainAttrs_list PySem.F.slot_list_pop PySem.F.type_list_pop jm_pop (jv 2)) (jg_tup rfl (jgs_cons (jg_name (i := 3) scAlike.nd rfl (Or.inl rfl)) (jgs_cons (jg_name (i := 4) scAlike.nd rfl (Or.inl rfl)) jgs_nil))))
      (jss_one (js_if (jt_val (je_fnB jc_isinst rfl mI PyProof.Rows.boot_isinstance (ja_c (jv 4) (ja_c (je_bltn (v := .ty "tuple") rfl mT PyProof.Rows.boot_tuple rfl) ja_nil))))
        (jss_cons (js_if (jW.pt (jw_or (jt_not (jt_val (je_fnB jc_isinst rfl mI PyProof.Rows.boot_isinstance (ja_c (jv 3) (ja_c (je_bltn (v := .ty "tuple") rfl mT PyProof.Rows.boot_tuple rfl) ja_nil))))) (jw_or1 (jt_cmpR jo_ne (je_fnB jc_len_seq rfl mN PySem.boot_len (ja_c (jv 3) ja_nil)) (je_fnB jc_len_seq rfl mN PySem.boot_len (ja_c (jv 4) ja_nil)) (nomark _))))) (jss_one (js_ret je_bl)) jss_nil)
        (jss_one (js_expr (je_bm PySem.F.plainAttrs_list PySem.F.slot_list_extend PySem.F.type_list_extend jm_extend (jv 2) (ja_c (je_zipL rfl rfl mL rfl mZ (ja_c (jv 3) (ja_c (jv 4) ja_nil))) ja_nil)))))
        (jss_one (js_if (jt_val (je_fnB jc_isinst rfl mI PyProof.Rows.boot_isinstance (ja_c (jv 4) (ja_c (je_bltn (v := .ty "str") rfl mS PyProof.Rows.boot_str rfl) ja_nil))))
          (jss_one (js_if (jW.pt (jw_or (jt_not (jt_val (je_fnB jc_isinst rfl mI PyProof.Rows.boot_isinstance (ja_c (jv 3) (ja_c (je_bltn (v := .ty "str") rfl mS PyProof.Rows.boot_str rfl) ja_nil))))) (jw_or1 (jt_cmpR jo_ne (jv 3) (jv 4) (nomark _))))) (jss_one (js_ret je_bl)) jss_nil))
          (jss_one (js_if (jW.pt (jw_or (jt_not (jt_val (je_ca GW hr rfl pass0 (ja_c (jv 3) ja_nil)))) (jw_or1 (jt_cmpR jo_ne (jv 3) (jv 4) (nomark _))))) (jss_one (js_ret je_bl)) jss_nil))))))))
    (jss_one (js_ret je_bl))), ?_⟩
  have sl := line
  refine ⟨_, rfl, _, rfl, by show 2 <= sizeLine; decide, fun p0 hp0 => ⟨by show 1 <= sizeLine; decide, fun lp hlp => ?_⟩⟩
  have t1 := Tups.new (o := .tup [v1, v2]) hp0
  have t2 := Tups.new (o := .lst [.ref p0]) hlp
  have hlp0 : H lp = none := by
    cases z : H lp with
    | none => rfl
    | some o => rw [(same_new hp0 _) _ _ z] at hlp; cases hlp
  refine ⟨fun m σ H3 => ∃ ds ps a b, m = szL ds /\ σ = [some v1, some v2, some (.ref lp), a, b] /\ Same H H3 /\ H3 lp = some (.lst (ps.reverse.map V.ref)) /\ Prs H3 ds ps /\ szL ds <= 1000000,
    ⟨_, [d], [p0], none, none, rfl, rfl, (same_new hp0 _).trans (same_new hlp _), upd_same, .cons (t2 _ _ upd_same) ((i1.keep t1).keep t2) ((i2.keep t1).keep t2) .nil, by rw [szL, szL]; omega⟩, ?_⟩
  rintro m σ H3 ⟨ds, ps, a, b, rfl, rfl, s3, hl3, hP, hz3⟩
  refine ⟨_, rfl, by show 0 <= sizeLine; decide, fun pe hpe => ?_⟩
  have hl4 : upd H3 pe (.lst []) lp = some (.lst (ps.reverse.map V.ref)) := by rw [upd_ne (ne_of_none hl3 hpe)]; exact hl3
  refine ⟨lp, pe, _, rfl, rfl, SqL.of hl4, SqL.of upd_same, _, rfl, ?_⟩
  have s4 : Same H (upd H3 pe (.lst [])) := s3.trans (same_new hpe _)
  have hP4 := hP.keep (Tups.new (o := .lst []) hpe)
  generalize upd H3 pe (.lst []) = H4 at *
  cases hP4 with
  | nil => exact iteF (q _ s4)
  | @cons d p x y ds ps hp ix iy hP4 =>
    have hne : (!((p :: ps).reverse.map V.ref).isEmpty) = true := by simp
    rw [hne]
    refine iteT ⟨_, fun _ _ h => h, ?_⟩
    have e1 : (p :: ps).reverse.map V.ref = ps.reverse.map V.ref ++ [.ref p] := by simp
    have e2 : ((p :: ps).reverse.map V.ref)[((p :: ps).reverse.map V.ref).length - 1]? = some (.ref p) := by rw [e1]; simp
    have e3 : ((p :: ps).reverse.map V.ref).dropLast = ps.reverse.map V.ref := by rw [e1]; simp
    refine ⟨_, rfl, .inl ⟨rfl, _, SqL.of hl4⟩, lp, _, _, rfl, rfl, hl4, e2, ?_⟩
    rw [e3]
    have t5 : Tups H4 (upd H4 lp (.lst (ps.reverse.map V.ref))) := fun b xs z => by rw [upd_ne (ne_of z hl4 (by intro z; cases z))]; exact z
    have s5 : Same H (upd H4 lp (.lst (ps.reverse.map V.ref))) := fun b o z => by rw [upd_ne (fun e => by rw [e, hlp0] at z; cases z)]; exact s4 _ _ z
    have hl5 : upd H4 lp (.lst (ps.reverse.map V.ref)) lp = some (.lst (ps.reverse.map V.ref)) := upd_same
    replace hp := t5 _ _ hp
    replace ix := ix.keep t5
    replace iy := iy.keep t5
    replace hP4 := hP4.keep t5
    generalize upd H4 lp (.lst (ps.reverse.map V.ref)) = H5 at *
    refine ⟨p, _, rfl, SqT.of hp, rfl, _, _, rfl, _, _, rfl, rfl, ?_⟩
    rw [szL] at hz3
    have dpos := szD_pos d
    have lps := hP4.len
    have lds := szL_len ds
    cases ix with
    | int n =>
      cases iy
      refine ⟨_, rfl, _, _, _, false, rfl, .int _, kit_it _, _, rfl, iteF ?_⟩
      refine ⟨_, rfl, _, _, _, false, rfl, .int _, kit_is _, _, rfl, iteF ?_⟩
      refine ⟨_, rfl, n, rfl, _, rfl, iteF ?_⟩
      refine ⟨_, rfl, _, rfl, rfl, _, rfl, iteN rfl ?_⟩
      exact ⟨szL ds, by rw [szL]; omega, ds, ps, _, _, rfl, rfl, s5, hl5, hP4, by omega⟩
    | str n =>
      cases iy
      refine ⟨_, rfl, _, _, _, false, rfl, .str _, kit_st _, _, rfl, iteF ?_⟩
      refine ⟨_, rfl, _, _, _, true, rfl, .str _, rfl, _, rfl, iteT ?_⟩
      refine ⟨_, rfl, _, _, _, true, rfl, .str _, rfl, _, rfl, iteF ?_⟩
      refine ⟨_, rfl, _, rfl, rfl, _, rfl, iteN rfl ?_⟩
      exact ⟨szL ds, by rw [szL]; omega, ds, ps, _, _, rfl, rfl, s5, hl5, hP4, by omega⟩
    | @tup es xs px hx lx =>
      cases iy with
      | @tup _ ys py hy ly =>
        have l1 := lx.len
        have l2 := ly.len
        have les := szL_len es
        rw [szD] at hz3
        refine ⟨_, rfl, _, _, _, true, rfl, .tup hy, rfl, _, rfl, iteT ?_⟩
        refine ⟨_, rfl, _, _, _, true, rfl, .tup hx, rfl, _, rfl, iteF ?_⟩
        refine ⟨_, rfl, px, _, rfl, .inr (SqT.of hx), _, rfl, py, _, rfl, .inr (SqT.of hy), rfl, _, rfl, iteN (by rw [<- l1, <- l2]) ?_⟩
        refine ⟨_, rfl, .inl ⟨rfl, _, SqL.of hl5⟩, _, rfl, _, rfl, px, py, xs, ys, rfl, .inr (SqT.of hx), .inr (SqT.of hy), fun H6 p6 qs s6 hn6 hl6 hlen hfr nd hpr => ?_⟩
        have t6 : Tups H5 H6 := fun b xs z => s6 _ _ z
        have P6 := prs_of (lx.keep t6) (ly.keep t6) hlen hpr
        have hq := P6.len
        refine ⟨lp, p6, _, _, rfl, rfl, s6 _ _ hl5, hl6, by rw [List.length_map, List.length_map, List.length_reverse]; omega, ?_⟩
        have t7 : Tups H6 (upd H6 lp (.lst (ps.reverse.map V.ref ++ qs.map V.ref))) := fun b xs z => by rw [upd_ne (ne_of z (s6 _ _ hl5) (by intro z; cases z))]; exact z
        refine ⟨szL (es.reverse ++ ds), by rw [szL_app, szL_rev, szL, szD]; omega, es.reverse ++ ds, qs.reverse ++ ps, _, _, rfl, rfl, fun b o z => ?_, by rw [upd_same]; simp, (P6.rev.app (hP4.keep t6)).keep t7, by rw [szL_app, szL_rev]; omega⟩
        rw [upd_ne (fun e => by rw [e, hlp0] at z; cases z)]
        exact s6 _ _ (s5 _ _ z)
end
end Rdr
namespace Rdr
open PySem L2 K11 Rd
def spStream : Sp := fun vs H Q _ => ∃ c n : Int, vs = [.int c, .int n] /\ 0 <= n /\ n <= 100 /\ ∀ (H' : Hp) (p : Addr) (l : List Int), Same H H' -> (l.length : Int) = n -> (∀ x ∈ l, 0 <= x /\ x < 2147483647) -> H' p = some (.lst (l.map V.int)) -> Q (.ref p) H'
def spLName : Sp := fun vs H Q _ => ∃ n : Int, vs = [.int n] /\ 0 <= n /\ ∀ (z : Str) (H' : Hp), isName z = true -> Same H H' -> Q (.str z) H'
def spLNames : Sp := fun vs H Q _ => ∃ c n : Int, vs = [.int c, .int n] /\ 0 <= n /\ n <= 100 /\ ∀ (H' : Hp) (p : Addr) (l : List Str), Same H H' -> H p = none -> (l.length : Int) = n -> (∀ x ∈ l, isName x = true) -> H' p = some (.lst (l.map V.str)) -> Q (.ref p) H'
def spLNumber : Sp := fun vs H Q _ => ∃ c : Int, vs = [.int c] /\ ∀ (i : Int) (H' : Hp), i.natAbs < 10 ^ 30 -> Same H H' -> Q (.int i) H'
def S52 : Str := "abcdefghijklmnopqrstuvwxyzabcdefghijklmnopqrstuvwxyz"
def OTHERS : List Str := ["hold", "drop", "loose", "look", "take", "text", "kinds", "lets", "iff", "ended", "nums", "name"]
theorem split_others : Txt.split "hold drop loose look take text kinds lets iff ended nums name" " " = OTHERS := by decide +kernel
theorem split_kept : Txt.split "def kind give let if else case end num plus minus times over rest less same make call func ask" " " = KEPT := by decide +kernel
def goodW (z : Str) : Prop := 1 <= z.length /\ z.length <= 12 /\ ∀ c ∈ cl z, c ∈ cl LETS
theorem name_of {z : Str} (h : goodW z) (hk : z ∉ KEPT) : isName z = true := by
  obtain ⟨h1, h2, h3⟩ := h
  unfold isName lenIn
  rw [decide_eq_true (show (1 : Int) <= (z.length : Nat) by omega), decide_eq_true (show ((z.length : Nat) : Int) <= 12 by omega), madeOf_iff.mpr h3, in_strs, decide_eq_false hk]
  rfl
theorem others_good : ∀ z ∈ OTHERS, goodW z := by
  have : ∀ z ∈ OTHERS, 1 <= z.length /\ z.length <= 12 /\ (cl z).all (fun c => (cl LETS).contains c) = true := by decide +kernel
  intro z hz
  obtain ⟨h1, h2, h3⟩ := this z hz
  exact ⟨h1, h2, fun c hc => by simpa using List.all_eq_true.mp h3 c hc⟩
theorem kept_a : ∀ z ∈ KEPT, isName (z ++ ("a" : Str)) = true := by decide +kernel
theorem seg {a b : Int} (ha : 0 <= a) (ha2 : a <= 25) (hb : 0 <= b) (hb2 : b <= 6) : ((Txt.slice (Txt.slice S52 (some a) none) none (some b)).length : Int) = b /\ ∀ c ∈ cl (Txt.slice (Txt.slice S52 (some a) none) none (some b)), c ∈ cl LETS := by
  have hl : S52.length = 52 := by decide +kernel
  have all : (cl S52).all (fun c => (cl LETS).contains c) = true := by decide +kernel
  have e1 : cl (Txt.slice S52 (some a) none) = (cl S52).drop a.toNat := by
    rw [cl_slice, hl]
    have c1 : cutAt 52 (some a) 0 = a.toNat := by
      unfold cutAt
      dsimp only
      rw [if_neg (by omega)]
      omega
    rw [c1]
    show ((cl S52).drop a.toNat).take (52 - a.toNat) = _
    exact List.take_of_length_le (by rw [List.length_drop, cl_len, hl]; exact Nat.le_refl _)
  have l1 : (Txt.slice S52 (some a) none).length = 52 - a.toNat := by rw [<- cl_len, e1, List.length_drop, cl_len, hl]
  have e2 : cl (Txt.slice (Txt.slice S52 (some a) none) none (some b)) = ((cl S52).drop a.toNat).take b.toNat := by
    rw [cl_slice, e1, l1]
    have c1 : cutAt (52 - a.toNat) (some b) (52 - a.toNat) = b.toNat := by
      unfold cutAt
      dsimp only
      rw [if_neg (by omega)]
      omega
    rw [c1]
    rfl
  constructor
  · rw [<- cl_len, e2, List.length_take, List.length_drop, cl_len, hl]
    omega
  · intro c hc
    rw [e2] at hc
    simpa using List.all_eq_true.mp all c (List.mem_of_mem_drop (List.mem_of_mem_take hc))
theorem at_list {α : Type} {l : List α} {k : Int} (hk : (l.length : Int) = k) (h0 : 0 < k) (n : Int) : ∃ x, x ∈ l /\ atI l (n % k) = some x := by
  have h1 : 0 <= n % k := Int.emod_nonneg _ (by omega)
  have h2 : n % k < k := Int.emod_lt_of_pos _ h0
  have hj : (n % k).toNat < l.length := by omega
  have e : n % k = (((n % k).toNat : Nat) : Int) := by omega
  refine ⟨l[(n % k).toNat], List.getElem_mem hj, ?_⟩
  have r := atI_nat (xs := l) (j := (n % k).toNat) (List.getElem?_eq_getElem hj)
  rw [<- e] at r
  exact r
section
variable {P : Program} {w : World} {K : PySem.W.Frag} {mg : Str -> Option Value} {base : Heap} {f : Addr} {fd : FuncData}
theorem scStream : FnScope ["_law_cell", "_law_many_here", "_law_found", "_law_number_here", "_law_k"] ["_law_cell", "_law_many_here"] (defScope sStream) := ⟨rfl, rfl, rfl, by decide +kernel, rfl, by decide +kernel, by decide +kernel⟩
theorem ok_stream (F : Fun K "_law_stream" "_law_stream" sStream f fd) (mr : mg "range" = none) : FnOk P w K mg base CX0 1 f fd ["_law_cell", "_law_many_here"] spStream := by
  refine F.by scStream (fun vs H Q E h => ?_) (fun cdv A outer s H vs Q E hr h => ?_)
  · obtain ⟨c, n, rfl, _⟩ := h
    rfl
  obtain ⟨c, n, rfl, h0, h1, q⟩ := h
  refine ⟨_, jss_cons (js_set (i := 2) scStream.nd rfl (Or.inl rfl) (je_lst ja_nil))
    (jss_cons (js_set (i := 3) scStream.nd rfl (Or.inl rfl) (je_op jo_add (je_op jo_mod (jv 0) je_int) je_int))
    (jss_cons (js_for PassesOwn.never rfl (ji_range1 rfl mr (ja_c (je_op jo_add (jv 1) je_int) ja_nil)) (jg_name (i := 4) scStream.nd rfl (Or.inl rfl))
      (jss_cons (js_set (i := 3) scStream.nd rfl (Or.inl rfl) (je_op jo_mod (je_op jo_add (je_op jo_add (je_op jo_mul (jv 3) (jv 3)) (je_op jo_mul je_int (jv 3))) (jv 4)) je_int))
      (jss_one (js_expr (je_bm PySem.F.plainAttrs_list PySem.F.slot_list_append PySem.F.type_list_append jm_append (jv 2) (ja_c (jv 3) ja_nil))))))
    (jss_one (js_ret (je_slice jl_list (jv 2) (jo_some je_int) jo_none))))), ?_⟩
  have sl := line
  refine ⟨by show 0 <= sizeLine; decide, fun lp hlp => ?_⟩
  refine ⟨_, rfl, _, _, rfl, rfl, (by show (0 : Int) < _; decide), _, _, rfl, rfl, ?_⟩
  refine ⟨_, rfl, _, _, rfl, rfl, _, rfl, by omega, by omega, for_range (n := (n + 1).toNat) (fun i σ H' => ∃ (x : Int) (l : List Int) (v : Option V), σ = [some (.int c), some (.int n), some (.ref lp), some (.int x), v] /\ 0 <= x /\ x < 2147531918 /\ l.length = i /\ (∀ y ∈ l, 0 <= y /\ y < 2147483647) /\ Same H H' /\ H' lp = some (.lst (l.map V.int)))
    ⟨_, [], none, rfl, by have := Int.emod_nonneg c (show (2147483647 : Int) ≠ 0 by decide); omega, by have := Int.emod_lt_of_pos c (show (0 : Int) < 2147483647 by decide); omega, rfl, (fun y hy => by cases hy), same_new hlp _, upd_same⟩ ?_ ?_⟩
  · rintro i σ H' hi ⟨x, l, v, rfl, hx0, hx1, hl, hall, sm, hl'⟩
    refine ⟨_, rfl, _, rfl, _, _, rfl, rfl, .inl ⟨by omega, by omega⟩, _, rfl, _, _, rfl, rfl, .inr ⟨by omega, by omega⟩, _, _, rfl, rfl, _, rfl, _, _, rfl, rfl, _, _, rfl, rfl, (by show (0 : Int) < _; decide), ?_⟩
    refine ⟨_, rfl, .inl ⟨rfl, _, SqL.of hl'⟩, _, rfl, lp, _, _, rfl, rfl, hl', by rw [List.length_map]; omega, ?_⟩
    refine ⟨(x * x + 48271 * x + (0 + (i : Int))) % 2147483647, l ++ [(x * x + 48271 * x + (0 + (i : Int))) % 2147483647], _, rfl, Int.emod_nonneg _ (by decide), by have := Int.emod_lt_of_pos (x * x + 48271 * x + (0 + (i : Int))) (show (0 : Int) < 2147483647 by decide); omega, by rw [List.length_append, List.length_singleton, hl], fun y hy => ?_, fun b o z => ?_, by rw [upd_same, List.map_append]; rfl⟩
    · rcases List.mem_append.mp hy with hy | hy
      · exact hall y hy
      · rw [List.mem_singleton.mp hy]
        exact ⟨Int.emod_nonneg _ (by decide), Int.emod_lt_of_pos _ (by decide)⟩
    · rw [upd_ne (ne_of_none z hlp)]
      exact sm _ _ z
  · rintro σ H' ⟨x, l, v, rfl, hx0, hx1, hl, hall, sm, hl'⟩
    refine ⟨_, rfl, _, rfl, lp, _, rfl, SqL.of hl', fun p hp => ?_⟩
    have e : cutV (l.map V.int) (some 1) none = l.tail.map V.int := by
      cases l with
      | nil => rfl
      | cons y l =>
        unfold cutV
        rw [List.length_map, List.length_cons]
        have c1 : HT.sIx (l.length + 1) 0 (some 1) = 1 := by
          unfold HT.sIx
          simp
        have c2 : HT.sIx (l.length + 1) (l.length + 1) none = l.length + 1 := rfl
        rw [c1, c2]
        show (l.map V.int).take _ = _
        exact List.take_of_length_le (by rw [List.length_map]; omega)
    rw [e]
    exact q _ p l.tail (sm.trans (same_new hp _)) (by rw [List.length_tail]; omega) (fun y hy => hall y (List.mem_of_mem_tail hy)) upd_same
theorem scLName : FnScope ["_law_number_here", "_law_some", "_law_taken", "_law_word", "_law_other"] ["_law_number_here"] (defScope sLName) := ⟨rfl, rfl, rfl, by decide +kernel, rfl, by decide +kernel, by decide +kernel⟩
theorem ok_lname (F : Fun K "_law_name" "_law_name" sLName f fd) : FnOk P w K mg base CX0 1 f fd ["_law_number_here"] spLName := by
  refine F.by scLName (fun vs H Q E h => ?_) (fun cdv A outer s H vs Q E hr h => ?_)
  · obtain ⟨n, rfl, _⟩ := h
    rfl
  obtain ⟨n, rfl, h0, q⟩ := h
  refine ⟨_, jss_cons (js_set (i := 1) scLName.nd rfl (Or.inl rfl) je_str) (jss_cons (js_set (i := 2) scLName.nd rfl (Or.inl rfl) je_str)
    (jss_cons (js_set (i := 3) scLName.nd rfl (Or.inl rfl) (je_slice jl_str (je_slice jl_str (jv 1) (jo_some (je_op jo_mod (jv 0) je_int)) jo_none) jo_none (jo_some (je_op jo_add je_int (je_op jo_mod (je_op jo_fdiv (jv 0) je_int) je_int)))))
    (jss_cons (js_set (i := 3) scLName.nd rfl (Or.inl rfl) (je_op jo_add_str (jv 3) (je_slice jl_str (je_slice jl_str (jv 1) (jo_some (je_op jo_mod (je_op jo_fdiv (jv 0) je_int) je_int)) jo_none) jo_none (jo_some (je_op jo_mod (je_op jo_fdiv (jv 0) je_int) je_int)))))
    (jss_cons (js_if (jt_cmpR jo_eq (je_op jo_mod (je_op jo_fdiv (jv 0) je_int) je_int) je_int (nomark _))
      (jss_cons (js_set (i := 4) scLName.nd rfl (Or.inl rfl) je_str) (jss_one (js_set (i := 3) scLName.nd rfl (Or.inl rfl) (je_ix jx_list (je_bm PySem.F.plainAttrs_str PySem.F.slot_str_split PySem.F.type_str_split jm_split (jv 4) (ja_c je_str ja_nil)) (je_op jo_mod (jv 0) je_int) (fun _ _ => rfl))))) jss_nil)
    (jss_cons (js_if (jt_cmpR jo_in_seq (jv 3) (je_bm PySem.F.plainAttrs_str PySem.F.slot_str_split PySem.F.type_str_split jm_split (jv 2) (ja_c je_str ja_nil)) (by with_unfolding_all rfl)) (jss_one (js_set (i := 3) scLName.nd rfl (Or.inl rfl) (je_op jo_add_str (jv 3) je_str))) jss_nil)
    (jss_one (js_ret (jv 3)))))))), ?_⟩
  have sl := line
  have b1 : 0 <= n % 26 /\ n % 26 < 26 := ⟨Int.emod_nonneg _ (by decide), Int.emod_lt_of_pos _ (by decide)⟩
  have b2 : 0 <= n / 26 % 6 /\ n / 26 % 6 < 6 := ⟨Int.emod_nonneg _ (by decide), Int.emod_lt_of_pos _ (by decide)⟩
  have b3 : 0 <= n / 156 % 26 /\ n / 156 % 26 < 26 := ⟨Int.emod_nonneg _ (by decide), Int.emod_lt_of_pos _ (by decide)⟩
  have b4 : 0 <= n / 4056 % 7 /\ n / 4056 % 7 < 7 := ⟨Int.emod_nonneg _ (by decide), Int.emod_lt_of_pos _ (by decide)⟩
  obtain ⟨l1, a1⟩ := seg (a := n % 26) (b := 1 + n / 26 % 6) (by omega) (by omega) (by omega) (by omega)
  obtain ⟨l2, a2⟩ := seg (a := n / 156 % 26) (b := n / 4056 % 7) (by omega) (by omega) (by omega) (by omega)
  have cD : ∀ {i j : Int}, 0 < j -> j < 1073741824 -> CDiv i j := fun h1 h2 => ⟨h1, h2⟩
  have s52 : S52.length = 52 := by decide +kernel
  have sl1 := Txt.slice_le S52 (some (n % 26)) none
  have sl2 := Txt.slice_le S52 (some (n / 156 % 26)) none
  refine ⟨_, rfl, _, rfl, _, _, rfl, rfl, (by show (0 : Int) < _; decide), _, rfl, S52, rfl, by omega, _, rfl, _, _, rfl, rfl, cD (by decide) (by decide), _, _, rfl, rfl, (by show (0 : Int) < _; decide), _, _, rfl, rfl, _, rfl, _, rfl, by omega, ?_⟩
  refine ⟨_, rfl, _, rfl, _, rfl, _, _, rfl, rfl, cD (by decide) (by decide), _, _, rfl, rfl, (by show (0 : Int) < _; decide), _, rfl, S52, rfl, by omega, _, rfl, _, _, rfl, rfl, cD (by decide) (by decide), _, _, rfl, rfl, (by show (0 : Int) < _; decide), _, rfl, _, rfl, by omega, _, _, rfl, rfl, by omega, ?_⟩
  have gw : goodW (Txt.slice (Txt.slice S52 (some (n % 26)) none) none (some (1 + n / 26 % 6)) ++ Txt.slice (Txt.slice S52 (some (n / 156 % 26)) none) none (some (n / 4056 % 7))) := by
    refine ⟨by rw [PySem.Str.length_append]; omega, by rw [PySem.Str.length_append]; omega, fun c hc => ?_⟩
    rw [cl_app] at hc
    rcases List.mem_append.mp hc with hc | hc
    · exact a1 c hc
    · exact a2 c hc
  generalize Txt.slice (Txt.slice S52 (some (n % 26)) none) none (some (1 + n / 26 % 6)) ++ Txt.slice (Txt.slice S52 (some (n / 156 % 26)) none) none (some (n / 4056 % 7)) = z0 at gw
  suffices rest : ∀ (z : Str) (H1 : Hp) (v : Option V), goodW z -> Same H H1 -> (tSeq _ _ : TS) { nx := fun _ H' => Q .non H', rt := Q } [some (.int n), some (.str S52), some (.str "def kind give let if else case end num plus minus times over rest less same make call func ask"), some (.str z), v] H1 by
    refine ⟨_, rfl, _, _, rfl, rfl, cD (by decide) (by decide), _, _, rfl, rfl, (by show (0 : Int) < _; decide), rfl, _, rfl, ?_⟩
    refine ite2 (fun _ => ?_) (fun _ => rest z0 H none gw (Same.refl _))
    refine ⟨_, rfl, rfl, _, _, rfl, rfl, by decide, by decide +kernel, fun p hp => ?_⟩
    rw [split_others]
    obtain ⟨v, hm, hv⟩ := at_list (l := OTHERS.map V.str) (k := 12) (by decide +kernel) (by decide) n
    obtain ⟨z, hz, rfl⟩ := List.mem_map.mp hm
    exact ⟨_, rfl, _, _, rfl, rfl, (by show (0 : Int) < _; decide), p, _, _, _, rfl, rfl, SqL.of upd_same, hv, rest z _ _ (others_good z hz) (same_new hp _)⟩
  intro z H1 v hz s1
  refine ⟨_, rfl, _, rfl, rfl, _, _, rfl, rfl, by decide, by decide +kernel, fun p hp => ?_⟩
  rw [split_kept]
  refine ⟨p, _, rfl, .inl (SqL.of upd_same), rfl, flat_kept, _, rfl, ?_⟩
  rw [if_neg Bool.false_ne_true, in_strs]
  by_cases c : z ∈ KEPT
  · refine iteD c ?_
    refine ⟨_, rfl, _, _, rfl, rfl, ?_, _, rfl, q _ _ (kept_a z c) (s1.trans (same_new hp _))⟩
    have := hz.2.1
    show z.length + 1 <= sizeLine
    omega
  · exact iteDN c ⟨_, rfl, q _ _ (name_of hz c) (s1.trans (same_new hp _))⟩
theorem scLNames : FnScope ["_law_cell", "_law_many_here"] ["_law_cell", "_law_many_here"] (defScope sLNames) := ⟨rfl, rfl, rfl, by decide +kernel, rfl, by decide +kernel, by decide +kernel⟩
theorem ndLNames : (["_law_cell", "_law_many_here", "_law_number_here"] : List Str).Nodup := by decide +kernel
theorem ok_lnames (F : Fun K "_law_names" "_law_names" sLNames f fd) (GS : Ca P w K mg base CX0 1 "_law_stream" ["_law_cell", "_law_many_here"] spStream) (GN : Ca P w K mg base CX0 1 "_law_name" ["_law_number_here"] spLName) : FnOk P w K mg base CX0 2 f fd ["_law_cell", "_law_many_here"] spLNames := by
  refine F.by scLNames (fun vs H Q E h => ?_) (fun cdv A outer s H vs Q E hr h => ?_)
  · obtain ⟨c, n, rfl, _⟩ := h
    rfl
  obtain ⟨c, n, rfl, h0, h1, q⟩ := h
  refine ⟨_, jss_one (js_ret (je_comp ["_law_number_here"] rfl (ji_list (je_ca GS hr rfl pass0 (ja_c (jv 0) (ja_c (jv 1) ja_nil))))
    (fun _ _ _ _ _ => jg_name (i := 2) ndLNames rfl (Or.inl rfl)) (fun _ _ _ _ _ => jts_nil) (fun _ _ _ _ _ => je_ca GN hr rfl pass0 (ja_c (jv 2) ja_nil)))), ?_⟩
  have sl := line
  refine ⟨_, rfl, _, rfl, c, n, rfl, h0, h1, fun H1 p1 l s1 hl hall hp1 => ⟨p1, rfl, ⟨_, SqL.of hp1⟩, lc_list (xs := l.map V.int) (fun i τ ys H' => Same H1 H' /\ (∃ v, τ = [some (.int c), some (.int n), v]) /\ ∃ ws : List Str, ys = ws.map V.str /\ ws.length = i /\ ∀ x ∈ ws, isName x = true) ⟨Same.refl _, ⟨none, rfl⟩, [], rfl, rfl, fun x hx => by cases hx⟩ (fun i τ ys H' _ pv => SqL.of (pv.1 _ _ hp1)) ?_ ?_⟩⟩
  · rintro i x τ ys H' hx ⟨sm, ⟨v, rfl⟩, ws, rfl, hw, hn⟩
    obtain ⟨y, hy, rfl⟩ : ∃ y, l[i]? = some y /\ V.int y = x := by
      rw [List.getElem?_map] at hx
      cases e : l[i]? with
      | none => rw [e] at hx; cases hx
      | some y => rw [e] at hx; exact ⟨y, rfl, Option.some.inj hx⟩
    have hi := (List.getElem?_eq_some_iff.mp hy).1
    refine ⟨_, rfl, y, rfl, (hall y (List.mem_of_getElem? hy)).1, fun z H2 hz s2 => ⟨by rw [List.length_map]; omega, sm.trans s2, ⟨_, rfl⟩, ws ++ [z], by rw [List.map_append]; rfl, by rw [List.length_append, List.length_singleton, hw], fun x hx => ?_⟩⟩
    rcases List.mem_append.mp hx with hx | hx
    · exact hn x hx
    · rw [List.mem_singleton.mp hx]
      exact hz
  · rintro τ ys H' ⟨sm, _, ws, rfl, hw, hn⟩ p hp
    rw [List.length_map] at hw
    have fr : H p = none := by
      cases z : H p with
      | none => rfl
      | some o => rw [sm _ _ (s1 _ _ z)] at hp; cases hp
    exact q _ p ws ((s1.trans sm).trans (same_new hp _)) fr (by omega) hn upd_same
theorem scLNumber : FnScope ["_law_cell", "_law_xs", "_law_most"] ["_law_cell"] (defScope sLNumber) := ⟨rfl, rfl, rfl, by decide +kernel, rfl, by decide +kernel, by decide +kernel⟩
theorem ok_lnumber (F : Fun K "_law_number" "_law_number" sLNumber f fd) (GS : Ca P w K mg base CX0 1 "_law_stream" ["_law_cell", "_law_many_here"] spStream) : FnOk P w K mg base CX0 2 f fd ["_law_cell"] spLNumber := by
  refine F.by scLNumber (fun vs H Q E h => ?_) (fun cdv A outer s H vs Q E hr h => ?_)
  · obtain ⟨c, rfl, _⟩ := h
    rfl
  obtain ⟨c, rfl, q⟩ := h
  refine ⟨_, jss_cons (js_set (i := 1) scLNumber.nd rfl (Or.inl rfl) (je_ca GS hr rfl pass0 (ja_c (jv 0) (ja_c je_int ja_nil))))
    (jss_cons (js_set (i := 2) scLNumber.nd rfl (Or.inl rfl) (je_op jo_sub (je_op jo_pow je_int je_int) je_int))
    (jss_cons (js_if (jt_cmpR jo_eq (je_op jo_mod (jv 0) je_int) je_int (nomark _)) (jss_one (js_ret (je_op jo_sub (je_op jo_mod (je_op jo_fdiv (jv 0) je_int) je_int) je_int))) jss_nil)
    (jss_cons (js_if (jt_cmpR jo_eq (je_op jo_mod (jv 0) je_int) je_int (nomark _)) (jss_one (js_ret (je_op jo_sub (je_op jo_mod (je_op jo_fdiv (jv 0) je_int) (je_op jo_add (je_op jo_mul je_int (jv 2)) je_int)) (jv 2)))) jss_nil)
    (jss_one (js_ret (je_op jo_sub (je_op jo_mod (je_op jo_mul (je_op jo_mul (je_op jo_mul (je_ix jx_list (jv 1) je_int (fun _ _ => rfl)) (je_ix jx_list (jv 1) je_int (fun _ _ => rfl))) (je_ix jx_list (jv 1) je_int (fun _ _ => rfl))) (je_ix jx_list (jv 1) je_int (fun _ _ => rfl))) (je_op jo_add (je_op jo_mul je_int (jv 2)) je_int)) (jv 2))))))), ?_⟩
  have cD : ∀ {i j : Int}, 0 < j -> j < 1073741824 -> CDiv i j := fun h1 h2 => ⟨h1, h2⟩
  refine ⟨_, rfl, c, 4, rfl, by decide, by decide, fun H1 p l s1 hl hall hp => ?_⟩
  refine ⟨_, _, rfl, rfl, ⟨by decide, by decide, by decide⟩, _, _, rfl, rfl, ?_⟩
  have big : ∀ x : Int, (x % (2 * ((10 : Int) ^ (30 : Int).toNat - 1) + 1) - ((10 : Int) ^ (30 : Int).toNat - 1)).natAbs < 10 ^ 30 := fun x => by
    have e : (10 : Int) ^ (30 : Int).toNat = 1000000000000000000000000000000 := by decide
    have e2 : (10 : Nat) ^ 30 = 1000000000000000000000000000000 := by decide
    rw [e, e2]
    have := Int.emod_nonneg x (show (2 * ((1000000000000000000000000000000 : Int) - 1) + 1) ≠ 0 by decide)
    have := Int.emod_lt_of_pos x (show (0 : Int) < (2 * ((1000000000000000000000000000000 : Int) - 1) + 1) by decide)
    omega
  have pos : (0 : Int) < 2 * ((10 : Int) ^ (30 : Int).toNat - 1) + 1 := by decide
  refine ⟨_, rfl, _, _, rfl, rfl, (by show (0 : Int) < _; decide), rfl, _, rfl, ?_⟩
  refine ite2 (fun _ => ?_) (fun _ => ?_)
  · refine ⟨_, rfl, _, _, rfl, rfl, cD (by decide) (by decide), _, _, rfl, rfl, (by show (0 : Int) < _; decide), _, _, rfl, rfl, q _ _ ?_ s1⟩
    have := Int.emod_nonneg (c / 3) (show (41 : Int) ≠ 0 by decide)
    have := Int.emod_lt_of_pos (c / 3) (show (0 : Int) < 41 by decide)
    have e2 : (10 : Nat) ^ 30 = 1000000000000000000000000000000 := by decide
    rw [e2]
    omega
  refine ⟨_, rfl, _, _, rfl, rfl, (by show (0 : Int) < _; decide), rfl, _, rfl, ?_⟩
  refine ite2 (fun _ => ?_) (fun _ => ?_)
  · exact ⟨_, rfl, _, _, rfl, rfl, cD (by decide) (by decide), _, rfl, _, _, rfl, rfl, .inl ⟨by decide, by decide⟩, _, _, rfl, rfl, _, _, rfl, rfl, pos, _, rfl, _, _, rfl, rfl, q _ _ (big _) s1⟩
  · match l, hl, hall, hp with
    | [x0, x1, x2, x3], _, hall, hp =>
      have h1 := hall x1 (by simp)
      have h2 := hall x2 (by simp)
      have h3 := hall x3 (by simp)
      have at_ : ∀ (k : Nat) (x : Int), [x0, x1, x2, x3][k]? = some x -> atI ([x0, x1, x2, x3].map V.int) (k : Int) = some (.int x) := fun k x e => atI_nat (by rw [List.getElem?_map, e]; rfl)
      exact ⟨_, rfl, p, _, _, _, rfl, rfl, SqL.of hp, at_ 0 x0 rfl, _, rfl, p, _, _, _, rfl, rfl, SqL.of hp, at_ 1 x1 rfl, _, _, rfl, rfl, .inr ⟨by omega, by omega⟩, _, rfl, p, _, _, _, rfl, rfl, SqL.of hp, at_ 2 x2 rfl, _, _, rfl, rfl, .inr ⟨by omega, by omega⟩, _, rfl, p, _, _, _, rfl, rfl, SqL.of hp, at_ 3 x3 rfl, _, _, rfl, rfl, .inr ⟨by omega, by omega⟩,
        _, rfl, _, _, rfl, rfl, .inl ⟨by decide, by decide⟩, _, _, rfl, rfl, _, _, rfl, rfl, pos, _, rfl, _, _, rfl, rfl, q _ _ (big _) s1⟩
end
end Rdr
namespace Rdr
open PySem L2 K11 Rd
theorem sp_sg : SP = sg 32 := by decide
theorem nl_sg : NL = sg 10 := by decide
structure Wd (x : Str) : Prop where
  sp : 32 ∉ cl x
  nl : 10 ∉ cl x
  len : x.length <= 32
theorem lets_no : 32 ∉ cl LETS /\ 10 ∉ cl LETS := by decide +kernel
theorem name_wd {x : Str} (h : isName x = true) : Wd x /\ x ≠ ("" : Str) := by
  unfold isName lenIn at h
  simp only [Bool.and_eq_true, decide_eq_true_eq] at h
  obtain ⟨⟨h1, h2⟩, h3, _⟩ := h
  refine ⟨⟨fun c => lets_no.1 (madeOf_iff.mp h3 _ c), fun c => lets_no.2 (madeOf_iff.mp h3 _ c), by omega⟩, fun e => ?_⟩
  rw [e] at h1
  exact absurd h1 (by decide)
theorem number_wd {x : Str} (h : isNumber x = true) : Wd x := by
  obtain ⟨⟨h1, h2⟩, h3, _⟩ := isNumber_iff.mp h
  by_cases c : ∃ cs, cl x = 45 :: cs
  · obtain ⟨cs, hc⟩ := c
    rw [figs_minus hc] at h1 h2 h3
    have hl : x.length = cs.length + 1 := by rw [<- cl_len, hc, List.length_cons]
    refine ⟨fun m => ?_, fun m => ?_, by omega⟩ <;>
    · rw [hc] at m
      rcases List.mem_cons.mp m with m | m
      · omega
      · have := h3 _ m
        omega
  · rw [figs_plain c] at h1 h2 h3
    have hl := cl_len x
    exact ⟨fun m => by have := h3 _ m; omega, fun m => by have := h3 _ m; omega, by omega⟩
def wdB (x : Str) : Bool := !(cl x).contains 32 && !(cl x).contains 10 && decide (x.length <= 32)
theorem wd_of {x : Str} (h : wdB x = true) : Wd x := by
  unfold wdB at h
  simp only [Bool.and_eq_true, Bool.not_eq_true', decide_eq_true_eq] at h
  exact ⟨fun m => by simp [m] at h, fun m => by simp [m] at h, h.2⟩
abbrev tx (ws : List Str) : Str := Str.join SP ws
theorem join_flat {c : Nat} : ∀ (xss : List (List Str)), (∀ ws ∈ xss, ws ≠ []) -> Str.join (sg c) (xss.map (Str.join (sg c))) = Str.join (sg c) xss.flatten
  | [], _ => rfl
  | [ws], h => by
    rw [List.map_singleton, List.flatten_cons, List.flatten_nil, List.append_nil]
    rfl
  | ws :: vs :: r, h => by
    have ih := join_flat (c := c) (vs :: r) fun x hx => h x (List.mem_cons_of_mem _ hx)
    have nf : (vs :: r).flatten ≠ [] := by
      rw [List.flatten_cons]
      intro e
      exact h vs (List.mem_cons_of_mem _ List.mem_cons_self) (List.append_eq_nil_iff.mp e).1
    apply str_ext
    rw [List.flatten_cons, join_app (h ws List.mem_cons_self) nf, <- ih, List.map_cons, List.map_cons, cl_join_cons]
    rfl
theorem tx_flat (xss : List (List Str)) (h : ∀ ws ∈ xss, ws ≠ []) : Str.join SP (xss.map tx) = tx xss.flatten := by
  show Str.join SP (xss.map (Str.join SP)) = Str.join SP _
  rw [sp_sg]
  exact join_flat xss h
theorem tx_len {ws : List Str} (h : ∀ x ∈ ws, Wd x) : (tx ws).length <= 33 * ws.length := by
  have := len_join (c := 32) (ws := ws) (k := 32) fun x hx => (h x hx).len
  show (Str.join SP ws).length <= _
  rw [sp_sg]
  omega
theorem wide_le : ∀ (xss : List (List Str)), (∀ ws ∈ xss, ws ≠ [] /\ ∀ x ∈ ws, Wd x) -> wide SP (xss.map tx) <= 34 * xss.flatten.length
  | [], _ => by decide
  | ws :: r, h => by
    have ih := wide_le r fun x hx => h x (List.mem_cons_of_mem _ hx)
    obtain ⟨h1, h2⟩ := h ws List.mem_cons_self
    have l := tx_len h2
    have p : 1 <= ws.length := by
      cases ws with
      | nil => exact absurd rfl h1
      | cons _ _ => simp
    have s1 : SP.length = 1 := by decide
    unfold wide at ih ⊢
    rw [List.map_cons, List.map_cons, List.sum_cons, List.flatten_cons, List.length_append, List.length_cons, s1]
    rw [s1] at ih
    omega
inductive DWr : D -> List Str -> Prop
  | num {n : Int} : n.natAbs < 10 ^ 30 -> DWr (.tup [.str "num", .int n]) ["num", Str.ofString (toString n)]
  | op {o a b : Str} : DWr (.tup [.str "op", .str o, .str a, .str b]) [o, a, b]
  | names {o g : Str} {ns : List Str} : o ∈ DEEDS -> ns.length <= 9 -> DWr (.tup [.str o, .str g, Rd.«strs» ns]) (o :: g :: (ns ++ [(";" : Str)]))
inductive Wr : D -> List Str -> Prop
  | give {x : Str} : Wr (.tup [.str "give", .str x]) ["give", x]
  | lt {x : Str} {d b : D} {dw bw : List Str} : DWr d dw -> Wr b bw -> Wr (.tup [.str "let", .str x, d, b]) ("let" :: x :: (dw ++ bw))
  | if_ {x : Str} {a b : D} {aw bw : List Str} : Wr a aw -> Wr b bw -> Wr (.tup [.str "if", .str x, a, b]) ("if" :: x :: (aw ++ ("else" : Str) :: bw))
  | case {x : Str} {arms : List Arm} : arms.length <= 20 -> (∀ a ∈ arms, a.names.length <= 9) -> (∀ a ∈ arms, Wr a.b a.bw) -> Wr (.tup [.str "case", .str x, .tup (arms.map Arm.dat)]) ("case" :: x :: (arms.flatMap Arm.words ++ [("end" : Str)]))
structure GoodD (d : D) (ws : List Str) : Prop where
  deed : deed LX ws = some (d, [])
  word : ∀ x ∈ ws, Wd x
  ne : ws ≠ []
  sz : szD d <= 2 * ws.length
  wr : DWr d ws
structure Good (b : D) (ws : List Str) : Prop where
  body : BodyOk LX ws b
  word : ∀ x ∈ ws, Wd x
  ne : ws ≠ []
  sz : szD b <= 3 * ws.length
  wr : Wr b ws
theorem lex_ok : LexOk LX := ⟨by decide +kernel⟩
theorem goodd_num {n : Int} (h : n.natAbs < 10 ^ 30) : GoodD (.tup [.str "num", .int n]) ["num", Str.ofString (toString n)] := by
  obtain ⟨h1, h2⟩ := number_made h
  have e := num_ok lex_ok (L := LX) (x := Str.ofString (toString n)) (r := []) h1
  refine ⟨?_, fun x hx => ?_, by simp, by simp [szD, szL], .num h⟩
  · rw [show LX.iv (Str.ofString (toString n)) = n from h2] at e
    exact e
  · rcases List.mem_cons.mp hx with e | hx
    · rw [e]; exact wd_of (by decide)
    · rw [List.mem_singleton.mp hx]; exact number_wd h1
theorem ops_wd : ∀ x ∈ OPS, wdB x = true := by decide +kernel
theorem deeds_wd : ∀ x ∈ DEEDS, wdB x = true := by decide +kernel
theorem goodd_op {o a b : Str} (ho : o ∈ OPS) (ha : isName a = true) (hb : isName b = true) : GoodD (.tup [.str "op", .str o, .str a, .str b]) [o, a, b] := by
  refine ⟨op_ok lex_ok (L := LX) (r := []) ho ha hb, fun x hx => ?_, by simp, by simp [szD, szL], .op⟩
  simp only [List.mem_cons, List.not_mem_nil, or_false] at hx
  rcases hx with e | e | e <;> rw [e]
  · exact wd_of (ops_wd o ho)
  · exact (name_wd ha).1
  · exact (name_wd hb).1
theorem szL_strs : ∀ l : List Str, szL (l.map D.str) = l.length
  | [] => rfl
  | x :: l => by rw [List.map_cons, szL, szL_strs l, szD, List.length_cons]; omega
theorem goodd_names {o g : Str} {ns : List Str} (ho : o ∈ DEEDS) (hg : isName g = true) (hn : ∀ x ∈ ns, isName x = true) (hl : ns.length <= 9) : GoodD (.tup [.str o, .str g, Rd.«strs» ns]) (o :: g :: (ns ++ [(";" : Str)])) := by
  refine ⟨names_ok lex_ok (L := LX) (r := []) ho hg hn hl, fun x hx => ?_, by simp, ?_, .names ho hl⟩
  · simp only [List.mem_cons, List.mem_append, List.not_mem_nil, or_false] at hx
    rcases hx with e | e | e | e
    · rw [e]; exact wd_of (deeds_wd o ho)
    · rw [e]; exact (name_wd hg).1
    · exact (name_wd (hn x e)).1
    · rw [e]; exact wd_of (by decide)
  · unfold Rd.«strs»
    rw [szD, szL, szL, szL, szL, szD, szD, szD, szL_strs]
    simp only [List.length_cons, List.length_append, List.length_nil]
    omega
theorem good_give {x : Str} (hx : isName x = true) : Good (.tup [.str "give", .str x]) ["give", x] := by
  refine ⟨body_give hx, fun y hy => ?_, by simp, by simp [szD, szL], .give⟩
  rcases List.mem_cons.mp hy with e | hy
  · rw [e]; exact wd_of (by decide)
  · rw [List.mem_singleton.mp hy]; exact (name_wd hx).1
theorem good_let {x : Str} {d b : D} {dw bw : List Str} (hx : isName x = true) (hd : GoodD d dw) (hb : Good b bw) : Good (.tup [.str "let", .str x, d, b]) ("let" :: x :: (dw ++ bw)) := by
  refine ⟨body_let hx hd.deed hb.body, fun y hy => ?_, by simp, ?_, .lt hd.wr hb.wr⟩
  · simp only [List.mem_cons, List.mem_append] at hy
    rcases hy with e | e | e | e
    · rw [e]; exact wd_of (by decide)
    · rw [e]; exact (name_wd hx).1
    · exact hd.word y e
    · exact hb.word y e
  · have := hd.sz
    have := hb.sz
    rw [szD, szL, szL, szL, szL, szL, szD, szD]
    simp only [List.length_cons, List.length_append]
    omega
theorem good_if {x : Str} {a b : D} {aw bw : List Str} (hx : isName x = true) (ha : Good a aw) (hb : Good b bw) : Good (.tup [.str "if", .str x, a, b]) ("if" :: x :: (aw ++ ("else" : Str) :: bw)) := by
  refine ⟨body_if hx ha.body hb.body, fun y hy => ?_, by simp, ?_, .if_ ha.wr hb.wr⟩
  · simp only [List.mem_cons, List.mem_append] at hy
    rcases hy with e | e | e | e | e
    · rw [e]; exact wd_of (by decide)
    · rw [e]; exact (name_wd hx).1
    · exact ha.word y e
    · rw [e]; exact wd_of (by decide)
    · exact hb.word y e
  · have := ha.sz
    have := hb.sz
    rw [szD, szL, szL, szL, szL, szL, szD, szD]
    simp only [List.length_cons, List.length_append]
    omega
structure GoodA (a : Arm) : Prop where
  ok : a.Ok LX
  word : ∀ x ∈ a.words, Wd x
  sz : szD a.dat <= 3 * a.words.length
  wr : Wr a.b a.bw
theorem good_arm {t : Str} {ns bw : List Str} {b : D} (ht : isName t = true) (hn : ∀ x ∈ ns, isName x = true) (hl : ns.length <= 9) (hb : Good b bw) : GoodA ⟨t, ns, bw, b⟩ := by
  refine ⟨⟨ht, hn, hl, hb.body⟩, fun y hy => ?_, ?_, hb.wr⟩
  · unfold Arm.words at hy
    simp only [List.mem_cons, List.mem_append] at hy
    rcases hy with e | e | e | e
    · rw [e]; exact (name_wd ht).1
    · exact (name_wd (hn y e)).1
    · rw [e]; exact wd_of (by decide)
    · exact hb.word y e
  · have := hb.sz
    unfold Arm.dat Arm.words Rd.«strs»
    dsimp only
    rw [szD, szL, szL, szL, szL, szD, szD, szL_strs]
    simp only [List.length_cons, List.length_append]
    omega
theorem szL_arms : ∀ l : List Arm, (∀ a ∈ l, GoodA a) -> szL (l.map Arm.dat) <= 3 * (l.flatMap Arm.words).length
  | [], _ => by decide
  | a :: l, h => by
    have h1 := (h a List.mem_cons_self).sz
    have h2 := szL_arms l fun x hx => h x (List.mem_cons_of_mem _ hx)
    rw [List.map_cons, szL, List.flatMap_cons, List.length_append]
    omega
theorem good_case {x : Str} {arms : List Arm} (hx : isName x = true) (h0 : arms ≠ []) (ha : ∀ a ∈ arms, GoodA a) (hl : arms.length <= 20) : Good (.tup [.str "case", .str x, .tup (arms.map Arm.dat)]) ("case" :: x :: (arms.flatMap Arm.words ++ [("end" : Str)])) := by
  cases arms with
  | nil => exact absurd rfl h0
  | cons a more =>
    have b := body_case lex_ok (L := LX) (x := x) (a := a) (more := more) hx (ha a List.mem_cons_self).ok (fun c hc => (ha c (List.mem_cons_of_mem _ hc)).ok) (by rw [List.length_cons] at hl; omega)
    refine ⟨?_, fun y hy => ?_, by simp, ?_, .case hl (fun c hc => (ha c hc).ok.few) fun c hc => (ha c hc).wr⟩
    · exact b
    · simp only [List.mem_cons, List.mem_append, List.not_mem_nil, or_false, List.mem_flatMap] at hy
      rcases hy with e | e | ⟨c, hc, e⟩ | e
      · rw [e]; exact wd_of (by decide)
      · rw [e]; exact (name_wd hx).1
      · exact (ha c (by simpa using hc)).word y e
      · rw [e]; exact wd_of (by decide)
    · have := szL_arms (a :: more) ha
      rw [szD, szL, szL, szL, szL, szD, szD, szD]
      simp only [List.length_cons, List.length_append, List.length_nil] at this ⊢
      omega
end Rdr
namespace Rdr
open PySem L2 K11 Rd
theorem num_tx (z : Str) : ("num " : Str) ++ z = tx ["num", z] := by
  show ("num " : Str) ++ z = ("num" : Str) ++ SP ++ z
  rw [show (("num" : Str) ++ SP) = "num " from by decide]
theorem give_tx (z : Str) : ("give " : Str) ++ z = tx ["give", z] := by
  show ("give " : Str) ++ z = ("give" : Str) ++ SP ++ z
  rw [show (("give" : Str) ++ SP) = "give " from by decide]
theorem wide_words {ws : List Str} (h : ∀ x ∈ ws, Wd x) : wide SP ws <= 33 * ws.length := by
  have s1 : SP.length = 1 := by decide
  unfold wide
  rw [s1]
  have : (ws.map (·.length)).sum <= 32 * ws.length := by
    induction ws with
    | nil => decide
    | cons x r ih =>
      have h1 := (h x List.mem_cons_self).len
      have h2 := ih fun y hy => h y (List.mem_cons_of_mem _ hy)
      rw [List.map_cons, List.sum_cons, List.length_cons]
      omega
  omega
def spLDeed : Sp := fun vs H Q _ => ∃ c : Int, vs = [.int c] /\ ∀ (H' : Hp) (p : Addr) (v : V) (d : D) (ws : List Str), Same H H' -> H' p = some (.tup [v, .str (tx ws)]) -> Is H' d v -> GoodD d ws -> ws.length <= 13 -> Q (.ref p) H'
theorem log_lt {i : Int} (h : i.natAbs < 10 ^ 30) : i.natAbs.log2 < 1920 := by
  by_cases e : i.natAbs = 0
  · rw [e]
    decide
  · exact (Nat.log2_lt e).mpr (Nat.lt_trans h (by decide +kernel))
theorem cut_tail {α : Type} (f : α -> V) (x : α) (l : List α) : cutV ((x :: l).map f) (some 1) none = l.map f := by
  unfold cutV
  rw [List.length_map, List.length_cons]
  have c1 : HT.sIx (l.length + 1) 0 (some 1) = 1 := by
    unfold HT.sIx
    simp
  have c2 : HT.sIx (l.length + 1) (l.length + 1) none = l.length + 1 := rfl
  rw [c1, c2]
  show (l.map f).take _ = _
  exact List.take_of_length_le (by rw [List.length_map]; omega)
section
variable {P : Program} {w : World} {K : PySem.W.Frag} {mg : Str -> Option Value} {base : Heap} {f : Addr} {fd : FuncData}
theorem scLDeed : FnScope ["_law_cell", "_law_way", "_law_number_here", "_law_word", "_law_one", "_law_other", "_law_names_here"] ["_law_cell"] (defScope sLDeed) := ⟨rfl, rfl, rfl, by decide +kernel, rfl, by decide +kernel, by decide +kernel⟩
theorem ok_ldeed (F : Fun K "_law_deed" "_law_deed" sLDeed f fd) (GN : Ca P w K mg base CX0 2 "_law_names" ["_law_cell", "_law_many_here"] spLNames) (GM : Ca P w K mg base CX0 2 "_law_number" ["_law_cell"] spLNumber) (mS : mg "str" = none) (mT : mg "tuple" = none) : FnOk P w K mg base CX0 3 f fd ["_law_cell"] spLDeed := by
  refine F.by scLDeed (fun vs H Q E h => ?_) (fun cdv A outer s H vs Q E hr h => ?_)
  · obtain ⟨c, rfl, _⟩ := h
    rfl
  obtain ⟨c, rfl, q⟩ := h
  refine ⟨_, jss_cons (js_set (i := 1) scLDeed.nd rfl (Or.inl rfl) (je_op jo_mod (jv 0) je_int)) (jss_cons (js_set (i := 2) scLDeed.nd rfl (Or.inl rfl) (je_op jo_fdiv (jv 0) je_int))
    (jss_cons (js_if (jt_cmpR jo_eq (jv 1) je_int (nomark _))
      (jss_cons (js_set (i := 2) scLDeed.nd rfl (Or.inl rfl) (je_ca GM hr rfl pass0 (ja_c (jv 2) ja_nil)))
      (jss_one (js_ret (je_tup (ja_c (je_tup (ja_c je_str (ja_c (jv 2) ja_nil))) (ja_c (je_op jo_add_str je_str (je_fnTy jc_str_int rfl mS PyProof.Rows.boot_str (ja_c (jv 2) ja_nil))) ja_nil)))))) jss_nil)
    (jss_cons (js_if (jt_cmpR jo_eq (jv 1) je_int (nomark _))
      (jss_cons (js_set (i := 3) scLDeed.nd rfl (Or.inl rfl) (je_ix jx_list (je_lst (ja_c je_str (ja_c je_str (ja_c je_str (ja_c je_str (ja_c je_str (ja_c je_str (ja_c je_str ja_nil)))))))) (je_op jo_mod (jv 2) je_int) (fun _ _ => rfl)))
      (jss_cons (js_asg (je_ca GN hr rfl pass0 (ja_c (je_op jo_fdiv (jv 2) je_int) (ja_c je_int ja_nil))) (jg_lst rfl (jgs_cons (jg_name (i := 4) scLDeed.nd rfl (Or.inl rfl)) (jgs_cons (jg_name (i := 5) scLDeed.nd rfl (Or.inl rfl)) jgs_nil))))
      (jss_one (js_ret (je_tup (ja_c (je_tup (ja_c je_str (ja_c (jv 3) (ja_c (jv 4) (ja_c (jv 5) ja_nil))))) (ja_c (je_bm PySem.F.plainAttrs_str PySem.F.slot_str_join PySem.F.type_str_join jm_join je_str (ja_c (je_lst (ja_c (jv 3) (ja_c (jv 4) (ja_c (jv 5) ja_nil)))) ja_nil)) ja_nil))))))) jss_nil)
    (jss_cons (js_set (i := 3) scLDeed.nd rfl (Or.inl rfl) (je_ix jx_list (je_lst (ja_c je_str (ja_c je_str (ja_c je_str (ja_c je_str ja_nil))))) (je_op jo_sub (jv 1) je_int) (fun _ _ => rfl)))
    (jss_cons (js_set (i := 6) scLDeed.nd rfl (Or.inl rfl) (je_ca GN hr rfl pass0 (ja_c (je_op jo_fdiv (jv 2) je_int) (ja_c (je_op jo_add je_int (je_op jo_mod (jv 2) je_int)) ja_nil))))
    (jss_one (js_ret (je_tup (ja_c (je_tup (ja_c (jv 3) (ja_c (je_ix jx_list (jv 6) je_int (fun _ _ => rfl)) (ja_c (je_fnTy jc_tuple_of rfl mT PyProof.Rows.boot_tuple (ja_c (je_slice jl_list (jv 6) (jo_some je_int) jo_none) ja_nil)) ja_nil))))
      (ja_c (je_bm PySem.F.plainAttrs_str PySem.F.slot_str_join PySem.F.type_str_join jm_join je_str (ja_c (je_op jo_cat (je_op jo_cat (je_lst (ja_c (jv 3) ja_nil)) (jv 6)) (je_lst (ja_c je_str ja_nil))) ja_nil)) ja_nil)))))))))), ?_⟩
  have sl := line
  have cD : ∀ {i j : Int}, 0 < j -> j < 1073741824 -> CDiv i j := fun h1 h2 => ⟨h1, h2⟩
  have w6 : 0 <= c % 6 /\ c % 6 < 6 := ⟨Int.emod_nonneg _ (by decide), Int.emod_lt_of_pos _ (by decide)⟩
  refine ⟨_, rfl, _, _, rfl, rfl, (by show (0 : Int) < _; decide), _, rfl, _, _, rfl, rfl, cD (by decide) (by decide), _, rfl, rfl, _, rfl, ?_⟩
  by_cases c0 : c % 6 = 0
  · refine iteD (congrArg V.int c0) ?_
    refine ⟨_, rfl, c / 6, rfl, fun i H1 hi s1 => ?_⟩
    refine ⟨_, rfl, by show 2 <= sizeLine; decide, fun p1 hp1 => ⟨_, rfl, i, rfl, log_lt hi, _, _, rfl, rfl, ?_, by show 2 <= sizeLine; decide, fun p2 hp2 => ?_⟩⟩
    · have := (goodd_num hi).word (Str.ofString (toString i)) (by simp)
      have := this.len
      show 4 + (Str.ofString (toString i)).length <= sizeLine
      omega
    · rw [num_tx] at *
      have t2 := Tups.new (o := .tup [.ref p1, .str (tx ["num", Str.ofString (toString i)])]) hp2
      exact q _ p2 (.ref p1) _ _ ((s1.trans (same_new hp1 _)).trans (same_new hp2 _)) upd_same (.tup (t2 _ _ upd_same) (.cons (.str _) (.cons (.int i) .nil))) (goodd_num hi) (by show 2 <= 13; decide)
  refine iteDN (fun e => c0 (by injection e)) ?_
  refine ⟨_, rfl, rfl, _, rfl, ?_⟩
  by_cases c1 : c % 6 = 1
  · refine iteD (congrArg V.int c1) ?_
    refine ⟨by show 7 <= sizeLine; decide, fun p1 hp1 => ?_⟩
    obtain ⟨v, hm, hv⟩ := at_list (l := OPS.map V.str) (k := 7) (by decide) (by decide) (c / 6)
    obtain ⟨o, ho, rfl⟩ := List.mem_map.mp hm
    refine ⟨_, rfl, _, _, rfl, rfl, (by show (0 : Int) < _; decide), p1, _, _, _, rfl, rfl, SqL.of upd_same, hv, ?_⟩
    refine ⟨_, rfl, _, _, rfl, rfl, cD (by decide) (by decide), c / 6 / 7, 2, rfl, by decide, by decide, fun H2 p2 l s2 _ hl hall hp2 => ?_⟩
    match l, hl, hall, hp2 with
    | [a, b], _, hall, hp2 =>
      have ha := hall a (by simp)
      have hb := hall b (by simp)
      refine ⟨p2, _, rfl, SqL.of hp2, rfl, _, _, rfl, _, _, rfl, rfl, ?_⟩
      have G := goodd_op ho ha hb
      refine ⟨_, rfl, _, rfl, _, rfl, by show 4 <= sizeLine; decide, fun p3 hp3 => ?_⟩
      refine ⟨rfl, _, rfl, _, rfl, _, rfl, by show 3 <= sizeLine; decide, fun p4 hp4 => ⟨SP, p4, [o, a, b], rfl, rfl, SqL.of upd_same, ?_, by show 2 <= sizeLine; decide, fun p5 hp5 => ?_⟩⟩
      · have := wide_words G.word
        have : ([o, a, b] : List Str).length = 3 := rfl
        omega
      · have t4 := Tups.new (o := .lst [.str o, .str a, .str b]) hp4
        have t5 := Tups.new (o := .tup [.ref p3, .str (tx [o, a, b])]) hp5
        exact q _ p5 (.ref p3) _ _ (((((same_new hp1 _).trans s2).trans (same_new hp3 _)).trans (same_new hp4 _)).trans (same_new hp5 _)) upd_same (.tup (t5 _ _ (t4 _ _ upd_same)) (.cons (.str _) (.cons (.str _) (.cons (.str _) (.cons (.str _) .nil))))) G (by show 3 <= 13; decide)
  refine iteDN (fun e => c1 (by injection e)) ?_
  refine ⟨by show 4 <= sizeLine; decide, fun p1 hp1 => ?_⟩
  obtain ⟨o, ho, hv⟩ : ∃ o, o ∈ DEEDS /\ atI (DEEDS.map V.str) (c % 6 - 2) = some (.str o) := by
    have hj : c % 6 - 2 = 0 \/ c % 6 - 2 = 1 \/ c % 6 - 2 = 2 \/ c % 6 - 2 = 3 := by omega
    rcases hj with e | e | e | e <;> rw [e]
    · exact ⟨"make", by decide, by rfl⟩
    · exact ⟨"call", by decide, by rfl⟩
    · exact ⟨"func", by decide, by rfl⟩
    · exact ⟨"ask", by decide, by rfl⟩
  refine ⟨_, rfl, _, _, rfl, rfl, p1, _, _, _, rfl, rfl, SqL.of upd_same, hv, ?_⟩
  have m10 : 0 <= c / 6 % 10 /\ c / 6 % 10 < 10 := ⟨Int.emod_nonneg _ (by decide), Int.emod_lt_of_pos _ (by decide)⟩
  refine ⟨_, rfl, _, _, rfl, rfl, cD (by decide) (by decide), _, rfl, _, _, rfl, rfl, (by show (0 : Int) < _; decide), _, _, rfl, rfl, c / 6 / 10, 1 + c / 6 % 10, rfl, by omega, by omega, fun H2 p2 l s2 _ hl hall hp2 => ?_⟩
  cases l with
  | nil => simp at hl; omega
  | cons g ns =>
    have hg := hall g (by simp)
    have hns : ∀ x ∈ ns, isName x = true := fun x hx => hall x (List.mem_cons_of_mem _ hx)
    rw [List.length_cons] at hl
    have G := goodd_names ho hg hns (by omega)
    refine ⟨_, rfl, _, rfl, p2, _, _, _, rfl, rfl, SqL.of hp2, atI_nat (j := 0) rfl, _, rfl, _, rfl, p2, _, rfl, SqL.of hp2, fun p3 hp3 => ?_⟩
    rw [cut_tail]
    refine ⟨p3, _, rfl, .inl ⟨SqL.of upd_same, fun p4 hp4 => ⟨by show 3 <= sizeLine; decide, fun p5 hp5 => ?_⟩⟩⟩
    have t3 := Tups.new (o := .lst (ns.map V.str)) hp3
    have t4 := Tups.new (o := .tup (ns.map V.str)) hp4
    have t5 := Tups.new (o := .tup [.str o, .str g, .ref p4]) hp5
    have s5 : Same H2 _ := ((same_new (o := .lst (ns.map V.str)) hp3).trans (same_new (o := .tup (ns.map V.str)) hp4)).trans (same_new (o := .tup [.str o, .str g, .ref p4]) hp5)
    have i5 : upd (upd (upd H2 p3 (.lst (ns.map V.str))) p4 (.tup (ns.map V.str))) p5 (.tup [.str o, .str g, .ref p4]) p5 = some (.tup [.str o, .str g, .ref p4]) := upd_same
    have i4 := t5 _ _ (upd_same (H := upd H2 p3 (.lst (ns.map V.str))) (a := p4) (o := .tup (ns.map V.str)))
    have hp2' := s5 _ _ hp2
    generalize upd (upd (upd H2 p3 (.lst (ns.map V.str))) p4 (.tup (ns.map V.str))) p5 (.tup [.str o, .str g, .ref p4]) = H5 at *
    refine ⟨rfl, _, rfl, by show 1 <= sizeLine; decide, fun p6 hp6 => ?_⟩
    refine ⟨_, rfl, p6, p2, _, _, rfl, rfl, upd_same, by rw [upd_ne (ne_of_none hp2' hp6)]; exact hp2', ?_, fun p7 hp7 => ?_⟩
    · rw [List.length_singleton, List.length_map, List.length_cons]
      omega
    refine ⟨by show 1 <= sizeLine; decide, fun p8 hp8 => ?_⟩
    have n78 : p7 ≠ p8 := ne_of_none upd_same hp8
    refine ⟨p7, p8, _, _, rfl, rfl, by rw [upd_ne n78]; exact upd_same, upd_same, ?_, fun p9 hp9 => ?_⟩
    · rw [List.length_append, List.length_singleton, List.length_map, List.length_cons, List.length_singleton]
      omega
    refine ⟨SP, p9, o :: g :: (ns ++ [(";" : Str)]), rfl, rfl, SqL.of (by rw [upd_same]; simp), ?_, by show 2 <= sizeLine; decide, fun p10 hp10 => ?_⟩
    · have := wide_words G.word
      have : (o :: g :: (ns ++ [(";" : Str)])).length <= 13 := by simp only [List.length_cons, List.length_append, List.length_nil]; omega
      omega
    have s10 := (((same_new (o := .lst [.str o]) hp6).trans (same_new (o := .lst ([.str o] ++ (g :: ns).map V.str)) hp7)).trans (same_new (o := .lst [.str ";"]) hp8)).trans (same_new (o := .lst ([.str o] ++ (g :: ns).map V.str ++ [.str ";"])) hp9)
    have sA := s10.trans (same_new (o := .tup [.ref p5, .str (tx (o :: g :: (ns ++ [(";" : Str)])))]) hp10)
    refine q _ p10 (.ref p5) _ _ (((same_new hp1 _).trans s2).trans (s5.trans sA)) upd_same (.tup (sA _ _ i5) (.cons (.str _) (.cons (.str _) (.cons (.tup (sA _ _ i4) (IsL.strs ns)) .nil)))) G ?_
    simp only [List.length_cons, List.length_append, List.length_nil]
    omega
end
end Rdr
namespace L2
open PySem
section
variable {X : Cx}
theorem js_par {i j : Nat} {x y : Str} {a b : Expr} {ta : TA} {px py pt pos : Pos} {kt k2 pt2} (hc : X.calm = true) (hN : X.N.Nodup) (hi : X.N[i]? = some x) (hj : X.N[j]? = some y) (hij : i ≠ j) (ha : jA X [a, b] ta)
    (hx : X.env.scope.names.lookup x = some .local := by rfl) (hy : X.env.scope.names.lookup y = some .local := by rfl) (hw : swappedStores [.Tuple [.Name x px, .Name y py] kt pt] (.Tuple [a, b] k2 pt2) X.env = pure (some [x, y]) := by rfl)
    (hs : swapsWithSole [.Tuple [.Name x px, .Name y py] kt pt] (.Tuple [a, b] k2 pt2) pos.line X.env = pure false := by rfl) : jS X (.Assign [.Tuple [.Name x px, .Name y py] kt pt] (.Tuple [a, b] k2 pt2) pos) (tPar i j ta) := ⟨ps_par hc hN hi hj hij hx hy ha.out hw hs⟩
end
end L2
namespace Rdr
open PySem L2 K11 Rd
inductive Itms (H : Hp) : List (D × List Str) -> List Addr -> Prop
  | nil : Itms H [] []
  | cons {p : Addr} {v : V} {b : D} {ws : List Str} {its : List (D × List Str)} {ps : List Addr} : H p = some (.tup [v, .str (tx ws)]) -> Is H b v -> Good b ws -> Itms H its ps -> Itms H ((b, ws) :: its) (p :: ps)
theorem Itms.keep {H H' : Hp} (t : Tups H H') {its : List (D × List Str)} {ps : List Addr} (h : Itms H its ps) : Itms H' its ps := by
  induction h with
  | nil => exact .nil
  | cons a b c _ ih => exact .cons (t _ _ a) (b.keep t) c ih
theorem Itms.len {H : Hp} {its : List (D × List Str)} {ps : List Addr} (h : Itms H its ps) : its.length = ps.length := by
  induction h with
  | nil => rfl
  | cons _ _ _ _ ih => rw [List.length_cons, List.length_cons, ih]
def tw : List (D × List Str) -> Nat
  | [] => 0
  | x :: r => x.2.length + 3 + tw r
theorem tw_len : ∀ l, l.length <= tw l
  | [] => Nat.zero_le _
  | x :: r => by have := tw_len r; rw [tw, List.length_cons]; omega
theorem cut_mid {α : Type} (f : α -> V) (x y : α) (l : List α) : cutV ((x :: (l ++ [y])).map f) (some 1) (some (-1)) = l.map f := by
  unfold cutV
  have n : ((x :: (l ++ [y])).map f).length = l.length + 2 := by simp
  rw [n]
  have c1 : HT.sIx (l.length + 2) 0 (some 1) = 1 := by
    unfold HT.sIx
    simp
  have c2 : HT.sIx (l.length + 2) (l.length + 2) (some (-1)) = l.length + 1 := by
    unfold HT.sIx
    simp
    omega
  rw [c1, c2]
  show ((l ++ [y]).map f).take (l.length + 1 - 1) = _
  rw [List.map_append, Nat.add_sub_cancel, List.take_append_of_le_length (by simp), List.take_of_length_le (by simp)]
theorem cut_init {α : Type} (f : α -> V) (y : α) (l : List α) : cutV ((l ++ [y]).map f) none (some (-1)) = l.map f := by
  unfold cutV
  have n : ((l ++ [y]).map f).length = l.length + 1 := by simp
  rw [n]
  have c2 : HT.sIx (l.length + 1) (l.length + 1) (some (-1)) = l.length := by
    unfold HT.sIx
    simp
    omega
  rw [c2]
  show ((l ++ [y]).map f).take (l.length - 0) = _
  rw [List.map_append, Nat.sub_zero, List.take_append_of_le_length (by simp), List.take_of_length_le (by simp)]
theorem singles_flat : ∀ us : List Str, (us.map (fun x => [x])).flatten = us
  | [] => rfl
  | x :: r => by rw [List.map_cons, List.flatten_cons, singles_flat r]; rfl
theorem tx_tail {us bw : List Str} (h0 : bw ≠ []) : Str.join SP (us ++ [tx bw]) = tx (us ++ bw) := by
  have e := tx_flat (us.map (fun x => [x]) ++ [bw]) (fun ws h => by
    rcases List.mem_append.mp h with h | h
    · obtain ⟨x, _, rfl⟩ := List.mem_map.mp h
      simp
    · rw [List.mem_singleton.mp h]
      exact h0)
  have e1 : (us.map (fun x => [x]) ++ [bw]).map tx = us ++ [tx bw] := by
    rw [List.map_append, List.map_map]
    congr 1
    exact List.map_id' us
  have e2 : (us.map (fun x => [x]) ++ [bw]).flatten = us ++ bw := by
    rw [List.flatten_append]
    congr 1
    · exact singles_flat us
    · simp
  rw [e1, e2] at e
  exact e
theorem wide_tail {us bw : List Str} (h0 : bw ≠ []) (h : ∀ x ∈ us ++ bw, Wd x) : wide SP (us ++ [tx bw]) <= 34 * (us ++ bw).length := by
  have e := wide_le (us.map (fun x => [x]) ++ [bw]) (fun ws hw => by
    rcases List.mem_append.mp hw with hw | hw
    · obtain ⟨x, hx, rfl⟩ := List.mem_map.mp hw
      exact ⟨by simp, fun y hy => by rw [List.mem_singleton.mp hy]; exact h x (List.mem_append_left _ hx)⟩
    · rw [List.mem_singleton.mp hw]
      exact ⟨h0, fun y hy => h y (List.mem_append_right _ hy)⟩)
  have e1 : (us.map (fun x => [x]) ++ [bw]).map tx = us ++ [tx bw] := by
    rw [List.map_append, List.map_map]
    congr 1
    exact List.map_id' us
  have e2 : (us.map (fun x => [x]) ++ [bw]).flatten = us ++ bw := by
    rw [List.flatten_append]
    congr 1
    · exact singles_flat us
    · simp
  rw [e1, e2] at e
  exact e
def spLArms : Sp := fun vs H Q _ => ∃ (ls : Addr) (n : Int) (its : List (D × List Str)) (ps : List Addr), vs = [.ref ls, .int n] /\ H ls = some (.lst (ps.reverse.map V.ref)) /\ Itms H its ps /\ tw its <= 1000 /\
  ∀ (H' : Hp) (p : Addr) (va : V) (arms : List Arm) (its' : List (D × List Str)) (ps' : List Addr), KpS (· = ls) H H' -> H' ls = some (.lst (ps'.reverse.map V.ref)) -> Itms H' its' ps' -> H' p = some (.tup [va, .str (tx (arms.flatMap Arm.words))]) -> Is H' (.tup (arms.map Arm.dat)) va ->
    arms ≠ [] -> arms.length <= 20 -> (∀ a ∈ arms, GoodA a) -> (arms.flatMap Arm.words).length + tw its' <= tw its + 260 -> Q (.ref p) H'
section
variable {P : Program} {w : World} {K : PySem.W.Frag} {mg : Str -> Option Value} {base : Heap} {f : Addr} {fd : FuncData}
theorem scLArms : FnScope ["_law_stack", "_law_number_here", "_law_many_here", "_law_most", "_law_arms_here", "_law_texts", "_law_k", "_law_names_here", "_law_body", "_law_text"] ["_law_stack", "_law_number_here"] (defScope sLArms) := ⟨rfl, rfl, rfl, by decide +kernel, rfl, by decide +kernel, by decide +kernel⟩
theorem ok_larms (F : Fun K "_law_arms" "_law_arms" sLArms f fd) (GN : Ca P w K mg base CX0 2 "_law_names" ["_law_cell", "_law_many_here"] spLNames) (mR : mg "range" = none) (mT : mg "tuple" = none) : FnOk P w K mg base CX0 3 f fd ["_law_stack", "_law_number_here"] spLArms := by
  refine F.by scLArms (fun vs H Q E h => ?_) (fun cdv A outer s H vs Q E hr h => ?_)
  · obtain ⟨ls, n, its, ps, rfl, _⟩ := h
    rfl
  obtain ⟨ls, n, its, ps, rfl, hls, hI, htw, q⟩ := h
  refine ⟨_, jss_cons (js_set (i := 2) scLArms.nd rfl (Or.inl rfl) (je_op jo_add je_int (je_op jo_mod (jv 1) je_int))) (jss_cons (js_set (i := 3) scLArms.nd rfl (Or.inl rfl) je_int)
    (jss_cons (js_if (jt_cmpR jo_eq (je_op jo_mod (je_op jo_fdiv (jv 1) je_int) je_int) je_int (nomark _)) (jss_cons (js_set (i := 2) scLArms.nd rfl (Or.inl rfl) (je_op jo_add je_int (je_op jo_mod (je_op jo_fdiv (jv 1) je_int) je_int))) (jss_one (js_set (i := 3) scLArms.nd rfl (Or.inl rfl) je_int))) jss_nil)
    (jss_cons (js_set (i := 4) scLArms.nd rfl (Or.inl rfl) (je_lst ja_nil)) (jss_cons (js_set (i := 5) scLArms.nd rfl (Or.inl rfl) (je_lst ja_nil))
    (jss_cons (js_for PassesOwn.never rfl (ji_range1 rfl mR (ja_c (jv 2) ja_nil)) (jg_name (i := 6) scLArms.nd rfl (Or.inl rfl))
      (jss_cons (js_set (i := 7) scLArms.nd rfl (Or.inl rfl) (je_ca GN hr rfl pass0 (ja_c (je_op jo_add (jv 1) (je_op jo_mul je_int (jv 6))) (ja_c (je_op jo_add je_int (je_op jo_mod (je_op jo_fdiv (jv 1) (je_op jo_add (je_op jo_mul je_int (jv 6)) je_int)) (jv 3))) ja_nil))))
      (jss_cons (js_par (i := 8) (j := 9) rfl scLArms.nd rfl rfl (by decide) (ja_c (je_tup (ja_c je_str (ja_c (je_ix jx_list (jv 7) je_int (fun _ _ => rfl)) ja_nil))) (ja_c (je_op jo_add_str je_str (je_ix jx_list (jv 7) je_int (fun _ _ => rfl))) ja_nil)))
      (jss_cons (js_if (jt_cmpR (jo_neE hr) (jv 0) (je_lst ja_nil) (nomark _)) (jss_one (js_asg (je_bm0 PySem.F.plainAttrs_list PySem.F.slot_list_pop PySem.F.type_list_pop jm_pop (jv 0)) (jg_tup rfl (jgs_cons (jg_name (i := 8) scLArms.nd rfl (Or.inl rfl)) (jgs_cons (jg_name (i := 9) scLArms.nd rfl (Or.inl rfl)) jgs_nil))))) jss_nil)
      (jss_cons (js_expr (je_bm PySem.F.plainAttrs_list PySem.F.slot_list_append PySem.F.type_list_append jm_append (jv 4) (ja_c (je_tup (ja_c (je_ix jx_list (jv 7) je_int (fun _ _ => rfl)) (ja_c (je_fnTy jc_tuple_of rfl mT PyProof.Rows.boot_tuple (ja_c (je_slice jl_list (jv 7) (jo_some je_int) (jo_some (je_neg je_int))) ja_nil)) (ja_c (jv 8) ja_nil)))) ja_nil)))
      (jss_one (js_expr (je_bm PySem.F.plainAttrs_list PySem.F.slot_list_append PySem.F.type_list_append jm_append (jv 5) (ja_c (je_bm PySem.F.plainAttrs_str PySem.F.slot_str_join PySem.F.type_str_join jm_join je_str (ja_c (je_op jo_cat (je_slice jl_list (jv 7) jo_none (jo_some (je_neg je_int))) (je_lst (ja_c je_str (ja_c (jv 9) ja_nil)))) ja_nil)) ja_nil)))))))))
    (jss_one (js_ret (je_tup (ja_c (je_fnTy jc_tuple_of rfl mT PyProof.Rows.boot_tuple (ja_c (jv 4) ja_nil)) (ja_c (je_bm PySem.F.plainAttrs_str PySem.F.slot_str_join PySem.F.type_str_join jm_join je_str (ja_c (jv 5) ja_nil)) ja_nil)))))))))), ?_⟩
  have sl := line
  have cD : ∀ {i j : Int}, 0 < j -> j < 1073741824 -> CDiv i j := fun h1 h2 => ⟨h1, h2⟩
  suffices rest : ∀ (m t : Int), 1 <= m -> m <= 20 -> (t = 10 \/ t = 2) -> (tSeq _ _ : TS) { nx := fun _ H' => Q .non H', rt := Q } [some (.ref ls), some (.int n), some (.int m), some (.int t), none, none, none, none, none, none] H by
    have b1 := Int.emod_nonneg n (show (3 : Int) ≠ 0 by decide)
    have b2 := Int.emod_lt_of_pos n (show (0 : Int) < 3 by decide)
    have b3 := Int.emod_nonneg (n / 12) (show (20 : Int) ≠ 0 by decide)
    have b4 := Int.emod_lt_of_pos (n / 12) (show (0 : Int) < 20 by decide)
    refine ⟨_, rfl, _, _, rfl, rfl, (by show (0 : Int) < _; decide), _, _, rfl, rfl, ?_⟩
    refine ⟨_, rfl, _, _, rfl, rfl, cD (by decide) (by decide), _, _, rfl, rfl, (by show (0 : Int) < _; decide), rfl, _, rfl, ?_⟩
    refine ite2 (fun _ => ?_) (fun _ => rest _ _ (by omega) (by omega) (.inl rfl))
    exact ⟨_, rfl, _, _, rfl, rfl, cD (by decide) (by decide), _, _, rfl, rfl, (by show (0 : Int) < _; decide), _, _, rfl, rfl, rest _ _ (by omega) (by omega) (.inr rfl)⟩
  intro m t hm1 hm20 ht
  refine ⟨by show 0 <= sizeLine; decide, fun la hla => ⟨by show 0 <= sizeLine; decide, fun lt hlt => ?_⟩⟩
  have nla : ls ≠ la := ne_of_none hls hla
  have nat : la ≠ lt := ne_of_none upd_same hlt
  have hlt0 : H lt = none := by rw [upd_ne nat.symm] at hlt; exact hlt
  have nlt : ls ≠ lt := ne_of_none hls hlt0
  have s0 : Same H (upd (upd H la (.lst [])) lt (.lst [])) := (same_new hla _).trans (same_new hlt _)
  have t0 : Tups H (upd (upd H la (.lst [])) lt (.lst [])) := fun b xs z => s0 _ _ z
  refine ⟨_, rfl, m, rfl, by omega, by omega, for_range (n := m.toNat) (fun i σ H' => ∃ (its' : List (D × List Str)) (ps' : List Addr) (arms : List Arm) (va : List V) (a b c d : Option V), σ = [some (.ref ls), some (.int n), some (.int m), some (.int t), some (.ref la), some (.ref lt), a, b, c, d] /\ KpS (· = ls) H H' /\ H' ls = some (.lst (ps'.reverse.map V.ref)) /\ Itms H' its' ps' /\ H' la = some (.lst va) /\ IsL H' (arms.map Arm.dat) va /\ H' lt = some (.lst (arms.map fun a => V.str (tx a.words))) /\ arms.length = i /\ (∀ a ∈ arms, GoodA a) /\ (arms.flatMap Arm.words).length + tw its' <= tw its + 13 * i)
    ⟨its, ps, [], [], none, none, none, none, rfl, KpS.of s0, s0 _ _ hls, hI.keep t0, by rw [upd_ne nat]; exact upd_same, .nil, upd_same, rfl, (fun a ha => by cases ha), by show 0 + tw its <= _; omega⟩ ?_ ?_⟩
  · rintro i σ H1 hi ⟨its', ps', arms, va, a, b, c, d, rfl, k1, hls1, hI1, hla1, ia, hlt1, hn, hg, hb⟩
    have hi' : (i : Int) < m := by omega
    have dpos : (0 : Int) < 7 * (0 + (i : Int)) + 5 := by omega
    have tpos : (0 : Int) < t := by omega
    have e1 := Int.emod_nonneg (n / (7 * (0 + (i : Int)) + 5)) (show t ≠ 0 by omega)
    have e2 := Int.emod_lt_of_pos (n / (7 * (0 + (i : Int)) + 5)) tpos
    refine ⟨_, rfl, _, rfl, _, _, rfl, rfl, .inl ⟨by decide, by decide⟩, _, _, rfl, rfl, _, rfl, _, rfl, _, _, rfl, rfl, .inl ⟨by decide, by decide⟩, _, _, rfl, rfl, _, _, rfl, rfl, cD dpos (by omega), _, rfl, _, _, rfl, rfl, tpos, _, _, rfl, rfl, _, _, rfl, by omega, by omega, fun H2 p2 l s2 fr2 hl hall hp2 => ?_⟩
    obtain ⟨t0, ns, z, rfl⟩ : ∃ t0 ns z, l = t0 :: (ns ++ [z]) := by
      cases l with
      | nil =>
        rw [List.length_nil] at hl
        omega
      | cons t0 r =>
        have hr : r ≠ [] := fun e => by
          rw [e, List.length_cons, List.length_nil] at hl
          omega
        exact ⟨t0, r.dropLast, r.getLast hr, by rw [List.dropLast_concat_getLast hr]⟩
    have hl' : ns.length <= 9 := by
      rw [List.length_cons, List.length_append, List.length_singleton] at hl
      omega
    have ht0 := hall t0 (by simp)
    have hns : ∀ x ∈ ns, isName x = true := fun x hx => hall x (by simp [hx])
    have at0 : atI ((t0 :: (ns ++ [z])).map V.str) (0 : Int) = some (.str t0) := atI_nat (j := 0) rfl
    have wt0 := (name_wd ht0).1
    refine ⟨_, rfl, p2, _, _, _, rfl, rfl, SqL.of hp2, at0, by show 2 <= sizeLine; decide, fun p3 hp3 => ?_⟩
    have hp2' : upd H2 p3 (.tup [.str "give", .str t0]) p2 = some (.lst ((t0 :: (ns ++ [z])).map V.str)) := by rw [upd_ne (ne_of_none hp2 hp3)]; exact hp2
    refine ⟨_, rfl, p2, _, _, _, rfl, rfl, SqL.of hp2', at0, _, _, rfl, rfl, ?_, _, _, rfl, ?_⟩
    · have := wt0.len
      show 5 + t0.length <= sizeLine
      omega
    rw [give_tx]
    have s3 : Same H1 (upd H2 p3 (.tup [.str "give", .str t0])) := s2.trans (same_new hp3 _)
    have t3 : Tups H1 (upd H2 p3 (.tup [.str "give", .str t0])) := fun b xs e => s3 _ _ e
    have g3 : Is (upd H2 p3 (.tup [.str "give", .str t0])) (.tup [.str "give", .str t0]) (.ref p3) := .tup upd_same (.cons (.str _) (.cons (.str _) .nil))
    have hls3 := s3 _ _ hls1
    have hla3 := s3 _ _ hla1
    have hlt3 := s3 _ _ hlt1
    have hI3 := hI1.keep t3
    have ia3 := ia.keep t3
    have k3 : KpS (· = ls) H (upd H2 p3 (.tup [.str "give", .str t0])) := k1.trans (.of s3)
    generalize upd H2 p3 (.tup [.str "give", .str t0]) = H3 at *
    refine ⟨_, rfl, by show 0 <= sizeLine; decide, fun pe hpe => ?_⟩
    have s4 : Same H3 (upd H3 pe (.lst [])) := same_new hpe _
    have t4 : Tups H3 (upd H3 pe (.lst [])) := fun b xs e => s4 _ _ e
    have hls4 := s4 _ _ hls3
    have hla4 := s4 _ _ hla3
    have hlt4 := s4 _ _ hlt3
    have hp4 := s4 _ _ hp2'
    have hI4 := hI3.keep t4
    have ia4 := ia3.keep t4
    have g4 := g3.keep t4
    have k4 : KpS (· = ls) H (upd H3 pe (.lst [])) := k3.trans (.of s4)
    have he4 : upd H3 pe (.lst []) pe = some (.lst []) := upd_same
    generalize upd H3 pe (.lst []) = H4 at *
    refine ⟨ls, pe, _, rfl, rfl, SqL.of hls4, SqL.of he4, _, rfl, ?_⟩
    have nal : la ≠ ls := nla.symm
    have ntl : lt ≠ ls := nlt.symm
    suffices rest2 : ∀ (H5 : Hp) (its'' : List (D × List Str)) (ps'' : List Addr) (b : D) (bw : List Str) (vb : V), KpS (· = ls) H H5 -> H5 ls = some (.lst (ps''.reverse.map V.ref)) -> Itms H5 its'' ps'' -> H5 la = some (.lst va) -> IsL H5 (arms.map Arm.dat) va -> H5 lt = some (.lst (arms.map fun a => V.str (tx a.words))) -> H5 p2 = some (.lst ((t0 :: (ns ++ [z])).map V.str)) -> Is H5 b vb -> Good b bw -> bw.length + tw its'' <= tw its' + 2 ->
        (tSeq _ _ : TS) _ [some (.ref ls), some (.int n), some (.int m), some (.int t), some (.ref la), some (.ref lt), some (.int (0 + (i : Int))), some (.ref p2), some vb, some (.str (tx bw))] H5 by
      cases hI4 with
      | nil => exact iteF (rest2 H4 [] [] _ _ _ k4 hls4 .nil hla4 ia4 hlt4 hp4 g4 (good_give ht0) (by show 2 + 0 <= 0 + 2; decide))
      | @cons p v b ws its'' ps'' h1 h2 h3 h4 =>
        have hne : (!((p :: ps'').reverse.map V.ref).isEmpty) = true := by simp
        rw [hne]
        refine iteT ?_
        have e1 : (p :: ps'').reverse.map V.ref = ps''.reverse.map V.ref ++ [.ref p] := by simp
        have e2 : ((p :: ps'').reverse.map V.ref)[((p :: ps'').reverse.map V.ref).length - 1]? = some (.ref p) := by rw [e1]; simp
        have e3 : ((p :: ps'').reverse.map V.ref).dropLast = ps''.reverse.map V.ref := by rw [e1]; simp
        refine ⟨_, rfl, .inl ⟨rfl, _, SqL.of hls4⟩, ls, _, _, rfl, rfl, hls4, e2, ?_⟩
        rw [e3]
        have t5 : Tups H4 (upd H4 ls (.lst (ps''.reverse.map V.ref))) := fun b xs e => by rw [upd_ne (ne_of e hls4 (by intro z; cases z))]; exact e
        have npl : p2 ≠ ls := fun e => by rw [e, hls1] at fr2; cases fr2
        exact ⟨p, _, rfl, SqT.of (t5 _ _ h1), rfl, _, _, rfl, _, _, rfl, rfl, rest2 _ its'' ps'' b ws v (k4.trans (KpS.put rfl)) upd_same (h4.keep t5) (by rw [upd_ne nal]; exact hla4) (ia4.keep t5) (by rw [upd_ne ntl]; exact hlt4) (by rw [upd_ne npl]; exact hp4) (h2.keep t5) h3 (by show ws.length + tw its'' <= (ws.length + 3 + tw its'') + 2; omega)⟩
    intro H5 its'' ps'' b bw vb k5 hls5 hI5 hla5 ia5 hlt5 hp5 hb5 hG htw5
    have GA := good_arm ht0 hns hl' hG
    have lws : (Arm.words ⟨t0, ns, bw, b⟩).length = ns.length + bw.length + 2 := by unfold Arm.words; simp only [List.length_cons, List.length_append]; omega
    have lva := ia5.len
    rw [List.length_map] at lva
    refine ⟨_, rfl, .inl ⟨rfl, _, SqL.of hla5⟩, _, rfl, p2, _, _, _, rfl, rfl, SqL.of hp5, at0, _, rfl, _, rfl, _, rfl, _, rfl, p2, _, rfl, SqL.of hp5, fun p6 hp6 => ?_⟩
    have hm6 : cutV ((t0 :: (ns ++ [z])).map V.str) (some 1) (some (-1)) = ns.map V.str := cut_mid V.str t0 z ns
    refine ⟨p6, _, rfl, .inl ⟨SqL.of upd_same, fun p7 hp7 => ⟨_, rfl, by show 3 <= sizeLine; decide, fun p8 hp8 => ?_⟩⟩⟩
    have o6 : cutV ((t0 :: (ns ++ [z])).map V.str) (some 1) (some (-(1 : Int))) = ns.map V.str := hm6
    rw [o6] at hp7 hp8 ⊢
    have s8 : Same H5 _ := ((same_new (o := .lst (ns.map V.str)) hp6).trans (same_new (o := .tup (ns.map V.str)) hp7)).trans (same_new (o := .tup [.str t0, .ref p7, vb]) hp8)
    have t8 : Tups H5 _ := fun b xs e => s8 _ _ e
    have i8 : upd (upd (upd H5 p6 (.lst (ns.map V.str))) p7 (.tup (ns.map V.str))) p8 (.tup [.str t0, .ref p7, vb]) p8 = some (.tup [.str t0, .ref p7, vb]) := upd_same
    have i7 := (same_new (o := .tup [.str t0, .ref p7, vb]) hp8) _ _ (upd_same (H := upd H5 p6 (.lst (ns.map V.str))) (a := p7) (o := .tup (ns.map V.str)))
    have dat : Is _ (Arm.dat ⟨t0, ns, bw, b⟩) (.ref p8) := .tup i8 (.cons (.str _) (.cons (.tup i7 (IsL.strs ns)) (.cons (hb5.keep t8) .nil)))
    have hls8 := s8 _ _ hls5
    have hla8 := s8 _ _ hla5
    have hlt8 := s8 _ _ hlt5
    have hp28 := s8 _ _ hp5
    have hI8 := hI5.keep t8
    have ia8 := ia5.keep t8
    have k8 : KpS (· = ls) H _ := k5.trans (.of s8)
    clear i8 i7 t8
    generalize upd (upd (upd H5 p6 (.lst (ns.map V.str))) p7 (.tup (ns.map V.str))) p8 (.tup [.str t0, .ref p7, vb]) = H8 at *
    have len20 : arms.length + 1 <= 20 := by omega
    refine ⟨la, va, _, rfl, rfl, hla8, by omega, ?_⟩
    have t9 : Tups H8 (upd H8 la (.lst (va ++ [.ref p8]))) := fun b xs e => by rw [upd_ne (ne_of e hla8 (by intro z; cases z))]; exact e
    have hlp2 : p2 ≠ la := fun e => by rw [e, hla1] at fr2; cases fr2
    have hltp2 : p2 ≠ lt := fun e => by rw [e, hlt1] at fr2; cases fr2
    have hls9 : upd H8 la (.lst (va ++ [.ref p8])) ls = some (.lst (ps''.reverse.map V.ref)) := by rw [upd_ne nla]; exact hls8
    have hlt9 : upd H8 la (.lst (va ++ [.ref p8])) lt = some (.lst (arms.map fun a => V.str (tx a.words))) := by rw [upd_ne nat.symm]; exact hlt8
    have hp29 : upd H8 la (.lst (va ++ [.ref p8])) p2 = some (.lst ((t0 :: (ns ++ [z])).map V.str)) := by rw [upd_ne hlp2]; exact hp28
    have hla9 : upd H8 la (.lst (va ++ [.ref p8])) la = some (.lst (va ++ [.ref p8])) := upd_same
    have ia9 : IsL (upd H8 la (.lst (va ++ [.ref p8]))) ((arms ++ [(⟨t0, ns, bw, b⟩ : Arm)]).map Arm.dat) (va ++ [.ref p8]) := by rw [List.map_append]; exact (ia8.keep t9).app (.cons (dat.keep t9) .nil)
    have hI9 := hI8.keep t9
    have hla0 : H la = none := hla
    have k9 : KpS (· = ls) H (upd H8 la (.lst (va ++ [.ref p8]))) := fun y o n e => by rw [upd_ne (fun z0 => by rw [z0, hla0] at e; cases e)]; exact k8 _ _ n e
    generalize upd H8 la (.lst (va ++ [.ref p8])) = H9 at *
    refine ⟨_, rfl, .inl ⟨rfl, _, SqL.of hlt9⟩, rfl, _, rfl, _, rfl, _, rfl, p2, _, rfl, SqL.of hp29, fun p10 hp10 => ?_⟩
    have hm10 : cutV ((t0 :: (ns ++ [z])).map V.str) none (some (-(1 : Int))) = (t0 :: ns).map V.str := cut_init V.str z (t0 :: ns)
    rw [hm10] at *
    refine ⟨_, rfl, by show 2 <= sizeLine; decide, fun p11 hp11 => ?_⟩
    have n1011 : p10 ≠ p11 := ne_of_none upd_same hp11
    refine ⟨p10, p11, _, _, rfl, rfl, by rw [upd_ne n1011]; exact upd_same, upd_same, ?_, fun p12 hp12 => ?_⟩
    · rw [List.length_map, List.length_cons]
      show _ + 2 <= _
      omega
    have eW : (t0 :: (ns ++ [(":" : Str)])) ++ bw = Arm.words ⟨t0, ns, bw, b⟩ := by unfold Arm.words; simp
    have jt := tx_tail (us := t0 :: (ns ++ [(":" : Str)])) hG.ne
    have jw := wide_tail (us := t0 :: (ns ++ [(":" : Str)])) hG.ne (by rw [eW]; exact GA.word)
    rw [eW] at jt jw
    have twl : bw.length <= 1002 + 260 := by omega
    refine ⟨SP, p12, (t0 :: (ns ++ [(":" : Str)])) ++ [tx bw], rfl, rfl, SqL.of (by rw [upd_same]; simp), by omega, ?_⟩
    rw [jt]
    have s12 : Same H9 _ := ((same_new (o := .lst ((t0 :: ns).map V.str)) hp10).trans (same_new (o := .lst [.str ":", .str (tx bw)]) hp11)).trans (same_new (o := .lst ((t0 :: ns).map V.str ++ [.str ":", .str (tx bw)])) hp12)
    have hlt12 := s12 _ _ hlt9
    refine ⟨lt, _, _, rfl, rfl, hlt12, by rw [List.length_map]; omega, ?_⟩
    have hls12 := s12 _ _ hls9
    have hla12 := s12 _ _ hla9
    have t12 : Tups H9 _ := fun b xs e => s12 _ _ e
    have hI12 := hI9.keep t12
    have ia12 := ia9.keep t12
    have k12 : KpS (· = ls) H _ := k9.trans (.of s12)
    clear t12
    generalize upd (upd (upd H9 p10 (.lst ((t0 :: ns).map V.str))) p11 (.lst [.str ":", .str (tx bw)])) p12 (.lst ((t0 :: ns).map V.str ++ [.str ":", .str (tx bw)])) = H12 at *
    have t13 : Tups H12 (upd H12 lt (.lst ((arms.map fun a => V.str (tx a.words)) ++ [.str (tx (Arm.words ⟨t0, ns, bw, b⟩))]))) := fun b xs e => by rw [upd_ne (ne_of e hlt12 (by intro z; cases z))]; exact e
    refine ⟨its'', ps'', arms ++ [⟨t0, ns, bw, b⟩], va ++ [.ref p8], _, _, _, _, rfl, fun y o n e => ?_, by rw [upd_ne nlt]; exact hls12, hI12.keep t13, by rw [upd_ne nat]; exact hla12, ia12.keep t13, by rw [upd_same, List.map_append]; rfl, by rw [List.length_append, List.length_singleton, hn], fun a ha => ?_, ?_⟩
    · rw [upd_ne (fun z0 => by rw [z0, hlt0] at e; cases e)]
      exact k12 _ _ n e
    · rcases List.mem_append.mp ha with ha | ha
      · exact hg a ha
      · rw [List.mem_singleton.mp ha]
        exact GA
    · rw [List.flatMap_append, List.length_append, List.flatMap_singleton, lws]
      omega
  · rintro σ H1 ⟨its', ps', arms, va, a, b, c, d, rfl, k1, hls1, hI1, hla1, ia, hlt1, hn, hg, hb⟩
    refine ⟨_, rfl, la, _, rfl, .inl ⟨SqL.of hla1, fun p1 hp1 => ?_⟩⟩
    have hlt2 : upd H1 p1 (.tup va) lt = some (.lst (arms.map fun a => V.str (tx a.words))) := by rw [upd_ne (ne_of_none hlt1 hp1)]; exact hlt1
    have wd : ∀ ws ∈ arms.map Arm.words, ws ≠ [] /\ ∀ x ∈ ws, Wd x := fun ws h => by
      obtain ⟨a, ha, rfl⟩ := List.mem_map.mp h
      exact ⟨by unfold Arm.words; simp, (hg a ha).word⟩
    have fm : (arms.map Arm.words).flatten = arms.flatMap Arm.words := by rw [List.flatMap_def]
    have wl := wide_le (arms.map Arm.words) wd
    rw [fm] at wl
    have je := tx_flat (arms.map Arm.words) fun ws h => (wd ws h).1
    rw [fm] at je
    refine ⟨rfl, _, rfl, SP, lt, (arms.map Arm.words).map tx, rfl, rfl, SqL.of (by rw [hlt2, List.map_map, List.map_map]; rfl), by omega, by show 2 <= sizeLine; decide, fun p2 hp2 => ?_⟩
    rw [je] at *
    have t1 := Tups.new (o := .tup va) hp1
    have t2 := Tups.new (o := .tup [.ref p1, .str (tx (arms.flatMap Arm.words))]) hp2
    have s2 : Same H1 _ := (same_new (o := .tup va) hp1).trans (same_new (o := .tup [.ref p1, .str (tx (arms.flatMap Arm.words))]) hp2)
    refine q _ p2 (.ref p1) arms its' ps' (k1.trans (.of s2)) (s2 _ _ hls1) (hI1.keep (t1.trans t2)) upd_same (.tup (t2 _ _ upd_same) (ia.keep (t1.trans t2))) (fun e => ?_) (by omega) hg (by omega)
    rw [e] at hn
    simp at hn
    omega
end
end Rdr
namespace Rdr
open PySem L2 K11 Rd
theorem push_ok {H H6 : Hp} {ls p : Addr} {its : List (D × List Str)} {ps : List Addr} {v : V} {b : D} {ws : List Str} (k : KpS (· = ls) H H6) (hls : H6 ls = some (.lst (ps.reverse.map V.ref))) (hI : Itms H6 its ps) (hp : H6 p = some (.tup [v, .str (tx ws)])) (hb : Is H6 b v) (hG : Good b ws) :
    KpS (· = ls) H (upd H6 ls (.lst (ps.reverse.map V.ref ++ [.ref p]))) /\ upd H6 ls (.lst (ps.reverse.map V.ref ++ [.ref p])) ls = some (.lst ((p :: ps).reverse.map V.ref)) /\ Itms (upd H6 ls (.lst (ps.reverse.map V.ref ++ [.ref p]))) ((b, ws) :: its) (p :: ps) := by
  have t : Tups H6 (upd H6 ls (.lst (ps.reverse.map V.ref ++ [.ref p]))) := fun b xs e => by rw [upd_ne (ne_of e hls (by intro z; cases z))]; exact e
  exact ⟨k.trans (KpS.put rfl), by rw [upd_same]; simp, .cons (t _ _ hp) (hb.keep t) hG (hI.keep t)⟩
theorem pop_ok {H H4 : Hp} {ls p : Addr} {its : List (D × List Str)} {ps : List Addr} (k : KpS (· = ls) H H4) (hls : H4 ls = some (.lst ((p :: ps).reverse.map V.ref))) :
    ((p :: ps).reverse.map V.ref)[((p :: ps).reverse.map V.ref).length - 1]? = some (.ref p) /\ ((p :: ps).reverse.map V.ref).dropLast = ps.reverse.map V.ref /\ Tups H4 (upd H4 ls (.lst (ps.reverse.map V.ref))) /\ KpS (· = ls) H (upd H4 ls (.lst (ps.reverse.map V.ref))) := by
  have e1 : (p :: ps).reverse.map V.ref = ps.reverse.map V.ref ++ [.ref p] := by simp
  exact ⟨by rw [e1]; simp, by rw [e1]; simp, fun b xs e => by rw [upd_ne (ne_of e hls (by intro z; cases z))]; exact e, k.trans (KpS.put rfl)⟩
theorem pieces {xss : List (List Str)} {ws : List Str} (hf : xss.flatten = ws) (h0 : xss.all (fun l => !l.isEmpty) = true) (hw : ∀ y ∈ ws, Wd y) : Str.join SP (xss.map tx) = tx ws /\ wide SP (xss.map tx) <= 34 * ws.length := by
  have h1 : ∀ l ∈ xss, l ≠ [] := fun l hl e => by
    have := List.all_eq_true.mp h0 l hl
    rw [e] at this
    cases this
  have e := tx_flat xss h1
  have b := wide_le xss fun l hl => ⟨h1 l hl, fun y hy => hw y (by rw [<- hf]; exact List.mem_flatten.mpr ⟨l, hl, hy⟩)⟩
  rw [hf] at e b
  exact ⟨e, b⟩
theorem put_end {H H3 : Hp} {ls p4 p5 p6 : Addr} {T L : List V} {its : List (D × List Str)} {ps : List Addr} {b : D} {ws : List Str} (k : KpS (· = ls) H H3) (hls : H3 ls = some (.lst (ps.reverse.map V.ref))) (hI : Itms H3 its ps) (h4 : H3 p4 = none) (h5 : upd H3 p4 (.tup T) p5 = none) (h6 : upd (upd H3 p4 (.tup T)) p5 (.lst L) p6 = none)
    (hb : Is (upd H3 p4 (.tup T)) b (.ref p4)) (hG : Good b ws) : upd (upd (upd H3 p4 (.tup T)) p5 (.lst L)) p6 (.tup [.ref p4, .str (tx ws)]) ls = some (.lst (ps.reverse.map V.ref)) /\
    (KpS (· = ls) H (upd (upd (upd (upd H3 p4 (.tup T)) p5 (.lst L)) p6 (.tup [.ref p4, .str (tx ws)])) ls (.lst (ps.reverse.map V.ref ++ [.ref p6]))) /\ upd (upd (upd (upd H3 p4 (.tup T)) p5 (.lst L)) p6 (.tup [.ref p4, .str (tx ws)])) ls (.lst (ps.reverse.map V.ref ++ [.ref p6])) ls = some (.lst ((p6 :: ps).reverse.map V.ref)) /\
      Itms (upd (upd (upd (upd H3 p4 (.tup T)) p5 (.lst L)) p6 (.tup [.ref p4, .str (tx ws)])) ls (.lst (ps.reverse.map V.ref ++ [.ref p6]))) ((b, ws) :: its) (p6 :: ps)) := by
  have s4 := same_new (o := .tup T) h4
  have s5 := same_new (o := .lst L) h5
  have s6 := same_new (o := .tup [.ref p4, .str (tx ws)]) h6
  have sm := (s4.trans s5).trans s6
  have t : Tups H3 _ := fun b xs e => sm _ _ e
  have t56 : Tups (upd H3 p4 (.tup T)) _ := fun b xs e => (s5.trans s6) _ _ e
  exact ⟨sm _ _ hls, push_ok (p := p6) (v := .ref p4) (k.trans (.of sm)) (sm _ _ hls) (hI.keep t) upd_same (hb.keep t56) hG⟩
def spLPut : Sp := fun vs H Q _ => ∃ (ls : Addr) (c : Int) (its : List (D × List Str)) (ps : List Addr), vs = [.ref ls, .int c] /\ H ls = some (.lst (ps.reverse.map V.ref)) /\ Itms H its ps /\ tw its <= 1000 /\
  ∀ (H' : Hp) (its' : List (D × List Str)) (ps' : List Addr), KpS (· = ls) H H' -> H' ls = some (.lst (ps'.reverse.map V.ref)) -> Itms H' its' ps' -> its' ≠ [] -> tw its' <= tw its + 270 -> Q .non H'
section
variable {P : Program} {w : World} {K : PySem.W.Frag} {mg : Str -> Option Value} {base : Heap} {f : Addr} {fd : FuncData}
theorem scLPut : FnScope ["_law_stack", "_law_cell", "_law_way", "_law_number_here", "_law_x", "_law_arms_here", "_law_text", "_law_body", "_law_deed_here", "_law_words", "_law_other", "_law_more"] ["_law_stack", "_law_cell"] (defScope sLPut) := ⟨rfl, rfl, rfl, by decide +kernel, rfl, by decide +kernel, by decide +kernel⟩
theorem ok_lput (F : Fun K "_law_put" "_law_put" sLPut f fd) (GN : Ca P w K mg base CX0 2 "_law_names" ["_law_cell", "_law_many_here"] spLNames) (GA : Ca P w K mg base CX0 3 "_law_arms" ["_law_stack", "_law_number_here"] spLArms) (GD : Ca P w K mg base CX0 3 "_law_deed" ["_law_cell"] spLDeed) : FnOk P w K mg base CX0 4 f fd ["_law_stack", "_law_cell"] spLPut := by
  refine F.by scLPut (fun vs H Q E h => ?_) (fun cdv A outer s H vs Q E hr h => ?_)
  · obtain ⟨ls, c, its, ps, rfl, _⟩ := h
    rfl
  obtain ⟨ls, c, its, ps, rfl, hls, hI, htw, q⟩ := h
  refine ⟨_, jss_cons (js_set (i := 2) scLPut.nd rfl (Or.inl rfl) (je_op jo_mod (jv 1) je_int)) (jss_cons (js_set (i := 3) scLPut.nd rfl (Or.inl rfl) (je_op jo_fdiv (jv 1) je_int))
    (jss_cons (js_set (i := 4) scLPut.nd rfl (Or.inl rfl) (je_ix jx_list (je_ca GN (hr.mono (by decide)) rfl pass0 (ja_c (jv 1) (ja_c je_int ja_nil))) je_int (fun _ _ => rfl)))
    (jss_cons (js_if (jW.pt (jw_or (jt_cmpR (jo_eqE hr) (jv 0) (je_lst ja_nil) (nomark _)) (jw_or1 (jt_cmpR jo_lt (jv 2) je_int (nomark _)))))
      (jss_cons (js_expr (je_bm PySem.F.plainAttrs_list PySem.F.slot_list_append PySem.F.type_list_append jm_append (jv 0) (ja_c (je_tup (ja_c (je_tup (ja_c je_str (ja_c (jv 4) ja_nil))) (ja_c (je_op jo_add_str je_str (jv 4)) ja_nil))) ja_nil))) (jss_one js_retN)) jss_nil)
    (jss_cons (js_if (jt_cmpR jo_eq (jv 2) je_int (nomark _))
      (jss_cons (js_asg (je_ca GA hr rfl pass0 (ja_c (jv 0) (ja_c (jv 3) ja_nil))) (jg_tup rfl (jgs_cons (jg_name (i := 5) scLPut.nd rfl (Or.inl rfl)) (jgs_cons (jg_name (i := 6) scLPut.nd rfl (Or.inl rfl)) jgs_nil))))
      (jss_cons (js_expr (je_bm PySem.F.plainAttrs_list PySem.F.slot_list_append PySem.F.type_list_append jm_append (jv 0) (ja_c (je_tup (ja_c (je_tup (ja_c je_str (ja_c (jv 4) (ja_c (jv 5) ja_nil)))) (ja_c (je_bm PySem.F.plainAttrs_str PySem.F.slot_str_join PySem.F.type_str_join jm_join je_str (ja_c (je_lst (ja_c je_str (ja_c (jv 4) (ja_c (jv 6) (ja_c je_str ja_nil))))) ja_nil)) ja_nil))) ja_nil))) (jss_one js_retN))) jss_nil)
    (jss_cons (js_asg (je_bm0 PySem.F.plainAttrs_list PySem.F.slot_list_pop PySem.F.type_list_pop jm_pop (jv 0)) (jg_tup rfl (jgs_cons (jg_name (i := 7) scLPut.nd rfl (Or.inl rfl)) (jgs_cons (jg_name (i := 6) scLPut.nd rfl (Or.inl rfl)) jgs_nil))))
    (jss_cons (js_if (jW.pt (jw_or (jt_cmpR jo_lt (jv 2) je_int (nomark _)) (jw_or1 (jt_cmpR (jo_eqE hr) (jv 0) (je_lst ja_nil) (nomark _)))))
      (jss_cons (js_asg (je_ca GD hr rfl pass0 (ja_c (jv 3) ja_nil)) (jg_tup rfl (jgs_cons (jg_name (i := 8) scLPut.nd rfl (Or.inl rfl)) (jgs_cons (jg_name (i := 9) scLPut.nd rfl (Or.inl rfl)) jgs_nil))))
      (jss_cons (js_expr (je_bm PySem.F.plainAttrs_list PySem.F.slot_list_append PySem.F.type_list_append jm_append (jv 0) (ja_c (je_tup (ja_c (je_tup (ja_c je_str (ja_c (jv 4) (ja_c (jv 8) (ja_c (jv 7) ja_nil))))) (ja_c (je_bm PySem.F.plainAttrs_str PySem.F.slot_str_join PySem.F.type_str_join jm_join je_str (ja_c (je_lst (ja_c je_str (ja_c (jv 4) (ja_c (jv 9) (ja_c (jv 6) ja_nil))))) ja_nil)) ja_nil))) ja_nil))) (jss_one js_retN))) jss_nil)
    (jss_cons (js_asg (je_bm0 PySem.F.plainAttrs_list PySem.F.slot_list_pop PySem.F.type_list_pop jm_pop (jv 0)) (jg_tup rfl (jgs_cons (jg_name (i := 10) scLPut.nd rfl (Or.inl rfl)) (jgs_cons (jg_name (i := 11) scLPut.nd rfl (Or.inl rfl)) jgs_nil))))
    (jss_one (js_expr (je_bm PySem.F.plainAttrs_list PySem.F.slot_list_append PySem.F.type_list_append jm_append (jv 0) (ja_c (je_tup (ja_c (je_tup (ja_c je_str (ja_c (jv 4) (ja_c (jv 7) (ja_c (jv 10) ja_nil))))) (ja_c (je_bm PySem.F.plainAttrs_str PySem.F.slot_str_join PySem.F.type_str_join jm_join je_str (ja_c (je_lst (ja_c je_str (ja_c (jv 4) (ja_c (jv 6) (ja_c je_str (ja_c (jv 11) ja_nil)))))) ja_nil)) ja_nil))) ja_nil))))))))))), ?_⟩
  have sl := line
  have cD : ∀ {i j : Int}, 0 < j -> j < 1073741824 -> CDiv i j := fun h1 h2 => ⟨h1, h2⟩
  have nps := hI.len
  have ntw := tw_len its
  refine ⟨_, rfl, _, _, rfl, rfl, (by show (0 : Int) < _; decide), _, rfl, _, _, rfl, rfl, cD (by decide) (by decide), _, rfl, c, 1, rfl, by decide, by decide, fun H1 p1 l s1 fr1 hl hall hp1 => ?_⟩
  match l, hl, hall, hp1 with
  | [x], _, hall, hp1 =>
    have hx := hall x (by simp)
    have wx := (name_wd hx).1
    refine ⟨p1, _, _, _, rfl, rfl, SqL.of hp1, atI_nat (j := 0) rfl, ?_⟩
    have t1 : Tups H H1 := fun b xs e => s1 _ _ e
    have hls1 := s1 _ _ hls
    have hI1 := hI.keep t1
    refine ⟨_, rfl, by show 0 <= sizeLine; decide, fun pe hpe => ?_⟩
    have s2 : Same H (upd H1 pe (.lst [])) := s1.trans (same_new hpe _)
    have hls2 := (same_new (o := .lst []) hpe) _ _ hls1
    have hI2 := hI1.keep (Tups.new (o := .lst []) hpe)
    have he2 : upd H1 pe (.lst []) pe = some (.lst []) := upd_same
    generalize upd H1 pe (.lst []) = H2 at *
    refine ⟨ls, pe, _, rfl, rfl, SqL.of hls2, SqL.of he2, _, rfl, ?_⟩
    have k2 : KpS (· = ls) H H2 := .of s2
    suffices both : ((tSeq _ _ : TS) _ [some (.ref ls), some (.int c), some (.int (c % 7)), some (.int (c / 7)), some (.str x), none, none, none, none, none, none, none] H2) /\ (its ≠ [] -> (tSeq _ _ : TS) _ [some (.ref ls), some (.int c), some (.int (c % 7)), some (.int (c / 7)), some (.str x), none, none, none, none, none, none, none] H2) by
      obtain ⟨gv, rs⟩ := both
      by_cases hi : its = []
      · have e0 : (ps.reverse.map V.ref).isEmpty = true := by
          have : ps = [] := List.length_eq_zero_iff.mp (by rw [<- nps, hi]; rfl)
          rw [this]
          rfl
        rw [e0]
        exact iteT (iteT gv)
      · have e0 : (ps.reverse.map V.ref).isEmpty = false := by
          cases ps with
          | nil => exact absurd (List.length_eq_zero_iff.mp nps) hi
          | cons p ps => simp
        rw [e0]
        refine iteF ⟨_, rfl, _, _, rfl, rfl, _, rfl, ?_⟩
        exact ite2 (fun _ => gv) (fun _ => rs hi)
    constructor
    · have G := good_give hx
      refine ⟨_, rfl, .inl ⟨rfl, _, SqL.of hls2⟩, _, rfl, by show 2 <= sizeLine; decide, fun p3 hp3 => ⟨_, rfl, _, _, rfl, rfl, ?_, by show 2 <= sizeLine; decide, fun p4 hp4 => ?_⟩⟩
      · have := wx.len
        show 5 + x.length <= sizeLine
        omega
      rw [give_tx] at *
      have s4 : Same H2 _ := (same_new (o := .tup [.str "give", .str x]) hp3).trans (same_new (o := .tup [.ref p3, .str (tx ["give", x])]) hp4)
      have t4 : Tups H2 _ := fun b xs e => s4 _ _ e
      have i3 := (same_new (o := .tup [.ref p3, .str (tx ["give", x])]) hp4) _ _ (upd_same (H := H2) (a := p3) (o := .tup [.str "give", .str x]))
      have P := push_ok (p := p4) (v := .ref p3) (b := .tup [.str "give", .str x]) (ws := ["give", x]) (k2.trans (.of s4)) (s4 _ _ hls2) (hI2.keep t4) upd_same (.tup i3 (.cons (.str _) (.cons (.str _) .nil))) G
      refine ⟨ls, _, _, rfl, rfl, s4 _ _ hls2, by rw [List.length_map, List.length_reverse]; omega, ?_⟩
      exact q _ _ _ P.1 P.2.1 P.2.2 (by simp) (by show 2 + 3 + tw its <= _; omega)
    · intro hne
      refine ⟨_, rfl, rfl, _, rfl, ?_⟩
      refine ite2 (fun _ => ?_) (fun _ => ?_)
      · refine ⟨_, rfl, _, rfl, ls, c / 7, its, ps, rfl, hls2, hI2, htw, fun H3 p3 va arms its' ps' k3 hls3 hI3 hp3 iv hn hl20 hg hb => ?_⟩
        refine ⟨p3, _, rfl, SqT.of hp3, rfl, _, _, rfl, _, _, rfl, rfl, ?_⟩
        have G := good_case hx hn hg hl20
        have nps' := hI3.len
        have ntw' := tw_len its'
        have ne : (arms.flatMap Arm.words).isEmpty = false := by
          cases arms with
          | nil => exact absurd rfl hn
          | cons a r => rw [List.flatMap_cons]; unfold Arm.words; simp
        obtain ⟨je, wl⟩ := pieces (xss := [[("case" : Str)], [x], arms.flatMap Arm.words, [("end" : Str)]]) (ws := ("case" : Str) :: x :: (arms.flatMap Arm.words ++ [("end" : Str)])) (by simp) (by simp [ne]) G.word
        have fl : (("case" : Str) :: x :: (arms.flatMap Arm.words ++ [("end" : Str)])).length = (arms.flatMap Arm.words).length + 3 := by simp only [List.length_cons, List.length_append, List.length_nil]
        refine ⟨_, rfl, .inl ⟨rfl, _, SqL.of hls3⟩, _, rfl, _, rfl, by show 3 <= sizeLine; decide, fun p4 hp4 => ⟨rfl, _, rfl, _, rfl, by show 4 <= sizeLine; decide, fun p5 hp5 => ⟨SP, p5, [[("case" : Str)], [x], arms.flatMap Arm.words, [("end" : Str)]].map tx, rfl, rfl, SqL.of upd_same, by omega, by show 2 <= sizeLine; decide, fun p6 hp6 => ?_⟩⟩⟩
        rw [je]
        have t4 := Tups.new (o := .tup [.str "case", .str x, va]) hp4
        obtain ⟨e1, P1, P2, P3⟩ := put_end (k2.trans k3) hls3 hI3 hp4 hp5 hp6 (.tup upd_same (.cons (.str _) (.cons (.str _) (.cons (iv.keep t4) .nil)))) G
        exact ⟨ls, _, _, rfl, rfl, e1, by rw [List.length_map, List.length_reverse]; omega, q _ _ _ P1 P2 P3 (by simp) (by rw [tw, fl]; omega)⟩
      · cases hI2 with
        | nil => exact absurd rfl hne
        | @cons p v b ws its' ps' h1 h2 h3 h4 =>
          obtain ⟨e2, e3, t3, k3⟩ := pop_ok (its := its') k2 hls2
          refine ⟨_, rfl, .inl ⟨rfl, _, SqL.of hls2⟩, ls, _, _, rfl, rfl, hls2, e2, ?_⟩
          rw [e3]
          have hls3 : upd H2 ls (.lst (ps'.reverse.map V.ref)) ls = some (.lst (ps'.reverse.map V.ref)) := upd_same
          replace h1 := t3 _ _ h1
          replace h2 := h2.keep t3
          replace h4 := h4.keep t3
          generalize upd H2 ls (.lst (ps'.reverse.map V.ref)) = H3 at *
          refine ⟨p, _, rfl, SqT.of h1, rfl, _, _, rfl, _, _, rfl, rfl, ?_⟩
          have twe : tw ((b, ws) :: its') = ws.length + 3 + tw its' := rfl
          have nps' := h4.len
          have ntw' := tw_len its'
          have wne : ws.isEmpty = false := by
            cases ws with
            | nil => exact absurd rfl h3.ne
            | cons _ _ => rfl
          suffices both2 : (∀ H4, KpS (· = ls) H H4 -> H4 ls = some (.lst (ps'.reverse.map V.ref)) -> Itms H4 its' ps' -> Is H4 b v -> (tSeq _ _ : TS) _ [some (.ref ls), some (.int c), some (.int (c % 7)), some (.int (c / 7)), some (.str x), none, some (.str (tx ws)), some v, none, none, none, none] H4) /\
              (∀ H4, KpS (· = ls) H H4 -> H4 ls = some (.lst (ps'.reverse.map V.ref)) -> Itms H4 its' ps' -> Is H4 b v -> its' ≠ [] -> (tSeq _ _ : TS) _ [some (.ref ls), some (.int c), some (.int (c % 7)), some (.int (c / 7)), some (.str x), none, some (.str (tx ws)), some v, none, none, none, none] H4) by
            obtain ⟨dv, iv⟩ := both2
            refine ⟨_, rfl, _, _, rfl, rfl, _, rfl, ?_⟩
            refine ite2 (fun _ => iteT (dv H3 k3 hls3 h4 h2)) (fun _ => ?_)
            refine ⟨_, rfl, by show 0 <= sizeLine; decide, fun pe2 hpe2 => ?_⟩
            have s4 : Same H3 (upd H3 pe2 (.lst [])) := same_new hpe2 _
            have t4 : Tups H3 (upd H3 pe2 (.lst [])) := fun b xs e => s4 _ _ e
            refine ⟨ls, pe2, _, rfl, rfl, SqL.of (s4 _ _ hls3), SqL.of upd_same, _, rfl, ?_⟩
            by_cases hi : its' = []
            · have e0 : (ps'.reverse.map V.ref).isEmpty = true := by
                have : ps' = [] := List.length_eq_zero_iff.mp (by rw [<- nps', hi]; rfl)
                rw [this]
                rfl
              rw [e0]
              exact iteT (dv _ (k3.trans (.of s4)) (s4 _ _ hls3) (h4.keep t4) (h2.keep t4))
            · have e0 : (ps'.reverse.map V.ref).isEmpty = false := by
                cases ps' with
                | nil => exact absurd (List.length_eq_zero_iff.mp nps') hi
                | cons p ps => simp
              rw [e0]
              exact iteF (iv _ (k3.trans (.of s4)) (s4 _ _ hls3) (h4.keep t4) (h2.keep t4) hi)
          constructor
          · intro H4 k4 hls4 hI4 hb4
            refine ⟨_, rfl, c / 7, rfl, fun H5 p5 vd dd dw s5 hp5 id' GD' ld => ?_⟩
            have t5 : Tups H4 H5 := fun b xs e => s5 _ _ e
            have hls5 := s5 _ _ hls4
            refine ⟨p5, _, rfl, SqT.of hp5, rfl, _, _, rfl, _, _, rfl, rfl, ?_⟩
            have G := good_let hx GD' h3
            have dne : dw.isEmpty = false := by
              cases dw with
              | nil => exact absurd rfl GD'.ne
              | cons _ _ => rfl
            obtain ⟨je, wl⟩ := pieces (xss := [[("let" : Str)], [x], dw, ws]) (ws := ("let" : Str) :: x :: (dw ++ ws)) (by simp) (by simp [dne, wne]) G.word
            have fl : (("let" : Str) :: x :: (dw ++ ws)).length = dw.length + ws.length + 2 := by simp only [List.length_cons, List.length_append]
            refine ⟨_, rfl, .inl ⟨rfl, _, SqL.of hls5⟩, _, rfl, _, rfl, _, rfl, by show 4 <= sizeLine; decide, fun p6 hp6 => ⟨rfl, _, rfl, _, rfl, _, rfl, by show 4 <= sizeLine; decide, fun p7 hp7 => ⟨SP, p7, [[("let" : Str)], [x], dw, ws].map tx, rfl, rfl, SqL.of upd_same, by omega, by show 2 <= sizeLine; decide, fun p8 hp8 => ?_⟩⟩⟩
            rw [je]
            have t6 := Tups.new (o := .tup [.str "let", .str x, vd, v]) hp6
            obtain ⟨e1, P1, P2, P3⟩ := put_end (k4.trans (.of s5)) hls5 (hI4.keep t5) hp6 hp7 hp8 (.tup upd_same (.cons (.str _) (.cons (.str _) (.cons (id'.keep t6) (.cons ((hb4.keep t5).keep t6) .nil))))) G
            exact ⟨ls, _, _, rfl, rfl, e1, by rw [List.length_map, List.length_reverse]; omega, q _ _ _ P1 P2 P3 (by simp) (by rw [tw, fl]; omega)⟩
          · intro H4 k4 hls4 hI4 hb4 hne4
            cases hI4 with
            | nil => exact absurd rfl hne4
            | @cons p' v' b' ws' its'' ps'' g1 g2 g3 g4 =>
              obtain ⟨e5, e6, t5, k5⟩ := pop_ok (its := its'') k4 hls4
              refine ⟨_, rfl, .inl ⟨rfl, _, SqL.of hls4⟩, ls, _, _, rfl, rfl, hls4, e5, ?_⟩
              rw [e6]
              have hls5 : upd H4 ls (.lst (ps''.reverse.map V.ref)) ls = some (.lst (ps''.reverse.map V.ref)) := upd_same
              replace g1 := t5 _ _ g1
              replace g2 := g2.keep t5
              replace g4 := g4.keep t5
              replace hb4 := hb4.keep t5
              generalize upd H4 ls (.lst (ps''.reverse.map V.ref)) = H5 at *
              refine ⟨p', _, rfl, SqT.of g1, rfl, _, _, rfl, _, _, rfl, rfl, ?_⟩
              have twe2 : tw ((b', ws') :: its'') = ws'.length + 3 + tw its'' := rfl
              have nps'' := g4.len
              have ntw'' := tw_len its''
              have wne' : ws'.isEmpty = false := by
                cases ws' with
                | nil => exact absurd rfl g3.ne
                | cons _ _ => rfl
              have G := good_if hx h3 g3
              obtain ⟨je, wl⟩ := pieces (xss := [[("if" : Str)], [x], ws, [("else" : Str)], ws']) (ws := ("if" : Str) :: x :: (ws ++ ("else" : Str) :: ws')) (by simp) (by simp [wne, wne']) G.word
              have fl : (("if" : Str) :: x :: (ws ++ ("else" : Str) :: ws')).length = ws.length + ws'.length + 3 := by simp only [List.length_cons, List.length_append]; omega
              refine ⟨_, rfl, .inl ⟨rfl, _, SqL.of hls5⟩, _, rfl, _, rfl, _, rfl, by show 4 <= sizeLine; decide, fun p6 hp6 => ⟨rfl, _, rfl, _, rfl, _, rfl, by show 5 <= sizeLine; decide, fun p7 hp7 => ⟨SP, p7, [[("if" : Str)], [x], ws, [("else" : Str)], ws'].map tx, rfl, rfl, SqL.of upd_same, by omega, by show 2 <= sizeLine; decide, fun p8 hp8 => ?_⟩⟩⟩
              rw [je]
              have t6 := Tups.new (o := .tup [.str "if", .str x, v, v']) hp6
              obtain ⟨e1, P1, P2, P3⟩ := put_end k5 hls5 g4 hp6 hp7 hp8 (.tup upd_same (.cons (.str _) (.cons (.str _) (.cons (hb4.keep t6) (.cons (g2.keep t6) .nil))))) G
              exact ⟨ls, _, _, rfl, rfl, e1, by rw [List.length_map, List.length_reverse]; omega, q _ _ _ P1 P2 P3 (by simp) (by rw [tw, fl]; omega)⟩
end
end Rdr
namespace Rdr
open PySem L2 K11 Rd
theorem Itms.app {H : Hp} {a b : List (D × List Str)} {p q : List Addr} (h : Itms H a p) (g : Itms H b q) : Itms H (a ++ b) (p ++ q) := by
  induction h with
  | nil => exact g
  | cons x y z _ ih => exact .cons x y z ih
theorem Itms.rev {H : Hp} {a : List (D × List Str)} {p : List Addr} (h : Itms H a p) : Itms H a.reverse p.reverse := by
  induction h with
  | nil => exact .nil
  | cons x y z _ ih => rw [List.reverse_cons, List.reverse_cons]; exact ih.app (.cons x y z .nil)
theorem Itms.get {H : Hp} {a : List (D × List Str)} {p : List Addr} (h : Itms H a p) : ∀ {i : Nat} {x : Addr}, p[i]? = some x -> ∃ b ws v, a[i]? = some (b, ws) /\ H x = some (.tup [v, .str (tx ws)]) /\ Is H b v /\ Good b ws := by
  induction h with
  | nil => intro i x e; simp at e
  | @cons p v b ws its ps h1 h2 h3 _ ih =>
    intro i x e
    cases i with
    | zero =>
      have e' : p = x := by simpa using e
      subst e'
      exact ⟨b, ws, v, rfl, h1, h2, h3⟩
    | succ i => exact ih (by simpa using e)
theorem tw_app : ∀ a b : List (D × List Str), tw (a ++ b) = tw a + tw b
  | [], b => by rw [List.nil_append, tw]; omega
  | x :: a, b => by rw [List.cons_append, tw, tw, tw_app a b]; omega
theorem tw_rev : ∀ a : List (D × List Str), tw a.reverse = tw a
  | [] => rfl
  | x :: a => by rw [List.reverse_cons, tw_app, tw_rev a, tw, tw, tw]; omega
theorem split_tx {ws : List Str} (h0 : ws ≠ []) (h : ∀ x ∈ ws, Wd x) : Txt.split (tx ws) SP = ws := by
  show Txt.split (Str.join SP ws) SP = ws
  rw [sp_sg]
  exact split_join h0 fun x hx => (h x hx).sp
def spLMany : Sp := fun vs H Q _ => ∃ (ls : Addr) (its : List (D × List Str)) (ps : List Addr), vs = [.ref ls] /\ H ls = some (.lst (ps.reverse.map V.ref)) /\ Itms H its ps /\ tw its <= 2000 /\ ∀ H', Same H H' -> Q (.int (tw its)) H'
def spLTree (K : PySem.W.Frag) : Sp := fun vs H Q _ => ∃ (a : Addr) (ns : List Int), vs = [.ref a] /\ SqL K H a (ns.map V.int) /\ ns.length <= 63 /\ ∀ (H' : Hp) (p : Addr) (v : V) (b : D) (ws : List Str), Same H H' -> H' p = some (.tup [v, .str (tx ws)]) -> Is H' b v -> Good b ws -> ws.length <= 400 -> Q (.ref p) H'
section
variable {P : Program} {w : World} {K : PySem.W.Frag} {mg : Str -> Option Value} {base : Heap} {f : Addr} {fd : FuncData}
theorem scLMany : FnScope ["_law_stack", "_law_many_here", "_law_body", "_law_text"] ["_law_stack"] (defScope sLMany) := ⟨rfl, rfl, rfl, by decide +kernel, rfl, by decide +kernel, by decide +kernel⟩
theorem ok_lmany (F : Fun K "_law_many" "_law_many" sLMany f fd) (mN : mg "len" = none) : FnOk P w K mg base CX0 1 f fd ["_law_stack"] spLMany := by
  refine F.by scLMany (fun vs H Q E h => ?_) (fun cdv A outer s H vs Q E hr h => ?_)
  · obtain ⟨ls, its, ps, rfl, _⟩ := h
    rfl
  obtain ⟨ls, its, ps, rfl, hls, hI, htw, q⟩ := h
  refine ⟨_, jss_cons (js_set (i := 1) scLMany.nd rfl (Or.inl rfl) je_int)
    (jss_cons (js_for PassesOwn.never rfl (ji_list (jv 0)) (jg_tup rfl (jgs_cons (jg_name (i := 2) scLMany.nd rfl (Or.inl rfl)) (jgs_cons (jg_name (i := 3) scLMany.nd rfl (Or.inl rfl)) jgs_nil)))
      (jss_one (js_set (i := 1) scLMany.nd rfl (Or.inl rfl) (je_op jo_add (je_op jo_add (jv 1) je_int) (je_fnB jc_len_seq rfl mN PySem.boot_len (ja_c (je_bm PySem.F.plainAttrs_str PySem.F.slot_str_split PySem.F.type_str_split jm_split (jv 3) (ja_c je_str ja_nil)) ja_nil))))))
    (jss_one (js_ret (jv 1)))), ?_⟩
  have sl := line
  have hR := hI.rev
  refine ⟨_, rfl, ls, rfl, ⟨_, SqL.of hls⟩, for_list (xs := ps.reverse.map V.ref) (fun i σ H' => ∃ a b, σ = [some (.ref ls), some (.int (tw (its.reverse.take i))), a, b] /\ Same H H') ⟨none, none, rfl, Same.refl _⟩ (fun i σ H' _ pv => by obtain ⟨a, b, _, sm⟩ := pv; exact SqL.of (sm _ _ hls)) ?_ ?_⟩
  · rintro i x σ H' hx ⟨a, b, rfl, sm⟩
    rw [List.getElem?_map] at hx
    obtain ⟨p, hp, rfl⟩ := Option.map_eq_some_iff.mp hx
    obtain ⟨bd, ws, v, e1, e2, e3, G⟩ := hR.get hp
    have tl := tx_len G.word
    have wl : ws.length <= tw its := by
      have m := List.mem_of_getElem? e1
      have : ∀ l : List (D × List Str), (bd, ws) ∈ l -> ws.length <= tw l := by
        intro l
        induction l with
        | nil => intro h; cases h
        | cons y l ih =>
          intro h
          rw [tw]
          rcases List.mem_cons.mp h with e | h
          · subst e
            show ws.length <= ws.length + 3 + tw l
            omega
          · have := ih h; omega
      have := this _ m
      rw [tw_rev] at this
      exact this
    refine ⟨p, _, rfl, SqT.of (sm _ _ e2), rfl, _, _, rfl, _, _, rfl, rfl, ?_⟩
    refine ⟨_, rfl, _, _, rfl, rfl, _, rfl, rfl, tx ws, SP, rfl, rfl, by decide, by omega, fun p2 hp2 => ⟨p2, _, rfl, .inl (SqL.of upd_same), _, _, rfl, rfl, some v, some (.str (tx ws)), ?_, sm.trans (same_new hp2 _)⟩⟩
    rw [split_tx G.ne G.word]
    have hi := (List.getElem?_eq_some_iff.mp e1).1
    have et : its.reverse.take (i + 1) = its.reverse.take i ++ [(bd, ws)] := by rw [List.take_succ, e1]; rfl
    rw [et, tw_app, List.length_map]
    show [some (V.ref ls), some (V.int (((tw (its.reverse.take i) : Nat) : Int) + 3 + ((ws.length : Nat) : Int))), some v, some (V.str (tx ws))] = [some (V.ref ls), some (V.int ((tw (its.reverse.take i) + (ws.length + 3 + 0) : Nat) : Int)), some v, some (V.str (tx ws))]
    have : (((tw (its.reverse.take i) : Nat) : Int) + 3 + ((ws.length : Nat) : Int)) = ((tw (its.reverse.take i) + (ws.length + 3 + 0) : Nat) : Int) := by omega
    rw [this]
  · rintro σ H' ⟨a, b, rfl, sm⟩
    have e : its.reverse.take (ps.reverse.map V.ref).length = its.reverse := List.take_of_length_le (by rw [List.length_map, List.length_reverse, List.length_reverse, hI.len]; exact Nat.le_refl _)
    have r := q _ sm
    rw [<- tw_rev, <- e] at r
    exact ⟨_, rfl, r⟩
theorem scLTree : FnScope ["_law_cells", "_law_stack", "_law_many_here", "_law_cell", "_law_body", "_law_text", "_law_other", "_law_more"] ["_law_cells"] (defScope sLTree) := ⟨rfl, rfl, rfl, by decide +kernel, rfl, by decide +kernel, by decide +kernel⟩
theorem x_name : isName "x" = true := by decide +kernel
theorem ok_ltree (F : Fun K "_law_tree" "_law_tree" sLTree f fd) (GP : Ca P w K mg base CX0 4 "_law_put" ["_law_stack", "_law_cell"] spLPut) (GM : Ca P w K mg base CX0 1 "_law_many" ["_law_stack"] spLMany) (mN : mg "len" = none) : FnOk P w K mg base CX0 5 f fd ["_law_cells"] (spLTree K) := by
  refine F.by scLTree (fun vs H Q E h => ?_) (fun cdv A outer s H vs Q E hr h => ?_)
  · obtain ⟨a, ns, rfl, _⟩ := h
    rfl
  obtain ⟨a, ns, rfl, hS, h63, q⟩ := h
  refine ⟨_, jss_cons (js_set (i := 1) scLTree.nd rfl (Or.inl rfl) (je_lst ja_nil)) (jss_cons (js_set (i := 2) scLTree.nd rfl (Or.inl rfl) je_int)
    (jss_cons (js_for PassesOwn.never rfl (ji_list (jv 0)) (jg_name (i := 3) scLTree.nd rfl (Or.inl rfl))
      (jss_one (js_if (jt_cmpR jo_le (jv 2) je_int (nomark _)) (jss_cons (js_expr (je_ca GP hr rfl pass0 (ja_c (jv 1) (ja_c (jv 3) ja_nil)))) (jss_one (js_set (i := 2) scLTree.nd rfl (Or.inl rfl) (je_ca GM (hr.mono (by decide)) rfl pass0 (ja_c (jv 1) ja_nil))))) jss_nil)))
    (jss_cons (js_while PassesOwn.never (jt_cmpR jo_gt (je_fnB jc_len_seq rfl mN PySem.boot_len (ja_c (jv 1) ja_nil)) je_int (nomark _))
      (jss_cons (js_asg (je_bm0 PySem.F.plainAttrs_list PySem.F.slot_list_pop PySem.F.type_list_pop jm_pop (jv 1)) (jg_tup rfl (jgs_cons (jg_name (i := 4) scLTree.nd rfl (Or.inl rfl)) (jgs_cons (jg_name (i := 5) scLTree.nd rfl (Or.inl rfl)) jgs_nil))))
      (jss_cons (js_asg (je_bm0 PySem.F.plainAttrs_list PySem.F.slot_list_pop PySem.F.type_list_pop jm_pop (jv 1)) (jg_tup rfl (jgs_cons (jg_name (i := 6) scLTree.nd rfl (Or.inl rfl)) (jgs_cons (jg_name (i := 7) scLTree.nd rfl (Or.inl rfl)) jgs_nil))))
      (jss_one (js_expr (je_bm PySem.F.plainAttrs_list PySem.F.slot_list_append PySem.F.type_list_append jm_append (jv 1) (ja_c (je_tup (ja_c (je_tup (ja_c je_str (ja_c je_str (ja_c (jv 4) (ja_c (jv 6) ja_nil))))) (ja_c (je_bm PySem.F.plainAttrs_str PySem.F.slot_str_join PySem.F.type_str_join jm_join je_str (ja_c (je_lst (ja_c je_str (ja_c je_str (ja_c (jv 5) (ja_c je_str (ja_c (jv 7) ja_nil)))))) ja_nil)) ja_nil))) ja_nil)))))))
    (jss_cons (js_if (jt_cmpR (jo_eqE hr) (jv 1) (je_lst ja_nil) (nomark _)) (jss_one (js_ret (je_tup (ja_c (je_tup (ja_c je_str (ja_c je_str ja_nil))) (ja_c je_str ja_nil))))) jss_nil)
    (jss_one (js_ret (je_ix jx_list (jv 1) je_int (fun _ _ => rfl)))))))), ?_⟩
  have sl := line
  refine ⟨by show 0 <= sizeLine; decide, fun ls hls => ?_⟩
  have fin : ∀ {H' : Hp}, KpS (· = ls) H H' -> Same H H' := fun k y o e => k _ _ (ne_of_none e hls) e
  refine ⟨_, rfl, a, rfl, ⟨_, (same_new hls _).seq hS⟩, for_list (xs := ns.map V.int) (fun i σ H' => ∃ its ps v, σ = [some (.ref a), some (.ref ls), some (.int (tw its)), v, none, none, none, none] /\ KpS (· = ls) H H' /\ H' ls = some (.lst (ps.reverse.map V.ref)) /\ Itms H' its ps /\ tw its <= 380) ⟨[], [], none, rfl, KpS.new hls, upd_same, .nil, by decide⟩ (fun i σ H' _ pv => by obtain ⟨its, ps, v, _, k, _⟩ := pv; exact (fin k).seq hS) ?_ ?_⟩
  · rintro i x σ H' hx ⟨its, ps, v, rfl, k, hl, hI, ht⟩
    obtain ⟨n, _, rfl⟩ : ∃ n, ns[i]? = some n /\ V.int n = x := by
      rw [List.getElem?_map] at hx
      cases e : ns[i]? with
      | none => rw [e] at hx; cases hx
      | some n => rw [e] at hx; exact ⟨n, rfl, Option.some.inj hx⟩
    refine ⟨_, rfl, _, _, rfl, rfl, _, rfl, ?_⟩
    by_cases c : ((tw its : Nat) : Int) <= 110
    · refine iteD c ?_
      refine ⟨_, rfl, _, rfl, ls, n, its, ps, rfl, hl, hI, by omega, fun H1 its' ps' k1 hl1 hI1 hne ht1 => ?_⟩
      refine ⟨_, rfl, ls, its', ps', rfl, hl1, hI1, by omega, fun H2 s2 => ⟨its', ps', _, rfl, (k.trans k1).trans (.of s2), s2 _ _ hl1, hI1.keep (fun b xs e => s2 _ _ e), by omega⟩⟩
    · exact iteDN c ⟨its, ps, _, rfl, k, hl, hI, ht⟩
  · rintro σ H1 ⟨its, ps, v, rfl, k, hl, hI, ht⟩
    refine ⟨fun m σ H' => ∃ its ps nn v a1 a2 a3 a4, m = its.length /\ σ = [some (.ref a), some (.ref ls), nn, v, a1, a2, a3, a4] /\ KpS (· = ls) H H' /\ H' ls = some (.lst (ps.reverse.map V.ref)) /\ Itms H' its ps /\ tw its <= 380, ⟨_, its, ps, _, _, none, none, none, none, rfl, rfl, k, hl, hI, ht⟩, ?_⟩
    clear k hl hI ht
    rintro m σ H2 ⟨its, ps, nn, v, a1, a2, a3, a4, rfl, rfl, k, hl, hI, ht⟩
    have nps := hI.len
    refine ⟨_, rfl, ls, _, rfl, .inl (SqL.of hl), _, _, rfl, rfl, _, rfl, ?_⟩
    by_cases c : 1 < its.length
    · refine iteD (by rw [List.length_map, List.length_reverse]; omega) ⟨_, fun _ _ h => h, ?_⟩
      cases hI with
      | nil => simp at c
      | @cons p v1 b1 w1 its ps h1 h2 h3 h4 =>
        cases h4 with
        | nil => simp at c
        | @cons p' v2 b2 w2 its ps g1 g2 g3 g4 =>
          obtain ⟨e2, e3, t3, k3⟩ := pop_ok (its := (b2, w2) :: its) k hl
          refine ⟨_, rfl, .inl ⟨rfl, _, SqL.of hl⟩, ls, _, _, rfl, rfl, hl, e2, ?_⟩
          rw [e3]
          have hl3 : upd H2 ls (.lst ((p' :: ps).reverse.map V.ref)) ls = some (.lst ((p' :: ps).reverse.map V.ref)) := upd_same
          replace h1 := t3 _ _ h1
          replace h2 := h2.keep t3
          replace g1 := t3 _ _ g1
          replace g2 := g2.keep t3
          replace g4 := g4.keep t3
          generalize upd H2 ls (.lst ((p' :: ps).reverse.map V.ref)) = H3 at *
          refine ⟨p, _, rfl, SqT.of h1, rfl, _, _, rfl, _, _, rfl, rfl, ?_⟩
          obtain ⟨e5, e6, t5, k5⟩ := pop_ok (its := its) k3 hl3
          refine ⟨_, rfl, .inl ⟨rfl, _, SqL.of hl3⟩, ls, _, _, rfl, rfl, hl3, e5, ?_⟩
          rw [e6]
          have hl5 : upd H3 ls (.lst (ps.reverse.map V.ref)) ls = some (.lst (ps.reverse.map V.ref)) := upd_same
          replace h2 := h2.keep t5
          replace g1 := t5 _ _ g1
          replace g2 := g2.keep t5
          replace g4 := g4.keep t5
          generalize upd H3 ls (.lst (ps.reverse.map V.ref)) = H5 at *
          refine ⟨p', _, rfl, SqT.of g1, rfl, _, _, rfl, _, _, rfl, rfl, ?_⟩
          have twe : tw ((b1, w1) :: (b2, w2) :: its) = w1.length + 3 + (w2.length + 3 + tw its) := rfl
          have ntw := tw_len its
          have n4 := g4.len
          have e1 : w1.isEmpty = false := by
            cases w1 with
            | nil => exact absurd rfl h3.ne
            | cons _ _ => rfl
          have e1' : w2.isEmpty = false := by
            cases w2 with
            | nil => exact absurd rfl g3.ne
            | cons _ _ => rfl
          have G := good_if x_name h3 g3
          obtain ⟨je, wl⟩ := pieces (xss := [[("if" : Str)], [("x" : Str)], w1, [("else" : Str)], w2]) (ws := ("if" : Str) :: "x" :: (w1 ++ ("else" : Str) :: w2)) (by simp) (by simp [e1, e1']) G.word
          have fl : (("if" : Str) :: "x" :: (w1 ++ ("else" : Str) :: w2)).length = w1.length + w2.length + 3 := by simp only [List.length_cons, List.length_append]; omega
          refine ⟨_, rfl, .inl ⟨rfl, _, SqL.of hl5⟩, _, rfl, _, rfl, by show 4 <= sizeLine; decide, fun p6 hp6 => ⟨rfl, _, rfl, _, rfl, by show 5 <= sizeLine; decide, fun p7 hp7 => ⟨SP, p7, [[("if" : Str)], [("x" : Str)], w1, [("else" : Str)], w2].map tx, rfl, rfl, SqL.of upd_same, by omega, by show 2 <= sizeLine; decide, fun p8 hp8 => ?_⟩⟩⟩
          rw [je]
          have t6 := Tups.new (o := .tup [.str "if", .str "x", v1, v2]) hp6
          obtain ⟨f1, P1, P2, P3⟩ := put_end k5 hl5 g4 hp6 hp7 hp8 (.tup upd_same (.cons (.str _) (.cons (.str _) (.cons (h2.keep t6) (.cons (g2.keep t6) .nil))))) G
          exact ⟨ls, _, _, rfl, rfl, f1, by rw [List.length_map, List.length_reverse]; omega, its.length + 1, by simp only [List.length_cons]; omega, _, _, _, _, _, _, _, _, rfl, rfl, P1, P2, P3, by rw [tw, fl]; omega⟩
    · refine iteDN (by rw [List.length_map, List.length_reverse]; omega) ?_
      refine ⟨_, rfl, by show 0 <= sizeLine; decide, fun pe hpe => ?_⟩
      have s3 : Same H2 (upd H2 pe (.lst [])) := same_new hpe _
      have hl3 := s3 _ _ hl
      have hI3 := hI.keep (fun b xs e => s3 _ _ e)
      have k3 : KpS (· = ls) H (upd H2 pe (.lst [])) := k.trans (.of s3)
      have he3 : upd H2 pe (.lst []) pe = some (.lst []) := upd_same
      generalize upd H2 pe (.lst []) = H3 at *
      refine ⟨ls, pe, _, rfl, rfl, SqL.of hl3, SqL.of he3, _, rfl, ?_⟩
      cases hI3 with
      | nil =>
        refine iteT ?_
        refine ⟨by show 2 <= sizeLine; decide, fun p4 hp4 => ⟨by show 2 <= sizeLine; decide, fun p5 hp5 => ?_⟩⟩
        have e : ("give x" : Str) = tx ["give", "x"] := by decide
        have t5 := Tups.new (o := .tup [.ref p4, .str "give x"]) hp5
        exact q _ p5 (.ref p4) _ ["give", "x"] (((fin k3).trans (same_new hp4 _)).trans (same_new hp5 _)) (by rw [upd_same, e]) (.tup (t5 _ _ upd_same) (.cons (.str _) (.cons (.str _) .nil))) (good_give x_name) (by show 2 <= 400; decide)
      | @cons p v1 b1 w1 its ps h1 h2 h3 h4 =>
        cases h4 with
        | cons _ _ _ _ => simp only [List.length_cons] at c; omega
        | nil =>
          refine iteF ?_
          have twe : tw [(b1, w1)] = w1.length + 3 + 0 := rfl
          exact ⟨_, rfl, ls, _, _, _, rfl, rfl, SqL.of hl3, atI_nat (j := 0) rfl, q _ p v1 b1 w1 (fin k3) h1 h2 h3 (by omega)⟩
end
end Rdr
namespace Rdr
open PySem L2 K11 Rd
section
variable {P : Program} {w : World} {K : PySem.W.Frag} {mg : Str -> Option Value} {base : Heap} {f : Addr} {fd : FuncData}
end
end Rdr
namespace Rdr
open PySem L2 K11 Rd
theorem passF {P : Program} {w : World} {X : Cx} : Passes (CXf P w) X (fun _ _ _ => False) := fun _ _ _ _ _ _ _ h => by
  obtain ⟨_, _, _, _, _, _, _, _, _, _, _, _, _, h⟩ := h
  exact h.elim
theorem def_rd {g : Str} {ns r2 : List Str} {n : Nat} {o2 : Option (D × List Str)} {o : Option D} (ho : o = match o2 with
    | some (d, []) => some (.tup [.str g, Rd.«strs» ns, d])
    | _ => none) (hg : isName g = true) (hn : ∀ x ∈ ns, isName x = true) (hl : ns.length <= 9) (hR : Runs LX n ⟨[], none, r2⟩ o2) : DefRd (g :: (ns ++ ("=" : Str) :: r2)) o := by
  unfold DefRd
  rw [name_ok (L := LX) hg]
  dsimp only [Option.bind_some]
  rw [until_ok (L := LX) (stop := "=") (lex_ok.kept "=" (by decide)) (acc := []) hn (by simpa using hl), List.nil_append]
  exact ⟨n, o2, hR, ho⟩
theorem def_ok {g : Str} {ns ws : List Str} {b : D} (hg : isName g = true) (hn : ∀ x ∈ ns, isName x = true) (hl : ns.length <= 9) (hG : Good b ws) : DefRd (g :: (ns ++ ("=" : Str) :: ws)) (some (.tup [.str g, Rd.«strs» ns, b])) := by
  obtain ⟨n, hR⟩ := hG.body.runs []
  rw [List.append_nil] at hR
  exact def_rd rfl hg hn hl hR
theorem tx_cons_ne {x : Str} {r : List Str} (h : x ≠ ("" : Str)) : tx (x :: r) ≠ ("" : Str) := fun e => by
  have e' := congrArg cl e
  have c0 : cl ("" : Str) = [] := by decide
  rw [c0] at e'
  apply h
  apply str_ext
  rw [c0]
  cases r with
  | nil => exact e'
  | cons y r =>
    have e2 : cl (Str.join SP (x :: y :: r)) = [] := e'
    rw [cl_join_cons] at e2
    exact (List.append_eq_nil_iff.mp e2).1
section
variable {P : Program} {w : World} {K : PySem.W.Frag} {mg : Str -> Option Value} {base : Heap} {f : Addr} {fd : FuncData}
end
end Rdr
namespace L2
open PySem PySem.Spec PyProof.Rows
def Itv (K : PySem.W.Frag) (a : Addr) (n : Nat) : It :=
  ⟨fun i H => i < n /\ ∃ xs x, SqL K H a xs /\ xs[n - 1 - i]? = some x, fun i H x H' => H' = H /\ ∀ xs, SqL K H a xs -> xs[n - 1 - i]? = some x, fun i _ => n <= i⟩
theorem turn_rev {P : Program} {w : World} {K : PySem.W.Frag} {tg : Expr} (a it : Addr) (n : Nat) : Turn P w K tg (Itv K a n) [it] it (fun i h => i <= n /\ h.IsRevIter it a ((n : Int) - 1 - (i : Nat))) where
  mem := by simp
  obj := fun i h st b hb => by
    have e : b = it := by simpa using hb
    subst e
    obtain ⟨_, o, e, c, d⟩ := st
    exact ⟨o, e, fun v z => by rw [d] at z; cases z⟩
  keep := fun i h h' st k => ⟨st.1, st.2.at fun o e => k it (by simp) o e⟩
  item := by
    intro X hP hw hK hc i pins s σ H E I hf st hg
    subst hP hw hK
    obtain ⟨hi, xs, x, hq, hx⟩ := hg
    obtain ⟨its, rv, p, hz⟩ := I.list hq
    obtain ⟨u, hu, ru⟩ := rv.get hx
    obtain ⟨f0, f1, f2, f3, f4, f5⟩ := hf it (by simp)
    obtain ⟨_, st2⟩ := st
    have e1 : (n : Int) - 1 - (i : Nat) = ((n - 1 - i : Nat) : Int) := by omega
    rw [e1] at st2
    refine wpAny_pyNext_rev_item st2 p.isList (x := u) (by simpa using hu) fun h' st' sb => ?_
    have I1 : Inv X pins σ H { s with heap := h' } := I.turned (t' := s.toks) (fun b o hb e => (sb.2 b hb).trans e) f0 f1 f3 f4 f5
    obtain ⟨o, e, c, d⟩ := id st'
    refine ⟨u, rfl, go_of (s := { s with heap := h' }) e c d (by decide) ⟨x, H, I1, ru, ⟨rfl, fun ys hy => by rw [I.list_inj hy hq]; exact hx⟩, ⟨hi, ?_⟩, fun b hb => (hf b hb).1⟩⟩
    have e2 : (n : Int) - 1 - ((i + 1 : Nat) : Int) = ((n - 1 - i : Nat) : Int) - 1 := by omega
    rw [e2]
    exact st'
  done := by
    intro X hP hw hK hc i pins s σ H E I hf st hg
    subst hP hw hK
    obtain ⟨f0, f1, f2, f3, f4, f5⟩ := hf it (by simp)
    obtain ⟨h1, st2⟩ := st
    have h2 : n <= i := hg
    have e1 : (n : Int) - 1 - (i : Nat) = -1 := by omega
    rw [e1] at st2
    exact wpAny_pyNext_rev_end (I.ok.hd hc) st2 fun h' eb => ⟨rfl, I.turned (t' := s.toks) (fun b o hb e => eb b o hb e) f0 f1 f3 f4 f5⟩
  self := fun _ _ _ _ _ st h => wpAny_pyIter_revIter st.2 h
section
variable {X : Cx} {tg : Expr}
def iRev (K : PySem.W.Frag) (ta : TA) : TI := fun σ H R => ta σ H fun vs H1 => ∃ a xs, vs = [.ref a] /\ SqL K H1 a xs /\ R (Itv K a xs.length) H1
theorem pi_rev {a : Expr} {ta : TA} {p pos : Pos} (hg : Gl X "reversed") (hm : X.mg "reversed" = none) (ha : PA X [a] ta) (hs : starEach [a] X.env = [(false, eval a X.env)] := by rfl) : PI X tg (.Call (.Name "reversed" p) [a] [] pos) (iRev X.K ta) := by
  intro pins s σ H R I h
  refine Call_ (ld_blt I hg hm boot_reversed (PyProof.Rows.callWith_type1 (thn (ha pos pins s σ H _ I h) fun us s1 ⟨vs, H1, I1, r1, q1⟩ => ?_) hs rfl))
  obtain ⟨l, xs, e, hq, q⟩ := q1
  subst e
  obtain ⟨u, rfl, rx⟩ := vals1 r1
  cases rx
  obtain ⟨its, rv, pl, hz⟩ := I1.list hq
  have hl := rv.length
  refine call_reversed_list pl.isList ?_
  have hr : (s1.heap.push (revObj l ((its.toArray.size : Int) - 1))).IsRevIter s1.heap.objs.size l ((its.toArray.size : Int) - 1) := ⟨_, Heap.get?_push_size _ rfl, rfl, rfl⟩
  refine wpAny_pyIter_revIter (s := { s1 with heap := s1.heap.push (revObj l ((its.toArray.size : Int) - 1)) }) hr ?_
  refine ⟨s1.heap.objs.size, [s1.heap.objs.size], _, _, H1, rfl, I1.kept (t' := s1.toks) fun b o e => Heap.get?_push_of_some _ e, turn_rev l _ xs.length, ⟨Nat.zero_le _, ?_⟩, fun b hb => ?_, q⟩
  · have e : (xs.length : Int) - 1 - ((0 : Nat) : Int) = (its.toArray.size : Int) - 1 := by simp [hl]
    rw [e]
    exact hr
  have e : b = s1.heap.objs.size := by simpa using hb
  subst e
  exact I1.fpOk (Nat.le_refl _) (I1.hok.fresh (Nat.le_refl _))
theorem ji_rev {a : Expr} {t : TA} {p pos : Pos} (hg : Gl X "reversed") (hm : X.mg "reversed" = none) (ha : jA X [a] t) (h : isStar a = false := by rfl) : jI X tg (.Call (.Name "reversed" p) [a] [] pos) (iRev X.K t) := ⟨pi_rev hg hm ha.out (star_cons h)⟩
end
theorem for_rev {K : PySem.W.Frag} {a : Addr} {xs : List V} {g : TG} {tb : TS} {D : Ends} {σ : St} {H : Hp} (Pv : Nat -> St -> Hp -> Prop) (h0 : Pv 0 σ H) (hl : ∀ i σ H, i <= xs.length -> Pv i σ H -> SqL K H a xs)
    (hs : ∀ i x σ H, xs.reverse[i]? = some x -> Pv i σ H -> g x σ H fun σ2 H2 => tb { D with nx := Pv (i + 1), ct := Pv (i + 1), bk := D.nx } σ2 H2) (hd : ∀ σ H, Pv xs.length σ H -> D.nx σ H) :
    ∃ W : Nat -> Nat -> St -> Hp -> Prop, (∃ m, W 0 m σ H) /\ ∀ i m σ H, W i m σ H ->
      ((Itv K a xs.length).stop i H /\ D.nx σ H) \/ ((Itv K a xs.length).go i H /\ ∃ N : St -> Hp -> Prop, (∀ σ' H', N σ' H' -> ∃ m', m' < m /\ W (i + 1) m' σ' H') /\ ∀ x H', (Itv K a xs.length).yld i H x H' -> g x σ H' fun σ2 H2 => tb { D with nx := N, ct := N, bk := D.nx } σ2 H2) := by
  refine ⟨fun i m σ H => m = xs.length - i /\ i <= xs.length /\ Pv i σ H, ⟨xs.length, by simp, Nat.zero_le _, h0⟩, ?_⟩
  rintro i m σ H ⟨rfl, hi, p⟩
  have q := hl i σ H hi p
  by_cases hlt : i < xs.length
  · refine .inr ⟨⟨hlt, xs, xs[xs.length - 1 - i], q, by rw [List.getElem?_eq_getElem]⟩, Pv (i + 1), fun σ' H' p' => ⟨xs.length - (i + 1), by omega, rfl, hlt, p'⟩, fun x H' y => ?_⟩
    obtain ⟨e, y⟩ := y
    subst e
    refine hs i x σ _ ?_ p
    rw [List.getElem?_reverse hlt]
    exact y xs q
  · have e : i = xs.length := by omega
    subst e
    exact .inl ⟨Nat.le_refl _, hd σ H p⟩
section
variable {g : TG} {tt : TT} {te : TE} {Q : VK} {σ : St} {H : Hp}
theorem lc_tup {K : PySem.W.Frag} {a : Addr} {xs : List V} (Pv : Nat -> St -> List V -> Hp -> Prop) (h0 : Pv 0 σ [] H) (hl : ∀ i τ ys H, i <= xs.length -> Pv i τ ys H -> SqT K H a xs)
    (hs : ∀ i x τ ys H, xs[i]? = some x -> Pv i τ ys H -> g x τ H fun τ2 H2 => tt τ2 H2 fun b H3 => if b = true then te τ2 H3 fun y H4 => ys.length < sizeLine /\ Pv (i + 1) τ2 (ys ++ [y]) H4 else Pv (i + 1) τ2 ys H3)
    (hd : ∀ τ ys H, Pv xs.length τ ys H -> ∀ p, H p = none -> Q (.ref p) (upd H p (.lst ys))) : ∃ W, (∃ m, W 0 m σ [] H) /\ lcBy (Itt K a) g tt te Q W := by
  refine ⟨fun i m τ ys H => m = xs.length - i /\ i <= xs.length /\ Pv i τ ys H, ⟨xs.length, by simp, Nat.zero_le _, h0⟩, ?_⟩
  rintro i m τ ys H ⟨rfl, hi, p⟩
  have q := hl i τ ys H hi p
  by_cases hlt : i < xs.length
  · refine .inr ⟨⟨xs, xs[i], q, by simp [hlt]⟩, Pv (i + 1), fun τ' ys' H' p' => ⟨xs.length - (i + 1), by omega, rfl, hlt, p'⟩, fun x H' y => ?_⟩
    obtain ⟨e, y⟩ := y
    subst e
    exact hs i x τ ys _ (y xs q) p
  · have e : i = xs.length := by omega
    subst e
    exact .inl ⟨⟨xs, q, Nat.le_refl _⟩, hd τ ys H p⟩
end
theorem old {H : Hp} {p q : Addr} {o u : HO} (hp : H p = none) (h : H q = some u) : upd H p o q = some u := by rw [upd_ne (ne_of_none h hp)]; exact h
theorem Same.new {H H1 : Hp} {p : Addr} {o : HO} (s : Same H H1) (hp : H1 p = none) : Same H (upd H1 p o) := fun b u q => old hp (s b u q)
theorem Same.put {H H1 : Hp} {p : Addr} {o : HO} (s : Same H H1) (hp : H p = none) : Same H (upd H1 p o) := fun b u q => by rw [upd_ne (ne_of_none q hp)]; exact s b u q
end L2
namespace Rdr
open PySem L2 K11 Rd
theorem IsL.strsE {H : Hp} : ∀ {l : List Str} {vs : List V}, IsL H (l.map D.str) vs -> vs = l.map V.str
  | [], _, h => by cases h; rfl
  | x :: l, _, h => by
    rw [List.map_cons] at h
    cases h with
    | cons a b =>
      cases a
      rw [IsL.strsE b]
      rfl
theorem IsL.get {H : Hp} : ∀ {ds : List D} {vs : List V} {i : Nat} {v : V}, IsL H ds vs -> vs[i]? = some v -> ∃ d, ds[i]? = some d /\ Is H d v
  | _, _, _, _, .nil, e => by simp at e
  | _, _, 0, _, .cons a _, e => by
    simp at e
    subst e
    exact ⟨_, rfl, a⟩
  | _, _, i + 1, _, .cons _ b, e => by
    obtain ⟨d, h1, h2⟩ := IsL.get (i := i) b (by simpa using e)
    exact ⟨d, by simpa using h1, h2⟩
inductive Pd where
  | w (x : Str)
  | b (d : D) (ws : List Str)
def Pd.ws : Pd -> List Str
  | .w x => [x]
  | .b _ ws => ws
def Pd.wt : Pd -> Nat
  | .w _ => 1
  | .b _ ws => 2 * ws.length
def wts (l : List Pd) : Nat := (l.map Pd.wt).sum
def wss (l : List Pd) : List Str := l.flatMap Pd.ws
inductive IsP (H : Hp) : Pd -> V -> Prop
  | w (x : Str) : IsP H (.w x) (.str x)
  | b {d : D} {ws : List Str} {v : V} : Is H d v -> Wr d ws -> IsP H (.b d ws) v
inductive IsPs (H : Hp) : List Pd -> List V -> Prop
  | nil : IsPs H [] []
  | cons {p : Pd} {v : V} {ps : List Pd} {vs : List V} : IsP H p v -> IsPs H ps vs -> IsPs H (p :: ps) (v :: vs)
theorem IsP.keep {H H' : Hp} (t : Tups H H') {p : Pd} {v : V} (h : IsP H p v) : IsP H' p v := by
  cases h with
  | w x => exact .w x
  | b i w => exact .b (i.keep t) w
theorem IsPs.keep {H H' : Hp} (t : Tups H H') {ps : List Pd} {vs : List V} (h : IsPs H ps vs) : IsPs H' ps vs := by
  induction h with
  | nil => exact .nil
  | cons a _ ih => exact .cons (a.keep t) ih
theorem IsPs.app {H : Hp} {a b : List Pd} {u v : List V} (h : IsPs H a u) (g : IsPs H b v) : IsPs H (a ++ b) (u ++ v) := by
  induction h with
  | nil => exact g
  | cons x _ ih => exact .cons x ih
theorem IsPs.rev {H : Hp} {a : List Pd} {u : List V} (h : IsPs H a u) : IsPs H a.reverse u.reverse := by
  induction h with
  | nil => exact .nil
  | cons x _ ih => rw [List.reverse_cons, List.reverse_cons]; exact ih.app (.cons x .nil)
theorem IsPs.len {H : Hp} {a : List Pd} {u : List V} (h : IsPs H a u) : a.length = u.length := by
  induction h with
  | nil => rfl
  | cons _ _ ih => rw [List.length_cons, List.length_cons, ih]
theorem IsPs.strs {H : Hp} : ∀ l : List Str, IsPs H (l.map Pd.w) (l.map V.str)
  | [] => .nil
  | x :: l => .cons (.w x) (IsPs.strs l)
theorem wss_strs : ∀ l : List Str, wss (l.map Pd.w) = l
  | [] => rfl
  | x :: l => by
    have e := wss_strs l
    unfold wss at e ⊢
    rw [List.map_cons, List.flatMap_cons, e]
    rfl
theorem wts_strs : ∀ l : List Str, wts (l.map Pd.w) = l.length
  | [] => rfl
  | x :: l => by
    have e := wts_strs l
    unfold wts at e ⊢
    rw [List.map_cons, List.map_cons, List.sum_cons, e, List.length_cons]
    show 1 + _ = _
    omega
theorem wss_app (a b : List Pd) : wss (a ++ b) = wss a ++ wss b := List.flatMap_append
theorem wts_app (a b : List Pd) : wts (a ++ b) = wts a + wts b := by unfold wts; rw [List.map_append, List.sum_append]
theorem wss_cons (a : Pd) (b : List Pd) : wss (a :: b) = a.ws ++ wss b := List.flatMap_cons
theorem wts_cons (a : Pd) (b : List Pd) : wts (a :: b) = a.wt + wts b := by unfold wts; rw [List.map_cons, List.sum_cons]
theorem wts_le : ∀ l : List Pd, l.length <= 2 * (wss l).length + l.length /\ wts l <= 2 * (wss l).length
  | [] => ⟨Nat.zero_le _, Nat.le_refl _⟩
  | p :: l => by
    obtain ⟨_, h⟩ := wts_le l
    rw [wss_cons, wts_cons, List.length_append]
    refine ⟨Nat.le_add_left _ _, ?_⟩
    cases p with
    | w x =>
      show 1 + _ <= 2 * (1 + _)
      omega
    | b d ws =>
      show 2 * ws.length + _ <= 2 * (ws.length + _)
      omega
theorem Tups.put {H H' : Hp} (t : Tups H H') {p : Addr} {xs : List V} (h : H' p = some (.lst xs)) (o : HO) : Tups H (upd H' p o) := fun z ys hz => by rw [upd_ne (ne_of (t _ _ hz) h (by intro z; cases z))]; exact t _ _ hz
theorem Tups.of {H H' : Hp} (s : Same H H') : Tups H H' := fun p xs h => s p _ h
def armP (a : Arm) : List Pd := .w a.tag :: (a.names.map Pd.w ++ [.w ":", .b a.b a.bw])
theorem armP_ws (a : Arm) : wss (armP a) = a.words := by
  unfold armP Arm.words
  rw [wss_cons, wss_app, wss_strs, wss_cons, wss_cons]
  show a.tag :: (a.names ++ ((":" : Str) :: (a.bw ++ []))) = _
  rw [List.append_nil]
theorem armsP_ws (l : List Arm) : wss (l.flatMap armP) = l.flatMap Arm.words := by
  induction l with
  | nil => rfl
  | cons a l ih => rw [List.flatMap_cons, List.flatMap_cons, wss_app, ih, armP_ws]
theorem armsP_len : ∀ l : List Arm, (∀ a ∈ l, a.names.length <= 9) -> (l.flatMap armP).length <= 12 * l.length
  | [], _ => Nat.le_refl _
  | a :: l, h => by
    have h1 := h a List.mem_cons_self
    have h2 := armsP_len l fun x hx => h x (List.mem_cons_of_mem _ hx)
    rw [List.flatMap_cons, List.length_append, List.length_cons]
    have h3 : (armP a).length = a.names.length + 3 := by
      unfold armP
      simp only [List.length_cons, List.length_append, List.length_map, List.length_nil]
    omega
def spDeedW : Sp := fun vs H Q _ => ∃ (d : D) (v : V) (ws : List Str), vs = [v] /\ Is H d v /\ DWr d ws /\ ∀ (H' : Hp) (p : Addr), Same H H' -> H' p = some (.lst (ws.map V.str)) -> Q (.ref p) H'
def spCaseW : Sp := fun vs H Q _ => ∃ (x : Str) (arms : List Arm) (v : V), vs = [v] /\ Is H (.tup [.str "case", .str x, .tup (arms.map Arm.dat)]) v /\ arms.length <= 20 /\ (∀ a ∈ arms, a.names.length <= 9) /\ (∀ a ∈ arms, Wr a.b a.bw) /\
  ∀ (H' : Hp) (p : Addr) (us : List V), Same H H' -> H p = none -> H' p = some (.lst us) -> IsPs H' (.w "case" :: .w x :: (arms.flatMap armP ++ [.w "end"])) us -> Q (.ref p) H'
def spWritten : Sp := fun vs H Q _ => ∃ (d : D) (v : V) (ws : List Str), vs = [v] /\ Is H d v /\ Wr d ws /\ ∀ (H' : Hp) (p : Addr) (its : List Pd) (us : List V), Same H H' -> H p = none -> H' p = some (.lst us) -> IsPs H' its us -> wss its = ws -> wts its < 2 * ws.length -> Q (.ref p) H'
section
variable {P : Program} {w : World} {K : PySem.W.Frag} {mg : Str -> Option Value} {base : Heap} {f : Addr} {fd : FuncData}
theorem scDeedW : FnScope ["deed"] ["deed"] (defScope sDeedW) := ⟨rfl, rfl, rfl, by decide +kernel, rfl, by decide +kernel, by decide +kernel⟩
theorem ok_deedw (F : Fun K "deed_words" "deed_words" sDeedW f fd) (m_str : mg "str" = none) (m_list : mg "list" = none) : FnOk P w K mg base CX0 1 f fd ["deed"] spDeedW := by
  refine F.by scDeedW (fun vs H Q E h => ?_) (fun cdv A outer s H vs Q E hr h => ?_)
  · obtain ⟨d, v, ws, rfl, _⟩ := h
    rfl
  obtain ⟨d, v, ws, rfl, hI, hW, q⟩ := h
  refine ⟨_,
    (jss_cons (js_if (jt_cmpR jo_eq (je_ix jx_tup (jv 0) je_int (fun _ _ => rfl)) je_str (nomark _))
      (jss_one (js_ret (je_lst (ja_c je_str (ja_c (je_fnTy jc_str_int rfl m_str PyProof.Rows.boot_str (ja_c (je_ix jx_tup (jv 0) je_int (fun _ _ => rfl)) ja_nil)) ja_nil))))) jss_nil)
    (jss_cons (js_if (jt_cmpR jo_eq (je_ix jx_tup (jv 0) je_int (fun _ _ => rfl)) je_str (nomark _))
      (jss_one (js_ret (je_fnTy jc_list_of rfl m_list PyProof.Rows.boot_list (ja_c (je_slice jl_tup (jv 0) (jo_some je_int) jo_none) ja_nil)))) jss_nil)
    (jss_one (js_ret (je_op jo_cat (je_op jo_cat (je_lst (ja_c (je_ix jx_tup (jv 0) je_int (fun _ _ => rfl)) (ja_c (je_ix jx_tup (jv 0) je_int (fun _ _ => rfl)) ja_nil))) (je_fnTy jc_list_of rfl m_list PyProof.Rows.boot_list (ja_c (je_ix jx_tup (jv 0) je_int (fun _ _ => rfl)) ja_nil))) (je_lst (ja_c je_str ja_nil))))))), ?_⟩
  have sl := line
  cases hW with
  | @num n hn =>
    cases hI with
    | tup hp hl =>
      cases hl with
      | cons a1 hl =>
        cases hl with
        | cons a2 hl =>
          cases hl; cases a1; cases a2
          refine ⟨_, rfl, _, _, _, _, rfl, rfl, SqT.of hp, rfl, rfl, _, rfl, iteS rfl ?_⟩
          exact ⟨_, rfl, _, _, _, _, rfl, rfl, SqT.of hp, rfl, _, rfl, log_lt hn, by show 2 <= sizeLine; decide, fun p hp => q _ _ (same_new hp _) upd_same⟩
  | @op o a b =>
    cases hI with
    | tup hp hl =>
      cases hl with
      | cons a1 hl =>
        cases hl with
        | cons a2 hl =>
          cases hl with
          | cons a3 hl =>
            cases hl with
            | cons a4 hl =>
              cases hl; cases a1; cases a2; cases a3; cases a4
              refine ⟨_, rfl, _, _, _, _, rfl, rfl, SqT.of hp, rfl, rfl, _, rfl, iteSN (by decide) ?_⟩
              refine ⟨_, rfl, _, _, _, _, rfl, rfl, SqT.of hp, rfl, rfl, _, rfl, iteS rfl ?_⟩
              refine ⟨_, rfl, _, rfl, _, _, rfl, SqT.of hp, (by rintro ⟨z, _⟩; exact absurd z (by show ¬ (min 1 4 = 0); decide)), fun p1 h1 => ?_⟩
              exact ⟨_, _, rfl, .inr (SqT.of upd_same), fun p2 h2 => q _ _ ((same_new h1 _).new h2) upd_same⟩
  | @names o g ns ho hl9 =>
    cases hI with
    | tup hp hl =>
      cases hl with
      | cons a1 hl =>
        cases hl with
        | cons a2 hl =>
          cases hl with
          | cons a3 hl =>
            cases hl; cases a1; cases a2
            unfold Rd.«strs» at a3
            cases a3 with
            | tup hn hs =>
              have e := IsL.strsE hs
              subst e
              have n1 : o ≠ "num" := by rintro rfl; revert ho; decide
              have n2 : o ≠ "op" := by rintro rfl; revert ho; decide
              refine ⟨_, rfl, _, _, _, _, rfl, rfl, SqT.of hp, rfl, rfl, _, rfl, iteSN n1 ?_⟩
              refine ⟨_, rfl, _, _, _, _, rfl, rfl, SqT.of hp, rfl, rfl, _, rfl, iteSN n2 ?_⟩
              refine ⟨_, rfl, _, _, _, _, rfl, rfl, SqT.of hp, rfl, _, rfl, _, _, _, _, rfl, rfl, SqT.of hp, rfl, by show 2 <= sizeLine; decide, fun p1 h1 => ?_⟩
              refine ⟨_, rfl, _, _, _, _, rfl, rfl, SqT.of (old h1 hp), rfl, _, _, rfl, .inr (SqT.of (old h1 hn)), fun p2 h2 => ?_⟩
              refine ⟨_, _, _, _, rfl, rfl, old h2 upd_same, upd_same, by simp; omega, fun p3 h3 => ?_⟩
              refine ⟨by show 1 <= sizeLine; decide, fun p4 h4 => ?_⟩
              refine ⟨_, _, _, _, rfl, rfl, old h4 upd_same, upd_same, by simp; omega, fun p5 h5 => ?_⟩
              refine q _ _ (((((same_new h1 _).new h2).new h3).new h4).new h5) ?_
              rw [upd_same]
              simp
theorem scCaseW : FnScope ["body", "words", "tag", "names", "within"] ["body"] (defScope sCaseW) := ⟨rfl, rfl, rfl, by decide +kernel, rfl, by decide +kernel, by decide +kernel⟩
theorem ok_casew (F : Fun K "case_words" "case_words" sCaseW f fd) (m_list : mg "list" = none) : FnOk P w K mg base CX0 1 f fd ["body"] spCaseW := by
  refine F.by scCaseW (fun vs H Q E h => ?_) (fun cdv A outer s H vs Q E hr h => ?_)
  · obtain ⟨x, arms, v, rfl, _⟩ := h
    rfl
  obtain ⟨x, arms, v, rfl, hI, h20, h9, hW, q⟩ := h
  refine ⟨_,
    (jss_cons (js_set (i := 1) scCaseW.nd rfl (Or.inl rfl) (je_lst (ja_c je_str (ja_c (je_ix jx_tup (jv 0) je_int (fun _ _ => rfl)) ja_nil))))
    (jss_cons (js_for PassesOwn.never rfl (ji_tup (je_ix jx_tup (jv 0) je_int (fun _ _ => rfl))) (jg_tup rfl (jgs_cons (jg_name (i := 2) scCaseW.nd rfl (Or.inl rfl)) (jgs_cons (jg_name (i := 3) scCaseW.nd rfl (Or.inl rfl)) (jgs_cons (jg_name (i := 4) scCaseW.nd rfl (Or.inl rfl)) jgs_nil))))
      (jss_one (js_expr (je_bm PySem.F.plainAttrs_list PySem.F.slot_list_extend PySem.F.type_list_extend jm_extend (jv 1) (ja_c (je_op jo_cat (je_op jo_cat (je_lst (ja_c (jv 2) ja_nil)) (je_fnTy jc_list_of rfl m_list PyProof.Rows.boot_list (ja_c (jv 3) ja_nil))) (je_lst (ja_c je_str (ja_c (jv 4) ja_nil)))) ja_nil)))))
    (jss_one (js_ret (je_op jo_cat (jv 1) (je_lst (ja_c je_str ja_nil))))))), ?_⟩
  have sl := line
  cases hI with
  | tup hp hl =>
    cases hl with
    | cons a1 hl =>
      cases hl with
      | cons a2 hl =>
        cases hl with
        | cons a3 hl =>
          cases hl; cases a1; cases a2
          cases a3 with
          | @tup _ avs pa ha hs =>
            have hlen := hs.len
            rw [List.length_map] at hlen
            refine ⟨_, rfl, _, _, _, _, rfl, rfl, SqT.of hp, rfl, by show 2 <= sizeLine; decide, fun pw hw => ?_⟩
            refine ⟨_, rfl, _, _, _, _, rfl, rfl, SqT.of (old hw hp), rfl, _, rfl, ⟨_, SqT.of (old hw ha)⟩, for_tup (xs := avs) (fun i σ H' => ∃ (us : List V) (a b c : Option V), σ = [some (.ref _), some (.ref pw), a, b, c] /\ Same H H' /\ H' pw = some (.lst us) /\ IsPs H' (.w "case" :: .w x :: (arms.take i).flatMap armP) us)
              ⟨_, none, none, none, rfl, same_new hw _, upd_same, .cons (.w _) (.cons (.w _) .nil)⟩ (fun i σ H' _ h => ?_) ?_ ?_⟩
            · obtain ⟨_, _, _, _, _, s1, _⟩ := h
              exact SqT.of (s1 _ _ ha)
            · rintro i y σ H1 hy ⟨us, a, b, c, rfl, s1, hu, hP⟩
              obtain ⟨d, hd, hId⟩ := hs.get hy
              rw [List.getElem?_map] at hd
              obtain ⟨arm, harm, e⟩ := Option.map_eq_some_iff.mp hd
              subst e
              have hmem : arm ∈ arms := List.mem_of_getElem? harm
              have hi : i < arms.length := (List.getElem?_eq_some_iff.mp harm).1
              have hId1 := hId.keep (Tups.of s1)
              unfold Arm.dat at hId1
              cases hId1 with
              | tup hp1 hl1 =>
                cases hl1 with
                | cons b1 hl1 =>
                  cases hl1 with
                  | cons b2 hl1 =>
                    cases hl1 with
                    | @cons _ vb _ _ b3 hl1 =>
                      cases hl1; cases b1
                      unfold Rd.«strs» at b2
                      cases b2 with
                      | tup hn hns =>
                        have e := IsL.strsE hns
                        subst e
                        have hn9 := h9 arm hmem
                        have hul := hP.len
                        have hal := armsP_len (arms.take i) fun z hz => h9 z (List.mem_of_mem_take hz)
                        rw [List.length_take] at hal
                        rw [List.length_cons, List.length_cons] at hul
                        refine ⟨_, _, rfl, SqT.of hp1, rfl, _, _, rfl, _, _, rfl, _, _, rfl, rfl, ?_⟩
                        refine ⟨_, rfl, .inl ⟨rfl, _, SqL.of hu⟩, _, rfl, by show 1 <= sizeLine; decide, fun p1 h1 => ?_⟩
                        refine ⟨_, rfl, _, _, rfl, .inr (SqT.of (old h1 hn)), fun p2 h2 => ?_⟩
                        refine ⟨_, _, _, _, rfl, rfl, old h2 upd_same, upd_same, by simp; omega, fun p3 h3 => ?_⟩
                        refine ⟨_, rfl, by show 2 <= sizeLine; decide, fun p4 h4 => ?_⟩
                        refine ⟨_, _, _, _, rfl, rfl, old h4 upd_same, upd_same, by simp; omega, fun p5 h5 => ?_⟩
                        have s5 := ((((same_new h1 (.lst [.str arm.tag])).new (o := .lst (arm.names.map V.str)) h2).new (o := .lst ([.str arm.tag] ++ arm.names.map V.str)) h3).new (o := .lst [.str ":", vb]) h4).new (o := .lst ([.str arm.tag] ++ arm.names.map V.str ++ [.str ":", vb])) h5
                        refine ⟨_, _, _, _, rfl, rfl, s5 _ _ hu, upd_same, by simp; omega, ?_⟩
                        refine ⟨_, _, _, _, rfl, (s1.trans s5).put (by first | exact hw | (cases hq : H pw with | none => rfl | some o => exact absurd hw (by rw [hq]; simp))), upd_same, ?_⟩
                        have t5 := (Tups.of s5).put (s5 _ _ hu) (.lst (us ++ ([.str arm.tag] ++ arm.names.map V.str ++ [.str ":", vb])))
                        rw [List.take_add_one, harm, List.flatMap_append]
                        have e2 : (Option.some arm).toList.flatMap armP = armP arm := by simp
                        rw [e2]
                        have k := (hP.keep t5).app (IsPs.cons (.w arm.tag) ((IsPs.strs (H := _) arm.names).app (.cons (.w ":") (.cons (.b (b3.keep t5) (hW arm hmem)) .nil))))
                        simpa [armP] using k
            · rintro σ H1 ⟨us, a, b, c, rfl, s1, hu, hP⟩
              rw [<- hlen, List.take_of_length_le (Nat.le_refl _)] at hP
              have hul := hP.len
              have hal := armsP_len arms h9
              rw [List.length_cons, List.length_cons] at hul
              refine ⟨_, rfl, by show 1 <= sizeLine; decide, fun p1 h1 => ?_⟩
              refine ⟨_, _, _, _, rfl, rfl, old h1 hu, upd_same, by simp; omega, fun p2 h2 => ?_⟩
              refine q _ _ _ ((s1.new h1).new h2) ((s1.new h1).free h2) upd_same ?_
              have k := (hP.keep (Tups.of ((same_new h1 (.lst [.str "end"])).new (o := .lst (us ++ [.str "end"])) h2))).app (IsPs.cons (.w "end") .nil)
              simpa using k
theorem scWritten : FnScope ["body"] ["body"] (defScope sWritten) := ⟨rfl, rfl, rfl, by decide +kernel, rfl, by decide +kernel, by decide +kernel⟩
theorem ok_written (F : Fun K "written" "written" sWritten f fd) (G_deed_words : Ca P w K mg base CX0 1 "deed_words" ["deed"] spDeedW) (G_case_words : Ca P w K mg base CX0 1 "case_words" ["body"] spCaseW) : FnOk P w K mg base CX0 2 f fd ["body"] spWritten := by
  refine F.by scWritten (fun vs H Q E h => ?_) (fun cdv A outer s H vs Q E hr h => ?_)
  · obtain ⟨d, v, ws, rfl, _⟩ := h
    rfl
  obtain ⟨d, v, ws, rfl, hI, hW, q⟩ := h
  refine ⟨_,
    (jss_cons (js_if (jt_cmpR jo_eq (je_ix jx_tup (jv 0) je_int (fun _ _ => rfl)) je_str (nomark _))
      (jss_one (js_ret (je_op jo_cat (je_op jo_cat (je_lst (ja_c je_str (ja_c (je_ix jx_tup (jv 0) je_int (fun _ _ => rfl)) ja_nil))) (je_ca G_deed_words hr rfl pass0 (ja_c (je_ix jx_tup (jv 0) je_int (fun _ _ => rfl)) ja_nil))) (je_lst (ja_c (je_ix jx_tup (jv 0) je_int (fun _ _ => rfl)) ja_nil))))) jss_nil)
    (jss_cons (js_if (jt_cmpR jo_eq (je_ix jx_tup (jv 0) je_int (fun _ _ => rfl)) je_str (nomark _))
      (jss_one (js_ret (je_lst (ja_c je_str (ja_c (je_ix jx_tup (jv 0) je_int (fun _ _ => rfl)) (ja_c (je_ix jx_tup (jv 0) je_int (fun _ _ => rfl)) (ja_c je_str (ja_c (je_ix jx_tup (jv 0) je_int (fun _ _ => rfl)) ja_nil)))))))) jss_nil)
    (jss_cons (js_if (jt_cmpR jo_eq (je_ix jx_tup (jv 0) je_int (fun _ _ => rfl)) je_str (nomark _))
      (jss_one (js_ret (je_ca G_case_words hr rfl pass0 (ja_c (jv 0) ja_nil)))) jss_nil)
    (jss_one (js_ret (je_lst (ja_c je_str (ja_c (je_ix jx_tup (jv 0) je_int (fun _ _ => rfl)) ja_nil)))))))), ?_⟩
  have sl := line
  cases hW with
  | @give x =>
    cases hI with
    | tup hp hl =>
      cases hl with
      | cons a1 hl =>
        cases hl with
        | cons a2 hl =>
          cases hl; cases a1; cases a2
          refine ⟨_, rfl, _, _, _, _, rfl, rfl, SqT.of hp, rfl, rfl, _, rfl, iteSN (by decide) ?_⟩
          refine ⟨_, rfl, _, _, _, _, rfl, rfl, SqT.of hp, rfl, rfl, _, rfl, iteSN (by decide) ?_⟩
          refine ⟨_, rfl, _, _, _, _, rfl, rfl, SqT.of hp, rfl, rfl, _, rfl, iteSN (by decide) ?_⟩
          exact ⟨_, rfl, _, _, _, _, rfl, rfl, SqT.of hp, rfl, by show 2 <= sizeLine; decide, fun p h1 => q _ _ [.w "give", .w x] _ (same_new h1 _) h1 upd_same (.cons (.w _) (.cons (.w _) .nil)) rfl (by show 2 < 2 * 2; decide)⟩
  | @lt x d b dw bw hd hb =>
    cases hI with
    | tup hp hl =>
      cases hl with
      | cons a1 hl =>
        cases hl with
        | cons a2 hl =>
          cases hl with
          | cons a3 hl =>
            cases hl with
            | @cons _ vb _ _ a4 hl =>
              cases hl; cases a1; cases a2
              refine ⟨_, rfl, _, _, _, _, rfl, rfl, SqT.of hp, rfl, rfl, _, rfl, iteS rfl ?_⟩
              refine ⟨_, rfl, _, _, _, _, rfl, rfl, SqT.of hp, rfl, by show 2 <= sizeLine; decide, fun p1 h1 => ?_⟩
              refine ⟨_, rfl, _, _, _, _, rfl, rfl, SqT.of (old h1 hp), rfl, d, _, dw, rfl, a3.keep (.new h1), hd, fun H2 p2 s2 hp2 => ?_⟩
              have few : dw.length <= 12 := by cases hd <;> simp <;> omega
              refine ⟨_, _, _, _, rfl, rfl, s2 _ _ upd_same, hp2, by simp; omega, fun p3 h3 => ?_⟩
              have s3 := ((same_new h1 (.lst [.str "let", .str x])).trans s2).new (o := .lst ([.str "let", .str x] ++ dw.map V.str)) h3
              refine ⟨_, rfl, _, _, _, _, rfl, rfl, SqT.of (s3 _ _ hp), rfl, by show 1 <= sizeLine; decide, fun p4 h4 => ?_⟩
              refine ⟨_, _, _, _, rfl, rfl, old h4 upd_same, upd_same, by simp; omega, fun p5 h5 => ?_⟩
              have sB := (s3.new (o := .lst [vb]) h4).new (o := .lst ([.str "let", .str x] ++ dw.map V.str ++ [vb])) h5
              refine q _ _ (.w "let" :: .w x :: (dw.map Pd.w ++ [.b b bw])) _ sB ((s3.new (o := .lst [vb]) h4).free h5) upd_same ?_ ?_ ?_
              · have k := IsPs.cons (.w "let") (.cons (.w x) ((IsPs.strs dw).app (.cons (.b (a4.keep (Tups.of sB)) hb) .nil)))
                simpa using k
              · rw [wss_cons, wss_cons, wss_app, wss_strs, wss_cons]
                simp [Pd.ws, wss]
              · rw [wts_cons, wts_cons, wts_app, wts_strs, wts_cons]
                simp [Pd.wt, wts]
                omega
  | @if_ x a b aw bw ha hb =>
    cases hI with
    | tup hp hl =>
      cases hl with
      | cons a1 hl =>
        cases hl with
        | cons a2 hl =>
          cases hl with
          | cons a3 hl =>
            cases hl with
            | cons a4 hl =>
              cases hl; cases a1; cases a2
              refine ⟨_, rfl, _, _, _, _, rfl, rfl, SqT.of hp, rfl, rfl, _, rfl, iteSN (by decide) ?_⟩
              refine ⟨_, rfl, _, _, _, _, rfl, rfl, SqT.of hp, rfl, rfl, _, rfl, iteS rfl ?_⟩
              refine ⟨_, rfl, _, _, _, _, rfl, rfl, SqT.of hp, rfl, _, rfl, _, _, _, _, rfl, rfl, SqT.of hp, rfl, _, rfl, _, _, _, _, rfl, rfl, SqT.of hp, rfl, by show 5 <= sizeLine; decide, fun p1 h1 => ?_⟩
              refine q _ _ [.w "if", .w x, .b a aw, .w "else", .b b bw] _ (same_new h1 _) h1 upd_same (.cons (.w _) (.cons (.w _) (.cons (.b (a3.keep (.new h1)) ha) (.cons (.w _) (.cons (.b (a4.keep (.new h1)) hb) .nil))))) ?_ ?_
              · simp [wss, Pd.ws]
              · simp [wts, Pd.wt]
                omega
  | @case x arms h20 h9 hW =>
    have hI0 := hI
    cases hI with
    | tup hp hl =>
      cases hl with
      | cons a1 hl =>
        cases hl with
        | cons a2 hl =>
        cases hl with
        | cons a3 hl =>
        cases hl; cases a1; cases a2
        refine ⟨_, rfl, _, _, _, _, rfl, rfl, SqT.of hp, rfl, rfl, _, rfl, iteSN (by decide) ?_⟩
        refine ⟨_, rfl, _, _, _, _, rfl, rfl, SqT.of hp, rfl, rfl, _, rfl, iteSN (by decide) ?_⟩
        refine ⟨_, rfl, _, _, _, _, rfl, rfl, SqT.of hp, rfl, rfl, _, rfl, iteS rfl ?_⟩
        refine ⟨_, rfl, x, arms, _, rfl, hI0, h20, h9, hW, fun H1 p1 us s1 f1 hp1 hP => ?_⟩
        refine q _ _ _ us s1 f1 hp1 hP ?_ ?_
        · rw [wss_cons, wss_cons, wss_app, armsP_ws]
          simp [wss, Pd.ws]
        · rw [wts_cons, wts_cons, wts_app]
          have := (wts_le (arms.flatMap armP)).2
          rw [armsP_ws] at this
          simp only [Pd.wt, wts, List.map_cons, List.map_nil, List.sum_cons, List.sum_nil, List.length_cons, List.length_append, List.length_nil] at this ⊢
          omega
end
end Rdr
namespace Rdr
open PySem L2 K11 Rd
theorem wr_tup {d : D} {ws : List Str} (h : Wr d ws) : (∃ ds, d = .tup ds) /\ 1 <= ws.length := by
  cases h <;> exact ⟨⟨_, rfl⟩, by simp⟩
theorem IsPs.few {H : Hp} {a : List Pd} {u : List V} (h : IsPs H a u) : a.length <= wts a := by
  induction h with
  | nil => exact Nat.zero_le _
  | cons x _ ih =>
    rw [wts_cons, List.length_cons]
    cases x with
    | w z =>
      show _ <= 1 + _
      omega
    | b _ hw =>
      have := (wr_tup hw).2
      show _ <= 2 * _ + _
      omega
theorem def_wd : Wd "def" := wd_of (by decide)
theorem eq_wd : Wd "=" := wd_of (by decide)
def spDefRow : Sp := fun vs H Q _ => ∃ (g : Str) (ns : List Str) (b : D) (ws : List Str) (v : V), vs = [v] /\ Is H (.tup [.str g, Rd.«strs» ns, b]) v /\ Wr b ws /\ ns.length <= 9 /\ ws.length <= 2000 /\ Wd g /\ (∀ x ∈ ns, Wd x) /\ (∀ x ∈ ws, Wd x) /\
  ∀ H', Same H H' -> Q (.str (tx (("def" : Str) :: g :: (ns ++ ("=" : Str) :: ws)))) H'
section
variable {P : Program} {w : World} {K : PySem.W.Frag} {mg : Str -> Option Value} {base : Heap} {f : Addr} {fd : FuncData}
theorem scDefRow : FnScope ["one", "words", "left", "piece", "part"] ["one"] (defScope sDefRow) := ⟨rfl, rfl, rfl, by decide +kernel, rfl, by decide +kernel, by decide +kernel⟩
theorem ok_defrow (F : Fun K "def_row" "def_row" sDefRow f fd) (G_written : Ca P w K mg base CX0 2 "written" ["body"] spWritten) (m_list : mg "list" = none) (m_len : mg "len" = none) (m_isinstance : mg "isinstance" = none) (m_str : mg "str" = none) (m_reversed : mg "reversed" = none) : FnOk P w K mg base CX0 3 f fd ["one"] spDefRow := by
  refine F.by scDefRow (fun vs H Q E h => ?_) (fun cdv A outer s H vs Q E hr h => ?_)
  · obtain ⟨g, ns, b, ws, v, rfl, _⟩ := h
    rfl
  obtain ⟨g, ns, b, ws, v, rfl, hI, hW, h9, h2k, hg, hns, hws, q⟩ := h
  refine ⟨_,
    (jss_cons (js_set (i := 1) scDefRow.nd rfl (Or.inl rfl) (je_op jo_cat (je_op jo_cat (je_lst (ja_c je_str (ja_c (je_ix jx_tup (jv 0) je_int (fun _ _ => rfl)) ja_nil))) (je_fnTy jc_list_of rfl m_list PyProof.Rows.boot_list (ja_c (je_ix jx_tup (jv 0) je_int (fun _ _ => rfl)) ja_nil))) (je_lst (ja_c je_str ja_nil))))
    (jss_cons (js_set (i := 2) scDefRow.nd rfl (Or.inl rfl) (je_lst (ja_c (je_ix jx_tup (jv 0) je_int (fun _ _ => rfl)) ja_nil)))
    (jss_cons (js_while PassesOwn.never (jt_cmpR jo_gt (je_fnB jc_len_seq rfl m_len PySem.boot_len (ja_c (jv 2) ja_nil)) je_int (nomark _))
      (jss_cons (js_set (i := 3) scDefRow.nd rfl (Or.inl rfl) (je_bm0 PySem.F.plainAttrs_list PySem.F.slot_list_pop PySem.F.type_list_pop jm_pop (jv 2)))
      (jss_one (js_if (jt_val (je_fnB jc_isinst rfl m_isinstance PyProof.Rows.boot_isinstance (ja_c (jv 3) (ja_c (je_bltn (v := .ty "str") rfl m_str PyProof.Rows.boot_str rfl) ja_nil))))
        (jss_one (js_expr (je_bm PySem.F.plainAttrs_list PySem.F.slot_list_append PySem.F.type_list_append jm_append (jv 1) (ja_c (jv 3) ja_nil))))
        (jss_one (js_for PassesOwn.never rfl (ji_rev rfl m_reversed (ja_c (je_ca G_written hr rfl pass0 (ja_c (jv 3) ja_nil)) ja_nil)) (jg_name (i := 4) scDefRow.nd rfl (Or.inl rfl))
          (jss_one (js_expr (je_bm PySem.F.plainAttrs_list PySem.F.slot_list_append PySem.F.type_list_append jm_append (jv 2) (ja_c (jv 4) ja_nil))))))))))
    (jss_one (js_ret (je_bm PySem.F.plainAttrs_str PySem.F.slot_str_join PySem.F.type_str_join jm_join je_str (ja_c (jv 1) ja_nil))))))), ?_⟩
  have sl := line
  cases hI with
  | tup hp hl =>
    cases hl with
    | cons a1 hl =>
      cases hl with
      | cons a2 hl =>
        cases hl with
        | @cons _ vb _ _ a3 hl =>
          cases hl; cases a1
          unfold Rd.«strs» at a2
          cases a2 with
          | tup hn hs =>
            have e := IsL.strsE hs
            subst e
            refine ⟨_, rfl, _, _, _, _, rfl, rfl, SqT.of hp, rfl, by show 2 <= sizeLine; decide, fun p1 h1 => ?_⟩
            refine ⟨_, rfl, _, _, _, _, rfl, rfl, SqT.of (old h1 hp), rfl, _, _, rfl, .inr (SqT.of (old h1 hn)), fun p2 h2 => ?_⟩
            refine ⟨_, _, _, _, rfl, rfl, old h2 upd_same, upd_same, by simp; omega, fun p3 h3 => ?_⟩
            refine ⟨by show 1 <= sizeLine; decide, fun p4 h4 => ?_⟩
            refine ⟨_, _, _, _, rfl, rfl, old h4 upd_same, upd_same, by simp; omega, fun pw h5 => ?_⟩
            have s4 := (((same_new h1 (.lst [.str "def", .str g])).new (o := .lst (ns.map V.str)) h2).new (o := .lst ([.str "def", .str g] ++ ns.map V.str)) h3).new (o := .lst [.str "="]) h4
            have s5 := s4.new (o := .lst ([.str "def", .str g] ++ ns.map V.str ++ [.str "="])) h5
            have npw : H pw = none := s4.free h5
            have hpw : upd (upd (upd (upd (upd H p1 (.lst [.str "def", .str g])) p2 (.lst (ns.map V.str))) p3 (.lst ([.str "def", .str g] ++ ns.map V.str))) p4 (.lst [.str "="])) pw (.lst ([.str "def", .str g] ++ ns.map V.str ++ [.str "="])) pw = some (.lst ((("def" : Str) :: g :: (ns ++ [("=" : Str)])).map V.str)) := by rw [upd_same]; simp
            generalize upd (upd (upd (upd (upd H p1 (.lst [.str "def", .str g])) p2 (.lst (ns.map V.str))) p3 (.lst ([.str "def", .str g] ++ ns.map V.str))) p4 (.lst [.str "="])) pw (.lst ([.str "def", .str g] ++ ns.map V.str ++ [.str "="])) = H5 at s5 hpw ⊢
            refine ⟨_, rfl, _, _, _, _, rfl, rfl, SqT.of (s5 _ _ hp), rfl, by show 1 <= sizeLine; decide, fun pl h6 => ?_⟩
            have npl : H pl = none := s5.free h6
            have nwl : pw ≠ pl := ne_of_none hpw h6
            have hpw6 := old (o := .lst [vb]) h6 hpw
            refine ⟨fun m σ H' => ∃ (its : List Pd) (us : List V) (ds : List Str) (a c : Option V), m = wts its /\ σ = [some (.ref _), some (.ref pw), some (.ref pl), a, c] /\ Same H H' /\ H' pw = some (.lst (ds.map V.str)) /\ H' pl = some (.lst us.reverse) /\ IsPs H' its us /\ ds ++ wss its = ("def" : Str) :: g :: (ns ++ ("=" : Str) :: ws),
              ⟨_, [.b b ws], _, _, none, none, rfl, rfl, s5.new h6, hpw6, upd_same, .cons (.b ((a3.keep (Tups.of s5)).keep (.new h6)) hW) .nil, by simp [wss, Pd.ws]⟩, ?_⟩
            rintro m σ H7 ⟨its, us, ds, a, c, rfl, rfl, s7, hw7, hl7, hP, he⟩
            have hlen := congrArg List.length he
            simp only [List.length_append, List.length_cons] at hlen
            have hwt := (wts_le its).2
            have hfew := hP.few
            have hul := hP.len
            refine ⟨_, rfl, _, _, rfl, .inl (SqL.of hl7), _, _, rfl, rfl, _, rfl, ?_⟩
            cases hP with
            | nil =>
              refine iteDN (by simp) ?_
              refine ⟨rfl, _, rfl, _, _, ds, rfl, rfl, SqL.of hw7, ?_, ?_⟩
              · have e : ds = ("def" : Str) :: g :: (ns ++ ("=" : Str) :: ws) := by simpa [wss] using he
                have hwd : ∀ x ∈ ds, Wd x := fun x hx => by
                  rw [e] at hx
                  simp only [List.mem_cons, List.mem_append] at hx
                  rcases hx with z | z | z | z | z
                  · rw [z]; exact def_wd
                  · rw [z]; exact hg
                  · exact hns x z
                  · rw [z]; exact eq_wd
                  · exact hws x z
                have := wide_words hwd
                show wide SP ds <= sizeLine
                omega
              · have e : ds = ("def" : Str) :: g :: (ns ++ ("=" : Str) :: ws) := by simpa [wss] using he
                have r := q _ s7
                rw [<- e] at r
                exact r
            | @cons pd v0 its us hp0 hP =>
              rw [List.reverse_cons] at hl7 ⊢
              refine iteD (by simp) ⟨_, fun _ _ h => h, ?_⟩
              rw [wts_cons] at hfew hwt
              rw [wss_cons] at he hlen hwt
              rw [List.length_cons] at hul hfew
              have hub : us.length <= 5000 := by
                rw [List.length_cons] at hul
                omega
              refine ⟨_, rfl, .inl ⟨rfl, _, SqL.of hl7⟩, _, _, _, rfl, rfl, hl7, by simp; rfl, ?_⟩
              rw [show (us.reverse ++ [v0]).dropLast = us.reverse by simp]
              have s8 : Same H (upd H7 pl (.lst us.reverse)) := s7.put npl
              have t8 : Tups H7 (upd H7 pl (.lst us.reverse)) := fun z xs hz => by rw [upd_ne (ne_of hz hl7 (by intro z; cases z))]; exact hz
              have hw8 : upd H7 pl (.lst us.reverse) pw = some (.lst (ds.map V.str)) := by rw [upd_ne nwl]; exact hw7
              have hl8 : upd H7 pl (.lst us.reverse) pl = some (.lst us.reverse) := upd_same
              have hp8 := hp0.keep t8
              have hP8 := hP.keep t8
              generalize upd H7 pl (.lst us.reverse) = H8 at *
              cases hp8 with
              | w x =>
                refine ⟨_, rfl, _, _, _, _, rfl, .str _, rfl, _, rfl, iteT ?_⟩
                refine ⟨_, rfl, .inl ⟨rfl, _, SqL.of hw8⟩, _, rfl, _, _, _, rfl, rfl, hw8, by rw [List.length_map]; omega, ?_⟩
                refine ⟨_, ?_, its, us, ds ++ [x], _, _, rfl, rfl, s8.put npw, ?_, ?_, ?_, ?_⟩
                · rw [wts_cons]
                  show _ < 1 + _
                  omega
                · rw [upd_same]
                  simp
                · rw [upd_ne nwl.symm]
                  exact hl8
                · exact hP8.keep fun z xs hz => by rw [upd_ne (ne_of hz hw8 (by intro z; cases z))]; exact hz
                · rw [<- he]
                  show ds ++ [x] ++ wss its = ds ++ ([x] ++ wss its)
                  rw [List.append_assoc]
              | @b d bw v0 hd hw =>
                obtain ⟨⟨dd, rfl⟩, _⟩ := wr_tup hw
                have hd0 := hd
                cases hd with
                | @tup _ vs0 p0 hpp0 hl0 =>
                  refine ⟨_, rfl, _, _, _, _, rfl, .tup hpp0, rfl, _, rfl, iteF ?_⟩
                  refine ⟨_, rfl, _, _, bw, rfl, hd0, hw, fun H9 p9 its9 us9 s9 f9 hp9 hP9 e9 lt9 => ?_⟩
                  have hl9 := s9 _ _ hl8
                  have hw9 := s9 _ _ hw8
                  have n9 : p9 ≠ pl := fun z => by rw [z] at f9; rw [f9] at hl8; cases hl8
                  have hu9 := hP9.len
                  have hf9 := hP9.few
                  have hb2 : bw.length <= 2100 := by
                    have h := hlen
                    simp only [Pd.ws, List.length_append] at h
                    omega
                  refine ⟨_, _, rfl, SqL.of hp9, for_rev (xs := us9) (fun i σ H' => ∃ (c : Option V), σ = [some (.ref _), some (.ref pw), some (.ref pl), some (.ref p0), c] /\ KpS (· = pl) H9 H' /\ H' pl = some (.lst (us.reverse ++ us9.reverse.take i)))
                    ⟨_, rfl, .refl, by rw [hl9]; simp⟩ (fun i σ H' _ h => ?_) ?_ ?_⟩
                  · obtain ⟨c, _, k, _⟩ := h
                    exact SqL.of (k _ _ n9 hp9)
                  · rintro i x σ H' hx ⟨c, rfl, k, hl'⟩
                    have hi : i < us9.length := by
                      have := (List.getElem?_eq_some_iff.mp hx).1
                      rwa [List.length_reverse] at this
                    refine ⟨_, rfl, .inl ⟨rfl, _, SqL.of hl'⟩, _, rfl, _, _, _, rfl, rfl, hl', ?_, ?_⟩
                    · rw [List.length_append, List.length_reverse, List.length_take, List.length_reverse]
                      omega
                    · refine ⟨_, rfl, k.trans (.put rfl), ?_⟩
                      rw [upd_same, List.take_add_one, hx, List.append_assoc]
                      rfl
                  · rintro σ H' ⟨c, rfl, k, hl'⟩
                    rw [List.take_of_length_le (by rw [List.length_reverse]; exact Nat.le_refl _), <- List.reverse_append] at hl'
                    have tk : Tups H9 H' := k.tups fun z ez xs => by rw [ez, hl9]; intro z; cases z
                    refine ⟨_, ?_, its9 ++ its, us9 ++ us, ds, _, _, rfl, rfl, ?_, k _ _ nwl hw9, hl', ?_, ?_⟩
                    · rw [wts_app, wts_cons]
                      show _ < 2 * bw.length + _
                      omega
                    · intro z o hz
                      refine k _ _ (fun ez => ?_) (s9 _ _ (s8 _ _ hz))
                      rw [ez, npl] at hz
                      cases hz
                    · exact (hP9.keep tk).app ((hP8.keep (Tups.of s9)).keep tk)
                    · rw [wss_app, e9, <- he]
                      rfl
end
end Rdr
namespace Rdr
open PySem L2 K11 Rd
def kindWs (l : List (Str × Int)) : List Str := "kind" :: l.flatMap fun p => [p.1, Str.ofString (toString p.2)]
def KRow (k : D) (ws : List Str) : Prop := ∃ l : List (Str × Int), k = .tup (l.map fun p => .tup [.str p.1, .int p.2]) /\ ws = kindWs l /\ l.length <= 200 /\ ∀ p ∈ l, Wd p.1 /\ 0 <= p.2 /\ p.2 <= 9
def DRow (d : D) (ws : List Str) : Prop := ∃ (g : Str) (ns : List Str) (b : D) (bw : List Str), d = .tup [.str g, Rd.«strs» ns, b] /\ ws = ("def" : Str) :: g :: (ns ++ ("=" : Str) :: bw) /\ Wr b bw /\ ns.length <= 9 /\ bw.length <= 2000 /\ Wd g /\ (∀ x ∈ ns, Wd x) /\ ∀ x ∈ bw, Wd x
theorem small_wd {n : Int} (h0 : 0 <= n) (h9 : n <= 9) : Wd (Str.ofString (toString n)) := number_wd (number_made (n := n) (by omega)).1
theorem KRow.wds {k : D} {ws : List Str} (h : KRow k ws) : (∀ x ∈ ws, Wd x) /\ ws.length <= 2100 := by
  obtain ⟨l, _, rfl, hl, hw⟩ := h
  unfold kindWs
  refine ⟨fun x hx => ?_, ?_⟩
  · simp only [List.mem_cons, List.mem_flatMap, List.not_mem_nil, or_false] at hx
    rcases hx with e | ⟨p, hp, e | e⟩
    · rw [e]; exact wd_of (by decide)
    · rw [e]; exact (hw p hp).1
    · rw [e]; exact small_wd (hw p hp).2.1 (hw p hp).2.2
  · have : ∀ m : List (Str × Int), (m.flatMap fun p => [p.1, Str.ofString (toString p.2)]).length = 2 * m.length := fun m => by
      induction m with
      | nil => rfl
      | cons a m ih => rw [List.flatMap_cons, List.length_append, ih, List.length_cons]; simp; omega
    rw [List.length_cons, this]
    omega
theorem DRow.wds {k : D} {ws : List Str} (h : DRow k ws) : (∀ x ∈ ws, Wd x) /\ ws.length <= 2100 := by
  obtain ⟨g, ns, b, bw, _, rfl, _, h9, h2, hg, hn, hb⟩ := h
  refine ⟨fun x hx => ?_, by simp only [List.length_cons, List.length_append]; omega⟩
  simp only [List.mem_cons, List.mem_append] at hx
  rcases hx with z | z | z | z | z
  · rw [z]; exact def_wd
  · rw [z]; exact hg
  · exact hn x z
  · rw [z]; exact eq_wd
  · exact hb x z
theorem rows_wide : ∀ rows : List (List Str), (∀ ws ∈ rows, (∀ x ∈ ws, Wd x) /\ ws.length <= 2100) -> wide NL (rows.map tx) <= 69301 * rows.length
  | [], _ => by decide
  | ws :: r, h => by
    have ih := rows_wide r fun x hx => h x (List.mem_cons_of_mem _ hx)
    obtain ⟨h1, h2⟩ := h ws List.mem_cons_self
    have tl := tx_len h1
    have s1 : NL.length = 1 := by decide
    unfold wide at ih ⊢
    rw [List.map_cons, List.map_cons, List.sum_cons, List.length_cons, List.length_cons, s1]
    rw [s1] at ih
    omega
def Each (R : D -> List Str -> Prop) : List D -> List (List Str) -> Prop
  | [], [] => True
  | d :: ds, w :: ws => R d w /\ Each R ds ws
  | _, _ => False
theorem Each.len {R : D -> List Str -> Prop} : ∀ {ds : List D} {ws : List (List Str)}, Each R ds ws -> ds.length = ws.length
  | [], [], _ => rfl
  | d :: ds, w :: ws, h => by rw [List.length_cons, List.length_cons, Each.len h.2]
  | [], _ :: _, h => h.elim
  | _ :: _, [], h => h.elim
theorem Each.get {R : D -> List Str -> Prop} : ∀ {ds : List D} {ws : List (List Str)} {i : Nat} {d : D}, Each R ds ws -> ds[i]? = some d -> ∃ w, ws[i]? = some w /\ R d w
  | [], _, _, _, _, e => by simp at e
  | d :: ds, w :: ws, 0, _, h, e => by
    simp at e
    subst e
    exact ⟨w, rfl, h.1⟩
  | d :: ds, w :: ws, i + 1, d', h, e => by
    obtain ⟨w', h1, h2⟩ := Each.get (i := i) h.2 (by simpa using e)
    exact ⟨w', by simpa using h1, h2⟩
  | _ :: _, [], _, _, h, _ => h.elim
theorem Each.all {R : D -> List Str -> Prop} : ∀ {ds : List D} {ws : List (List Str)}, Each R ds ws -> ∀ w ∈ ws, ∃ d ∈ ds, R d w
  | [], [], _, w, hw => by cases hw
  | d :: ds, w :: ws, h, x, hx => by
    rcases List.mem_cons.mp hx with e | hx
    · rw [e]; exact ⟨d, List.mem_cons_self, h.1⟩
    · obtain ⟨d', h1, h2⟩ := Each.all h.2 x hx
      exact ⟨d', List.mem_cons_of_mem _ h1, h2⟩
  | [], _ :: _, h, _, _ => h.elim
  | _ :: _, [], h, _, _ => h.elim
def spKindRow : Sp := fun vs H Q _ => ∃ (k : D) (ws : List Str) (v : V), vs = [v] /\ Is H k v /\ KRow k ws /\ ∀ H', Same H H' -> Q (.str (tx ws)) H'
def spShown : Sp := fun vs H Q _ => ∃ (ks ds : List D) (kws dws : List (List Str)) (v : V), vs = [v] /\ Is H (.tup [.tup ks, .tup ds]) v /\ Each KRow ks kws /\ Each DRow ds dws /\ ks.length + ds.length <= 200 /\ ∀ H', Same H H' -> Q (.str (Str.join NL ((kws ++ dws).map tx))) H'
section
variable {P : Program} {w : World} {K : PySem.W.Frag} {mg : Str -> Option Value} {base : Heap} {f : Addr} {fd : FuncData}
theorem scKindRow : FnScope ["kind", "words", "tag", "size"] ["kind"] (defScope sKindRow) := ⟨rfl, rfl, rfl, by decide +kernel, rfl, by decide +kernel, by decide +kernel⟩
theorem ok_kindrow (F : Fun K "kind_row" "kind_row" sKindRow f fd) (m_str : mg "str" = none) : FnOk P w K mg base CX0 1 f fd ["kind"] spKindRow := by
  refine F.by scKindRow (fun vs H Q E h => ?_) (fun cdv A outer s H vs Q E hr h => ?_)
  · obtain ⟨k, ws, v, rfl, _⟩ := h
    rfl
  obtain ⟨k, ws, v, rfl, hI, hK, q⟩ := h
  refine ⟨_,
    (jss_cons (js_set (i := 1) scKindRow.nd rfl (Or.inl rfl) (je_lst (ja_c je_str ja_nil)))
    (jss_cons (js_for PassesOwn.never rfl (ji_tup (jv 0)) (jg_tup rfl (jgs_cons (jg_name (i := 2) scKindRow.nd rfl (Or.inl rfl)) (jgs_cons (jg_name (i := 3) scKindRow.nd rfl (Or.inl rfl)) jgs_nil)))
      (jss_one (js_expr (je_bm PySem.F.plainAttrs_list PySem.F.slot_list_extend PySem.F.type_list_extend jm_extend (jv 1) (ja_c (je_lst (ja_c (jv 2) (ja_c (je_fnTy jc_str_int rfl m_str PyProof.Rows.boot_str (ja_c (jv 3) ja_nil)) ja_nil))) ja_nil)))))
    (jss_one (js_ret (je_bm PySem.F.plainAttrs_str PySem.F.slot_str_join PySem.F.type_str_join jm_join je_str (ja_c (jv 1) ja_nil)))))), ?_⟩
  have sl := line
  have hwd := hK.wds
  obtain ⟨l, rfl, rfl, hl, hw⟩ := hK
  cases hI with
  | @tup _ vs0 p0 hp hs =>
    have hlen := hs.len
    rw [List.length_map] at hlen
    refine ⟨by show 1 <= sizeLine; decide, fun pw h1 => ?_⟩
    refine ⟨_, rfl, _, rfl, ⟨_, SqT.of (old h1 hp)⟩, for_tup (xs := vs0) (fun i σ H' => ∃ (a b : Option V), σ = [some (.ref p0), some (.ref pw), a, b] /\ Same H H' /\ H' pw = some (.lst ((kindWs (l.take i)).map V.str)))
      ⟨none, none, rfl, same_new h1 _, upd_same⟩ (fun i σ H' _ h => ?_) ?_ ?_⟩
    · obtain ⟨_, _, _, s1, _⟩ := h
      exact SqT.of (s1 _ _ hp)
    · rintro i y σ H1 hy ⟨a, b, rfl, s1, hu⟩
      obtain ⟨d, hd, hId⟩ := hs.get hy
      rw [List.getElem?_map] at hd
      obtain ⟨pr, hpr, e⟩ := Option.map_eq_some_iff.mp hd
      subst e
      have hmem : pr ∈ l := List.mem_of_getElem? hpr
      have hi : i < l.length := (List.getElem?_eq_some_iff.mp hpr).1
      have hId1 := hId.keep (Tups.of s1)
      have k1 : (kindWs (l.take i)).length <= 401 := by
        have : ∀ m : List (Str × Int), (m.flatMap fun p => [p.1, Str.ofString (toString p.2)]).length = 2 * m.length := fun m => by
          induction m with
          | nil => rfl
          | cons a m ih => rw [List.flatMap_cons, List.length_append, ih, List.length_cons]; simp; omega
        unfold kindWs
        rw [List.length_cons, this, List.length_take]
        omega
      cases hId1 with
      | tup hp1 hl1 =>
        cases hl1 with
        | cons b1 hl1 =>
          cases hl1 with
          | cons b2 hl1 =>
            cases hl1; cases b1; cases b2
            have hb := hw pr hmem
            refine ⟨_, _, rfl, SqT.of hp1, rfl, _, _, rfl, _, _, rfl, rfl, ?_⟩
            refine ⟨_, rfl, .inl ⟨rfl, _, SqL.of hu⟩, _, rfl, _, rfl, _, rfl, log_lt (by omega), by show 2 <= sizeLine; decide, fun p1 h2 => ?_⟩
            refine ⟨_, _, _, _, rfl, rfl, old h2 hu, upd_same, by simp; omega, ?_⟩
            refine ⟨_, _, rfl, (s1.new h2).put h1, ?_⟩
            rw [upd_same, List.take_add_one, hpr]
            simp [kindWs]
    · rintro σ H1 ⟨a, b, rfl, s1, hu⟩
      rw [<- hlen, List.take_of_length_le (Nat.le_refl _)] at hu
      refine ⟨rfl, _, rfl, _, _, kindWs l, rfl, rfl, SqL.of hu, ?_, q _ s1⟩
      have := wide_words hwd.1
      show wide SP (kindWs l) <= sizeLine
      omega
theorem scShown : FnScope ["program", "rows"] ["program"] (defScope sShown) := ⟨rfl, rfl, rfl, by decide +kernel, rfl, by decide +kernel, by decide +kernel⟩
theorem ndShK : (["program", "rows", "kind"] : List Str).Nodup := by decide +kernel
theorem ndShO : (["program", "rows", "one"] : List Str).Nodup := by decide +kernel
theorem ok_shown (F : Fun K "shown" "shown" sShown f fd) (G_kind_row : Ca P w K mg base CX0 3 "kind_row" ["kind"] spKindRow) (G_def_row : Ca P w K mg base CX0 3 "def_row" ["one"] spDefRow) : FnOk P w K mg base CX0 4 f fd ["program"] spShown := by
  refine F.by scShown (fun vs H Q E h => ?_) (fun cdv A outer s H vs Q E hr h => ?_)
  · obtain ⟨ks, ds, kws, dws, v, rfl, _⟩ := h
    rfl
  obtain ⟨ks, ds, kws, dws, v, rfl, hI, hK, hD, hn, q⟩ := h
  refine ⟨_,
    (jss_cons (js_set (i := 1) scShown.nd rfl (Or.inl rfl) (je_op jo_cat (je_comp ["kind"] rfl (ji_tup (je_ix jx_tup (jv 0) je_int (fun _ _ => rfl))) (fun _ _ _ _ _ => (jg_name (i := 2) ndShK rfl (Or.inl rfl))) (fun _ _ _ _ _ => jts_nil) (fun _ _ _ _ _ => (je_ca G_kind_row hr rfl pass0 (ja_c (jv 2) ja_nil)))) (je_comp ["one"] rfl (ji_tup (je_ix jx_tup (jv 0) je_int (fun _ _ => rfl))) (fun _ _ _ _ _ => (jg_name (i := 2) ndShO rfl (Or.inl rfl))) (fun _ _ _ _ _ => jts_nil) (fun _ _ _ _ _ => (je_ca G_def_row hr rfl pass0 (ja_c (jv 2) ja_nil))))))
    (jss_one (js_ret (je_bm PySem.F.plainAttrs_str PySem.F.slot_str_join PySem.F.type_str_join jm_join je_str (ja_c (jv 1) ja_nil))))), ?_⟩
  have sl := line
  cases hI with
  | @tup _ vs0 p0 hp hs =>
    cases hs with
    | cons a1 hs =>
      cases hs with
      | cons a2 hs =>
        cases hs
        cases a1 with
        | @tup _ kv pk hpk hks =>
          cases a2 with
          | @tup _ dv pd hpd hds =>
            have kl := hks.len
            have dl := hds.len
            have kl2 := hK.len
            have dl2 := hD.len
            refine ⟨_, rfl, _, _, _, _, rfl, rfl, SqT.of hp, rfl, _, rfl, ⟨_, SqT.of hpk⟩, lc_tup (xs := kv) (fun i τ ys H' => Same H H' /\ (∃ x, τ = [some (.ref p0), none, x]) /\ ys = (kws.take i).map fun ws => V.str (tx ws)) ⟨Same.refl _, ⟨none, rfl⟩, rfl⟩ (fun i τ ys H' _ h => SqT.of (h.1 _ _ hpk)) ?_ ?_⟩
            · rintro i x τ ys H1 hx ⟨s1, ⟨y, rfl⟩, rfl⟩
              obtain ⟨d, hd, hId⟩ := hks.get hx
              obtain ⟨ws, hws, hR⟩ := hK.get hd
              have hi : i < kws.length := (List.getElem?_eq_some_iff.mp hws).1
              refine ⟨_, rfl, d, ws, x, rfl, hId.keep (Tups.of s1), hR, fun H2 s2 => ⟨?_, s1.trans s2, ⟨_, rfl⟩, ?_⟩⟩
              · rw [List.length_map, List.length_take]
                omega
              · exact (take_map (fun ws => V.str (tx ws)) hws)
            · rintro τ ys H1 ⟨s1, _, rfl⟩ p1 h1
              rw [<- kl, kl2, List.take_of_length_le (Nat.le_refl _)]
              have s1' := s1.new (o := .lst (kws.map fun ws => V.str (tx ws))) h1
              have hp1 : upd H1 p1 (.lst (kws.map fun ws => V.str (tx ws))) p1 = _ := upd_same
              generalize upd H1 p1 (.lst (kws.map fun ws => V.str (tx ws))) = H2 at *
              refine ⟨_, rfl, _, _, _, _, rfl, rfl, SqT.of (s1' _ _ hp), rfl, _, rfl, ⟨_, SqT.of (s1' _ _ hpd)⟩, lc_tup (xs := dv) (fun i τ ys H' => Same H2 H' /\ (∃ x, τ = [some (.ref p0), none, x]) /\ ys = (dws.take i).map fun ws => V.str (tx ws)) ⟨Same.refl _, ⟨none, rfl⟩, rfl⟩ (fun i τ ys H' _ h => SqT.of (h.1 _ _ (s1' _ _ hpd))) ?_ ?_⟩
              · rintro i x τ ys H3 hx ⟨s3, ⟨y, rfl⟩, rfl⟩
                obtain ⟨d, hd, hId⟩ := hds.get hx
                obtain ⟨ws, hws, hR⟩ := hD.get hd
                have hi : i < dws.length := (List.getElem?_eq_some_iff.mp hws).1
                obtain ⟨g, ns, b, bw, rfl, rfl, hW, h9, h2, hg, hns, hbw⟩ := hR
                refine ⟨_, rfl, g, ns, b, bw, x, rfl, hId.keep (Tups.of (s1'.trans s3)), hW, h9, h2, hg, hns, hbw, fun H4 s4 => ⟨?_, s3.trans s4, ⟨_, rfl⟩, ?_⟩⟩
                · rw [List.length_map, List.length_take]
                  omega
                · exact (take_map (fun ws => V.str (tx ws)) hws)
              · rintro τ ys H3 ⟨s3, _, rfl⟩ p2 h2
                rw [<- dl, dl2, List.take_of_length_le (Nat.le_refl _)]
                refine ⟨_, _, _, _, rfl, rfl, old h2 (s3 _ _ hp1), upd_same, by simp; omega, fun p3 h3 => ?_⟩
                refine ⟨rfl, _, rfl, _, _, (kws ++ dws).map tx, rfl, rfl, SqL.of ?_, ?_, q _ (((s1'.trans s3).new h2).new h3)⟩
                · rw [upd_same, List.map_map, List.map_append]
                  rfl
                · have := rows_wide (kws ++ dws) fun ws hws => by
                    rcases List.mem_append.mp hws with z | z
                    · obtain ⟨d, _, h⟩ := hK.all ws z
                      exact h.wds
                    · obtain ⟨d, _, h⟩ := hD.all ws z
                      exact h.wds
                  rw [List.length_append] at this
                  show wide NL _ <= sizeLine
                  omega
end
end Rdr
namespace Rdr
open PySem L2 K11 Rd
theorem size_ok {n : Int} (h0 : 0 <= n) (h9 : n <= 9) : isSize (Str.ofString (toString n)) = true /\ intOf (Str.ofString (toString n)) = n := by
  refine ⟨?_, (number_made (n := n) (by omega)).2⟩
  have : n = 0 \/ n = 1 \/ n = 2 \/ n = 3 \/ n = 4 \/ n = 5 \/ n = 6 \/ n = 7 \/ n = 8 \/ n = 9 := by omega
  rcases this with e | e | e | e | e | e | e | e | e | e <;> rw [e] <;> decide +kernel
def pairD (p : Str × Int) : D := .tup [.str p.1, .int p.2]
def pairW (p : Str × Int) : List Str := [p.1, Str.ofString (toString p.2)]
structure PairG (p : Str × Int) : Prop where
  nm : isName p.1 = true
  lo : 0 <= p.2
  hi : p.2 <= 9
theorem pair_ok {p : Str × Int} (h : PairG p) (r : List Str) : pairRd (pairW p ++ r) = some (pairD p, r) := by
  obtain ⟨h1, h2⟩ := size_ok h.lo h.hi
  unfold pairRd pairW
  show (nextName LX (p.1 :: Str.ofString (toString p.2) :: r)).bind _ = _
  rw [name_ok (L := LX) h.nm]
  show (sizeRd (Str.ofString (toString p.2) :: r)).map _ = _
  unfold sizeRd
  dsimp only
  rw [if_pos h1, h2]
  rfl
theorem kindF_ok : ∀ (l : List (Str × Int)) (acc : List D) (n : Nat), (∀ p ∈ l, PairG p) -> l.length <= n -> kindF n acc (l.flatMap pairW) = some (acc ++ l.map pairD)
  | [], acc, n, _, _ => by
    cases n with
    | zero =>
      unfold kindF
      simp
    | succ n =>
      unfold kindF
      simp
  | p :: l, acc, 0, _, h => by simp at h
  | p :: l, acc, n + 1, hg, h => by
    have ih := kindF_ok l (acc ++ [pairD p]) n (fun q hq => hg q (List.mem_cons_of_mem _ hq)) (by simpa using h)
    unfold kindF
    rw [List.flatMap_cons, pair_ok (hg p List.mem_cons_self)]
    rw [if_neg (by simp [pairW])]
    show kindF n (acc ++ [pairD p]) (l.flatMap pairW) = _
    rw [ih, List.map_cons, List.append_assoc]
    rfl
theorem kind_ok {p : Str × Int} {l : List (Str × Int)} (hg : ∀ q ∈ p :: l, PairG q) : kindRd ((p :: l).flatMap pairW) = some ((p :: l).map pairD) := by
  unfold kindRd
  rw [List.flatMap_cons, pair_ok (hg p List.mem_cons_self)]
  show kindF (l.flatMap pairW).length [pairD p] (l.flatMap pairW) = _
  rw [kindF_ok l [pairD p] _ (fun q hq => hg q (List.mem_cons_of_mem _ hq))]
  · rfl
  · have : ∀ m : List (Str × Int), m.length <= (m.flatMap pairW).length := fun m => by
      induction m with
      | nil => exact Nat.le_refl _
      | cons a m ih =>
        rw [List.flatMap_cons, List.length_append, List.length_cons]
        have : (pairW a).length = 2 := rfl
        omega
    exact this l
def KGood (k : D) (ws : List Str) : Prop := ∃ (p : Str × Int) (l : List (Str × Int)), k = .tup ((p :: l).map pairD) /\ ws = ("kind" : Str) :: (p :: l).flatMap pairW /\ (∀ q ∈ p :: l, PairG q) /\ l.length <= 99
def DGood (d : D) (ws : List Str) : Prop := ∃ (g : Str) (ns : List Str) (b : D) (bw : List Str), d = .tup [.str g, Rd.«strs» ns, b] /\ ws = ("def" : Str) :: g :: (ns ++ ("=" : Str) :: bw) /\ isName g = true /\ (∀ x ∈ ns, isName x = true) /\ ns.length <= 9 /\ Good b bw /\ bw.length <= 400
theorem KGood.row {k : D} {ws : List Str} (h : KGood k ws) : KRow k ws := by
  obtain ⟨p, l, rfl, rfl, hg, hl⟩ := h
  exact ⟨p :: l, rfl, rfl, by rw [List.length_cons]; omega, fun q hq => ⟨(name_wd (hg q hq).nm).1, (hg q hq).lo, (hg q hq).hi⟩⟩
theorem DGood.row {k : D} {ws : List Str} (h : DGood k ws) : DRow k ws := by
  obtain ⟨g, ns, b, bw, rfl, rfl, hg, hn, h9, hG, hb⟩ := h
  exact ⟨g, ns, b, bw, rfl, rfl, hG.wr, h9, by omega, (name_wd hg).1, fun x hx => (name_wd (hn x hx)).1, hG.word⟩
theorem Each.imp {R S : D -> List Str -> Prop} (h : ∀ d w, R d w -> S d w) : ∀ {ds : List D} {ws : List (List Str)}, Each R ds ws -> Each S ds ws
  | [], [], _ => True.intro
  | d :: ds, w :: ws, e => ⟨h d w e.1, Each.imp h e.2⟩
  | [], _ :: _, e => e.elim
  | _ :: _, [], e => e.elim
theorem Each.snoc {R : D -> List Str -> Prop} {d : D} {w : List Str} (h : R d w) : ∀ {ds : List D} {ws : List (List Str)}, Each R ds ws -> Each R (ds ++ [d]) (ws ++ [w])
  | [], [], _ => ⟨h, True.intro⟩
  | d :: ds, w :: ws, e => ⟨e.1, Each.snoc h e.2⟩
  | [], _ :: _, e => e.elim
  | _ :: _, [], e => e.elim
theorem rows_defs : ∀ {ds : List D} {dws : List (List Str)} (i : Nat) (ks ds0 : List D), Each DGood ds dws -> RowsR i ks ds0 dws (.ok (ks, ds0 ++ ds))
  | [], [], i, ks, ds0, _ => by
    rw [List.append_nil]
    exact .nil
  | d :: ds, w :: ws, i, ks, ds0, e => by
    have r := rows_defs (i + 1) ks (ds0 ++ [d]) e.2
    rw [List.append_assoc] at r
    refine .row (ks' := ks) (ds' := ds0 ++ [d]) ?_ r
    obtain ⟨g, ns, b, bw, rfl, rfl, hg, hn, h9, hG, hb⟩ := e.1
    unfold rowR
    dsimp only
    rw [if_pos rfl]
    exact ⟨_, def_ok hg hn h9 hG, rfl⟩
  | [], _ :: _, _, _, _, e => e.elim
  | _ :: _, [], _, _, _, e => e.elim
theorem rows_kinds : ∀ {ks : List D} {kws : List (List Str)} (i : Nat) (ks0 : List D) (rest : List (List Str)) (o : Except Nat (List D × List D)), Each KGood ks kws -> RowsR (i + kws.length) (ks0 ++ ks) [] rest o -> RowsR i ks0 [] (kws ++ rest) o
  | [], [], i, ks0, rest, o, _, r => by
    rw [List.append_nil] at r
    exact r
  | k :: ks, w :: ws, i, ks0, rest, o, e, r => by
    have r1 := rows_kinds (i + 1) (ks0 ++ [k]) rest o e.2 (by
      rw [List.append_assoc, show i + 1 + ws.length = i + (w :: ws).length by rw [List.length_cons]; omega]
      exact r)
    refine .row (ks' := ks0 ++ [k]) (ds' := []) ?_ r1
    obtain ⟨p, l, rfl, rfl, hg, hl⟩ := e.1
    unfold rowR
    dsimp only
    rw [if_neg (by decide), if_pos ⟨rfl, rfl⟩, kind_ok hg]
    rfl
  | [], _ :: _, _, _, _, _, e, _ => e.elim
  | _ :: _, [], _, _, _, _, e, _ => e.elim
theorem rows_all {ks ds : List D} {kws dws : List (List Str)} (hk : Each KGood ks kws) (hd : Each DGood ds dws) : RowsR 0 [] [] (kws ++ dws) (.ok (ks, ds)) := by
  refine rows_kinds 0 [] dws _ hk ?_
  exact rows_defs _ _ [] hd
theorem KGood.ne {k : D} {ws : List Str} (h : KGood k ws) : ∃ x r, ws = x :: r /\ x ≠ ("" : Str) := by
  obtain ⟨p, l, rfl, rfl, hg, hl⟩ := h
  exact ⟨_, _, rfl, by decide⟩
theorem DGood.ne {k : D} {ws : List Str} (h : DGood k ws) : ∃ x r, ws = x :: r /\ x ≠ ("" : Str) := by
  obtain ⟨g, ns, b, bw, rfl, rfl, _⟩ := h
  exact ⟨_, _, rfl, by decide⟩
structure RowW (ws : List Str) : Prop where
  wd : ∀ x ∈ ws, Wd x
  ne : ∃ x r, ws = x :: r /\ x ≠ ("" : Str)
  few : ws.length <= 2000
theorem KGood.rw {k : D} {ws : List Str} (h : KGood k ws) : RowW ws := by
  refine ⟨h.row.wds.1, h.ne, ?_⟩
  obtain ⟨p, l, rfl, rfl, hg, hl⟩ := h
  have : ∀ m : List (Str × Int), (m.flatMap pairW).length = 2 * m.length := fun m => by
    induction m with
    | nil => rfl
    | cons a m ih =>
      rw [List.flatMap_cons, List.length_append, ih, List.length_cons]
      have : (pairW a).length = 2 := rfl
      omega
  rw [List.length_cons, this, List.length_cons]
  omega
theorem DGood.rw {k : D} {ws : List Str} (h : DGood k ws) : RowW ws := by
  refine ⟨h.row.wds.1, h.ne, ?_⟩
  obtain ⟨g, ns, b, bw, rfl, rfl, _, _, h9, _, hb⟩ := h
  simp only [List.length_cons, List.length_append]
  omega
theorem row_nl {ws : List Str} (h : RowW ws) : 10 ∉ cl (tx ws) := fun m => by
  have m' : 10 ∈ cl (Str.join (sg 32) ws) := by rw [<- sp_sg]; exact m
  rcases mem_join m' with e | ⟨x, hx, hd⟩
  · exact absurd e (by decide)
  · exact (h.wd x hx).nl hd
theorem join_le : ∀ zs : List Str, (Str.join NL zs).length <= (zs.map (·.length)).sum + zs.length
  | [] => by decide
  | [z] => by
    show z.length <= _
    simp
  | z :: y :: r => by
    have ih := join_le (y :: r)
    have e := congrArg List.length (cl_join_cons (sep := NL) (x := z) (y := y) (r := r))
    rw [List.length_append, List.length_append, cl_len, cl_len, cl_len, cl_len] at e
    have s1 : NL.length = 1 := by decide
    rw [s1] at e
    rw [e]
    rw [List.map_cons, List.sum_cons, List.length_cons]
    omega
theorem text_len : ∀ rows : List (List Str), (∀ ws ∈ rows, RowW ws) -> ((rows.map tx).map (·.length)).sum <= 33 * rows.flatten.length
  | [], _ => by decide
  | ws :: r, h => by
    have ih := text_len r fun x hx => h x (List.mem_cons_of_mem _ hx)
    have tl := tx_len (h ws List.mem_cons_self).wd
    rw [List.map_cons, List.map_cons, List.sum_cons, List.flatten_cons, List.length_append]
    omega
theorem text_of {rows : List (List Str)} (h : ∀ ws ∈ rows, RowW ws) (hl : rows.flatten.length <= 3000) (h100 : rows.length <= 100) : (rowsOf (Str.join NL (rows.map tx))).map wordsOf = rows /\ Fit (Str.join NL (rows.map tx)) := by
  have e1 : rowsOf (Str.join NL (rows.map tx)) = rows.map tx := by
    cases rows with
    | nil =>
      unfold rowsOf
      rw [if_pos (by decide)]
      rfl
    | cons ws r =>
      unfold rowsOf
      have ne : Str.join NL ((ws :: r).map tx) ≠ "" := fun e => by
        obtain ⟨x, q, e2, hx⟩ := (h ws List.mem_cons_self).ne
        have hn : tx ws ≠ "" := by
          rw [e2]
          exact tx_cons_ne hx
        cases r with
        | nil => exact hn e
        | cons v r =>
          have e3 := congrArg cl e
          rw [List.map_cons, List.map_cons, cl_join_cons] at e3
          have e4 : cl (tx ws) = [] := (List.append_eq_nil_iff.mp e3).1
          exact hn (str_ext e4)
      rw [if_neg ne, nl_sg]
      refine split_join (by simp) fun x hx => ?_
      obtain ⟨vs, hv, rfl⟩ := List.mem_map.mp hx
      exact row_nl (h vs hv)
  have e2 : (rows.map tx).map wordsOf = rows := by
    rw [List.map_map]
    refine (List.map_congr_left fun ws hws => ?_).trans (List.map_id _)
    obtain ⟨x, q, e2, hx⟩ := (h ws hws).ne
    exact split_tx (by rw [e2]; simp) (h ws hws).wd
  have jl := join_le (rows.map tx)
  have tl := text_len rows h
  rw [List.length_map] at jl
  refine ⟨by rw [e1, e2], by omega, fun l hl => ?_, fun l hl x hx => ?_⟩
  · rw [e1] at hl
    obtain ⟨vs, hv, rfl⟩ := List.mem_map.mp hl
    have := tx_len (h vs hv).wd
    have := (h vs hv).few
    omega
  · rw [e1] at hl
    obtain ⟨vs, hv, rfl⟩ := List.mem_map.mp hl
    obtain ⟨y, q, e2, _⟩ := (h vs hv).ne
    rw [show wordsOf (tx vs) = vs from split_tx (by rw [e2]; simp) (h vs hv).wd] at hx
    have := ((h vs hv).wd x hx).len
    omega
end Rdr
namespace L2
open PySem PySem.Spec PyProof.Rows
def Itr3 (lo st : Int) (n : Nat) : It := ⟨fun i _ => i < n, fun i H x H' => H' = H /\ x = .int (lo + i * st), fun i _ => n <= i⟩
theorem turn_range3 {P : Program} {w : World} {K : PySem.W.Frag} {tg : Expr} (it : Addr) (lo st : Int) (n : Nat) : Turn P w K tg (Itr3 lo st n) [it] it (fun i h => IsRangeIter h it (lo + (i : Nat) * st) ((n : Int) - (i : Nat)) st) where
  mem := by simp
  obj := fun i h st b hb => by
    have e : b = it := by simpa using hb
    subst e
    exact ⟨_, st, fun v z => by
      have z' : Data.fields _ = Data.cell v := z
      cases z'⟩
  keep := fun i h h' st k => k it (by simp) _ st
  item := by
    intro X hP hw hK hc i pins s σ H E I hf sti hg
    subst hP hw hK
    obtain ⟨f0, f1, f2, f3, f4, f5⟩ := hf it (by simp)
    have W := Walks.range (prog := X.prog) (w := X.w) (I.ok.hd hc) it lo st n
    refine W.item i s _ _ hg sti fun v h' tk hv st' kk => ?_
    obtain ⟨t, rfl⟩ := hv
    have I1 : Inv X pins σ H { s with heap := h', toks := tk } := I.turned (fun b o hb e => kk b o (by simpa using hb) e) f0 f1 f3 f4 f5
    exact ⟨_, rfl, go_of (s := { s with heap := h', toks := tk }) (n := "range_iterator") st' rfl rfl (by decide) ⟨.int (lo + i * st), H, I1, ⟨t, rfl⟩, ⟨rfl, rfl⟩, st', fun b hb => (hf b hb).1⟩⟩
  done := by
    intro X hP hw hK hc i pins s σ H E I hf sti hg
    subst hP hw hK
    obtain ⟨f0, f1, f2, f3, f4, f5⟩ := hf it (by simp)
    exact wpAny_pyNext_range_end (I.ok.hd hc) sti (by have : n <= i := hg; omega) fun h' eb => ⟨rfl, I.turned (t' := s.toks) (fun b o hb e => eb b o hb e) f0 f1 f3 f4 f5⟩
  self := fun _ _ _ _ _ st h => wpAny_pyIter_rangeiter st h
theorem small_three {a b c : Int} (ha : 0 <= a) (ha' : a < 2 ^ 40) (hb : 0 <= b) (hb' : b < 2 ^ 40) (hc : 0 < c) (hc' : c < 2 ^ 30) : Builtin.Range.small a b c = true := by
  unfold Builtin.Range.small Builtin.Range.rangeSize
  have q1 : (b - a - 1) / c <= 2 ^ 40 := by
    by_cases h : 0 <= b - a - 1
    · have := Int.ediv_le_self c h
      omega
    · have := Int.ediv_nonpos_of_nonpos_of_neg (show b - a - 1 <= 0 by omega) hc
      omega
  have q2 : a < b -> 0 <= (b - a - 1) / c := fun h => Int.ediv_nonneg (by omega) (by omega)
  simp only [Builtin.Range.rangeFitsLong, Bool.and_eq_true, Bool.or_eq_true, decide_eq_true_eq, beq_iff_eq, show c > 0 from hc, if_true]
  split
  · have := q2 (by assumption)
    omega
  · omega
section
variable {X : Cx} {tg : Expr}
def iRng3 (ta : TA) : TI := fun σ H R => ta σ H fun vs H1 => ∃ a b c : Int, vs = [.int a, .int b, .int c] /\ (0 <= a /\ a < 2 ^ 40 /\ 0 <= b /\ b < 2 ^ 40 /\ 0 < c /\ c < 2 ^ 30) /\ R (Itr3 a c (Builtin.Range.rangeSize a b c).toNat) H1
theorem pi_range3 {a b c : Expr} {ta : TA} {p pos : Pos} (hg : Gl X "range") (hm : X.mg "range" = none) (ha : PA X [a, b, c] ta) (hs : starEach [a, b, c] X.env = [(false, eval a X.env), (false, eval b X.env), (false, eval c X.env)] := by rfl) (hs2 : starEach [b, c] X.env = [(false, eval b X.env), (false, eval c X.env)] := by rfl) :
    PI X tg (.Call (.Name "range" p) [a, b, c] [] pos) (iRng3 ta) := by
  intro pins s σ H R I h
  refine Call_ (ld_blt I hg hm boot_range (PyProof.Rows.callWith_type1 (thn (ha pos pins s σ H _ I h) fun us s1 ⟨vs, H1, I1, r1, q1⟩ => ?_) (by rw [hs, hs2]) (by rw [hs2]; rfl)))
  obtain ⟨i, j, k, e, ⟨q1, q2, q3, q4, q5, q6⟩, q⟩ := q1
  subst e
  cases r1 with
  | cons r rr =>
    cases rr with
    | cons r' rr =>
      cases rr with
      | cons r'' rr =>
        cases rr
        obtain ⟨t, rfl⟩ := r
        obtain ⟨t', rfl⟩ := r'
        obtain ⟨t'', rfl⟩ := r''
        refine call_range_3 (by omega) ?_ (.inl (PyProof.noPylong_small (by omega)))
        refine wpAny_pyIter_range (IsRange.new ..) (small_three q1 q2 q3 q4 q5 q6) ?_
        have I2 : Inv X pins σ H1 { s1 with heap := s1.heap.push { cls := .type "range", data := .fields #[.int i t, .int j t', .int k t''] }, toks := s1.toks } := I1.kept fun b o e => Heap.get?_push_of_some _ e
        refine ⟨(s1.heap.push { cls := .type "range", data := .fields #[.int i t, .int j t', .int k t''] }).objs.size, [(s1.heap.push { cls := .type "range", data := .fields #[.int i t, .int j t', .int k t''] }).objs.size], _, _, H1, rfl, I2.kept (t' := s1.toks) fun b o e => Heap.get?_push_of_some _ e,
          turn_range3 _ i k (Builtin.Range.rangeSize i j k).toNat, ?_, fun b hb => ?_, q⟩
        · have e1 : i + ((0 : Nat) : Int) * k = i := by simp
          have p0 : 0 <= Builtin.Range.rangeSize i j k := by
            unfold Builtin.Range.rangeSize
            rw [if_pos q5]
            split
            · have := Int.ediv_nonneg (show 0 <= j - i - 1 by omega) (show 0 <= k by omega)
              omega
            · exact Int.le_refl _
          have e2 : (((Builtin.Range.rangeSize i j k).toNat : Nat) : Int) - ((0 : Nat) : Int) = Builtin.Range.rangeSize i j k := by omega
          show IsRangeIter _ _ (i + ((0 : Nat) : Int) * k) ((((Builtin.Range.rangeSize i j k).toNat : Nat) : Int) - ((0 : Nat) : Int)) k
          rw [e1, e2]
          exact Heap.get?_push_size _ rfl
        · have e : b = (s1.heap.push { cls := .type "range", data := .fields #[.int i t, .int j t', .int k t''] }).objs.size := by simpa using hb
          subst e
          exact I2.fpOk (Nat.le_refl _) (I2.hok.fresh (Nat.le_refl _))
theorem ji_range3 {a b c : Expr} {t : TA} {p pos : Pos} (hg : Gl X "range") (hm : X.mg "range" = none) (ha : jA X [a, b, c] t) (h1 : isStar a = false := by rfl) (h2 : isStar b = false := by rfl) (h3 : isStar c = false := by rfl) : jI X tg (.Call (.Name "range" p) [a, b, c] [] pos) (iRng3 t) :=
  ⟨pi_range3 hg hm ha.out (by rw [star_cons h1, star_cons h2, star_cons h3]; rfl) (by rw [star_cons h2, star_cons h3]; rfl)⟩
end
theorem for_range3 {lo st : Int} {n : Nat} {g : TG} {tb : TS} {D : Ends} {σ : St} {H : Hp} (Pv : Nat -> St -> Hp -> Prop) (h0 : Pv 0 σ H)
    (hs : ∀ i σ H, i < n -> Pv i σ H -> g (.int (lo + i * st)) σ H fun σ2 H2 => tb { D with nx := Pv (i + 1), ct := Pv (i + 1), bk := D.nx } σ2 H2) (hd : ∀ σ H, Pv n σ H -> D.nx σ H) :
    ∃ W : Nat -> Nat -> St -> Hp -> Prop, (∃ m, W 0 m σ H) /\ ∀ i m σ H, W i m σ H ->
      ((Itr3 lo st n).stop i H /\ D.nx σ H) \/ ((Itr3 lo st n).go i H /\ ∃ N : St -> Hp -> Prop, (∀ σ' H', N σ' H' -> ∃ m', m' < m /\ W (i + 1) m' σ' H') /\ ∀ x H', (Itr3 lo st n).yld i H x H' -> g x σ H' fun σ2 H2 => tb { D with nx := N, ct := N, bk := D.nx } σ2 H2) := by
  refine ⟨fun i m σ H => m = n - i /\ i <= n /\ Pv i σ H, ⟨n, by simp, Nat.zero_le _, h0⟩, ?_⟩
  rintro i m σ H ⟨rfl, hi, p⟩
  by_cases hlt : i < n
  · refine .inr ⟨hlt, Pv (i + 1), fun σ' H' p' => ⟨n - (i + 1), by omega, rfl, hlt, p'⟩, fun x H' y => ?_⟩
    obtain ⟨e, y⟩ := y
    subst e y
    exact hs i σ _ hlt p
  · have e : i = n := by omega
    subst e
    exact .inl ⟨Nat.le_refl _, hd σ H p⟩
end L2
namespace L2
open PySem
theorem line0 : sizeLine = 16777216 := by decide
theorem rel_of_abs {u : Value} {x : V} (h : absV u = some x) : RelV x u := by
  cases u <;> first
    | (cases h; rfl)
    | (cases h; exact ⟨_, rfl⟩)
    | (cases h)
theorem vals_of_abs : ∀ {us : List Value} {xs : List V}, us.map absV = xs.map some -> Vals xs us
  | [], [], _ => .nil
  | [], _ :: _, h => by cases h
  | _ :: _, [], h => by cases h
  | u :: us, x :: xs, h => by
    rw [List.map_cons, List.map_cons] at h
    injection h with h1 h2
    exact .cons (rel_of_abs h1) (vals_of_abs h2)
def FnIn (K : PySem.W.Frag) (x qual : Str) (st : Stmt) (f : Addr) : Prop := ∃ (oc : Value) (od : Option Addr) (kV doc pm : Value) (an : Option Addr) (cdv ct : Value) (osl : Array (Option Value)), K.lookup f = some ⟨oc, od, .func (PySem.W.fnOf x qual (defArgs st) (defBody st) (defScope st) .none kV doc pm an cdv ct), osl⟩ /\ PySem.W.codeIn K cdv qual = true /\ PySem.W.keepIn K (.ref f) = true
theorem FnIn.fn {K : PySem.W.Frag} {x qual : Str} {st : Stmt} {f : Addr} (h : FnIn K x qual st f) : ∃ fd, Fun K x qual st f fd /\ PySem.W.keepIn K (.ref f) = true := by
  obtain ⟨_, _, _, _, _, _, _, _, _, l, c, k⟩ := h
  exact ⟨_, fun_mk l c k, k⟩
def DfIn (K : PySem.W.Frag) (x : Str) (st : Stmt) : Prop := ∃ f, PySem.W.nsIn K mainGlobals x = some (some (.ref f)) /\ FnIn K x x st f
def MeIn (K : PySem.W.Frag) (C : Addr) (x qual : Str) (st : Stmt) : Prop := ∃ f, PySem.W.findIn K (.ref C) x = some (some (.ref f)) /\ PySem.W.isFn K (.ref f) = true /\ FnIn K x qual st f
def TpIn (K : PySem.W.Frag) (x : Str) (l : List Str) : Prop := ∃ (a : Addr) (d : Option Addr) (it : Array Value) (n : Nat) (sl : Array (Option Value)), PySem.W.nsIn K mainGlobals x = some (some (.ref a)) /\ K.lookup a = some ⟨.type "tuple", d, .seq it n, sl⟩ /\ it.toList.map absV = l.map fun x => some (.str x)
theorem TpIn.sq {K : PySem.W.Frag} {x : Str} {l : List Str} (h : TpIn K x l) (hl : l.length <= 100) : ∃ a, PySem.W.nsIn K mainGlobals x = some (some (.ref a)) /\ ∀ H : Hp, SqT K H a (l.map V.str) := by
  obtain ⟨a, d, it, n, sl, h1, h2, h3⟩ := h
  refine ⟨a, h1, fun H => .inr ⟨_, it, n, h2, rfl, rfl, ?_, vals_of_abs (by rw [h3, List.map_map]; rfl)⟩⟩
  have e := congrArg List.length h3
  rw [List.length_map, List.length_map, Array.length_toList] at e
  have sl := line0
  omega
theorem MeIn.me {P : Program} {w : World} {K : PySem.W.Frag} {mg : Str -> Option Value} {base : Heap} {CX : CXT} {k : Nat} {C : Addr} {x qual : Str} {st : Stmt} {ps : List Str} {sp : Sp} (h : MeIn K C x qual st) (hb : ∀ (kV doc pm : Value) (an : Option Addr) (cdv ct : Value) (us : List Value), us.length = ps.length -> bindArgs (PySem.W.fnOf x qual (defArgs st) (defBody st) (defScope st) .none kV doc pm an cdv ct) ⟨us, []⟩ = pure (ps.zip us))
    (ok : ∀ f fd, Fun K x qual st f fd -> FnOk P w K mg base CX k f fd ps sp) : Me P w K mg base CX k C x ps sp := by
  obtain ⟨f, a, n, g⟩ := h
  obtain ⟨fd, F, kp⟩ := g.fn
  exact ⟨f, fd, ok f fd F, F.binds hb, a, n, kp⟩
theorem MeIn.ma {P : Program} {w : World} {K : PySem.W.Frag} {mg : Str -> Option Value} {base : Heap} {CX : CXT} {k : Nat} {C : Addr} {x qual : Str} {st : Stmt} {ps : List Str} {sp : Sp} (h : MeIn K C "__init__" qual st) (hb : ∀ (kV doc pm : Value) (an : Option Addr) (cdv ct : Value) (us : List Value), us.length = ps.length -> bindArgs (PySem.W.fnOf "__init__" qual (defArgs st) (defBody st) (defScope st) .none kV doc pm an cdv ct) ⟨us, []⟩ = pure (ps.zip us))
    (mk : PySem.W.makesIn K C = true) (kp : PySem.W.keepIn K (.ref C) = true) (hm : mg x = some (.ref C)) (ok : ∀ f fd, Fun K "__init__" qual st f fd -> FnOk P w K mg base CX k f fd ps sp) : Ma P w K mg base CX k x C ps sp := by
  obtain ⟨f, a, n, g⟩ := h
  obtain ⟨fd, F, _⟩ := g.fn
  exact ⟨f, fd, ⟨mk, a, n, kp⟩, ok f fd F, F.binds hb, hm⟩
theorem DfIn.ca {P : Program} {w : World} {K : PySem.W.Frag} {mg : Str -> Option Value} {base h : Heap} {CX : CXT} {k : Nat} {x : Str} {st : Stmt} {ps : List Str} {sp : Sp} (X : K.In h) (G : h.Ns mainGlobals mg) (d : DfIn K x st) (hb : ∀ (kV doc pm : Value) (an : Option Addr) (cdv ct : Value) (us : List Value), us.length = ps.length -> bindArgs (PySem.W.fnOf x x (defArgs st) (defBody st) (defScope st) .none kV doc pm an cdv ct) ⟨us, []⟩ = pure (ps.zip us))
    (ok : ∀ f fd, Fun K x x st f fd -> FnOk P w K mg base CX k f fd ps sp) : Ca P w K mg base CX k x ps sp := by
  obtain ⟨f, a, g⟩ := d
  obtain ⟨fd, F, kp⟩ := g.fn
  exact ⟨f, fd, ok f fd F, F.binds hb, kp, PySem.W.mg_of X G a⟩
theorem DfIn.mk {K : PySem.W.Frag} {x : Str} {st : Stmt} {f : Addr} {oc : Value} {od : Option Addr} {kV doc pm : Value} {an : Option Addr} {cdv ct : Value} {osl : Array (Option Value)} (a : PySem.W.nsIn K mainGlobals x = some (some (.ref f))) (l : K.lookup f = some ⟨oc, od, .func (PySem.W.fnOf x x (defArgs st) (defBody st) (defScope st) .none kV doc pm an cdv ct), osl⟩) (c : PySem.W.codeIn K cdv x = true) (k : PySem.W.keepIn K (.ref f) = true) : DfIn K x st := ⟨f, a, oc, od, kV, doc, pm, an, cdv, ct, osl, l, c, k⟩
theorem MeIn.mk {K : PySem.W.Frag} {C : Addr} {x qual : Str} {st : Stmt} {f : Addr} {oc : Value} {od : Option Addr} {kV doc pm : Value} {an : Option Addr} {cdv ct : Value} {osl : Array (Option Value)} (a : PySem.W.findIn K (.ref C) x = some (some (.ref f))) (l : K.lookup f = some ⟨oc, od, .func (PySem.W.fnOf x qual (defArgs st) (defBody st) (defScope st) .none kV doc pm an cdv ct), osl⟩) (c : PySem.W.codeIn K cdv qual = true) (k : PySem.W.keepIn K (.ref f) = true) (n : PySem.W.isFn K (.ref f) = true) : MeIn K C x qual st := ⟨f, a, n, oc, od, kV, doc, pm, an, cdv, ct, osl, l, c, k⟩
theorem TpIn.mk {K : PySem.W.Frag} {x : Str} {l : List Str} {b : Addr} {d : Option Addr} {it : Array Value} {n : Nat} {sl : Array (Option Value)} (a : PySem.W.nsIn K mainGlobals x = some (some (.ref b))) (k : K.lookup b = some ⟨.type "tuple", d, .seq it n, sl⟩) (v : it.toList.map absV = l.map fun x => some (.str x)) : TpIn K x l := ⟨b, d, it, n, sl, a, k, v⟩
theorem GlIn.mk {K : PySem.W.Frag} {x : Str} {z : Str} {v : Value} {t : Tok} (a : PySem.W.nsIn K mainGlobals x = some (some v)) (e : v = .str z t) : ∃ t, PySem.W.nsIn K mainGlobals x = some (some (.str z t)) := ⟨t, by rw [a, e]⟩
theorem GiIn.mk {K : PySem.W.Frag} {x : Str} {i : Int} {v : Value} {t : Tok} (a : PySem.W.nsIn K mainGlobals x = some (some v)) (e : v = .int i t) : ∃ t, PySem.W.nsIn K mainGlobals x = some (some (.int i t)) := ⟨t, by rw [a, e]⟩
theorem XcIn.mk {K : PySem.W.Frag} {C f : Addr} (a : PySem.W.findIn K (.ref C) "__init__" = some (some (.ref f))) (b : xIn K C f = true) (c : PySem.W.typeIn K (.ref f) = some (.type "function")) : ∃ f, PySem.W.findIn K (.ref C) "__init__" = some (some (.ref f)) /\ xIn K C f = true /\ PySem.W.typeIn K (.ref f) = some (.type "function") := ⟨f, a, b, c⟩
structure OwnIn (K : PySem.W.Frag) (x : Str) (C : Addr) : Prop where
  n : PySem.W.nsIn K mainGlobals x = some (some (.ref C))
  pg : PySem.W.plainGet K C Str.empty = true
  hd : PySem.W.hasDictIn K C = true
  po : PySem.W.plainOver K C = true
  sa : PySem.W.findIn K (.ref C) "__setattr__" = some (some (.builtin "object.__setattr__"))
  mks : PySem.W.makesIn K C = true
  kp : PySem.W.keepIn K (.ref C) = true
theorem OwnIn.cls {K : PySem.W.Frag} {x : Str} {C : Addr} (o : OwnIn K x C) : Cls K C := ⟨o.pg, o.hd, o.po, o.sa⟩
def spTop (K : PySem.W.Frag) : Sp := fun vs H Q _ => ∃ (a : Addr) (ns : List Int), vs = [.ref a] /\ SqL K H a (ns.map V.int) /\ ns.length <= 63 /\ ∀ H', Q (.bl true) H'
theorem law_in {l : PySem.W.OpenLaw} {w : World} {K : PySem.W.Frag} {h : Heap} {mg : Str -> Option Value} {fa : Addr} {st : Stmt} {k : Nat} (d : DfIn K "law" st) (X : K.In h) (G : h.Ns mainGlobals mg) (hfa : mg "law" = some (.ref fa))
    (hb : ∀ (kV doc pm : Value) (an : Option Addr) (cdv ct : Value) (s : Shared) (u : Value), BindsTo s (PySem.W.fnOf "law" "law" (defArgs st) (defBody st) (defScope st) .none kV doc pm an cdv ct) ⟨[u], []⟩ [("_law_script", u)])
    (ok : ∀ (base : Heap) (fd : FuncData), Fun K "law" "law" st fa fd -> FnOk l.prog w K mg base CX0 k fa fd ["_law_script"] (spTop K)) :
    ∃ fd : FuncData, (∀ (s : Shared) (u : Value), BindsTo s fd ⟨[u], []⟩ [("_law_script", u)]) /\ ∀ base : Heap, K.In base -> base.Ns mainGlobals mg -> FnOk l.prog w K mg base CX0 k fa fd ["_law_script"] (spTop K) := by
  obtain ⟨fl, al, oc, od, kV, doc, pm, an, cdv, ct, osl, lk, cc, kk⟩ := d
  have e : fl = fa := by
    have := PySem.W.mg_of X G al
    rw [hfa] at this
    injection this with this
    injection this with this
    exact this.symm
  subst e
  exact ⟨_, fun s v => hb _ _ _ _ _ _ s v, fun base _ _ => ok base _ (fun_mk (st := st) lk cc kk)⟩
theorem walk1 {l : PySem.W.OpenLaw} {q : Program} {loose : List Str} {XP : (Str -> Option Value) -> Heap -> Prop} {YP : World -> Heap -> Prop} {d : DefRec} {K : Params -> PySem.W.Frag} {k : Nat} (hn : l.most = some 63) (hr : Room k callerA) (hdf : d.params.defaults = []) (hnm : d.name = "law")
    (hY : ∀ (w : World) (h : Heap), YP w h -> (K w.params).In h)
    (F : ∀ (w : World) (mg : Str -> Option Value) (fa : Addr) (h : Heap), (K w.params).In h -> h.Ns mainGlobals mg -> mg "law" = some (.ref fa) -> ∃ fd : FuncData, (∀ (s : Shared) (u : Value), BindsTo s fd ⟨[u], []⟩ [("_law_script", u)]) /\ ∀ base : Heap, (K w.params).In base -> base.Ns mainGlobals mg -> FnOk l.prog w (K w.params) mg base CX0 k fa fd ["_law_script"] (spTop (K w.params))) :
    PySem.W.WalkO q loose XP YP l.row.toRowW d [] (fun f vs => PySem.call f vs) :=
  L2.walk_of (n := 63) (k := k) (x := "_law_script") (CX := fun _ => CX0) (sp := fun w => spTop (K w.params)) hn (by decide) hdf hr hY (fun w mg fa h X G hm => F w mg fa h X G (by rw [hnm] at hm; exact hm)) (fun _ _ a ns hl _ hS => ⟨a, ns, rfl, hS, hl, fun _ => rfl⟩) fun _ _ _ _ _ z => z
end L2
namespace L2
open PySem
theorem jc_min2 {X : Cx} (hc : X.calm = true) : jCa X (.builtin "min") (fun xs H Q => ∃ i j, xs = [.int i, .int j] /\ Q (.int (if j < i then j else i)) H) := ⟨call_min2 hc⟩
theorem for_enum {K : PySem.W.Frag} {a : Addr} {xs : List V} {g : TG} {tb : TS} {D : Ends} {σ : St} {H : Hp} (Pv : Nat -> St -> Hp -> Prop) (h0 : Pv 0 σ H) (hl : ∀ i σ H, i <= xs.length -> Pv i σ H -> SqL K H a xs)
    (hs : ∀ i x T σ H, xs[i]? = some x -> H T = none -> Pv i σ H -> g (.ref T) σ (upd H T (.tup [.int (i : Nat), x])) fun σ2 H2 => tb { D with nx := Pv (i + 1), ct := Pv (i + 1), bk := D.nx } σ2 H2) (hd : ∀ σ H, Pv xs.length σ H -> D.nx σ H) :
    ∃ W : Nat -> Nat -> St -> Hp -> Prop, (∃ m, W 0 m σ H) /\ ∀ i m σ H, W i m σ H ->
      ((Ite K a).stop i H /\ D.nx σ H) \/ ((Ite K a).go i H /\ ∃ N : St -> Hp -> Prop, (∀ σ' H', N σ' H' -> ∃ m', m' < m /\ W (i + 1) m' σ' H') /\ ∀ x H', (Ite K a).yld i H x H' -> g x σ H' fun σ2 H2 => tb { D with nx := N, ct := N, bk := D.nx } σ2 H2) := by
  refine ⟨fun i m σ H => m = xs.length - i /\ i <= xs.length /\ Pv i σ H, ⟨xs.length, by simp, Nat.zero_le _, h0⟩, ?_⟩
  rintro i m σ H ⟨rfl, hi, p⟩
  have q := hl i σ H hi p
  by_cases hlt : i < xs.length
  · refine .inr ⟨⟨xs, xs[i], q, by simp [hlt]⟩, Pv (i + 1), fun σ' H' p' => ⟨xs.length - (i + 1), by omega, rfl, hlt, p'⟩, fun x H' y => ?_⟩
    obtain ⟨T, v, rfl, hT, rfl, e⟩ := y
    exact hs i v T σ H (e xs q) hT p
  · have e : i = xs.length := by omega
    subst e
    exact .inl ⟨⟨xs, q, Nat.le_refl _⟩, hd σ H p⟩
end L2
namespace Rdr
open PySem L2 K11 Rd
def spLKind (K : PySem.W.Frag) : Sp := fun vs H Q _ => ∃ (a : Addr) (ns : List Int), vs = [.ref a] /\ SqL K H a (ns.map V.int) /\ ns.length <= 3 /\ ∀ (H' : Hp) (p : Addr) (v : V) (k : D) (ws : List Str), Same H H' -> H' p = some (.tup [v, .str (tx ws)]) -> Is H' k v -> KGood k ws -> Q (.ref p) H'
def spLDef (K : PySem.W.Frag) : Sp := fun vs H Q _ => ∃ (a : Addr) (ns : List Int), vs = [.ref a] /\ SqL K H a (ns.map V.int) /\ ns.length <= 63 /\ ∀ (H' : Hp) (p : Addr) (v : V) (k : D) (ws : List Str), Same H H' -> H' p = some (.tup [v, .str (tx ws)]) -> Is H' k v -> DGood k ws -> Q (.ref p) H'
section
variable {P : Program} {w : World} {K : PySem.W.Frag} {mg : Str -> Option Value} {base : Heap} {f : Addr} {fd : FuncData}
theorem scLKind : FnScope ["_law_cells", "_law_pairs", "_law_words", "_law_cell", "_law_many_here", "_law_k", "_law_tag"] ["_law_cells"] (defScope sLKind) := ⟨rfl, rfl, rfl, by decide +kernel, rfl, by decide +kernel, by decide +kernel⟩
theorem kind_a : tx ["kind", "a", "0"] = "kind a 0" := by decide +kernel
theorem ok_lkind (F : Fun K "_law_kind" "_law_kind" sLKind f fd) (G__law_name : Ca P w K mg base CX0 1 "_law_name" ["_law_number_here"] spLName) (m_range : mg "range" = none) (m_str : mg "str" = none) (m_tuple : mg "tuple" = none) : FnOk P w K mg base CX0 2 f fd ["_law_cells"] (spLKind K) := by
  refine F.by scLKind (fun vs H Q E h => ?_) (fun cdv A outer s H vs Q E hr h => ?_)
  · obtain ⟨a, ns, rfl, _⟩ := h
    rfl
  obtain ⟨a, ns, rfl, hS, h3, q⟩ := h
  refine ⟨_,
    (jss_cons (js_set (i := 1) scLKind.nd rfl (Or.inl rfl) (je_lst ja_nil))
    (jss_cons (js_set (i := 2) scLKind.nd rfl (Or.inl rfl) (je_lst (ja_c je_str ja_nil)))
    (jss_cons (js_for PassesOwn.never rfl (ji_list (jv 0)) (jg_name (i := 3) scLKind.nd rfl (Or.inl rfl))
      (jss_cons (js_set (i := 4) scLKind.nd rfl (Or.inl rfl) je_int)
      (jss_cons (js_if (jt_cmpR jo_eq (je_op jo_mod (jv 3) je_int) je_int (nomark _))
        (jss_one (js_set (i := 4) scLKind.nd rfl (Or.inl rfl) (je_op jo_mod (je_op jo_fdiv (jv 3) je_int) je_int))) jss_nil)
      (jss_one (js_for PassesOwn.never rfl (ji_range1 rfl m_range (ja_c (jv 4) ja_nil)) (jg_name (i := 5) scLKind.nd rfl (Or.inl rfl))
        (jss_cons (js_set (i := 6) scLKind.nd rfl (Or.inl rfl) (je_ca G__law_name hr rfl pass0 (ja_c (je_op jo_add (je_op jo_mod (je_op jo_fdiv (jv 3) je_int) je_int) (je_op jo_mul je_int (jv 5))) ja_nil)))
        (jss_cons (js_expr (je_bm PySem.F.plainAttrs_list PySem.F.slot_list_append PySem.F.type_list_append jm_append (jv 1) (ja_c (je_tup (ja_c (jv 6) (ja_c (je_op jo_mod (je_op jo_add (jv 3) (je_op jo_mul je_int (jv 5))) je_int) ja_nil))) ja_nil)))
        (jss_one (js_expr (je_bm PySem.F.plainAttrs_list PySem.F.slot_list_extend PySem.F.type_list_extend jm_extend (jv 2) (ja_c (je_lst (ja_c (jv 6) (ja_c (je_fnTy jc_str_int rfl m_str PyProof.Rows.boot_str (ja_c (je_op jo_mod (je_op jo_add (jv 3) (je_op jo_mul je_int (jv 5))) je_int) ja_nil)) ja_nil))) ja_nil)))))))))))
    (jss_cons (js_if (jt_cmpR (jo_eqE hr) (jv 1) (je_lst ja_nil) (nomark _))
      (jss_one (js_ret (je_tup (ja_c (je_tup (ja_c (je_tup (ja_c je_str (ja_c je_int ja_nil))) ja_nil)) (ja_c je_str ja_nil))))) jss_nil)
    (jss_one (js_ret (je_tup (ja_c (je_fnTy jc_tuple_of rfl m_tuple PyProof.Rows.boot_tuple (ja_c (jv 1) ja_nil)) (ja_c (je_bm PySem.F.plainAttrs_str PySem.F.slot_str_join PySem.F.type_str_join jm_join je_str (ja_c (jv 2) ja_nil)) ja_nil))))))))), ?_⟩
  have sl := line
  have cD : ∀ {i j : Int}, 0 < j -> j < 1073741824 -> CDiv i j := fun h1 h2 => ⟨h1, h2⟩
  have plen : ∀ m : List (Str × Int), (m.flatMap pairW).length = 2 * m.length := fun m => by
    induction m with
    | nil => rfl
    | cons a m ih =>
      rw [List.flatMap_cons, List.length_append, ih, List.length_cons]
      have : (pairW a).length = 2 := rfl
      omega
  refine ⟨by show 0 <= sizeLine; decide, fun pp h1 => ⟨by show 1 <= sizeLine; decide, fun pw h2 => ?_⟩⟩
  have npp : H pp = none := h1
  have npw : H pw = none := (same_new h1 (.lst [])).free h2
  have nwp : pp ≠ pw := ne_of_none upd_same h2
  have s2 : Same H (upd (upd H pp (.lst [])) pw (.lst [.str "kind"])) := (same_new h1 _).new h2
  refine ⟨_, rfl, _, rfl, ⟨_, s2.seq hS⟩, for_list (xs := ns.map V.int) (fun i σ H' => ∃ (l : List (Str × Int)) (pv : List V) (x y z u : Option V), σ = [some (.ref a), some (.ref pp), some (.ref pw), x, y, z, u] /\ Same H H' /\ H' pp = some (.lst pv) /\ IsL H' (l.map pairD) pv /\ H' pw = some (.lst ((("kind" : Str) :: l.flatMap pairW).map V.str)) /\ l.length <= 30 * i /\ ∀ p ∈ l, PairG p)
    ⟨[], [], none, none, none, none, rfl, s2, old h2 upd_same, .nil, upd_same, Nat.le_refl _, (fun p hp => by cases hp)⟩ (fun i σ H' _ h => ?_) ?_ ?_⟩
  · obtain ⟨_, _, _, _, _, _, _, s3, _⟩ := h
    exact s3.seq hS
  · rintro i v σ H3 hv ⟨l, pv, x, y, z, u, rfl, s3, hpp, hIs, hpw, hll, hg⟩
    rw [List.getElem?_map] at hv
    obtain ⟨c, hc, rfl⟩ := Option.map_eq_some_iff.mp hv
    have hi : i < ns.length := (List.getElem?_eq_some_iff.mp hc).1
    refine (show ∀ (v : TS) (D : Ends), (∀ m : Int, 0 <= m -> m <= 30 -> v D [some (.ref a), some (.ref pp), some (.ref pw), some (.int c), some (.int m), z, u] H3) -> (tSeq _ (tSeq _ v) : TS) D [some (.ref a), some (.ref pp), some (.ref pw), some (.int c), y, z, u] H3 from ?key) _ _ ?rest
    case key =>
      intro v D rest
      refine ⟨_, rfl, _, _, rfl, rfl, (by show (0 : Int) < _; decide), rfl, _, rfl, ?_⟩
      refine ite2 (fun _ => ?_) (fun _ => rest 1 (by decide) (by decide))
      have b1 := Int.emod_nonneg (c / 11) (show (30 : Int) ≠ 0 by decide)
      have b2 := Int.emod_lt_of_pos (c / 11) (show (0 : Int) < 30 by decide)
      exact ⟨_, rfl, _, _, rfl, rfl, cD (by decide) (by decide), _, _, rfl, rfl, (by show (0 : Int) < _; decide), rest _ b1 (by omega)⟩
    case rest =>
    intro m m0 m30
    refine ⟨_, rfl, m, rfl, by omega, by omega, for_range (n := m.toNat) (fun j σ H' => ∃ (l' : List (Str × Int)) (pv : List V) (z u : Option V), σ = [some (.ref a), some (.ref pp), some (.ref pw), some (.int c), some (.int m), z, u] /\ Same H H' /\ H' pp = some (.lst pv) /\ IsL H' (l'.map pairD) pv /\ H' pw = some (.lst ((("kind" : Str) :: l'.flatMap pairW).map V.str)) /\ l'.length <= 30 * i + j /\ ∀ p ∈ l', PairG p)
      ⟨l, pv, z, u, rfl, s3, hpp, hIs, hpw, hll, hg⟩ ?_ ?_⟩
    · rintro j σ H4 hj ⟨l', pv', z', u', rfl, s4, hpp4, hIs4, hpw4, hll4, hg4⟩
      have b1 := Int.emod_nonneg (c / 10) (show (1000003 : Int) ≠ 0 by decide)
      have b3 := Int.emod_nonneg (c + 3 * (0 + (j : Nat))) (show (10 : Int) ≠ 0 by decide)
      have b4 := Int.emod_lt_of_pos (c + 3 * (0 + (j : Nat))) (show (0 : Int) < 10 by decide)
      have hpl := hIs4.len
      rw [List.length_map] at hpl
      refine ⟨_, rfl, _, _, rfl, rfl, cD (by decide) (by decide), _, _, rfl, rfl, (by show (0 : Int) < _; decide), _, rfl, _, _, rfl, rfl, .inl ⟨by decide, by decide⟩, _, _, rfl, rfl, _, rfl, by omega, fun t H5 ht s5 => ?_⟩
      refine ⟨_, rfl, .inl ⟨rfl, _, SqL.of (s5 _ _ hpp4)⟩, _, rfl, _, rfl, _, rfl, _, _, rfl, rfl, .inl ⟨by decide, by decide⟩, _, _, rfl, rfl, _, _, rfl, rfl, (by show (0 : Int) < _; decide), by show 2 <= sizeLine; decide, fun p6 h6 => ?_⟩
      refine ⟨_, _, _, rfl, rfl, old h6 (s5 _ _ hpp4), by omega, ?_⟩
      have np6 : pp ≠ p6 := ne_of_none (s5 _ _ hpp4) h6
      have hpw6 : upd (upd H5 p6 (.tup [.str t, .int ((c + 3 * (0 + (j : Nat))) % 10)])) pp (.lst (pv' ++ [.ref p6])) pw = some (.lst ((("kind" : Str) :: l'.flatMap pairW).map V.str)) := by rw [upd_ne nwp.symm]; exact old h6 (s5 _ _ hpw4)
      have hpp6 : upd (upd H5 p6 (.tup [.str t, .int ((c + 3 * (0 + (j : Nat))) % 10)])) pp (.lst (pv' ++ [.ref p6])) pp = some (.lst (pv' ++ [.ref p6])) := upd_same
      have t6 : Tups H4 (upd (upd H5 p6 (.tup [.str t, .int ((c + 3 * (0 + (j : Nat))) % 10)])) pp (.lst (pv' ++ [.ref p6]))) := fun b xs hb => by
        rw [upd_ne (ne_of hb hpp4 (by intro z; cases z))]
        exact old h6 (s5 _ _ hb)
      have hq6 : upd (upd H5 p6 (.tup [.str t, .int ((c + 3 * (0 + (j : Nat))) % 10)])) pp (.lst (pv' ++ [.ref p6])) p6 = some (.tup [.str t, .int ((c + 3 * (0 + (j : Nat))) % 10)]) := by rw [upd_ne np6.symm]; exact upd_same
      have s6 : Same H (upd (upd H5 p6 (.tup [.str t, .int ((c + 3 * (0 + (j : Nat))) % 10)])) pp (.lst (pv' ++ [.ref p6]))) := ((s4.trans s5).new h6).put npp
      generalize upd (upd H5 p6 (.tup [.str t, .int ((c + 3 * (0 + (j : Nat))) % 10)])) pp (.lst (pv' ++ [.ref p6])) = H6 at *
      refine ⟨_, rfl, .inl ⟨rfl, _, SqL.of hpw6⟩, _, rfl, _, rfl, _, rfl, _, _, rfl, rfl, .inl ⟨by decide, by decide⟩, _, _, rfl, rfl, _, _, rfl, rfl, (by show (0 : Int) < _; decide), _, rfl, log_lt (by omega), by show 2 <= sizeLine; decide, fun p7 h7 => ?_⟩
      refine ⟨_, _, _, _, rfl, rfl, old h7 hpw6, upd_same, by rw [List.length_map, List.length_cons, plen]; show _ + 2 <= _; omega, ?_⟩
      refine ⟨l' ++ [(t, (c + 3 * (0 + (j : Nat))) % 10)], pv' ++ [.ref p6], _, _, rfl, (s6.new h7).put npw, ?_, ?_, ?_, ?_, ?_⟩
      · rw [upd_ne nwp]
        exact old h7 hpp6
      · have t7 : Tups H6 (upd (upd H6 p7 (.lst [.str t, .str (toString ((c + 3 * (0 + (j : Nat))) % 10))])) pw (.lst ((("kind" : Str) :: l'.flatMap pairW).map V.str ++ [.str t, .str (toString ((c + 3 * (0 + (j : Nat))) % 10))]))) := fun b xs hb => by
          rw [upd_ne (ne_of hb hpw6 (by intro z; cases z))]
          exact old h7 hb
        rw [List.map_append]
        exact (hIs4.keep (t6.trans t7)).app (.cons (.tup (t7 _ _ hq6) (.cons (.str _) (.cons (.int _) .nil))) .nil)
      · rw [upd_same, List.flatMap_append]
        simp [pairW]
      · rw [List.length_append, List.length_singleton]
        omega
      · intro p hp
        rcases List.mem_append.mp hp with e | e
        · exact hg4 p e
        · rw [List.mem_singleton.mp e]
          exact ⟨ht, b3, by show (c + 3 * (0 + (j : Nat))) % 10 <= 9; omega⟩
    · rintro σ H4 ⟨l', pv', z', u', rfl, s4, hpp4, hIs4, hpw4, hll4, hg4⟩
      exact ⟨l', pv', _, _, _, _, rfl, s4, hpp4, hIs4, hpw4, by omega, hg4⟩
  · rintro σ H3 ⟨l, pv, x, y, z, u, rfl, s3, hpp, hIs, hpw, hll, hg⟩
    rw [List.length_map] at hll
    refine ⟨_, rfl, by show 0 <= sizeLine; decide, fun pe h4 => ?_⟩
    refine ⟨_, _, _, rfl, rfl, SqL.of (old h4 hpp), SqL.of upd_same, _, rfl, ?_⟩
    have s4 := s3.new (o := .lst []) h4
    have t4 := Tups.new (o := .lst []) h4
    have hpp4 := old (o := .lst []) h4 hpp
    have hpw4 := old (o := .lst []) h4 hpw
    have hIs4 := hIs.keep t4
    generalize upd H3 pe (.lst []) = H4 at *
    cases l with
    | nil =>
      cases hIs4
      refine iteT ?_
      refine ⟨by show 2 <= sizeLine; decide, fun p5 h5 => ⟨by show 1 <= sizeLine; decide, fun p6 h6 => ⟨by show 2 <= sizeLine; decide, fun p7 h7 => ?_⟩⟩⟩
      refine q _ p7 (.ref p6) (.tup [.tup [.str "a", .int 0]]) ["kind", "a", "0"] (((s4.new h5).new h6).new h7) ?_ (.tup (old h7 upd_same) (.cons (.tup (old h7 (old h6 upd_same)) (.cons (.str _) (.cons (.int _) .nil))) .nil)) ⟨("a", 0), [], rfl, rfl, fun q hq => ?_, by decide⟩
      · rw [upd_same, kind_a]
      · rw [List.mem_singleton.mp hq]
        exact ⟨by decide +kernel, by decide, by decide⟩
    | cons p0 l =>
      cases hIs4 with
      | @cons _ v0 _ pv a0 b0 =>
      refine iteF ?_
      refine ⟨_, rfl, _, _, rfl, .inl ⟨SqL.of hpp4, fun p5 h5 => ?_⟩⟩
      refine ⟨rfl, _, rfl, _, _, ("kind" : Str) :: (p0 :: l).flatMap pairW, rfl, rfl, SqL.of (old h5 hpw4), ?_, ?_⟩
      · have kg : KGood (.tup ((p0 :: l).map pairD)) (("kind" : Str) :: (p0 :: l).flatMap pairW) := ⟨p0, l, rfl, rfl, hg, by rw [List.length_cons] at hll; omega⟩
        have := wide_words kg.rw.wd
        have := kg.rw.few
        show wide SP _ <= sizeLine
        omega
      · refine ⟨by show 2 <= sizeLine; decide, fun p6 h6 => ?_⟩
        exact q _ p6 (.ref p5) _ _ ((s4.new h5).new h6) upd_same (.tup (old h6 upd_same) ((IsL.cons a0 b0).keep (Tups.of ((same_new h5 _).new h6)))) ⟨p0, l, rfl, rfl, hg, by rw [List.length_cons] at hll; omega⟩
theorem scLDef : FnScope ["_law_cells", "_law_first", "_law_names_here", "_law_body", "_law_text"] ["_law_cells"] (defScope sLDef) := ⟨rfl, rfl, rfl, by decide +kernel, rfl, by decide +kernel, by decide +kernel⟩
theorem ok_ldef (F : Fun K "_law_def" "_law_def" sLDef f fd) (GN : Ca P w K mg base CX0 2 "_law_names" ["_law_cell", "_law_many_here"] spLNames) (GT : Ca P w K mg base CX0 5 "_law_tree" ["_law_cells"] (spLTree K)) (m_sum : mg "sum" = none) (m_tuple : mg "tuple" = none) : FnOk P w K mg base CX0 6 f fd ["_law_cells"] (spLDef K) := by
  refine F.by scLDef (fun vs H Q E h => ?_) (fun cdv A outer s H vs Q E hr h => ?_)
  · obtain ⟨a, ns, rfl, _⟩ := h
    rfl
  obtain ⟨a, sc, rfl, hS, h63, q⟩ := h
  have hr2 : Room 2 _ := hr.mono (by decide)
  refine ⟨_,
    (jss_cons (js_set (i := 1) scLDef.nd rfl (Or.inl rfl) (je_fnB (jc_sum rfl) rfl m_sum PyProof.Rows.boot_sum (ja_c (jv 0) ja_nil)))
    (jss_cons (js_set (i := 2) scLDef.nd rfl (Or.inl rfl) (je_ca GN hr2 rfl pass0 (ja_c (jv 1) (ja_c (je_op jo_add je_int (je_op jo_mod (jv 1) je_int)) ja_nil))))
    (jss_cons (js_asg (je_ca GT hr rfl pass0 (ja_c (jv 0) ja_nil)) (jg_tup rfl (jgs_cons (jg_name (i := 3) scLDef.nd rfl (Or.inl rfl)) (jgs_cons (jg_name (i := 4) scLDef.nd rfl (Or.inl rfl)) jgs_nil))))
    (jss_one (js_ret (je_tup (ja_c (je_tup (ja_c (je_ix jx_list (jv 2) je_int (fun _ _ => rfl)) (ja_c (je_fnTy jc_tuple_of rfl m_tuple PyProof.Rows.boot_tuple (ja_c (je_slice jl_list (jv 2) (jo_some je_int) jo_none) ja_nil)) (ja_c (jv 3) ja_nil)))) (ja_c (je_bm PySem.F.plainAttrs_str PySem.F.slot_str_join PySem.F.type_str_join jm_join je_str (ja_c (je_op jo_cat (je_op jo_cat (je_lst (ja_c je_str ja_nil)) (jv 2)) (je_lst (ja_c je_str (ja_c (jv 4) ja_nil)))) ja_nil)) ja_nil)))))))), ?_⟩
  have sl := line
  refine ⟨_, rfl, a, sc, rfl, hS, ?_⟩
  have m0 := Int.emod_nonneg sc.sum (show (10 : Int) ≠ 0 by decide)
  have m1 := Int.emod_lt_of_pos sc.sum (show (0 : Int) < 10 by decide)
  refine ⟨_, rfl, _, rfl, _, _, rfl, rfl, (by show (0 : Int) < _; decide), _, _, rfl, rfl, _, _, rfl, by omega, by omega, fun H1 p1 l s1 _ hl hall hp1 => ?_⟩
  cases l with
  | nil => rw [List.length_nil] at hl; omega
  | cons g ns =>
  rw [List.length_cons] at hl
  have hg := hall g (by simp)
  have hns : ∀ x ∈ ns, isName x = true := fun x hx => hall x (List.mem_cons_of_mem _ hx)
  have hl9 : ns.length <= 9 := by omega
  refine ⟨_, rfl, a, sc, rfl, s1.seq hS, h63, fun H2 p2 v b ws s2 hp2 hb hG hw => ⟨_, _, rfl, SqT.of hp2, rfl, _, _, rfl, _, _, rfl, rfl, ?_⟩⟩
  have s12 := s1.trans s2
  have hp12 := s2 _ _ hp1
  have g0 : atI ((g :: ns).map V.str) (0 : Int) = some (.str g) := atI_nat (j := 0) rfl
  have dg : DGood (.tup [.str g, Rd.«strs» ns, b]) (("def" : Str) :: g :: (ns ++ ("=" : Str) :: ws)) := ⟨g, ns, b, ws, rfl, rfl, hg, hns, hl9, hG, hw⟩
  have wW := dg.rw.wd
  have lW := dg.rw.few
  have eU : (("def" : Str) :: g :: (ns ++ [("=" : Str)])) ++ ws = ("def" : Str) :: g :: (ns ++ ("=" : Str) :: ws) := by simp
  have jt := tx_tail (us := ("def" : Str) :: g :: (ns ++ [("=" : Str)])) hG.ne
  have jw := wide_tail (us := ("def" : Str) :: g :: (ns ++ [("=" : Str)])) hG.ne (by rw [eU]; exact wW)
  rw [eU] at jt jw
  refine ⟨_, rfl, p1, _, _, _, rfl, rfl, SqL.of hp12, g0, _, rfl, _, rfl, p1, _, rfl, SqL.of hp12, fun p3 h3 => ?_⟩
  rw [cut_tail]
  refine ⟨p3, _, rfl, .inl ⟨SqL.of upd_same, fun p4 h4 => ?_⟩⟩
  refine ⟨_, rfl, by show 3 <= sizeLine; decide, fun p5 h5 => ?_⟩
  refine ⟨rfl, by show 1 <= sizeLine; decide, fun p6 h6 => ?_⟩
  refine ⟨_, rfl, p6, p1, _, _, rfl, rfl, upd_same, old h6 (old h5 (old h4 (old h3 hp12))), ?_, fun p7 h7 => ?_⟩
  · rw [List.length_singleton, List.length_map, List.length_cons]
    omega
  refine ⟨_, rfl, by show 2 <= sizeLine; decide, fun p8 h8 => ?_⟩
  refine ⟨p7, p8, _, _, rfl, rfl, old h8 upd_same, upd_same, ?_, fun p9 h9 => ?_⟩
  · rw [List.length_append, List.length_singleton, List.length_map, List.length_cons]
    show _ + 2 <= _
    omega
  refine ⟨SP, p9, (("def" : Str) :: g :: (ns ++ [("=" : Str)])) ++ [tx ws], rfl, rfl, SqL.of (by rw [upd_same]; simp), by omega, ?_⟩
  rw [jt]
  refine ⟨by show 2 <= sizeLine; decide, fun p10 h10 => ?_⟩
  have sA := (((((((same_new h3 (.lst (ns.map V.str))).new (o := .tup (ns.map V.str)) h4).new (o := .tup [.str g, .ref p4, v]) h5).new (o := .lst [.str "def"]) h6).new (o := .lst ([.str "def"] ++ (g :: ns).map V.str)) h7).new (o := .lst [.str "=", .str (tx ws)]) h8).new (o := .lst ([.str "def"] ++ (g :: ns).map V.str ++ [.str "=", .str (tx ws)])) h9).new (o := .tup [.ref p5, .str (tx (("def" : Str) :: g :: (ns ++ ("=" : Str) :: ws)))]) h10
  exact q _ p10 (.ref p5) _ _ (s12.trans sA) upd_same (.tup (old h10 (old h9 (old h8 (old h7 (old h6 upd_same))))) (.cons (.str _) (.cons (.tup (old h10 (old h9 (old h8 (old h7 (old h6 (old h5 upd_same)))))) (IsL.strs ns)) (.cons (hb.keep (Tups.of sA)) .nil)))) dg
end
end Rdr
namespace Rdr
open PySem L2 K11 Rd
theorem Each.nilR {R : D -> List Str -> Prop} : ∀ {ws : List (List Str)}, Each R [] ws -> ws = []
  | [], _ => rfl
  | _ :: _, h => h.elim
structure Rows (ks ds : List D) (kws dws : List (List Str)) : Prop where
  k : Each KGood ks kws
  d : Each DGood ds dws
  few : (kws ++ dws).length <= 60
  sz : (kws ++ dws).flatten.length <= 3000
theorem Rows.rw {ks ds : List D} {kws dws : List (List Str)} (h : Rows ks ds kws dws) : ∀ ws ∈ kws ++ dws, RowW ws := fun ws hw => by
  rcases List.mem_append.mp hw with z | z
  · obtain ⟨d, _, e⟩ := h.k.all ws z
    exact e.rw
  · obtain ⟨d, _, e⟩ := h.d.all ws z
    exact e.rw
def spLRows (K : PySem.W.Frag) : Sp := fun vs H Q _ => ∃ (a : Addr) (ns : List Int), vs = [.ref a] /\ SqL K H a (ns.map V.int) /\ ns.length <= 63 /\ ∀ (H' : Hp) (p pr : Addr) (v : V) (ks ds : List D) (kws dws : List (List Str)), Same H H' -> H' p = some (.tup [v, .ref pr]) -> Is H' (.tup [.tup ks, .tup ds]) v -> H' pr = some (.lst (((kws ++ dws).map tx).map V.str)) -> Rows ks ds kws dws -> Q (.ref p) H'
theorem KGood.few {k : D} {ws : List Str} (h : KGood k ws) : ws.length <= 412 := by
  obtain ⟨p, l, rfl, rfl, hg, hl⟩ := h
  have : ∀ m : List (Str × Int), (m.flatMap pairW).length = 2 * m.length := fun m => by
    induction m with
    | nil => rfl
    | cons a m ih =>
      rw [List.flatMap_cons, List.length_append, ih, List.length_cons]
      have : (pairW a).length = 2 := rfl
      omega
  rw [List.length_cons, this, List.length_cons]
  omega
theorem DGood.few {k : D} {ws : List Str} (h : DGood k ws) : ws.length <= 412 := by
  obtain ⟨g, ns, b, bw, rfl, rfl, _, _, h9, _, hb⟩ := h
  simp only [List.length_cons, List.length_append]
  omega
theorem cut_ints (ns : List Int) (lo hi : Option Int) : ∃ ms : List Int, cutV (ns.map V.int) lo hi = ms.map V.int /\ ms.length <= ns.length := by
  refine ⟨(ns.drop (HT.sIx ns.length 0 lo)).take (HT.sIx ns.length ns.length hi - HT.sIx ns.length 0 lo), ?_, ?_⟩
  · unfold cutV
    rw [List.length_map, List.map_take, List.map_drop]
  · rw [List.length_take, List.length_drop]
    omega
theorem cut_ints3 (ns : List Int) {at_ m : Int} (h0 : 0 <= at_) (hm : 0 <= m) : ∃ ms : List Int, cutV (ns.map V.int) (some at_) (some (at_ + m)) = ms.map V.int /\ (ms.length : Int) <= m := by
  refine ⟨(ns.drop (HT.sIx ns.length 0 (some at_))).take (HT.sIx ns.length ns.length (some (at_ + m)) - HT.sIx ns.length 0 (some at_)), ?_, ?_⟩
  · unfold cutV
    rw [List.length_map, List.map_take, List.map_drop]
  · rw [List.length_take, List.length_drop]
    have e1 : HT.sIx ns.length 0 (some at_) = min at_.toNat ns.length := by
      show (if at_ < 0 then _ else _) = _
      rw [if_neg (by omega)]
    have e2 : HT.sIx ns.length ns.length (some (at_ + m)) = min (at_ + m).toNat ns.length := by
      show (if at_ + m < 0 then _ else _) = _
      rw [if_neg (by omega)]
    rw [e1, e2]
    omega
section
variable {P : Program} {w : World} {K : PySem.W.Frag} {mg : Str -> Option Value} {base : Heap} {f : Addr} {fd : FuncData}
theorem scLRows : FnScope ["_law_script", "_law_first", "_law_size", "_law_many_here", "_law_kinds", "_law_defs", "_law_rows_here", "_law_words", "_law_at", "_law_one", "_law_text"] ["_law_script"] (defScope sLRows) := ⟨rfl, rfl, rfl, by decide +kernel, rfl, by decide +kernel, by decide +kernel⟩
theorem ok_lrows (F : Fun K "_law_rows" "_law_rows" sLRows f fd) (GK : Ca P w K mg base CX0 2 "_law_kind" ["_law_cells"] (spLKind K)) (GF : Ca P w K mg base CX0 6 "_law_def" ["_law_cells"] (spLDef K)) (m_sum : mg "sum" = none) (m_range : mg "range" = none) (m_len : mg "len" = none) (m_min : mg "min" = none) (m_tuple : mg "tuple" = none) : FnOk P w K mg base CX0 7 f fd ["_law_script"] (spLRows K) := by
  refine F.by scLRows (fun vs H Q E h => ?_) (fun cdv A outer s H vs Q E hr h => ?_)
  · obtain ⟨a, ns, rfl, _⟩ := h
    rfl
  obtain ⟨a, sc, rfl, hS, h63, q⟩ := h
  have hr2 : Room 2 _ := hr.mono (by decide)
  refine ⟨_,
    (jss_cons (js_set (i := 1) scLRows.nd rfl (Or.inl rfl) (je_op jo_mod (je_fnB (jc_sum rfl) rfl m_sum PyProof.Rows.boot_sum (ja_c (jv 0) ja_nil)) je_int))
    (jss_cons (js_set (i := 2) scLRows.nd rfl (Or.inl rfl) (je_op jo_add je_int (je_op jo_mod (jv 1) je_int)))
    (jss_cons (js_set (i := 3) scLRows.nd rfl (Or.inl rfl) (je_op jo_mod (je_op jo_fdiv (jv 1) je_int) je_int))
    (jss_cons (js_if (jt_cmpR jo_eq (je_op jo_mod (je_op jo_fdiv (jv 1) je_int) je_int) je_int (nomark _))
      (jss_one (js_set (i := 3) scLRows.nd rfl (Or.inl rfl) (je_op jo_mod (je_op jo_fdiv (jv 1) je_int) je_int))) jss_nil)
    (jss_cons (js_set (i := 4) scLRows.nd rfl (Or.inl rfl) (je_lst ja_nil))
    (jss_cons (js_set (i := 5) scLRows.nd rfl (Or.inl rfl) (je_lst ja_nil))
    (jss_cons (js_set (i := 6) scLRows.nd rfl (Or.inl rfl) (je_lst ja_nil))
    (jss_cons (js_set (i := 7) scLRows.nd rfl (Or.inl rfl) je_int)
    (jss_cons (js_for PassesOwn.never rfl (ji_range3 rfl m_range (ja_c je_int (ja_c (je_fnB jc_len_seq rfl m_len PySem.boot_len (ja_c (jv 0) ja_nil)) (ja_c (jv 2) ja_nil)))) (jg_name (i := 8) scLRows.nd rfl (Or.inl rfl))
      (jss_one (js_if (jW.pt (jw_and (jt_cmpR jo_lt (je_fnB jc_len_seq rfl m_len PySem.boot_len (ja_c (jv 6) ja_nil)) je_int (nomark _)) (jw_and1 (jt_cmpR jo_le (jv 7) je_int (nomark _)))))
        (jss_cons (js_if (jt_cmpR jo_lt (je_fnB jc_len_seq rfl m_len PySem.boot_len (ja_c (jv 6) ja_nil)) (jv 3) (nomark _))
          (jss_cons (js_asg (je_ca GK hr2 rfl pass0 (ja_c (je_slice jl_list (jv 0) (jo_some (jv 8)) (jo_some (je_op jo_add (jv 8) (je_fnB (jc_min2 rfl) rfl m_min PyProof.Rows.boot_min (ja_c (jv 2) (ja_c je_int ja_nil)))))) ja_nil)) (jg_tup rfl (jgs_cons (jg_name (i := 9) scLRows.nd rfl (Or.inl rfl)) (jgs_cons (jg_name (i := 10) scLRows.nd rfl (Or.inl rfl)) jgs_nil))))
          (jss_one (js_expr (je_bm PySem.F.plainAttrs_list PySem.F.slot_list_append PySem.F.type_list_append jm_append (jv 4) (ja_c (jv 9) ja_nil)))))
          (jss_cons (js_asg (je_ca GF hr rfl pass0 (ja_c (je_slice jl_list (jv 0) (jo_some (jv 8)) (jo_some (je_op jo_add (jv 8) (jv 2)))) ja_nil)) (jg_tup rfl (jgs_cons (jg_name (i := 9) scLRows.nd rfl (Or.inl rfl)) (jgs_cons (jg_name (i := 10) scLRows.nd rfl (Or.inl rfl)) jgs_nil))))
          (jss_one (js_expr (je_bm PySem.F.plainAttrs_list PySem.F.slot_list_append PySem.F.type_list_append jm_append (jv 5) (ja_c (jv 9) ja_nil))))))
        (jss_cons (js_expr (je_bm PySem.F.plainAttrs_list PySem.F.slot_list_append PySem.F.type_list_append jm_append (jv 6) (ja_c (jv 10) ja_nil)))
        (jss_one (js_set (i := 7) scLRows.nd rfl (Or.inl rfl) (je_op jo_add (jv 7) (je_fnB jc_len_seq rfl m_len PySem.boot_len (ja_c (je_bm PySem.F.plainAttrs_str PySem.F.slot_str_split PySem.F.type_str_split jm_split (jv 10) (ja_c je_str ja_nil)) ja_nil))))))) jss_nil)))
    (jss_one (js_ret (je_tup (ja_c (je_tup (ja_c (je_fnTy jc_tuple_of rfl m_tuple PyProof.Rows.boot_tuple (ja_c (jv 4) ja_nil)) (ja_c (je_fnTy jc_tuple_of rfl m_tuple PyProof.Rows.boot_tuple (ja_c (jv 5) ja_nil)) ja_nil))) (ja_c (jv 6) ja_nil)))))))))))))), ?_⟩
  have sl := line
  have cD : ∀ {i j : Int}, 0 < j -> j < 1073741824 -> CDiv i j := fun h1 h2 => ⟨h1, h2⟩
  refine ⟨_, rfl, a, sc, rfl, hS, _, _, rfl, rfl, (by show (0 : Int) < _; decide), ?_⟩
  have f0 : 0 <= sc.sum % 1000003 := Int.emod_nonneg _ (by decide)
  refine (show ∀ (u : TS) (D : Ends), (∀ many : Int, u D [some (.ref a), some (.int (sc.sum % 1000003)), some (.int (1 + sc.sum % 1000003 % 8)), some (.int many), none, none, none, none, none, none, none] H) -> (tSeq _ (tSeq _ (tSeq _ (tSeq _ u))) : TS) D _ H from ?key) _ _ ?rest
  case key =>
    intro u D rest
    refine ⟨_, rfl, _, _, rfl, rfl, (by show (0 : Int) < _; decide), _, _, rfl, rfl, ?_⟩
    refine ⟨_, rfl, _, _, rfl, rfl, cD (by decide) (by decide), _, _, rfl, rfl, (by show (0 : Int) < _; decide), ?_⟩
    refine ⟨_, rfl, _, _, rfl, rfl, cD (by decide) (by decide), _, _, rfl, rfl, (by show (0 : Int) < _; decide), rfl, _, rfl, ?_⟩
    refine ite2 (fun _ => ?_) (fun _ => rest _)
    exact ⟨_, rfl, _, _, rfl, rfl, cD (by decide) (by decide), _, _, rfl, rfl, (by show (0 : Int) < _; decide), rest _⟩
  case rest =>
  intro many
  generalize sc.sum % 1000003 = fst at *
  have m0 := Int.emod_nonneg fst (show (8 : Int) ≠ 0 by decide)
  have m1 := Int.emod_lt_of_pos fst (show (0 : Int) < 8 by decide)
  generalize hsz : 1 + fst % 8 = sz at *
  refine ⟨by show 0 <= sizeLine; decide, fun pk h1 => ⟨by show 0 <= sizeLine; decide, fun pd h2 => ⟨by show 0 <= sizeLine; decide, fun pr h3 => ?_⟩⟩⟩
  have s3 : Same H (upd (upd (upd H pk (.lst [])) pd (.lst [])) pr (.lst [])) := ((same_new h1 _).new h2).new h3
  have npk : H pk = none := h1
  have npd : H pd = none := (same_new h1 (.lst [])).free h2
  have npr : H pr = none := ((same_new h1 (.lst [])).new (o := .lst []) h2).free h3
  have nkd : pk ≠ pd := ne_of_none upd_same h2
  have nkr : pk ≠ pr := ne_of_none (old h2 upd_same) h3
  have ndr : pd ≠ pr := ne_of_none upd_same h3
  have hk3 : upd (upd (upd H pk (.lst [])) pd (.lst [])) pr (.lst []) pk = some (.lst []) := old h3 (old h2 upd_same)
  have hd3 : upd (upd (upd H pk (.lst [])) pd (.lst [])) pr (.lst []) pd = some (.lst []) := old h3 upd_same
  have hr3 : upd (upd (upd H pk (.lst [])) pd (.lst [])) pr (.lst []) pr = some (.lst []) := upd_same
  generalize upd (upd (upd H pk (.lst [])) pd (.lst [])) pr (.lst []) = H3 at *
  refine ⟨_, rfl, _, _, rfl, .inl (s3.seq hS), _, rfl, _, _, _, rfl, ⟨by decide, by decide, by omega, by rw [List.length_map]; omega, by omega, by omega⟩,
    for_range3 (fun i σ H' => ∃ (ks ds : List D) (kws dws : List (List Str)) (kv dv : List V) (x y z : Option V), σ = [some (.ref a), some (.int fst), some (.int sz), some (.int many), some (.ref pk), some (.ref pd), some (.ref pr), some (.int ((kws ++ dws).flatten.length : Nat)), x, y, z] /\ Same H H' /\ H' pk = some (.lst kv) /\ H' pd = some (.lst dv) /\ H' pr = some (.lst (((kws ++ dws).map tx).map V.str)) /\ IsL H' ks kv /\ IsL H' ds dv /\ Rows ks ds kws dws /\ (ds = [] \/ many <= ((kws ++ dws).length : Nat)))
      ⟨[], [], [], [], [], [], none, none, none, rfl, s3, hk3, hd3, hr3, .nil, .nil, ⟨True.intro, True.intro, by decide, by decide⟩, .inl rfl⟩ ?_ ?_⟩
  · rintro i σ H4 hi ⟨ks, ds, kws, dws, kv, dv, x, y, z, rfl, s4, hk4, hd4, hr4, ik4, id4, hR, hM⟩
    have rl : (((kws ++ dws).map tx).map V.str).length = (kws ++ dws).length := by simp
    have hlk := ik4.len
    have hld := id4.len
    have hk1 := hR.k.len
    have hd1 := hR.d.len
    have hfew := hR.few
    rw [List.length_append] at hfew
    have hat : (0 : Int) <= 0 + (i : Nat) * sz := by
      have : (0 : Int) <= (i : Nat) * sz := Int.mul_nonneg (by omega) (by omega)
      omega
    refine ⟨_, rfl, _, _, rfl, .inl (SqL.of hr4), _, _, rfl, rfl, _, rfl, ?_⟩
    rw [rl]
    refine ite2 (fun c60 => ?_) (fun _ => ?_)
    · rw [decide_eq_true_eq] at c60
      refine ⟨_, rfl, _, _, rfl, rfl, _, rfl, ?_⟩
      refine ite2 (fun c400 => ?_) (fun _ => ?_)
      · rw [decide_eq_true_eq] at c400
        refine (show ∀ (u : TS) (Dn : Ends), (∀ (H6 : Hp) (ks ds : List D) (kws dws : List (List Str)) (kv dv : List V) (rows : List (List Str)) (ws : List Str) (v : V), Same H H6 -> H6 pk = some (.lst kv) -> H6 pd = some (.lst dv) -> H6 pr = some (.lst ((rows.map tx).map V.str)) -> kws ++ dws = rows ++ [ws] -> rows.length < 60 -> rows.flatten.length <= 400 -> RowW ws -> ws.length <= 412 -> IsL H6 ks kv -> IsL H6 ds dv -> Each KGood ks kws -> Each DGood ds dws -> (ds = [] \/ many <= ((kws ++ dws).length : Nat)) -> u Dn [some (.ref a), some (.int fst), some (.int sz), some (.int many), some (.ref pk), some (.ref pd), some (.ref pr), some (.int (rows.flatten.length : Nat)), some (.int (0 + (i : Nat) * sz)), some v, some (.str (tx ws))] H6) -> (tSeq _ u : TS) Dn _ H4 from ?key2) _ _ ?fin
        case key2 =>
          intro u Dn fin
          refine ⟨_, rfl, _, _, rfl, .inl (SqL.of hr4), _, rfl, _, _, rfl, rfl, _, rfl, ?_⟩
          rw [rl]
          refine ite2 (fun cm => ?_) (fun cm => ?_)
          · rw [decide_eq_true_eq] at cm
            have hd0 : ds = [] := by
              rcases hM with e | e
              · exact e
              · omega
            subst hd0
            have dw0 := Each.nilR hR.d
            subst dw0
            cases id4
            have e3 : (if (3 : Int) < sz then 3 else sz) <= 3 := by split <;> omega
            have e0 : 0 <= (if (3 : Int) < sz then 3 else sz) := by split <;> omega
            obtain ⟨ms, em, hm3⟩ := cut_ints3 sc hat e0
            refine ⟨_, rfl, _, rfl, _, rfl, _, rfl, _, rfl, _, _, rfl, _, _, rfl, rfl, _, rfl, _, _, rfl, s4.seq hS, fun p5 h5 => ?_⟩
            rw [em]
            have s5 := same_new (o := .lst (ms.map V.int)) h5
            refine ⟨p5, ms, rfl, SqL.of upd_same, by omega, fun H6 p6 v k ws s6 hp6 hIk hG => ?_⟩
            refine ⟨_, _, rfl, SqT.of hp6, rfl, _, _, rfl, _, _, rfl, rfl, ?_⟩
            have hk6 := s6 _ _ (s5 _ _ hk4)
            have hd6 := s6 _ _ (s5 _ _ hd4)
            have hr6 := s6 _ _ (s5 _ _ hr4)
            refine ⟨_, rfl, .inl ⟨rfl, _, SqL.of hk6⟩, _, rfl, _, _, _, rfl, rfl, hk6, by omega, ?_⟩
            have tt : Tups H6 (upd H6 pk (.lst (kv ++ [v]))) := fun b xs hb => by rw [upd_ne (ne_of hb hk6 (by intro z; cases z))]; exact hb
            refine fin _ (ks ++ [k]) [] (kws ++ [ws]) [] (kv ++ [v]) [] (kws ++ []) ws v (((s4.trans s5).trans s6).put npk) upd_same (by rw [upd_ne nkd.symm]; exact hd6) (by rw [upd_ne nkr.symm]; exact hr6) (by simp) (by omega) (by omega) hG.rw hG.few (((ik4.keep (Tups.of (s5.trans s6))).keep tt).app (.cons (hIk.keep tt) .nil)) .nil (hR.k.snoc hG) True.intro (.inl rfl)
          · rw [decide_eq_true_eq] at cm
            obtain ⟨ms, em, hm3⟩ := cut_ints sc (some (0 + (i : Nat) * sz)) (some (0 + (i : Nat) * sz + sz))
            refine ⟨_, rfl, _, rfl, _, rfl, _, rfl, _, rfl, _, _, rfl, rfl, _, rfl, _, _, rfl, s4.seq hS, fun p5 h5 => ?_⟩
            rw [em]
            have s5 := same_new (o := .lst (ms.map V.int)) h5
            refine ⟨p5, ms, rfl, SqL.of upd_same, by omega, fun H6 p6 v k ws s6 hp6 hIk hG => ?_⟩
            refine ⟨_, _, rfl, SqT.of hp6, rfl, _, _, rfl, _, _, rfl, rfl, ?_⟩
            have hk6 := s6 _ _ (s5 _ _ hk4)
            have hd6 := s6 _ _ (s5 _ _ hd4)
            have hr6 := s6 _ _ (s5 _ _ hr4)
            refine ⟨_, rfl, .inl ⟨rfl, _, SqL.of hd6⟩, _, rfl, _, _, _, rfl, rfl, hd6, by omega, ?_⟩
            have tt : Tups H6 (upd H6 pd (.lst (dv ++ [v]))) := fun b xs hb => by rw [upd_ne (ne_of hb hd6 (by intro z; cases z))]; exact hb
            refine fin _ ks (ds ++ [k]) kws (dws ++ [ws]) kv (dv ++ [v]) (kws ++ dws) ws v (((s4.trans s5).trans s6).put npd) (by rw [upd_ne nkd]; exact hk6) upd_same (by rw [upd_ne ndr.symm]; exact hr6) (by simp) (by omega) (by omega) hG.rw hG.few ((ik4.keep (Tups.of (s5.trans s6))).keep tt) (((id4.keep (Tups.of (s5.trans s6))).keep tt).app (.cons (hIk.keep tt) .nil)) hR.k (hR.d.snoc hG) (.inr ?_)
            rw [<- List.append_assoc, List.length_append]
            omega
        case fin =>
        intro H6 ks ds kws dws kv dv rows ws v s6 hk6 hd6 hr6 er r60 r400 hrw h412 ik6 id6 ek ed hM
        refine ⟨_, rfl, .inl ⟨rfl, _, SqL.of hr6⟩, _, rfl, _, _, _, rfl, rfl, hr6, by simp; omega, ?_⟩
        have tt : Tups H6 (upd H6 pr (.lst ((rows.map tx).map V.str ++ [.str (tx ws)]))) := fun b xs hb => by rw [upd_ne (ne_of hb hr6 (by intro z; cases z))]; exact hb
        have tl := tx_len hrw.wd
        refine ⟨_, rfl, _, rfl, rfl, tx ws, SP, rfl, rfl, by decide, by omega, fun p7 h7 => ⟨p7, _, rfl, .inl (SqL.of upd_same), _, _, rfl, rfl, ?_⟩⟩
        have esp : Txt.split (tx ws) SP = ws := by
          obtain ⟨y, r, e, _⟩ := hrw.ne
          exact split_tx (by rw [e]; simp) hrw.wd
        rw [esp]
        have efl : (kws ++ dws).flatten.length = rows.flatten.length + ws.length := by rw [er, List.flatten_append, List.length_append]; simp
        have e7 : V.int ((rows.flatten.length : Nat) + (((ws.map V.str).length : Nat) : Int)) = V.int (((kws ++ dws).flatten.length : Nat) : Int) := congrArg V.int (by rw [efl, List.length_map]; omega)
        refine ⟨ks, ds, kws, dws, kv, dv, some (.int (0 + (i : Nat) * sz)), some v, some (.str (tx ws)), ?_, (s6.put npr).new h7, old h7 (by rw [upd_ne nkr]; exact hk6), old h7 (by rw [upd_ne ndr]; exact hd6), old h7 (by rw [upd_same, er]; simp), (ik6.keep tt).keep (.new h7), (id6.keep tt).keep (.new h7), ⟨ek, ed, ?_, ?_⟩, hM⟩
        · show [some (.ref a), some (.int fst), some (.int sz), some (.int many), some (.ref pk), some (.ref pd), some (.ref pr), some (V.int ((rows.flatten.length : Nat) + (((ws.map V.str).length : Nat) : Int))), some (.int (0 + (i : Nat) * sz)), some v, some (.str (tx ws))] = _
          rw [e7]
        · rw [er, List.length_append]
          show _ + 1 <= 60
          omega
        · omega
      · exact ⟨ks, ds, kws, dws, kv, dv, _, _, _, rfl, s4, hk4, hd4, hr4, ik4, id4, hR, hM⟩
    · exact iteF ⟨ks, ds, kws, dws, kv, dv, _, _, _, rfl, s4, hk4, hd4, hr4, ik4, id4, hR, hM⟩
  · rintro σ H4 ⟨ks, ds, kws, dws, kv, dv, x, y, z, rfl, s4, hk4, hd4, hr4, ik4, id4, hR, hM⟩
    refine ⟨_, rfl, _, _, rfl, .inl ⟨SqL.of hk4, fun p5 h5 => ?_⟩⟩
    refine ⟨_, rfl, _, _, rfl, .inl ⟨SqL.of (old h5 hd4), fun p6 h6 => ?_⟩⟩
    refine ⟨by show 2 <= sizeLine; decide, fun p7 h7 => ⟨_, rfl, by show 2 <= sizeLine; decide, fun p8 h8 => ?_⟩⟩
    have sA := (((same_new h5 (.tup kv)).new (o := .tup dv) h6).new (o := .tup [.ref p5, .ref p6]) h7).new (o := .tup [.ref p7, .ref pr]) h8
    exact q _ p8 pr (.ref p7) ks ds kws dws (s4.trans sA) upd_same (.tup (old h8 upd_same) (.cons (.tup (old h8 (old h7 (old h6 upd_same))) (ik4.keep (Tups.of sA))) (.cons (.tup (old h8 (old h7 upd_same)) (id4.keep (Tups.of sA))) .nil))) (sA _ _ hr4) hR
end
end Rdr
namespace Rdr
open PySem L2 K11 Rd
theorem szL_pairs : ∀ l : List (Str × Int), szL (l.map pairD) = 3 * l.length
  | [] => rfl
  | p :: l => by
    rw [List.map_cons, szL, szL_pairs l, List.length_cons]
    unfold pairD
    rw [szD, szL, szL, szL, szD, szD]
    omega
theorem KGood.sz {k : D} {ws : List Str} (h : KGood k ws) : szD k <= 2000 := by
  obtain ⟨p, l, rfl, rfl, hg, hl⟩ := h
  rw [szD, szL_pairs, List.length_cons]
  omega
theorem DGood.sz {k : D} {ws : List Str} (h : DGood k ws) : szD k <= 2000 := by
  obtain ⟨g, ns, b, bw, rfl, rfl, _, _, h9, hG, hb⟩ := h
  have := hG.sz
  unfold Rd.«strs»
  rw [szD, szL, szL, szL, szL, szD, szD, szL_strs]
  omega
theorem Each.sz {R : D -> List Str -> Prop} (h : ∀ d w, R d w -> szD d <= 2000) : ∀ {ds : List D} {ws : List (List Str)}, Each R ds ws -> szL ds <= 2000 * ds.length
  | [], [], _ => Nat.le_refl _
  | d :: ds, w :: ws, e => by
    have := h d w e.1
    have := Each.sz h e.2
    rw [szL, List.length_cons]
    omega
  | [], _ :: _, e => e.elim
  | _ :: _, [], e => e.elim
theorem Rows.szAll {ks ds : List D} {kws dws : List (List Str)} (h : Rows ks ds kws dws) : szD (.tup [.tup ks, .tup ds]) <= 1000000 := by
  have h1 := h.k.sz fun _ _ e => e.sz
  have h2 := h.d.sz fun _ _ e => e.sz
  have h3 := h.k.len
  have h4 := h.d.len
  have h5 := h.few
  rw [List.length_append] at h5
  rw [szD, szL, szL, szL, szD, szD]
  omega
theorem Rows.read {ks ds : List D} {kws dws : List (List Str)} (h : Rows ks ds kws dws) : Fit (Str.join NL ((kws ++ dws).map tx)) /\ RowsR 0 [] [] ((rowsOf (Str.join NL ((kws ++ dws).map tx))).map wordsOf) (.ok (ks, ds)) := by
  obtain ⟨e, f⟩ := text_of h.rw h.sz (by have := h.few; omega)
  refine ⟨f, ?_⟩
  rw [e]
  exact rows_all h.k h.d
theorem Rows.oneK {ks ds : List D} {kws dws : List (List Str)} {i : Nat} {k : D} (h : Rows ks ds kws dws) (hk : ks[i]? = some k) : ∃ ws, (kws ++ dws)[i]? = some ws /\ Rows [k] [] [ws] [] := by
  obtain ⟨ws, h1, h2⟩ := h.k.get hk
  have hi : i < kws.length := (List.getElem?_eq_some_iff.mp h1).1
  have hf := h2.few
  exact ⟨ws, by rw [List.getElem?_append_left hi]; exact h1, ⟨⟨h2, True.intro⟩, True.intro, (by show 1 <= 60; decide), by simp; omega⟩⟩
theorem Rows.oneD {ks ds : List D} {kws dws : List (List Str)} {i : Nat} {d : D} (h : Rows ks ds kws dws) (hd : ds[i]? = some d) : ∃ ws, (kws ++ dws)[ks.length + i]? = some ws /\ Rows [] [d] [] [ws] := by
  obtain ⟨ws, h1, h2⟩ := h.d.get hd
  have hf := h2.few
  refine ⟨ws, ?_, ⟨True.intro, ⟨h2, True.intro⟩, (by show 1 <= 60; decide), by simp; omega⟩⟩
  rw [h.k.len, List.getElem?_append_right (by omega), show kws.length + i - kws.length = i by omega]
  exact h1
theorem join_k1 (ws : List Str) : Str.join NL (([ws] ++ ([] : List (List Str))).map tx) = tx ws := rfl
theorem join_d1 (ws : List Str) : Str.join NL ((([] : List (List Str)) ++ [ws]).map tx) = tx ws := rfl
def spLAlone : Sp := fun vs H Q _ => ∃ (v : V) (ks ds : List D) (kws dws : List (List Str)) (i : Nat) (ws : List Str), vs = [.str (tx ws), v, .int (i : Nat)] /\ Is H (.tup [.tup ks, .tup ds]) v /\ Rows ks ds kws dws /\ (kws ++ dws)[i]? = some ws /\ ∀ H', Same H H' -> Q (.bl true) H'
section
variable {P : Program} {w : World} {K : PySem.W.Frag} {mg : Str -> Option Value} {base : Heap} {f : Addr} {fd : FuncData} {A : Adr}
theorem scLAlone : FnScope ["_law_row", "_law_program", "_law_at", "_law_kinds", "_law_defs", "_law_due"] ["_law_row", "_law_program", "_law_at"] (defScope sLAlone) := ⟨rfl, rfl, rfl, by decide +kernel, rfl, by decide +kernel, by decide +kernel⟩
theorem ok_lalone (F : Fun K "_law_alone" "_law_alone" sLAlone f fd) (GA : Ca P w K mg base CX0 2 "_law_alike" ["_law_found", "_law_due"] spAlike) (GR : Ca P w K mg base (CXf P w) 13 "read" ["text"] (spRead A)) (GS : Ca P w K mg base CX0 4 "shown" ["program"] spShown) (m_len : mg "len" = none) : FnOk P w K mg base CX0 14 f fd ["_law_row", "_law_program", "_law_at"] spLAlone := by
  refine F.by scLAlone (fun vs H Q E h => ?_) (fun cdv A' outer s H vs Q E hr h => ?_)
  · obtain ⟨v, ks, ds, kws, dws, i, ws, rfl, _⟩ := h
    rfl
  obtain ⟨v, ks, ds, kws, dws, i, ws, rfl, hI, hR, hi, q⟩ := h
  have hr2 : Room 2 _ := hr.mono (by decide)
  have hr4 : Room 4 _ := hr.mono (by decide)
  refine ⟨_,
    (jss_cons (js_asg (jv 1) (jg_tup rfl (jgs_cons (jg_name (i := 3) scLAlone.nd rfl (Or.inl rfl)) (jgs_cons (jg_name (i := 4) scLAlone.nd rfl (Or.inl rfl)) jgs_nil))))
    (jss_cons (js_set (i := 5) scLAlone.nd rfl (Or.inl rfl) (je_tup (ja_c (je_tup ja_nil) (ja_c (je_tup ja_nil) ja_nil))))
    (jss_cons (js_if (jt_cmpR jo_lt (jv 2) (je_fnB jc_len_seq rfl m_len PySem.boot_len (ja_c (jv 3) ja_nil)) (nomark _))
      (jss_one (js_set (i := 5) scLAlone.nd rfl (Or.inl rfl) (je_tup (ja_c (je_tup (ja_c (je_ix jx_tup (jv 3) (jv 2) (fun _ _ => rfl)) ja_nil)) (ja_c (je_tup ja_nil) ja_nil)))))
      (jss_one (js_set (i := 5) scLAlone.nd rfl (Or.inl rfl) (je_tup (ja_c (je_tup ja_nil) (ja_c (je_tup (ja_c (je_ix jx_tup (jv 4) (je_op jo_sub (jv 2) (je_fnB jc_len_seq rfl m_len PySem.boot_len (ja_c (jv 3) ja_nil))) (fun _ _ => rfl)) ja_nil)) ja_nil))))))
    (jss_one (js_ret (je_and (je_ca GA hr2 rfl pass0 (ja_c (je_ca GR hr rfl passF (ja_c (jv 0) ja_nil)) (ja_c (jv 5) ja_nil))) (je_one (je_cmpR jo_eq (je_ca GS hr4 rfl pass0 (ja_c (jv 5) ja_nil)) (jv 0) (nomark _))))))))), ?_⟩
  have sl := line
  cases hI with
  | @tup _ vs0 p0 hp hs =>
    cases hs with
    | cons a1 hs =>
      cases hs with
      | cons a2 hs =>
        cases hs
        cases a1 with
        | @tup _ kv pk hpk hks =>
          cases a2 with
          | @tup _ dv pd hpd hds =>
            have kl := hks.len
            have dl := hds.len
            refine ⟨_, rfl, _, _, rfl, SqT.of hp, rfl, _, _, rfl, _, _, rfl, rfl, ?_⟩
            refine ⟨by show 0 <= sizeLine; decide, fun p1 h1 => ⟨by show 0 <= sizeLine; decide, fun p2 h2 => ⟨by show 2 <= sizeLine; decide, fun p3 h3 => ?_⟩⟩⟩
            have s3 := ((same_new h1 (.tup [])).new (o := .tup []) h2).new (o := .tup [.ref p1, .ref p2]) h3
            generalize upd (upd (upd H p1 (.tup [])) p2 (.tup [])) p3 (.tup [.ref p1, .ref p2]) = H3 at *
            refine (show ∀ (t : TS) (Dn : Ends), (∀ (H4 : Hp) (u : V) (ks' ds' : List D) (kws' dws' : List (List Str)), Same H H4 -> Is H4 (.tup [.tup ks', .tup ds']) u -> Rows ks' ds' kws' dws' -> Str.join NL ((kws' ++ dws').map tx) = tx ws -> t Dn [some (.str (tx ws)), some (.ref p0), some (.int (i : Nat)), some (.ref pk), some (.ref pd), some u] H4) -> (tSeq _ (tSeq _ t) : TS) Dn _ H3 from ?key) _ _ ?rest
            case key =>
              intro t Dn rest
              refine ⟨_, rfl, _, rfl, _, _, rfl, .inr (SqT.of (s3 _ _ hpk)), _, _, rfl, rfl, _, rfl, ?_⟩
              refine ite2 (fun c => ?_) (fun c => ?_)
              · rw [decide_eq_true_eq] at c
                have ci : i < kv.length := by omega
                have hx : kv[i]? = some (kv[i]) := List.getElem?_eq_getElem ci
                obtain ⟨k, hk, hIk⟩ := hks.get hx
                obtain ⟨ws', e1, hR1⟩ := hR.oneK hk
                rw [hi] at e1
                injection e1 with e1
                subst e1
                refine ⟨_, rfl, _, rfl, _, _, _, _, rfl, rfl, SqT.of (s3 _ _ hpk), atI_nat hx, by show 1 <= sizeLine; decide, fun p4 h4 => ⟨by show 0 <= sizeLine; decide, fun p5 h5 => ⟨by show 2 <= sizeLine; decide, fun p6 h6 => ?_⟩⟩⟩
                have sA := ((s3.new (o := .tup [kv[i]]) h4).new (o := .tup []) h5).new (o := .tup [.ref p4, .ref p5]) h6
                exact rest _ _ [k] [] [ws] [] sA (.tup upd_same (.cons (.tup (old h6 (old h5 upd_same)) (.cons (hIk.keep (Tups.of sA)) .nil)) (.cons (.tup (old h6 upd_same) .nil) .nil))) hR1 (join_k1 ws)
              · rw [decide_eq_true_eq] at c
                have hil := (List.getElem?_eq_some_iff.mp hi).1
                have e2 := hR.d.len
                have e3 := hR.k.len
                rw [List.length_append] at hil
                have cj : i - kv.length < dv.length := by omega
                have hx : dv[i - kv.length]? = some (dv[i - kv.length]) := List.getElem?_eq_getElem cj
                obtain ⟨d, hd, hId⟩ := hds.get hx
                obtain ⟨ws', e1, hR1⟩ := hR.oneD hd
                rw [kl, show kv.length + (i - kv.length) = i by omega, hi] at e1
                injection e1 with e1
                subst e1
                have en : ((i : Nat) : Int) - (kv.length : Nat) = ((i - kv.length : Nat) : Int) := by omega
                refine ⟨by show 0 <= sizeLine; decide, fun p4 h4 => ?_⟩
                refine ⟨_, rfl, _, rfl, _, rfl, _, _, rfl, .inr (SqT.of (old h4 (s3 _ _ hpk))), _, _, rfl, rfl, ?_⟩
                have ax : atI dv (((i : Nat) : Int) - (kv.length : Nat)) = some (dv[i - kv.length]) := by rw [en]; exact atI_nat hx
                refine ⟨_, _, _, _, rfl, rfl, SqT.of (old h4 (s3 _ _ hpd)), ax, by show 1 <= sizeLine; decide, fun p5 h5 => ⟨by show 2 <= sizeLine; decide, fun p6 h6 => ?_⟩⟩
                have sA := ((s3.new (o := .tup []) h4).new (o := .tup [dv[i - kv.length]]) h5).new (o := .tup [.ref p4, .ref p5]) h6
                exact rest _ _ [] [d] [] [ws] sA (.tup upd_same (.cons (.tup (old h6 (old h5 upd_same)) .nil) (.cons (.tup (old h6 upd_same) (.cons (hId.keep (Tups.of sA)) .nil)) .nil))) hR1 (join_d1 ws)
            case rest =>
            intro H4 u ks' ds' kws' dws' s4 hI4 hR4 ej
            obtain ⟨fit, rows⟩ := hR4.read
            rw [ej] at fit rows
            refine ⟨_, rfl, tx ws, .ok (ks', ds'), rfl, fit, rows, fun H5 v5 s5 hI5 => ?_⟩
            refine ⟨_, rfl, _, _, _, rfl, hI5, hI4.keep (Tups.of s5), hR4.szAll, fun H6 s6 => ⟨_, rfl, iteT ?_⟩⟩
            refine ⟨_, rfl, ks', ds', kws', dws', _, rfl, hI4.keep (Tups.of (s5.trans s6)), hR4.k.imp fun _ _ e => e.row, hR4.d.imp fun _ _ e => e.row, ?_, fun H7 s7 => ⟨_, rfl, rfl, ?_⟩⟩
            · have h3 := hR4.k.len
              have h4 := hR4.d.len
              have h5 := hR4.few
              rw [List.length_append] at h5
              omega
            · rw [ej, decide_eq_true rfl]
              exact q _ ((s4.trans (s5.trans s6)).trans s7)
theorem scLLaw14 : FnScope ["_law_script", "_law_program", "_law_rows_here", "_law_text", "_law_found", "_law_other", "_law_at", "_law_row"] ["_law_script"] (defScope sLLaw) := ⟨rfl, rfl, rfl, by decide +kernel, rfl, by decide +kernel, by decide +kernel⟩
theorem ok_llaw14 (F : Fun K "law" "law" sLLaw f fd) (GO : Ca P w K mg base CX0 7 "_law_rows" ["_law_script"] (spLRows K)) (GA : Ca P w K mg base CX0 2 "_law_alike" ["_law_found", "_law_due"] spAlike) (GR : Ca P w K mg base (CXf P w) 13 "read" ["text"] (spRead A)) (GS : Ca P w K mg base CX0 4 "shown" ["program"] spShown) (GL : Ca P w K mg base CX0 14 "_law_alone" ["_law_row", "_law_program", "_law_at"] spLAlone)
    (m_isinstance : mg "isinstance" = none) (m_str : mg "str" = none) (m_enumerate : mg "enumerate" = none) : FnOk P w K mg base CX0 15 f fd ["_law_script"] (spTop K) := by
  refine F.by scLLaw14 (fun vs H Q E h => ?_) (fun cdv A' outer s H vs Q E hr h => ?_)
  · obtain ⟨a, ns, rfl, _⟩ := h
    rfl
  obtain ⟨a, sc, rfl, hS, h63, q⟩ := h
  have hr2 : Room 2 _ := hr.mono (by decide)
  have hr4 : Room 4 _ := hr.mono (by decide)
  have hr7 : Room 7 _ := hr.mono (by decide)
  have hr13 : Room 13 _ := hr.mono (by decide)
  refine ⟨_,
    (jss_cons (js_asg (je_ca GO hr7 rfl pass0 (ja_c (jv 0) ja_nil)) (jg_tup rfl (jgs_cons (jg_name (i := 1) scLLaw14.nd rfl (Or.inl rfl)) (jgs_cons (jg_name (i := 2) scLLaw14.nd rfl (Or.inl rfl)) jgs_nil))))
    (jss_cons (js_set (i := 3) scLLaw14.nd rfl (Or.inl rfl) (je_bm PySem.F.plainAttrs_str PySem.F.slot_str_join PySem.F.type_str_join jm_join je_str (ja_c (jv 2) ja_nil)))
    (jss_cons (js_set (i := 4) scLLaw14.nd rfl (Or.inl rfl) (je_ca GS hr4 rfl pass0 (ja_c (jv 1) ja_nil)))
    (jss_cons (js_if (jW.pt (jw_or (jt_not (jt_val (je_fnB jc_isinst rfl m_isinstance PyProof.Rows.boot_isinstance (ja_c (jv 4) (ja_c (je_bltn (v := .ty "str") rfl m_str PyProof.Rows.boot_str rfl) ja_nil))))) (jw_or1 (jt_cmpR jo_ne (jv 4) (jv 3) (nomark _)))))
      (jss_one (js_ret je_bl)) jss_nil)
    (jss_cons (js_set (i := 5) scLLaw14.nd rfl (Or.inl rfl) (je_ca GR hr13 rfl passF (ja_c (jv 3) ja_nil)))
    (jss_cons (js_if (jW.pt (jw_or (jt_not (jt_val (je_ca GA hr2 rfl pass0 (ja_c (jv 5) (ja_c (jv 1) ja_nil))))) (jw_or (jt_cmpR jo_ne (je_ca GS hr4 rfl pass0 (ja_c (jv 5) ja_nil)) (jv 3) (nomark _)) (jw_or1 (jt_not (jt_val (je_ca GA hr2 rfl pass0 (ja_c (je_ca GR hr13 rfl passF (ja_c (jv 4) ja_nil)) (ja_c (jv 1) ja_nil)))))))))
      (jss_one (js_ret je_bl)) jss_nil)
    (jss_cons (js_for PassesOwn.never rfl (ji_enum rfl m_enumerate (ja_c (jv 2) ja_nil)) (jg_tup rfl (jgs_cons (jg_name (i := 6) scLLaw14.nd rfl (Or.inl rfl)) (jgs_cons (jg_name (i := 7) scLLaw14.nd rfl (Or.inl rfl)) jgs_nil)))
      (jss_one (js_if (jt_not (jt_val (je_ca GL hr rfl pass0 (ja_c (jv 7) (ja_c (jv 1) (ja_c (jv 6) ja_nil))))))
        (jss_one (js_ret je_bl)) jss_nil)))
    (jss_one (js_ret (je_and (je_cmpR jo_eq (je_ca GS hr4 rfl pass0 (ja_c (jv 1) ja_nil)) (jv 3) (nomark _)) (je_one (je_ca GA hr2 rfl pass0 (ja_c (je_ca GR hr13 rfl passF (ja_c (jv 3) ja_nil)) (ja_c (jv 1) ja_nil)))))))))))))), ?_⟩
  have sl := line
  refine ⟨_, rfl, a, sc, rfl, hS, h63, fun H1 p1 pr v ks ds kws dws s1 hp1 hI hpr hR => ⟨_, _, rfl, SqT.of hp1, rfl, _, _, rfl, _, _, rfl, rfl, ?_⟩⟩
  have hkr := hR.k.imp fun _ _ (e : KGood _ _) => e.row
  have hdr := hR.d.imp fun _ _ (e : DGood _ _) => e.row
  have h200 : ks.length + ds.length <= 200 := by
    have h3 := hR.k.len
    have h4 := hR.d.len
    have h5 := hR.few
    rw [List.length_append] at h5
    omega
  obtain ⟨fit, rows⟩ := hR.read
  refine ⟨rfl, _, rfl, _, _, (kws ++ dws).map tx, rfl, rfl, SqL.of hpr, ?_, ?_⟩
  · have := rows_wide (kws ++ dws) fun ws hws => ⟨(hR.rw ws hws).wd, by have := (hR.rw ws hws).few; omega⟩
    have := hR.few
    show wide NL _ <= sizeLine
    omega
  show (tSeq _ _ : TS) _ [some (.ref a), some v, some (.ref pr), some (.str (Str.join NL ((kws ++ dws).map tx))), none, none, none, none] H1
  generalize eT : Str.join NL ((kws ++ dws).map tx) = T at *
  refine ⟨_, rfl, ks, ds, kws, dws, _, rfl, hI, hkr, hdr, h200, fun H2 s2 => ?_⟩
  rw [eT]
  refine ⟨_, rfl, _, _, _, _, rfl, .str _, rfl, _, rfl, iteF ⟨_, rfl, _, rfl, rfl, _, rfl, iteNS rfl ?_⟩⟩
  refine ⟨_, rfl, T, .ok (ks, ds), rfl, fit, rows, fun H3 v3 s3 hI3 => ?_⟩
  have i3 := (hI.keep (Tups.of s2)).keep (Tups.of s3)
  refine ⟨_, rfl, _, rfl, _, _, _, rfl, hI3, i3, hR.szAll, fun H4 s4 => ⟨_, rfl, iteF ?_⟩⟩
  refine ⟨_, rfl, ks, ds, kws, dws, _, rfl, hI3.keep (Tups.of s4), hkr, hdr, h200, fun H5 s5 => ?_⟩
  rw [eT]
  refine ⟨_, rfl, rfl, _, rfl, iteNS rfl ?_⟩
  refine ⟨_, rfl, T, .ok (ks, ds), rfl, fit, rows, fun H6 v6 s6 hI6 => ?_⟩
  have i6 := i3.keep (Tups.of ((s4.trans s5).trans s6))
  refine ⟨_, rfl, _, _, _, rfl, hI6, i6, hR.szAll, fun H7 s7 => ⟨_, rfl, iteF ?_⟩⟩
  have s17 : Same H1 H7 := (s2.trans s3).trans (((s4.trans s5).trans s6).trans s7)
  have i7 := i6.keep (Tups.of s7)
  refine ⟨_, rfl, _, rfl, ⟨_, SqL.of (s17 _ _ hpr)⟩, for_enum (xs := ((kws ++ dws).map tx).map V.str) (fun i σ H' => Same H7 H' /\ ∃ x y, σ = [some (.ref a), some v, some (.ref pr), some (.str T), some (.str T), some v3, x, y]) ⟨Same.refl _, none, none, rfl⟩ (fun i σ H' _ h => SqL.of (h.1 _ _ (s17 _ _ hpr))) ?_ ?_⟩
  · rintro i x t σ H8 hx ht ⟨s8, y, z, rfl⟩
    rw [List.getElem?_map, List.getElem?_map] at hx
    obtain ⟨z1, hz1, rfl⟩ := Option.map_eq_some_iff.mp hx
    obtain ⟨ws, hws, rfl⟩ := Option.map_eq_some_iff.mp hz1
    refine ⟨_, _, rfl, SqT.of upd_same, rfl, _, _, rfl, _, _, rfl, rfl, ?_⟩
    have s9 := s8.new (o := .tup [.int (i : Nat), .str (tx ws)]) ht
    refine ⟨_, rfl, _, rfl, _, rfl, v, ks, ds, kws, dws, i, ws, rfl, i7.keep (Tups.of s9), hR, hws, fun H10 s10 => ⟨_, rfl, iteF ?_⟩⟩
    exact ⟨s9.trans s10, _, _, rfl⟩
  · rintro σ H8 ⟨s8, y, z, rfl⟩
    have i8 := i7.keep (Tups.of s8)
    refine ⟨_, rfl, ks, ds, kws, dws, _, rfl, i8, hkr, hdr, h200, fun H9 s9 => ?_⟩
    rw [eT]
    refine ⟨_, rfl, rfl, _, rfl, iteS rfl ?_⟩
    refine ⟨_, rfl, T, .ok (ks, ds), rfl, fit, rows, fun H10 v10 s10 hI10 => ?_⟩
    exact ⟨_, rfl, _, _, _, rfl, hI10, i8.keep (Tups.of (s9.trans s10)), hR.szAll, fun H11 _ => q _⟩
end
end Rdr
namespace Rdr
open PySem L2 K11 Rd
structure TopK (K : PySem.W.Frag) (cW cL cI cC cN R : Addr) : Prop where
  c_Words : OwnIn K "Words" cW
  a_Words_row : PySem.W.findIn K (.ref cW) "row" = some none
  a_Words_words : PySem.W.findIn K (.ref cW) "words" = some none
  a_Words_at : PySem.W.findIn K (.ref cW) "at" = some none
  c_BegunLet : OwnIn K "BegunLet" cL
  a_BegunLet_binds : PySem.W.findIn K (.ref cL) "binds" = some none
  a_BegunLet_deed : PySem.W.findIn K (.ref cL) "deed" = some none
  c_BegunIf : OwnIn K "BegunIf" cI
  a_BegunIf_looked : PySem.W.findIn K (.ref cI) "looked" = some none
  a_BegunIf_first : PySem.W.findIn K (.ref cI) "first" = some none
  c_BegunCase : OwnIn K "BegunCase" cC
  a_BegunCase_looked : PySem.W.findIn K (.ref cC) "looked" = some none
  a_BegunCase_arms : PySem.W.findIn K (.ref cC) "arms" = some none
  a_BegunCase_head : PySem.W.findIn K (.ref cC) "head" = some none
  n_NoText : PySem.W.nsIn K mainGlobals "NoText" = some (some (.ref cN))
  n_ReuseError : PySem.W.nsIn K mainGlobals "ReuseError" = some (some (.ref R))
  m_NoText___init__ : MeIn K cN "__init__" "NoText.__init__" sNoText
  x_row : PySem.W.takerIn K cN "row" = some none
  x_find : PySem.W.findIn K (.ref cN) "row" = some none
  x_hd : PySem.W.hasDictIn K cN = true
  x_over : overIn K cN = true
  x_sa : PySem.W.findIn K (.ref cN) "__setattr__" = some (some (.builtin "object.__setattr__"))
  x_any : (PySem.W.clsIn K cN).any (·.hasDict) = true
  x_ga : PySem.W.findIn K (.ref cN) "__getattribute__" = some (some (.builtin "BaseException.__getattribute__"))
  x_ha : PySem.W.findIn K (.ref cN) "__getattr__" = some none
  x_sb : PySem.W.subIn K (.ref cN) (.type "BaseException") = some true
  x_kp : PySem.W.keepIn K (.ref cN) = true
  x_cl : ∃ f, PySem.W.findIn K (.ref cN) "__init__" = some (some (.ref f)) /\ xIn K cN f = true /\ PySem.W.typeIn K (.ref f) = some (.type "function")
  r_sp : PySem.W.specialIn K (.ref R) "__getattribute__" = some (some (.builtin "type.__getattribute__"))
  r_rd : PySem.W.readsIn K R (.type "type") = true
  r_fi : PySem.W.findCls K (.ref R) (.type "type") "__init__" = some (.val (.builtin "ValueError.__init__"))
  g_LETTERS : ∃ t, PySem.W.nsIn K mainGlobals "LETTERS" = some (some (.str LETS t))
  g_FIGURES : ∃ t, PySem.W.nsIn K mainGlobals "FIGURES" = some (some (.str FIGS t))
  m_Words_insist : MeIn K cW "insist" "Words.insist" sInsist
  m_Words_all_read : MeIn K cW "all_read" "Words.all_read" sAllRead
  m_Words_passed : MeIn K cW "passed" "Words.passed" sPassed
  m_Words_next_word : MeIn K cW "next_word" "Words.next_word" sNextWord
  d_made_of : DfIn K "made_of" sMade
  d_is_name : DfIn K "is_name" sName
  d_is_number : DfIn K "is_number" sNumber
  m_Words_next_name : MeIn K cW "next_name" "Words.next_name" sNextName
  m_Words_next_number : MeIn K cW "next_number" "Words.next_number" sNextNumber
  m_Words_next_size : MeIn K cW "next_size" "Words.next_size" sNextSize
  m_Words_names_until : MeIn K cW "names_until" "Words.names_until" sUntil
  d_read_head : DfIn K "read_head" sReadHead
  d_read_deed : DfIn K "read_deed" sReadDeed
  m_BegunLet___init__ : MeIn K cL "__init__" "BegunLet.__init__" sLInit
  m_BegunIf___init__ : MeIn K cI "__init__" "BegunIf.__init__" sIInit
  m_BegunCase___init__ : MeIn K cC "__init__" "BegunCase.__init__" sCInit
  m_Words___init__ : MeIn K cW "__init__" "Words.__init__" sWInit
  m_BegunLet_filled : MeIn K cL "filled" "BegunLet.filled" sLFill
  m_BegunIf_filled : MeIn K cI "filled" "BegunIf.filled" sIFill
  m_BegunCase_filled : MeIn K cC "filled" "BegunCase.filled" sCFill
  d_begin_body : DfIn K "begin_body" sBegin
  d_read_body : DfIn K "read_body" sReadBody
  d_read_pair : DfIn K "read_pair" sReadPair
  d_read_kind : DfIn K "read_kind" sReadKind
  d_read_def : DfIn K "read_def" sReadDef
  d_read : DfIn K "read" sRead
  d_deed_words : DfIn K "deed_words" sDeedW
  d_case_words : DfIn K "case_words" sCaseW
  d_written : DfIn K "written" sWritten
  d_def_row : DfIn K "def_row" sDefRow
  d_kind_row : DfIn K "kind_row" sKindRow
  d_shown : DfIn K "shown" sShown
  d__law_whole : DfIn K "_law_whole" sWhole
  d__law_alike : DfIn K "_law_alike" sAlike
  d__law_stream : DfIn K "_law_stream" sStream
  d__law_name : DfIn K "_law_name" sLName
  d__law_names : DfIn K "_law_names" sLNames
  d__law_number : DfIn K "_law_number" sLNumber
  d__law_deed : DfIn K "_law_deed" sLDeed
  d__law_arms : DfIn K "_law_arms" sLArms
  d__law_put : DfIn K "_law_put" sLPut
  d__law_many : DfIn K "_law_many" sLMany
  d__law_tree : DfIn K "_law_tree" sLTree
  d__law_kind : DfIn K "_law_kind" sLKind
  d__law_def : DfIn K "_law_def" sLDef
  d__law_rows : DfIn K "_law_rows" sLRows
  d__law_alone : DfIn K "_law_alone" sLAlone
  d_law : DfIn K "law" sLLaw
  z_len : PySem.W.nsIn K mainGlobals "len" = some none
  z_tuple : PySem.W.nsIn K mainGlobals "tuple" = some none
  z_int : PySem.W.nsIn K mainGlobals "int" = some none
  z_str : PySem.W.nsIn K mainGlobals "str" = some none
  z_isinstance : PySem.W.nsIn K mainGlobals "isinstance" = some none
  z_bool : PySem.W.nsIn K mainGlobals "bool" = some none
  z_list : PySem.W.nsIn K mainGlobals "list" = some none
  z_zip : PySem.W.nsIn K mainGlobals "zip" = some none
  z_enumerate : PySem.W.nsIn K mainGlobals "enumerate" = some none
  z_range : PySem.W.nsIn K mainGlobals "range" = some none
  z_all : PySem.W.nsIn K mainGlobals "all" = some none
  z_sum : PySem.W.nsIn K mainGlobals "sum" = some none
  z_reversed : PySem.W.nsIn K mainGlobals "reversed" = some none
  z_min : PySem.W.nsIn K mainGlobals "min" = some none
  g_MOST_LETTERS : ∃ t, PySem.W.nsIn K mainGlobals "MOST_LETTERS" = some (some (.int 12 t))
  g_MOST_FIGURES : ∃ t, PySem.W.nsIn K mainGlobals "MOST_FIGURES" = some (some (.int 30 t))
  g_MOST_NAMES : ∃ t, PySem.W.nsIn K mainGlobals "MOST_NAMES" = some (some (.int 9 t))
  g_MOST_ARMS : ∃ t, PySem.W.nsIn K mainGlobals "MOST_ARMS" = some (some (.int 20 t))
  t_OPS : TpIn K "OPS" OPS
  t_NAMING_DEEDS : TpIn K "NAMING_DEEDS" DEEDS
  t_KEPT_WORDS : TpIn K "KEPT_WORDS" KEPT
theorem top_ok {l : PySem.W.OpenLaw} {w : World} {K : PySem.W.Frag} {h : Heap} {mg : Str -> Option Value} {fa cW cL cI cC cN R : Addr} (T : TopK K cW cL cI cC cN R) (X : K.In h) (G : h.Ns mainGlobals mg) (hfa : mg "law" = some (.ref fa)) :
    ∃ fd : FuncData, (∀ (s : Shared) (u : Value), BindsTo s fd ⟨[u], []⟩ [("_law_script", u)]) /\ ∀ base : Heap, K.In base -> base.Ns mainGlobals mg -> FnOk l.prog w K mg base CX0 15 fa fd ["_law_script"] (spTop K) := by
  refine law_in T.d_law X G hfa (fun _ _ _ _ _ _ s v => .of_eq rfl) fun base fd FL => ?_
  have z_len : mg "len" = none := PySem.W.mg_none_of X G T.z_len
  have z_tuple : mg "tuple" = none := PySem.W.mg_none_of X G T.z_tuple
  have z_int : mg "int" = none := PySem.W.mg_none_of X G T.z_int
  have z_str : mg "str" = none := PySem.W.mg_none_of X G T.z_str
  have z_isinstance : mg "isinstance" = none := PySem.W.mg_none_of X G T.z_isinstance
  have z_bool : mg "bool" = none := PySem.W.mg_none_of X G T.z_bool
  have z_list : mg "list" = none := PySem.W.mg_none_of X G T.z_list
  have z_zip : mg "zip" = none := PySem.W.mg_none_of X G T.z_zip
  have z_enumerate : mg "enumerate" = none := PySem.W.mg_none_of X G T.z_enumerate
  have z_range : mg "range" = none := PySem.W.mg_none_of X G T.z_range
  have z_all : mg "all" = none := PySem.W.mg_none_of X G T.z_all
  have z_sum : mg "sum" = none := PySem.W.mg_none_of X G T.z_sum
  have z_reversed : mg "reversed" = none := PySem.W.mg_none_of X G T.z_reversed
  have z_min : mg "min" = none := PySem.W.mg_none_of X G T.z_min
  have n_Words : mg "Words" = some (.ref cW) := PySem.W.mg_of X G T.c_Words.n
  have n_BegunLet : mg "BegunLet" = some (.ref cL) := PySem.W.mg_of X G T.c_BegunLet.n
  have n_BegunIf : mg "BegunIf" = some (.ref cI) := PySem.W.mg_of X G T.c_BegunIf.n
  have n_BegunCase : mg "BegunCase" = some (.ref cC) := PySem.W.mg_of X G T.c_BegunCase.n
  obtain ⟨t_MOST_LETTERS, h_MOST_LETTERS⟩ := T.g_MOST_LETTERS
  have m_MOST_LETTERS := PySem.W.mg_of X G h_MOST_LETTERS
  obtain ⟨t_MOST_FIGURES, h_MOST_FIGURES⟩ := T.g_MOST_FIGURES
  have m_MOST_FIGURES := PySem.W.mg_of X G h_MOST_FIGURES
  obtain ⟨t_MOST_NAMES, h_MOST_NAMES⟩ := T.g_MOST_NAMES
  have m_MOST_NAMES := PySem.W.mg_of X G h_MOST_NAMES
  obtain ⟨t_MOST_ARMS, h_MOST_ARMS⟩ := T.g_MOST_ARMS
  have m_MOST_ARMS := PySem.W.mg_of X G h_MOST_ARMS
  obtain ⟨a_OPS, h_OPS, q_OPS⟩ := T.t_OPS.sq (by decide)
  have m_OPS := PySem.W.mg_of X G h_OPS
  obtain ⟨a_NAMING_DEEDS, h_NAMING_DEEDS, q_NAMING_DEEDS⟩ := T.t_NAMING_DEEDS.sq (by decide)
  have m_NAMING_DEEDS := PySem.W.mg_of X G h_NAMING_DEEDS
  obtain ⟨a_KEPT_WORDS, h_KEPT_WORDS, q_KEPT_WORDS⟩ := T.t_KEPT_WORDS.sq (by decide)
  have m_KEPT_WORDS := PySem.W.mg_of X G h_KEPT_WORDS
  obtain ⟨t_LETTERS, h_LETTERS⟩ := T.g_LETTERS
  have m_LETTERS := PySem.W.mg_of X G h_LETTERS
  obtain ⟨t_FIGURES, h_FIGURES⟩ := T.g_FIGURES
  have m_FIGURES := PySem.W.mg_of X G h_FIGURES
  have n_NoText := PySem.W.mg_of X G T.n_NoText
  have n_ReuseError := PySem.W.mg_of X G T.n_ReuseError
  obtain ⟨A, rfl, rfl, rfl, rfl, rfl⟩ : ∃ A : Adr, A.cN = cN /\ A.cW = cW /\ A.cL = cL /\ A.cI = cI /\ A.cC = cC := ⟨⟨cN, cW, cL, cI, cC⟩, rfl, rfl, rfl, rfl, rfl⟩
  have tx : Txt K mg A := ⟨T.c_Words.cls, T.c_BegunLet.cls, T.c_BegunIf.cls, T.c_BegunCase.cls, T.a_Words_row, T.a_Words_words, T.a_Words_at, T.a_BegunLet_binds, T.a_BegunLet_deed, T.a_BegunIf_looked, T.a_BegunIf_first, T.a_BegunCase_looked, T.a_BegunCase_arms, T.a_BegunCase_head, T.x_row, z_len, z_tuple, z_int, ⟨t_MOST_NAMES, m_MOST_NAMES⟩, ⟨t_MOST_ARMS, m_MOST_ARMS⟩⟩
  obtain ⟨fx, ax, xin, xty⟩ := T.x_cl
  have M : XCl K A.cN fx := ⟨xin, xty, T.x_kp, T.x_over, T.x_sa, T.x_any, T.x_ga, T.x_ha, T.x_sb⟩
  have B : XBase K R := ⟨T.r_sp, T.r_rd, T.r_fi⟩
  have GX : Xa l.prog w K mg base 1 "NoText" A.cN ["self", "row"] (spNoText A) := by
    obtain ⟨f, a, n, g⟩ := T.m_NoText___init__
    obtain ⟨fd, F, kp⟩ := g.fn
    have e : f = fx := by
      rw [ax] at a
      injection a with a
      injection a with a
      injection a with a
      exact a.symm
    subst e
    exact ⟨f, fd, M, ok_notext F tx M B n_ReuseError, F.binds (ps := ["self", "row"]) fun _ _ _ _ _ _ us hl => match us, hl with | [_, _], _ => rfl, n_NoText⟩
  have GI := T.m_Words_insist.me (P := l.prog) (w := w) (mg := mg) (base := base) (ps := ["self", "fits"]) (fun _ _ _ _ _ _ us hl => match us, hl with | [_, _], _ => rfl) fun f fd F => ok_insist F tx GX
  have GA := T.m_Words_all_read.me (P := l.prog) (w := w) (mg := mg) (base := base) (ps := ["self"]) (fun _ _ _ _ _ _ us hl => match us, hl with | [_], _ => rfl) fun f fd F => ok_all F tx
  have GP := T.m_Words_passed.me (P := l.prog) (w := w) (mg := mg) (base := base) (ps := ["self", "word"]) (fun _ _ _ _ _ _ us hl => match us, hl with | [_, _], _ => rfl) fun f fd F => ok_passed F tx GA
  have GW := T.m_Words_next_word.me (P := l.prog) (w := w) (mg := mg) (base := base) (ps := ["self"]) (fun _ _ _ _ _ _ us hl => match us, hl with | [_], _ => rfl) fun f fd F => ok_word F tx GA GI
  have Gmade := DfIn.ca (P := l.prog) (w := w) (base := base) X G T.d_made_of (ps := ["word", "signs"]) (fun _ _ _ _ _ _ us hl => match us, hl with | [_, _], _ => rfl) fun f fd F => ok_made F z_all
  have Gis := DfIn.ca (P := l.prog) (w := w) (base := base) X G T.d_is_name (ps := ["word"]) (fun _ _ _ _ _ _ us hl => match us, hl with | [_], _ => rfl) fun f fd F => let ⟨_, _, g, b, k, mm⟩ := Gmade.ex; ok_name F g b k mm z_len m_LETTERS m_MOST_LETTERS m_KEPT_WORDS q_KEPT_WORDS
  have Gnu := DfIn.ca (P := l.prog) (w := w) (base := base) X G T.d_is_number (ps := ["word"]) (fun _ _ _ _ _ _ us hl => match us, hl with | [_], _ => rfl) fun f fd F => let ⟨_, _, g, b, k, mm⟩ := Gmade.ex; ok_number F g b k mm z_len m_FIGURES m_MOST_FIGURES
  have GN := T.m_Words_next_name.me (P := l.prog) (w := w) (mg := mg) (base := base) (ps := ["self"]) (fun _ _ _ _ _ _ us hl => match us, hl with | [_], _ => rfl) fun f fd F => ok_nextname F tx GW GI Gis
  have GM := T.m_Words_next_number.me (P := l.prog) (w := w) (mg := mg) (base := base) (ps := ["self"]) (fun _ _ _ _ _ _ us hl => match us, hl with | [_], _ => rfl) fun f fd F => ok_nextnumber F tx GW GI Gnu
  have GS := T.m_Words_next_size.me (P := l.prog) (w := w) (mg := mg) (base := base) (ps := ["self"]) (fun _ _ _ _ _ _ us hl => match us, hl with | [_], _ => rfl) fun f fd F => ok_nextsize F tx m_FIGURES GW GI
  have GU := T.m_Words_names_until.me (P := l.prog) (w := w) (mg := mg) (base := base) (ps := ["self", "stop"]) (fun _ _ _ _ _ _ us hl => match us, hl with | [_, _], _ => rfl) fun f fd F => ok_until F tx GP GI GN
  have Ghead := DfIn.ca (P := l.prog) (w := w) (base := base) X G T.d_read_head (ps := ["words"]) (fun _ _ _ _ _ _ us hl => match us, hl with | [_], _ => rfl) fun f fd F => ok_head F tx GN GU
  have Gdeed := DfIn.ca (P := l.prog) (w := w) (base := base) X G T.d_read_deed (ps := ["words"]) (fun _ _ _ _ _ _ us hl => match us, hl with | [_], _ => rfl) fun f fd F => ok_deed F tx GW GI GN GM GU m_OPS q_OPS m_NAMING_DEEDS q_NAMING_DEEDS
  have ML := T.m_BegunLet___init__.ma (P := l.prog) (w := w) (mg := mg) (base := base) (x := "BegunLet") (ps := ["self", "words"]) (fun _ _ _ _ _ _ us hl => match us, hl with | [_, _], _ => rfl) T.c_BegunLet.mks T.c_BegunLet.kp n_BegunLet fun f fd F => ok_linit F tx GN Gdeed
  have MI := T.m_BegunIf___init__.ma (P := l.prog) (w := w) (mg := mg) (base := base) (x := "BegunIf") (ps := ["self", "words"]) (fun _ _ _ _ _ _ us hl => match us, hl with | [_, _], _ => rfl) T.c_BegunIf.mks T.c_BegunIf.kp n_BegunIf fun f fd F => (ok_iinit F tx GN).mono (k := 8) (by decide)
  have MC := T.m_BegunCase___init__.ma (P := l.prog) (w := w) (mg := mg) (base := base) (x := "BegunCase") (ps := ["self", "words"]) (fun _ _ _ _ _ _ us hl => match us, hl with | [_, _], _ => rfl) T.c_BegunCase.mks T.c_BegunCase.kp n_BegunCase fun f fd F => ok_cinit F tx GN Ghead
  have MW := T.m_Words___init__.ma (P := l.prog) (w := w) (mg := mg) (base := base) (x := "Words") (ps := ["self", "row", "words"]) (fun _ _ _ _ _ _ us hl => match us, hl with | [_, _, _], _ => rfl) T.c_Words.mks T.c_Words.kp n_Words fun f fd F => ok_winit F tx
  have fL := T.m_BegunLet_filled.me (P := l.prog) (w := w) (mg := mg) (base := base) (ps := ["self", "words", "body"]) (fun _ _ _ _ _ _ us hl => match us, hl with | [_, _, _], _ => rfl) fun f fd F => ok_lfill F tx
  have fI := T.m_BegunIf_filled.me (P := l.prog) (w := w) (mg := mg) (base := base) (ps := ["self", "words", "body"]) (fun _ _ _ _ _ _ us hl => match us, hl with | [_, _, _], _ => rfl) fun f fd F => ok_ifill F tx GP GI
  have fC := T.m_BegunCase_filled.me (P := l.prog) (w := w) (mg := mg) (base := base) (ps := ["self", "words", "body"]) (fun _ _ _ _ _ _ us hl => match us, hl with | [_, _, _], _ => rfl) fun f fd F => ok_cfill F tx GP GI Ghead
  have Gbegin := DfIn.ca (P := l.prog) (w := w) (base := base) X G T.d_begin_body (ps := ["words", "begun"]) (fun _ _ _ _ _ _ us hl => match us, hl with | [_, _], _ => rfl) fun f fd F => ok_begin F tx GP GI GN ML MI MC
  have Gbody := DfIn.ca (P := l.prog) (w := w) (base := base) X G T.d_read_body (ps := ["words"]) (fun _ _ _ _ _ _ us hl => match us, hl with | [_], _ => rfl) fun f fd F => ok_body F tx Gbegin fL fI fC
  have Gpair := DfIn.ca (P := l.prog) (w := w) (base := base) X G T.d_read_pair (ps := ["words"]) (fun _ _ _ _ _ _ us hl => match us, hl with | [_], _ => rfl) fun f fd F => ok_pair F tx GN GS
  have Gkind := DfIn.ca (P := l.prog) (w := w) (base := base) X G T.d_read_kind (ps := ["words"]) (fun _ _ _ _ _ _ us hl => match us, hl with | [_], _ => rfl) fun f fd F => ok_kind F tx GA Gpair
  have Gdef := DfIn.ca (P := l.prog) (w := w) (base := base) X G T.d_read_def (ps := ["words"]) (fun _ _ _ _ _ _ us hl => match us, hl with | [_], _ => rfl) fun f fd F => ok_def F tx GN GU Gbody GA GI
  have Gread := DfIn.ca (P := l.prog) (w := w) (base := base) X G T.d_read (ps := ["text"]) (fun _ _ _ _ _ _ us hl => match us, hl with | [_], _ => rfl) fun f fd F => ok_read F tx GX MW GP GI Gdef Gkind z_isinstance z_str z_enumerate
  have Gdw := DfIn.ca (P := l.prog) (w := w) (base := base) X G T.d_deed_words (ps := ["deed"]) (fun _ _ _ _ _ _ us hl => match us, hl with | [_], _ => rfl) fun f fd F => ok_deedw F z_str z_list
  have Gcw := DfIn.ca (P := l.prog) (w := w) (base := base) X G T.d_case_words (ps := ["body"]) (fun _ _ _ _ _ _ us hl => match us, hl with | [_], _ => rfl) fun f fd F => ok_casew F z_list
  have Gwr := DfIn.ca (P := l.prog) (w := w) (base := base) X G T.d_written (ps := ["body"]) (fun _ _ _ _ _ _ us hl => match us, hl with | [_], _ => rfl) fun f fd F => ok_written F Gdw Gcw
  have Gdr := DfIn.ca (P := l.prog) (w := w) (base := base) X G T.d_def_row (ps := ["one"]) (fun _ _ _ _ _ _ us hl => match us, hl with | [_], _ => rfl) fun f fd F => ok_defrow F Gwr z_list z_len z_isinstance z_str z_reversed
  have Gkr := DfIn.ca (P := l.prog) (w := w) (base := base) X G T.d_kind_row (ps := ["kind"]) (fun _ _ _ _ _ _ us hl => match us, hl with | [_], _ => rfl) fun f fd F => ok_kindrow F z_str
  have Gsh := DfIn.ca (P := l.prog) (w := w) (base := base) X G T.d_shown (ps := ["program"]) (fun _ _ _ _ _ _ us hl => match us, hl with | [_], _ => rfl) fun f fd F => ok_shown F (Gkr.mono (by decide)) Gdr
  have L1 := DfIn.ca (P := l.prog) (w := w) (base := base) X G T.d__law_whole (ps := ["_law_found"]) (fun _ _ _ _ _ _ us hl => match us, hl with | [_], _ => rfl) fun f fd F => ok_whole F z_isinstance z_int z_bool
  have L2' := DfIn.ca (P := l.prog) (w := w) (base := base) X G T.d__law_alike (ps := ["_law_found", "_law_due"]) (fun _ _ _ _ _ _ us hl => match us, hl with | [_, _], _ => rfl) fun f fd F => ok_alike F L1 z_isinstance z_tuple z_str z_list z_zip z_len
  have L3 := DfIn.ca (P := l.prog) (w := w) (base := base) X G T.d__law_stream (ps := ["_law_cell", "_law_many_here"]) (fun _ _ _ _ _ _ us hl => match us, hl with | [_, _], _ => rfl) fun f fd F => ok_stream F z_range
  have L4 := DfIn.ca (P := l.prog) (w := w) (base := base) X G T.d__law_name (ps := ["_law_number_here"]) (fun _ _ _ _ _ _ us hl => match us, hl with | [_], _ => rfl) fun f fd F => ok_lname F
  have L5 := DfIn.ca (P := l.prog) (w := w) (base := base) X G T.d__law_names (ps := ["_law_cell", "_law_many_here"]) (fun _ _ _ _ _ _ us hl => match us, hl with | [_, _], _ => rfl) fun f fd F => ok_lnames F L3 L4
  have L6 := DfIn.ca (P := l.prog) (w := w) (base := base) X G T.d__law_number (ps := ["_law_cell"]) (fun _ _ _ _ _ _ us hl => match us, hl with | [_], _ => rfl) fun f fd F => ok_lnumber F L3
  have L7 := DfIn.ca (P := l.prog) (w := w) (base := base) X G T.d__law_deed (ps := ["_law_cell"]) (fun _ _ _ _ _ _ us hl => match us, hl with | [_], _ => rfl) fun f fd F => ok_ldeed F L5 L6 z_str z_tuple
  have L8 := DfIn.ca (P := l.prog) (w := w) (base := base) X G T.d__law_arms (ps := ["_law_stack", "_law_number_here"]) (fun _ _ _ _ _ _ us hl => match us, hl with | [_, _], _ => rfl) fun f fd F => ok_larms F L5 z_range z_tuple
  have L9 := DfIn.ca (P := l.prog) (w := w) (base := base) X G T.d__law_put (ps := ["_law_stack", "_law_cell"]) (fun _ _ _ _ _ _ us hl => match us, hl with | [_, _], _ => rfl) fun f fd F => ok_lput F L5 L8 L7
  have L10 := DfIn.ca (P := l.prog) (w := w) (base := base) X G T.d__law_many (ps := ["_law_stack"]) (fun _ _ _ _ _ _ us hl => match us, hl with | [_], _ => rfl) fun f fd F => ok_lmany F z_len
  have L11 := DfIn.ca (P := l.prog) (w := w) (base := base) X G T.d__law_tree (ps := ["_law_cells"]) (fun _ _ _ _ _ _ us hl => match us, hl with | [_], _ => rfl) fun f fd F => ok_ltree F L9 L10 z_len
  have L12 := DfIn.ca (P := l.prog) (w := w) (base := base) X G T.d__law_kind (ps := ["_law_cells"]) (fun _ _ _ _ _ _ us hl => match us, hl with | [_], _ => rfl) fun f fd F => ok_lkind F L4 z_range z_str z_tuple
  have L13 := DfIn.ca (P := l.prog) (w := w) (base := base) X G T.d__law_def (ps := ["_law_cells"]) (fun _ _ _ _ _ _ us hl => match us, hl with | [_], _ => rfl) fun f fd F => ok_ldef F L5 L11 z_sum z_tuple
  have L14 := DfIn.ca (P := l.prog) (w := w) (base := base) X G T.d__law_rows (ps := ["_law_script"]) (fun _ _ _ _ _ _ us hl => match us, hl with | [_], _ => rfl) fun f fd F => ok_lrows F L12 L13 z_sum z_range z_len z_min z_tuple
  have L15 := DfIn.ca (P := l.prog) (w := w) (base := base) X G T.d__law_alone (ps := ["_law_row", "_law_program", "_law_at"]) (fun _ _ _ _ _ _ us hl => match us, hl with | [_, _, _], _ => rfl) fun f fd F => ok_lalone F L2' Gread Gsh z_len
  exact ok_llaw14 FL L14 L2' Gread Gsh L15 z_isinstance z_str z_enumerate
end Rdr
def PySem.W.Fast.tw6001989112096070115 : Unit := ()
def PySem.W.Fast.tw1814046884899257659 : Unit := ()
def PySem.W.Fast.tw5387203885054804335 : Unit := ()
def PySem.W.Fast.tw115796691434943881 : Unit := ()
def PySem.W.Fast.tw1801147114554829974 : Unit := ()
def PySem.W.Fast.tw9993012546418548582 : Unit := ()
def PySem.W.Fast.tw6939648187416581536 : Unit := ()
def PySem.W.Fast.tw3049409115566381270 : Unit := ()
def PySem.W.Fast.tw6257403388675444938 : Unit := ()
def PySem.W.Fast.tw12841687081563216096 : Unit := ()
def PySem.W.Fast.tw336235485358801126 : Unit := ()
def PySem.W.Fast.tw4807448277793738527 : Unit := ()
def PySem.W.Fast.tw13356473779917709921 : Unit := ()
def PySem.W.Fast.tw7696027781242470792 : Unit := ()
def PySem.W.Fast.tw18119773254002616636 : Unit := ()
def PySem.W.Fast.tw5088202410531002483 : Unit := ()
def PySem.W.Fast.tw17951759387788223747 : Unit := ()
def PySem.W.Fast.tw6222179734118471305 : Unit := ()
def PySem.W.Fast.tw16186276983284210095 : Unit := ()
def PySem.W.Fast.tw6799557542381076774 : Unit := ()
def PySem.W.Fast.tw11968574558395414178 : Unit := ()
def PySem.W.Fast.tw11719333280722551531 : Unit := ()
def PySem.W.Fast.tw15827396646860283353 : Unit := ()
def PySem.W.Fast.tw14473280910983200636 : Unit := ()
def PySem.W.Fast.tw12002924177258315166 : Unit := ()
def PySem.W.Fast.tw12059973437890857366 : Unit := ()
def PySem.W.Fast.tw3727713475449849289 : Unit := ()
def PySem.W.Fast.tw3567838907002638680 : Unit := ()
def PySem.W.Fast.tw7575888263391675323 : Unit := ()
def PySem.W.Fast.tw1810450823972421825 : Unit := ()
def PySem.W.Fast.tw16980496700989391992 : Unit := ()
def PySem.W.Fast.tw10534946482239084929 : Unit := ()
def PySem.W.Fast.tw5371619623920275796 : Unit := ()
def PySem.W.Fast.tw3679276129541048322 : Unit := ()
def PySem.W.Fast.tw13583990768095639754 : Unit := ()
def PySem.W.Fast.tw17910928550413334857 : Unit := ()
def PySem.W.Fast.tw7759205834833707087 : Unit := ()
def PySem.W.Fast.tw13310355791398197942 : Unit := ()
def PySem.W.Fast.tw5385848127562864808 : Unit := ()
def PySem.W.Fast.tw15075735757387015752 : Unit := ()
def PySem.W.Fast.tw6184875640995551800 : Unit := ()
def PySem.W.Fast.tw17919672260894737871 : Unit := ()
def PySem.W.Fast.tw7123540073154141480 : Unit := ()
def PySem.W.Fast.tw13143197925953092478 : Unit := ()
def PySem.W.Fast.tw13219043509202090494 : Unit := ()
def PySem.W.Fast.tw8268681913473843506 : Unit := ()
def PySem.W.Fast.tw18156483159675570668 : Unit := ()
def PySem.W.Fast.tw1109098362919764410 : Unit := ()
def PySem.W.Fast.tw14422800863220977560 : Unit := ()
def PySem.W.Fast.tw18180795489213705563 : Unit := ()
def PySem.W.Fast.tw899481483642709454 : Unit := ()
def PySem.W.Fast.tw9814977920088002356 : Unit := ()
def PySem.W.Fast.tw674611368905068856 : Unit := ()
def PySem.W.Fast.tw1884131577474929568 : Unit := ()
def PySem.W.Fast.tw4944683896634910392 : Unit := ()
def PySem.W.Fast.tw11849282853379975503 : Unit := ()
def PySem.W.Fast.tw1505285337911685053 : Unit := ()
def PySem.W.Fast.tw14273582479749281579 : Unit := ()
def PySem.W.Fast.tw6225874628841016327 : Unit := ()
def PySem.W.Fast.tw9372375804295585672 : Unit := ()
def PySem.W.Fast.tw14815604746892128416 : Unit := ()
def PySem.W.Fast.tw16793144305791686900 : Unit := ()
def PySem.W.Fast.tw2079373546779882380 : Unit := ()
def PySem.W.Fast.tw10811644214553375406 : Unit := ()
def PySem.W.Fast.tw15997344951058777104 : Unit := ()
def PySem.W.Fast.tw17749712524601301540 : Unit := ()
def PySem.W.Fast.tw4280368739136373551 : Unit := ()
def PySem.W.Fast.tw10371133278320530965 : Unit := ()
def PySem.W.Fast.tw10515370735774805498 : Unit := ()
def PySem.W.Fast.tw7212623060718293935 : Unit := ()
def PySem.W.Fast.tw325903762735439935 : Unit := ()
def PySem.W.Fast.tw5591639948804672823 : Unit := ()
def PySem.W.Fast.tw12378452503107358563 : Unit := ()
def PySem.W.Fast.tw9237374607977266071 : Unit := ()
def PySem.W.Fast.tw1921176532444892598 : Unit := ()
def PySem.W.Fast.tw15947325335615852975 : Unit := ()
def PySem.W.Fast.tw2965538853399407078 : Unit := ()
def PySem.W.Fast.tw9692378145126989083 : Unit := ()
def PySem.W.Fast.tw18328024118265185090 : Unit := ()
def PySem.W.Fast.tw13024714322186968763 : Unit := ()
def PySem.W.Fast.tw8894665908819043206 : Unit := ()
def PySem.W.Fast.tw4432048817834080848 : Unit := ()
def PySem.W.Fast.tw5130632924372898613 : Unit := ()
def PySem.W.Fast.tw6749708848499844338 : Unit := ()
def PySem.W.Fast.tw15469458454471561848 : Unit := ()
def PySem.W.Fast.tw4854362586834800740 : Unit := ()
def PySem.W.Fast.tw8009302374825948055 : Unit := ()
def PySem.W.Fast.tw18188014242892823767 : Unit := ()
def PySem.W.Fast.tw17275242118591394752 : Unit := ()
def PySem.W.Fast.tw8878268932779928893 : Unit := ()
def PySem.W.Fast.tw3845667838330751334 : Unit := ()
def PySem.W.Fast.tw4207394885853743207 : Unit := ()
def PySem.W.Fast.tw8814098681949079927 : Unit := ()
def PySem.W.Fast.tw12535019314106174113 : Unit := ()
def PySem.W.Fast.tw6469047688852417616 : Unit := ()
def PySem.W.Fast.tw9659650910115139585 : Unit := ()
def PySem.W.Fast.tw3592368943635935839 : Unit := ()
def PySem.W.Fast.tw2982705128033886085 : Unit := ()
def PySem.W.Fast.tw1147817194262683477 : Unit := ()
def PySem.W.Fast.tw3389944336534607206 : Unit := ()
def PySem.W.Fast.tw3016233430067120819 : Unit := ()
def PySem.W.Fast.tw17878139670232345783 : Unit := ()
def PySem.W.Fast.tw9189781394777844935 : Unit := ()
def PySem.W.Fast.tw8642888395503561684 : Unit := ()
def PySem.W.Fast.tw12156805186861700915 : Unit := ()
def PySem.W.Fast.tw1577864503193029595 : Unit := ()
def PySem.W.Fast.tw10152330547867741509 : Unit := ()
def PySem.W.Fast.tw14795314985732782637 : Unit := ()
def PySem.W.Fast.tw4804970737493546930 : Unit := ()
def PySem.W.Fast.tw5517537756960646846 : Unit := ()
def PySem.W.Fast.tw12830580847957094130 : Unit := ()
def PySem.W.Fast.tw2439459708319146751 : Unit := ()
open PySem PySem.W PyProof.Rows
set_option maxRecDepth 100000 in
set_option maxHeartbeats 0 in
theorem PySem.Challenge.cw_reusewise_k14_whole_there_and_back_holds : PySem.Challenge.rw_reusewise_k14_whole_there_and_back.Holds := by
  w_on; o_law; k_head; (case hw => w_witness2)
  k_fill
  refine L2.walk1 (l := PySem.Challenge.rw_reusewise_k14_whole_there_and_back) (k := 15) rfl ⟨rfl, by decide, by decide⟩ rfl rfl (fun w h Y => PySem.W.kIn_of Y) ?F
  case F =>
    intro w mg fa h KX G hm
    refine' Rdr.top_ok (Rdr.TopK.mk ?c_Words ?a_Words_row ?a_Words_words ?a_Words_at ?c_BegunLet ?a_BegunLet_binds ?a_BegunLet_deed ?c_BegunIf ?a_BegunIf_looked ?a_BegunIf_first ?c_BegunCase ?a_BegunCase_looked ?a_BegunCase_arms ?a_BegunCase_head ?n_NoText ?n_ReuseError ?m_NoText___init__ ?x_row ?x_find ?x_hd ?x_over ?x_sa ?x_any ?x_ga ?x_ha ?x_sb ?x_kp ?x_cl ?r_sp ?r_rd ?r_fi ?g_LETTERS ?g_FIGURES ?m_Words_insist ?m_Words_all_read ?m_Words_passed ?m_Words_next_word ?d_made_of ?d_is_name ?d_is_number ?m_Words_next_name ?m_Words_next_number ?m_Words_next_size ?m_Words_names_until ?d_read_head ?d_read_deed ?m_BegunLet___init__ ?m_BegunIf___init__ ?m_BegunCase___init__ ?m_Words___init__ ?m_BegunLet_filled ?m_BegunIf_filled ?m_BegunCase_filled ?d_begin_body ?d_read_body ?d_read_pair ?d_read_kind ?d_read_def ?d_read ?d_deed_words ?d_case_words ?d_written ?d_def_row ?d_kind_row ?d_shown ?d__law_whole ?d__law_alike ?d__law_stream ?d__law_name ?d__law_names ?d__law_number ?d__law_deed ?d__law_arms ?d__law_put ?d__law_many ?d__law_tree ?d__law_kind ?d__law_def ?d__law_rows ?d__law_alone ?d_law ?z_len ?z_tuple ?z_int ?z_str ?z_isinstance ?z_bool ?z_list ?z_zip ?z_enumerate ?z_range ?z_all ?z_sum ?z_reversed ?z_min ?g_MOST_LETTERS ?g_MOST_FIGURES ?g_MOST_NAMES ?g_MOST_ARMS ?t_OPS ?t_NAMING_DEEDS ?t_KEPT_WORDS) KX G hm
    (case c_Words => (refine' L2.OwnIn.mk ?n ?pg ?hd ?po ?sa ?mks ?kp; (case n => k_is); (case pg => k_is); (case hd => k_is); (case po => k_is); (case sa => k_is); (case mks => k_is); (case kp => k_is)))
    (case a_Words_row => k_is)
    (case a_Words_words => k_is)
    (case a_Words_at => k_is)
    (case c_BegunLet => (refine' L2.OwnIn.mk ?n ?pg ?hd ?po ?sa ?mks ?kp; (case n => k_is); (case pg => k_is); (case hd => k_is); (case po => k_is); (case sa => k_is); (case mks => k_is); (case kp => k_is)))
    (case a_BegunLet_binds => k_is)
    (case a_BegunLet_deed => k_is)
    (case c_BegunIf => (refine' L2.OwnIn.mk ?n ?pg ?hd ?po ?sa ?mks ?kp; (case n => k_is); (case pg => k_is); (case hd => k_is); (case po => k_is); (case sa => k_is); (case mks => k_is); (case kp => k_is)))
    (case a_BegunIf_looked => k_is)
    (case a_BegunIf_first => k_is)
    (case c_BegunCase => (refine' L2.OwnIn.mk ?n ?pg ?hd ?po ?sa ?mks ?kp; (case n => k_is); (case pg => k_is); (case hd => k_is); (case po => k_is); (case sa => k_is); (case mks => k_is); (case kp => k_is)))
    (case a_BegunCase_looked => k_is)
    (case a_BegunCase_arms => k_is)
    (case a_BegunCase_head => k_is)
    (case n_NoText => k_is)
    (case n_ReuseError => k_is)
    (case m_NoText___init__ => (refine' L2.MeIn.mk ?a ?l ?c ?k ?n; (case a => k_is); (case l => k_is); (case c => k_is); (case k => k_is); (case n => k_is)))
    (case x_row => k_is)
    (case x_find => k_is)
    (case x_hd => k_is)
    (case x_over => (first | kernel_rfl | rfl | decide +kernel))
    (case x_sa => k_is)
    (case x_any => (first | kernel_rfl | rfl | decide +kernel))
    (case x_ga => k_is)
    (case x_ha => k_is)
    (case x_sb => k_is)
    (case x_kp => k_is)
    (case x_cl => (refine' L2.XcIn.mk ?a ?b ?c; (case a => k_is); (case b => (first | kernel_rfl | rfl | decide +kernel)); (case c => k_is)))
    (case r_sp => k_is)
    (case r_rd => k_is)
    (case r_fi => k_is)
    (case g_LETTERS => (refine' L2.GlIn.mk ?a ?e; (case a => k_is); (case e => rfl)))
    (case g_FIGURES => (refine' L2.GlIn.mk ?a ?e; (case a => k_is); (case e => rfl)))
    (case m_Words_insist => (refine' L2.MeIn.mk ?a ?l ?c ?k ?n; (case a => k_is); (case l => k_is); (case c => k_is); (case k => k_is); (case n => k_is)))
    (case m_Words_all_read => (refine' L2.MeIn.mk ?a ?l ?c ?k ?n; (case a => k_is); (case l => k_is); (case c => k_is); (case k => k_is); (case n => k_is)))
    (case m_Words_passed => (refine' L2.MeIn.mk ?a ?l ?c ?k ?n; (case a => k_is); (case l => k_is); (case c => k_is); (case k => k_is); (case n => k_is)))
    (case m_Words_next_word => (refine' L2.MeIn.mk ?a ?l ?c ?k ?n; (case a => k_is); (case l => k_is); (case c => k_is); (case k => k_is); (case n => k_is)))
    (case d_made_of => (refine' L2.DfIn.mk ?a ?l ?c ?k; (case a => k_is); (case l => k_is); (case c => k_is); (case k => k_is)))
    (case d_is_name => (refine' L2.DfIn.mk ?a ?l ?c ?k; (case a => k_is); (case l => k_is); (case c => k_is); (case k => k_is)))
    (case d_is_number => (refine' L2.DfIn.mk ?a ?l ?c ?k; (case a => k_is); (case l => k_is); (case c => k_is); (case k => k_is)))
    (case m_Words_next_name => (refine' L2.MeIn.mk ?a ?l ?c ?k ?n; (case a => k_is); (case l => k_is); (case c => k_is); (case k => k_is); (case n => k_is)))
    (case m_Words_next_number => (refine' L2.MeIn.mk ?a ?l ?c ?k ?n; (case a => k_is); (case l => k_is); (case c => k_is); (case k => k_is); (case n => k_is)))
    (case m_Words_next_size => (refine' L2.MeIn.mk ?a ?l ?c ?k ?n; (case a => k_is); (case l => k_is); (case c => k_is); (case k => k_is); (case n => k_is)))
    (case m_Words_names_until => (refine' L2.MeIn.mk ?a ?l ?c ?k ?n; (case a => k_is); (case l => k_is); (case c => k_is); (case k => k_is); (case n => k_is)))
    (case d_read_head => (refine' L2.DfIn.mk ?a ?l ?c ?k; (case a => k_is); (case l => k_is); (case c => k_is); (case k => k_is)))
    (case d_read_deed => (refine' L2.DfIn.mk ?a ?l ?c ?k; (case a => k_is); (case l => k_is); (case c => k_is); (case k => k_is)))
    (case m_BegunLet___init__ => (refine' L2.MeIn.mk ?a ?l ?c ?k ?n; (case a => k_is); (case l => k_is); (case c => k_is); (case k => k_is); (case n => k_is)))
    (case m_BegunIf___init__ => (refine' L2.MeIn.mk ?a ?l ?c ?k ?n; (case a => k_is); (case l => k_is); (case c => k_is); (case k => k_is); (case n => k_is)))
    (case m_BegunCase___init__ => (refine' L2.MeIn.mk ?a ?l ?c ?k ?n; (case a => k_is); (case l => k_is); (case c => k_is); (case k => k_is); (case n => k_is)))
    (case m_Words___init__ => (refine' L2.MeIn.mk ?a ?l ?c ?k ?n; (case a => k_is); (case l => k_is); (case c => k_is); (case k => k_is); (case n => k_is)))
    (case m_BegunLet_filled => (refine' L2.MeIn.mk ?a ?l ?c ?k ?n; (case a => k_is); (case l => k_is); (case c => k_is); (case k => k_is); (case n => k_is)))
    (case m_BegunIf_filled => (refine' L2.MeIn.mk ?a ?l ?c ?k ?n; (case a => k_is); (case l => k_is); (case c => k_is); (case k => k_is); (case n => k_is)))
    (case m_BegunCase_filled => (refine' L2.MeIn.mk ?a ?l ?c ?k ?n; (case a => k_is); (case l => k_is); (case c => k_is); (case k => k_is); (case n => k_is)))
    (case d_begin_body => (refine' L2.DfIn.mk ?a ?l ?c ?k; (case a => k_is); (case l => k_is); (case c => k_is); (case k => k_is)))
    (case d_read_body => (refine' L2.DfIn.mk ?a ?l ?c ?k; (case a => k_is); (case l => k_is); (case c => k_is); (case k => k_is)))
    (case d_read_pair => (refine' L2.DfIn.mk ?a ?l ?c ?k; (case a => k_is); (case l => k_is); (case c => k_is); (case k => k_is)))
    (case d_read_kind => (refine' L2.DfIn.mk ?a ?l ?c ?k; (case a => k_is); (case l => k_is); (case c => k_is); (case k => k_is)))
    (case d_read_def => (refine' L2.DfIn.mk ?a ?l ?c ?k; (case a => k_is); (case l => k_is); (case c => k_is); (case k => k_is)))
    (case d_read => (refine' L2.DfIn.mk ?a ?l ?c ?k; (case a => k_is); (case l => k_is); (case c => k_is); (case k => k_is)))
    (case d_deed_words => (refine' L2.DfIn.mk ?a ?l ?c ?k; (case a => k_is); (case l => k_is); (case c => k_is); (case k => k_is)))
    (case d_case_words => (refine' L2.DfIn.mk ?a ?l ?c ?k; (case a => k_is); (case l => k_is); (case c => k_is); (case k => k_is)))
    (case d_written => (refine' L2.DfIn.mk ?a ?l ?c ?k; (case a => k_is); (case l => k_is); (case c => k_is); (case k => k_is)))
    (case d_def_row => (refine' L2.DfIn.mk ?a ?l ?c ?k; (case a => k_is); (case l => k_is); (case c => k_is); (case k => k_is)))
    (case d_kind_row => (refine' L2.DfIn.mk ?a ?l ?c ?k; (case a => k_is); (case l => k_is); (case c => k_is); (case k => k_is)))
    (case d_shown => (refine' L2.DfIn.mk ?a ?l ?c ?k; (case a => k_is); (case l => k_is); (case c => k_is); (case k => k_is)))
    (case d__law_whole => (refine' L2.DfIn.mk ?a ?l ?c ?k; (case a => k_is); (case l => k_is); (case c => k_is); (case k => k_is)))
    (case d__law_alike => (refine' L2.DfIn.mk ?a ?l ?c ?k; (case a => k_is); (case l => k_is); (case c => k_is); (case k => k_is)))
    (case d__law_stream => (refine' L2.DfIn.mk ?a ?l ?c ?k; (case a => k_is); (case l => k_is); (case c => k_is); (case k => k_is)))
    (case d__law_name => (refine' L2.DfIn.mk ?a ?l ?c ?k; (case a => k_is); (case l => k_is); (case c => k_is); (case k => k_is)))
    (case d__law_names => (refine' L2.DfIn.mk ?a ?l ?c ?k; (case a => k_is); (case l => k_is); (case c => k_is); (case k => k_is)))
    (case d__law_number => (refine' L2.DfIn.mk ?a ?l ?c ?k; (case a => k_is); (case l => k_is); (case c => k_is); (case k => k_is)))
    (case d__law_deed => (refine' L2.DfIn.mk ?a ?l ?c ?k; (case a => k_is); (case l => k_is); (case c => k_is); (case k => k_is)))
    (case d__law_arms => (refine' L2.DfIn.mk ?a ?l ?c ?k; (case a => k_is); (case l => k_is); (case c => k_is); (case k => k_is)))
    (case d__law_put => (refine' L2.DfIn.mk ?a ?l ?c ?k; (case a => k_is); (case l => k_is); (case c => k_is); (case k => k_is)))
    (case d__law_many => (refine' L2.DfIn.mk ?a ?l ?c ?k; (case a => k_is); (case l => k_is); (case c => k_is); (case k => k_is)))
    (case d__law_tree => (refine' L2.DfIn.mk ?a ?l ?c ?k; (case a => k_is); (case l => k_is); (case c => k_is); (case k => k_is)))
    (case d__law_kind => (refine' L2.DfIn.mk ?a ?l ?c ?k; (case a => k_is); (case l => k_is); (case c => k_is); (case k => k_is)))
    (case d__law_def => (refine' L2.DfIn.mk ?a ?l ?c ?k; (case a => k_is); (case l => k_is); (case c => k_is); (case k => k_is)))
    (case d__law_rows => (refine' L2.DfIn.mk ?a ?l ?c ?k; (case a => k_is); (case l => k_is); (case c => k_is); (case k => k_is)))
    (case d__law_alone => (refine' L2.DfIn.mk ?a ?l ?c ?k; (case a => k_is); (case l => k_is); (case c => k_is); (case k => k_is)))
    (case d_law => (refine' L2.DfIn.mk ?a ?l ?c ?k; (case a => k_is); (case l => k_is); (case c => k_is); (case k => k_is)))
    (case z_len => k_is)
    (case z_tuple => k_is)
    (case z_int => k_is)
    (case z_str => k_is)
    (case z_isinstance => k_is)
    (case z_bool => k_is)
    (case z_list => k_is)
    (case z_zip => k_is)
    (case z_enumerate => k_is)
    (case z_range => k_is)
    (case z_all => k_is)
    (case z_sum => k_is)
    (case z_reversed => k_is)
    (case z_min => k_is)
    (case g_MOST_LETTERS => (refine' L2.GiIn.mk ?a ?e; (case a => k_is); (case e => rfl)))
    (case g_MOST_FIGURES => (refine' L2.GiIn.mk ?a ?e; (case a => k_is); (case e => rfl)))
    (case g_MOST_NAMES => (refine' L2.GiIn.mk ?a ?e; (case a => k_is); (case e => rfl)))
    (case g_MOST_ARMS => (refine' L2.GiIn.mk ?a ?e; (case a => k_is); (case e => rfl)))
    (case t_OPS => (refine' L2.TpIn.mk ?a ?k ?v; (case a => k_is); (case k => k_is); (case v => rfl)))
    (case t_NAMING_DEEDS => (refine' L2.TpIn.mk ?a ?k ?v; (case a => k_is); (case k => k_is); (case v => rfl)))
    (case t_KEPT_WORDS => (refine' L2.TpIn.mk ?a ?k ?v; (case a => k_is); (case k => k_is); (case v => rfl)))
#print axioms PySem.Challenge.cw_reusewise_k14_whole_there_and_back_holds
