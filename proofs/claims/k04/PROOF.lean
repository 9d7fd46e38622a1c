import PyProof.Rows.All
import Wide.All
import OpenK.AllK
import Wide.FinOn
import Lean
import PyProof.EqAt
import PyProof.EqKinds
import PyProof.TupleCall
import PyProof.EnumMake
import PyProof.Draws
import PyProof.ZipIter
import PyProof.ConsumeWalk
import PyProof.NeKinds
import PyProof.ListRange
import PyProof.ReprRoads
import PyProof.ReprBulk
import PyProof.CallStr
import PyProof.Rows.SeqMore
import PyProof.FitsInt
import PyProof.Rows.SetFrom
import PyProof.SetRoads
import PyProof.Rows.SortShell
import PyProof.WalksMore
import PyProof.FactsAll.subtypes_4
import PyProof.StationsW
import PyProof.ExcClass3
import OpenK.KOwn
import PyProof.ExcBaseAll.ValueError
import PyProof.RulesAs
import PyProof.RulesDel
import PyProof.Rows.CatchOwn
import KE.KIsNot
import PyProof.ExcArgsOwn
import PyProof.ExcAttrAll.ValueError
import PySem.Challenge.RW_huedties_k04_some_ties_and_places
set_option Elab.async false
set_option linter.all false
set_option maxRecDepth 100000
namespace L2
open PySem PySem.Spec PyProof.Rows
abbrev Key := Sum Int Str
def keyIs : Key → Value → Bool
  | .inl k, v => Value.isInt k v
  | .inr x, v => Value.isStrOf x v
def keyH (w : World) : Key → Int
  | .inl k => hashInt k
  | .inr x => hashStr w x
theorem keyIs_shape : ∀ {k : Key} {v : Value}, keyIs k v = true → (∃ i t, k = Sum.inl i ∧ v = Value.int i t) ∨ (∃ x t, k = Sum.inr x ∧ v = Value.str x t)
  | .inl i, v, h => by
    obtain ⟨t, e⟩ := Value.isInt_shape (k := i) (v := v) h
    exact .inl ⟨i, t, rfl, e⟩
  | .inr x, v, h => by
    obtain ⟨t, e⟩ := Value.isStrOf_shape (x := x) (v := v) h
    exact .inr ⟨x, t, rfl, e⟩
theorem key_ll (a b : Int) : decide ((Sum.inl a : Key) = Sum.inl b) = (a == b) := by
  by_cases e : a = b
  · subst e; simp
  · have h : ¬ (Sum.inl a : Key) = Sum.inl b := fun q => e (Sum.inl.inj q)
    rw [decide_eq_false h]
    exact (beq_eq_false_iff_ne.mpr e).symm
theorem key_rr (a b : Str) : decide ((Sum.inr a : Key) = Sum.inr b) = decide (a = b) := by
  by_cases e : a = b
  · subst e; simp
  · have h : ¬ (Sum.inr a : Key) = Sum.inr b := fun q => e (Sum.inr.inj q)
    rw [decide_eq_false h, decide_eq_false e]
theorem key_lr (a : Int) (b : Str) : decide ((Sum.inl a : Key) = Sum.inr b) = false := decide_eq_false (fun q => nomatch q)
theorem key_rl (a : Str) (b : Int) : decide ((Sum.inr a : Key) = Sum.inl b) = false := decide_eq_false (fun q => nomatch q)
def mixKind (prog : Program) (w : World) : PySem.KeyKind prog w Key where
  is := keyIs
  hash := keyH w
  inj := fun v a b ha hb => by
    rcases keyIs_shape ha with ⟨i, t, rfl, rfl⟩ | ⟨x, t, rfl, rfl⟩
    · rcases keyIs_shape hb with ⟨j, u, rfl, e⟩ | ⟨y, u, rfl, e⟩
      · injection e with e1 _; rw [e1]
      · exact nomatch e
    · rcases keyIs_shape hb with ⟨j, u, rfl, e⟩ | ⟨y, u, rfl, e⟩
      · exact nomatch e
      · injection e with e1 _; rw [e1]
  byValue := fun k v h => by
    rcases keyIs_shape h with ⟨i, t, rfl, rfl⟩ | ⟨x, t, rfl, rfl⟩ <;> rfl
  pyHash := fun hv h => by
    rcases keyIs_shape hv with ⟨i, t, rfl, rfl⟩ | ⟨x, t, rfl, rfl⟩
    · exact wpAny_pyHash_int h
    · exact wpAny_pyHash_str h
  eqBool := fun hu hv h => by
    rcases keyIs_shape hu with ⟨i, t, rfl, rfl⟩ | ⟨x, t, rfl, rfl⟩
    · rcases keyIs_shape hv with ⟨j, u, rfl, rfl⟩ | ⟨y, u, rfl, rfl⟩
      · rw [key_ll] at h; exact wpAny_eqBool_int h
      · rw [key_lr] at h; exact SeqAt.EqAt.int_str i t y u _ _ _ _ h
    · rcases keyIs_shape hv with ⟨j, u, rfl, rfl⟩ | ⟨y, u, rfl, rfl⟩
      · rw [key_rl] at h; exact SeqAt.EqAt.str_int x t j u _ _ _ _ h
      · rw [key_rr] at h; exact wpAny_eqBool_str h
  «strs» := fun k x t v h => by
    rcases keyIs_shape h with ⟨i, u, rfl, e⟩ | ⟨y, u, rfl, e⟩
    · exact nomatch e
    · injection e with e1 _
      subst e1
      cases v <;> rfl
end L2
namespace L2
open PySem PySem.Spec PyProof.Rows
inductive V where
  | non | bl (b : Bool) | int (i : Int) | str (x : Str) | byt (b : Array UInt8) | flt (b : UInt64) | ref (a : Addr) | ty (n : String)
  deriving DecidableEq
def RelV : V → Value → Prop
  | .non, u => u = Value.none
  | .bl b, u => u = Value.bool b
  | .int i, u => ∃ t, u = Value.int i t
  | .str x, u => ∃ t, u = Value.str x t
  | .byt b, u => ∃ t, u = Value.bytes b t
  | .flt b, u => ∃ t, u = Value.float b t
  | .ref a, u => u = Value.ref a
  | .ty n, u => u = Value.type n
abbrev Vals : List V → List Value → Prop := Paired RelV
theorem Vals.length {xs : List V} {us : List Value} (r : Vals xs us) : xs.length = us.length := Paired.length r
theorem Vals.get : ∀ {xs : List V} {us : List Value} {i : Nat} {x : V}, Vals xs us → xs[i]? = some x → ∃ u, us[i]? = some u ∧ RelV x u
  | _, _, _, _, .nil, e => by simp at e
  | _, _, 0, _, .cons r _, e => by simp at e; subst e; exact ⟨_, rfl, r⟩
  | _, _, i + 1, x, .cons _ t, e => by
    obtain ⟨u, h1, h2⟩ := Vals.get (i := i) (x := x) t (by simpa using e)
    exact ⟨u, by simpa using h1, h2⟩
theorem Vals.set {x : V} {u : Value} (r : RelV x u) : ∀ {xs : List V} {us : List Value} (i : Nat), Vals xs us → Vals (xs.set i x) (us.set i u)
  | _, _, _, .nil => .nil
  | _, _, 0, .cons _ t => .cons r t
  | _, _, i + 1, .cons q t => .cons q (Vals.set r i t)
theorem Vals.append : ∀ {xs ys : List V} {us ws : List Value}, Vals xs us → Vals ys ws → Vals (xs ++ ys) (us ++ ws)
  | _, _, _, _, .nil, s => s
  | _, _, _, _, .cons r t, s => .cons r (Vals.append t s)
theorem Vals.take : ∀ {xs : List V} {us : List Value} (n : Nat), Vals xs us → Vals (xs.take n) (us.take n)
  | _, _, 0, _ => .nil
  | _, _, _ + 1, .nil => .nil
  | _, _, n + 1, .cons r t => .cons r (Vals.take n t)
theorem Vals.drop : ∀ {xs : List V} {us : List Value} (n : Nat), Vals xs us → Vals (xs.drop n) (us.drop n)
  | _, _, 0, r => r
  | _, _, _ + 1, .nil => .nil
  | _, _, n + 1, .cons _ t => Vals.drop n t
def RelO : Option V → Option Value → Prop
  | some v, some u => RelV v u
  | none, none => True
  | _, _ => False
def KV {κ : Type} : List (κ × V) → List (κ × Value) → Prop := Paired fun (p : κ × V) (q : κ × Value) => p.1 = q.1 ∧ RelV p.2 q.2
def kV : Key → V
  | .inl i => .int i
  | .inr x => .str x
inductive HO where
  /-- a list -/
  | lst (xs : List V)
  /-- a tuple (never changes) -/
  | tup (xs : List V)
  /-- a dict whose keys are ints and texts; one whose keys are tuples of ints and texts (the empty one is both) -/
  | dK (kvs : List (Key × V)) | dT (kvs : List (List Key × V))
  /-- a set of ints: its members, its size -/
  | set (S : Int → Bool) (n : Nat)
  /-- an instance of the class at C, its dict at dx, its attributes -/
  | ins (C dx : Addr) (fs : List (Str × V))
  /-- the dict of the instance at x -/
  | own (x : Addr)
  /-- the dict of an exception -/
  | xd (fs : List (Str × V))
  /-- a bound method, f of x -/
  | met (f x : Addr)
  /-- a range object lo, lo + 1, .. below hi -/
  | rng (lo hi : Int)
  /-- a thing that is known to the object (the script; a dict while a loop walks it): read, never written while it is so -/
  | frz (o : Obj) (u : HO)
  /-- a code object's table -/
  | tbl (ps : Array Value)
  /-- any other thing, by what is true of its one object (a def of one's own: SetO a S n := HO.ext fun h => ..) -/
  | ext (φ : Heap → Prop)
abbrev Hp := Addr → Option HO
def upd (H : Hp) (a : Addr) (o : HO) : Hp := fun b => if b = a then some o else H b
theorem upd_same {H : Hp} {a : Addr} {o : HO} : upd H a o a = some o := by unfold upd; rw [if_pos rfl]
theorem upd_ne {H : Hp} {a b : Addr} {o : HO} (h : b ≠ a) : upd H a o b = H b := by unfold upd; rw [if_neg h]
theorem ne_of {H : Hp} {a b : Addr} {o u : HO} (h : H a = some o) (h' : H b = some u) (d : o ≠ u) : a ≠ b := by
  intro e; subst e; rw [h] at h'; exact d (Option.some.inj h')
theorem ne_of_none {H : Hp} {a b : Addr} {o : HO} (h : H a = some o) (h' : H b = none) : a ≠ b := by
  intro e; subst e; rw [h] at h'; cases h'
section
variable (P : Program) (w : World)
def ObjOk (H : Hp) (h : Heap) (a : Addr) : HO → Prop
  | .lst xs => xs.length ≤ sizeLine ∧ ∃ (its : List Value) (n : Nat), Vals xs its ∧ h.get? a = some { cls := .type "list", data := .seq its.toArray n }
  | .tup xs => xs.length ≤ sizeLine ∧ ∃ its : List Value, Vals xs its ∧ IsTup h a its.toArray
  | .dK kvs => kvs.length ≤ sizeLine ∧ (a == sysModules) = false ∧ ∃ vs, KV kvs vs ∧ h.DictOf (mixKind P w) a vs
  | .dT kvs => kvs.length ≤ sizeLine ∧ (a == sysModules) = false ∧ ∃ xs : List (List Key × Addr × Value),
      Paired (fun (p : List Key × V) (q : List Key × Addr × Value) => p.1 = q.1 ∧ H q.2.1 = some (.tup (p.1.map kV)) ∧ RelV p.2 q.2.2) kvs xs ∧
      ∃ o es ep, h.get? a = some o ∧ o.ExactDict ∧ o.data = .dict es ep ∧ es.toList = xs.map (entryOfKey (tupleKind (mixKind P w))) ∧ (xs.map (·.1)).Nodup
  | .set S n => h.SetOf (intKind P w) a S n
  | .ins C dx fs => H dx = some (.own a) ∧ fs.length ≤ 1000 ∧ dx ≠ a ∧ h.get? a = some (PySem.W.instObj C dx) ∧
      ∃ mA, h.Ns1 dx mA ∧ (∀ f, RelO (fs.lookup f) (mA f)) ∧ PySem.Within mA (fs.map (·.1))
  | .own _ => ∃ o, h.get? a = some o
  | .xd fs => ∃ mA, h.Ns1 a mA ∧ ∀ f, RelO (fs.lookup f) (mA f)
  | .rng lo hi => ∃ t u v, h.get? a = some { cls := .type "range", data := .fields #[.int lo t, .int hi u, .int 1 v] }
  | .frz o u => h.get? a = some o ∧ ObjOk H h a u
  | .tbl ps => h.get? a = some { cls := .none, data := .fields ps }
  | .met f x => h.get? a = some (PySem.W.methodObj (.ref f) (.ref x))
  | .ext φ => φ h ∧ (∃ o, h.get? a = some o) ∧ ∀ h1 h2 : Heap, φ h1 → (∀ o, h1.get? a = some o → h2.get? a = some o) → φ h2
def HOk (H : Hp) (h : Heap) : Prop := ∀ a o, H a = some o → ObjOk P w H h a o
end
section
variable {P : Program} {w : World} {H H' : Hp} {h h' : Heap} {a : Addr} {o : HO}
theorem ObjOk.lt (x : ObjOk P w H h a o) : a < h.objs.size := by
  cases o with
  | lst xs => obtain ⟨_, _, _, _, e⟩ := x; exact Heap.lt_size e
  | tup xs => obtain ⟨_, _, _, p⟩ := x; exact p.lt
  | dK kvs => obtain ⟨_, _, _, _, o, _, _, e, _⟩ := x; exact Heap.lt_size e
  | dT kvs => obtain ⟨_, _, _, _, o, _, _, e, _⟩ := x; exact Heap.lt_size e
  | set S n => obtain ⟨o, _, _, _, e, _⟩ := x; exact Heap.lt_size e
  | ins C dx fs => obtain ⟨_, _, _, e, _⟩ := x; exact Heap.lt_size e
  | own y => obtain ⟨_, e⟩ := x; exact Heap.lt_size e
  | xd fs => obtain ⟨_, ⟨_, _, _, e, _⟩, _⟩ := x; exact Heap.lt_size e
  | rng lo hi => obtain ⟨_, _, _, e⟩ := x; exact Heap.lt_size e
  | frz ob u => obtain ⟨e, _⟩ := x; exact Heap.lt_size e
  | tbl ps => exact Heap.lt_size (show h.get? a = some _ from x)
  | met f y => exact Heap.lt_size (show h.get? a = some _ from x)
  | ext φ => obtain ⟨_, ⟨_, e⟩, _⟩ := x; exact Heap.lt_size e
theorem Paired.mapP {α β : Type} {F G : α → β → Prop} : ∀ {l₁ : List α} {l₂ : List β}, Paired F l₁ l₂ → (∀ a b, F a b → G a b) → Paired G l₁ l₂
  | _, _, .nil, _ => .nil
  | _, _, .cons r t, f => .cons (f _ _ r) (Paired.mapP t f)
theorem ObjOk.stay (x : ObjOk P w H h a o) (k : ∀ b u, (b = a ∨ H b = some (.own a)) → h.get? b = some u → h'.get? b = some u)
    (ho : ∀ b, H b = some (.own a) → H' b = some (.own a)) (ht : ∀ b xs, H b = some (.tup xs) → H' b = some (.tup xs)) : ObjOk P w H' h' a o := by
  induction o with
  | lst xs => obtain ⟨z, its, n, r, e⟩ := x; exact ⟨z, its, n, r, k _ _ (.inl rfl) e⟩
  | tup xs => obtain ⟨z, its, r, ob, e, c⟩ := x; exact ⟨z, its, r, ob, k _ _ (.inl rfl) e, c⟩
  | dK kvs => obtain ⟨z, y, vs, r, ob, es, ep, e, c⟩ := x; exact ⟨z, y, vs, r, ob, es, ep, k _ _ (.inl rfl) e, c⟩
  | dT kvs =>
    obtain ⟨z, y, xs, r, ob, es, ep, e, c⟩ := x
    exact ⟨z, y, xs, Paired.mapP r fun p q z => ⟨z.1, ht _ _ z.2.1, z.2.2⟩, ob, es, ep, k _ _ (.inl rfl) e, c⟩
  | set S n => obtain ⟨ob, es, ep, t, e, c⟩ := x; exact ⟨ob, es, ep, t, k _ _ (.inl rfl) e, c⟩
  | ins C dx fs =>
    obtain ⟨d, z, ne, e, mA, ⟨od, es, ep, e2, c⟩, r⟩ := x
    exact ⟨ho _ d, z, ne, k _ _ (.inl rfl) e, mA, ⟨od, es, ep, k _ _ (.inr d) e2, c⟩, r⟩
  | own y => obtain ⟨ob, e⟩ := x; exact ⟨ob, k _ _ (.inl rfl) e⟩
  | xd fs => obtain ⟨mA, ⟨od, es, ep, e, c⟩, r⟩ := x; exact ⟨mA, ⟨od, es, ep, k _ _ (.inl rfl) e, c⟩, r⟩
  | rng lo hi => obtain ⟨t, u, v, e⟩ := x; exact ⟨t, u, v, k _ _ (.inl rfl) e⟩
  | frz ob u ih => obtain ⟨e, q⟩ := x; exact ⟨k _ _ (.inl rfl) e, ih q⟩
  | tbl ps =>
    have e : h.get? a = some { cls := .none, data := .fields ps } := x
    show h'.get? a = some { cls := .none, data := .fields ps }
    exact k a _ (.inl rfl) e
  | met f y =>
    have e : h.get? a = some (PySem.W.methodObj (.ref f) (.ref y)) := x
    show h'.get? a = some (PySem.W.methodObj (.ref f) (.ref y))
    exact k a _ (.inl rfl) e
  | ext φ => obtain ⟨p, ⟨o, e⟩, st⟩ := x; exact ⟨st _ _ p fun o q => k _ _ (.inl rfl) q, ⟨o, k _ _ (.inl rfl) e⟩, st⟩
theorem HOk.lt (x : HOk P w H h) (e : H a = some o) : a < h.objs.size := (x a o e).lt
theorem HOk.fresh (x : HOk P w H h) (e : h.objs.size ≤ a) : H a = none := by
  cases q : H a with
  | none => rfl
  | some u => exact absurd (Nat.lt_of_lt_of_le (x.lt q) e) (Nat.lt_irrefl _)
theorem HOk.kept (x : HOk P w H h) (k : ∀ b u, h.get? b = some u → h'.get? b = some u) : HOk P w H h' := fun a o e =>
  (x a o e).stay (fun b u _ q => k b u q) (fun _ q => q) fun _ _ q => q
theorem HOk.laid (x : HOk P w H h) (k : ∀ b u, h.get? b = some u → h'.get? b = some u) (hp : h.objs.size ≤ a) (new : ObjOk P w (upd H a o) h' a o) : HOk P w (upd H a o) h' := fun b u e => by
  have hn := x.fresh hp
  by_cases hb : b = a
  · subst hb; rw [upd_same] at e; cases e; exact new
  · rw [upd_ne hb] at e
    exact (x b u e).stay (fun c v _ q => k c v q) (fun c q => by rw [upd_ne (ne_of_none q hn)]; exact q) fun c xs q => by rw [upd_ne (ne_of_none q hn)]; exact q
end
def Rd (H : Hp) (a : Addr) (u : HO) : Prop := H a = some u ∨ ∃ o, H a = some (.frz o u)
theorem Rd.of {H : Hp} {a : Addr} {u : HO} (h : H a = some u) : Rd H a u := .inl h
theorem Rd.ok {P : Program} {w : World} {H : Hp} {h : Heap} {a : Addr} {u : HO} (r : Rd H a u) (x : HOk P w H h) : ObjOk P w H h a u := by
  rcases r with r | ⟨o, r⟩
  · exact x a u r
  · obtain ⟨_, q⟩ := x a _ r
    exact q
def Mut : Option HO → Prop
  | some (.lst _) => True
  | some (.dK _) => True
  | some (.dT _) => True
  | some (.set _ _) => True
  | some (.ins _ _ _) => True
  | some (.ext _) => True
  | _ => False
section
variable {P : Program} {w : World} {H : Hp} {h h' : Heap} {x e : Addr} {o' : HO}
theorem HOk.write (ok : HOk P w H h) (mu : Mut (H x)) (he : e = x ∨ H e = some (.own x)) (k : ∀ b u, b ≠ e → h.get? b = some u → h'.get? b = some u) (heo : ∃ u, h'.get? e = some u)
    (new : ObjOk P w (upd H x o') h' x o') : HOk P w (upd H x o') h' := fun b u q => by
  have nown : ∀ c y, H c = some (.own y) → c ≠ x := fun c y r z => by subst z; rw [r] at mu; exact mu
  have ntup : ∀ c xs, H c = some (.tup xs) → c ≠ x := fun c xs r z => by subst z; rw [r] at mu; exact mu
  by_cases hb : b = x
  · subst hb; rw [upd_same] at q; cases q; exact new
  · rw [upd_ne hb] at q
    by_cases hbe : b = e
    · have q' : H b = some (.own x) := by
        rcases he with z | z
        · exact absurd (hbe.trans z) hb
        · rw [hbe]; exact z
      rw [q] at q'; cases q'
      obtain ⟨v, hv⟩ := heo
      exact ⟨v, by rw [hbe]; exact hv⟩
    · refine (ok b u q).stay (fun c v hc r => k c v ?_ r) (fun c r => by rw [upd_ne (nown c b r)]; exact r) fun c xs r => by rw [upd_ne (ntup c xs r)]; exact r
      rcases hc with rfl | hc
      · exact hbe
      · rintro rfl
        rcases he with z | z
        · exact nown c b hc z
        · rw [hc] at z; cases z; exact hb rfl
end
structure Un (fs ex : List Addr) (H H' : Hp) (h h' : Heap) : Prop where
  keep : ∀ b o, h.get? b = some o → H b = none → b ∉ fs → b ∉ ex → h'.get? b = some o
  slot : ∀ b o, h.get? b = some o → H b = none → b ∈ fs → b ∉ ex → ∃ sl, h'.get? b = some { o with slots := sl }
  free : ∀ b o, h.get? b = some o → H b = none → b ∉ ex → H' b = none
  there : ∀ b o, h.get? b = some o → b ∉ ex → ∃ o', h'.get? b = some o'
  tups : ∀ b xs, H b = some (.tup xs) → H' b = some (.tup xs)
  frzs : ∀ b o u, H b = some (.frz o u) → H' b = some (.frz o u)
  tbls : ∀ b ps, H b = some (.tbl ps) → ∃ more, H' b = some (.tbl (ps ++ more))
section
variable {fs fs' ex ex' : List Addr} {H H1 H2 : Hp} {h h1 h2 h' : Heap} {a x e : Addr} {o : HO}
theorem Un.any (u : Un fs ex H H1 h h1) {b : Addr} {ob : Obj} (q : h.get? b = some ob) (n : H b = none) (hx : b ∉ ex) : ∃ sl, h1.get? b = some { ob with slots := sl } := by
  by_cases hb : b ∈ fs
  · exact u.slot b ob q n hb hx
  · exact ⟨ob.slots, u.keep b ob q n hb hx⟩
theorem Un.trans (a : Un fs ex H H1 h h1) (b : Un fs ex H1 H2 h1 h2) : Un fs ex H H2 h h2 where
  keep := fun c ob q n hc hx => b.keep c ob (a.keep c ob q n hc hx) (a.free c ob q n hx) hc hx
  slot := fun c ob q n hc hx => by
    obtain ⟨sl, e1⟩ := a.slot c ob q n hc hx
    obtain ⟨sl', e2⟩ := b.slot c _ e1 (a.free c ob q n hx) hc hx
    exact ⟨sl', e2⟩
  free := fun c ob q n hx => by
    obtain ⟨o', e1⟩ := a.there c ob q hx
    exact b.free c o' e1 (a.free c ob q n hx) hx
  there := fun c ob q hx => by
    obtain ⟨o', e1⟩ := a.there c ob q hx
    exact b.there c o' e1 hx
  tups := fun c xs q => b.tups c xs (a.tups c xs q)
  frzs := fun c ob xs q => b.frzs c ob xs (a.frzs c ob xs q)
  tbls := fun c ps q => by
    obtain ⟨m1, e1⟩ := a.tbls c ps q
    obtain ⟨m2, e2⟩ := b.tbls c _ e1
    exact ⟨m1 ++ m2, by rw [e2, Array.append_assoc]⟩
theorem Un.kept (k : ∀ b u, h.get? b = some u → h'.get? b = some u) : Un fs ex H H h h' :=
  ⟨fun b ob q _ _ _ => k b ob q, fun b ob q _ _ _ => ⟨ob.slots, k b ob q⟩, fun _ _ _ n _ => n, fun b ob q _ => ⟨ob, k b ob q⟩, fun _ _ q => q, fun _ _ _ q => q, fun _ ps q => ⟨#[], by rw [q]; simp⟩⟩
theorem Un.refl : Un fs ex H H h h := Un.kept fun _ _ q => q
theorem Un.laid (k : ∀ b u, h.get? b = some u → h'.get? b = some u) (hp : h.objs.size ≤ a) (hn : H a = none) : Un fs ex H (upd H a o) h h' where
  keep := fun b u q _ _ _ => k b u q
  slot := fun b u q _ _ _ => ⟨u.slots, k b u q⟩
  free := fun b u q n _ => by rw [upd_ne (Nat.ne_of_lt (Nat.lt_of_lt_of_le (Heap.lt_size q) hp))]; exact n
  there := fun b u q _ => ⟨u, k b u q⟩
  tups := fun b xs q => by rw [upd_ne (ne_of_none q hn)]; exact q
  frzs := fun b u xs q => by rw [upd_ne (ne_of_none q hn)]; exact q
  tbls := fun b ps q => ⟨#[], by rw [upd_ne (ne_of_none q hn), q]; simp⟩
theorem Un.write (mu : Mut (H x)) (he : e = x ∨ H e = some (.own x)) (k : ∀ b u, b ≠ e → h.get? b = some u → h'.get? b = some u) (heo : ∃ u, h'.get? e = some u) : Un fs ex H (upd H x o) h h' := by
  have hx : ∀ b, H b = none → b ≠ x := fun b n z => by subst z; rw [n] at mu; exact mu
  have hb : ∀ b, H b = none → b ≠ e := fun b n z => by
    subst z
    rcases he with r | r
    · exact hx b n r
    · rw [n] at r; cases r
  have hm : ∀ b u, H b = some u → ¬ Mut (some u) → b ≠ x := fun b u q nm z => by subst z; rw [q] at mu; exact nm mu
  refine ⟨fun b u q n _ _ => k b u (hb b n) q, fun b u q n _ _ => ⟨u.slots, k b u (hb b n) q⟩, fun b u q n _ => by rw [upd_ne (hx b n)]; exact n, fun b u q _ => ?_,
    fun b xs q => by rw [upd_ne (hm b _ q fun z => z)]; exact q, fun b u xs q => by rw [upd_ne (hm b _ q fun z => z)]; exact q, fun b ps q => ⟨#[], by rw [upd_ne (hm b _ q fun z => z), q]; simp⟩⟩
  by_cases hbe : b = e
  · subst hbe; exact heo
  · exact ⟨u, k b u hbe q⟩
theorem Un.mono (u : Un fs ex H H1 h h1) (hs : ∀ b ∈ fs, b ∈ fs') (hx : ∀ b ∈ ex, b ∈ ex') : Un fs' ex' H H1 h h1 :=
  ⟨fun b ob q n hb he => u.keep b ob q n (fun z => hb (hs b z)) fun z => he (hx b z), fun _ _ q n _ he => u.any q n fun z => he (hx _ z), fun b ob q n he => u.free b ob q n fun z => he (hx b z), fun b ob q he => u.there b ob q fun z => he (hx b z), u.tups, u.frzs, u.tbls⟩
end
def trk (h : Heap) (H : Hp) : List Addr := (List.range h.objs.size).filter fun a => (H a).isSome
def hidT (h : Heap) (H : Hp) : Heap := PySem.W.hideAll h (trk h H)
theorem hidT_size (h : Heap) (H : Hp) : (hidT h H).objs.size = h.objs.size := PySem.W.hideAll_size _ _
theorem hidT_get {h : Heap} {H : Hp} {b : Addr} {o : Obj} (e : h.get? b = some o) (n : H b = none) : (hidT h H).get? b = some o :=
  PySem.W.hideAll_get _ e fun hm => by
    have q : (H b).isSome = true := (List.mem_filter.mp hm).2
    rw [n] at q; simp at q
theorem of_hidT {h : Heap} {H : Hp} {b : Addr} {o : Obj} (e : (hidT h H).get? b = some o) : h.get? b = some o ∧ H b = none := by
  have e' : h.get? b = some o := PySem.W.of_hideAll (trk h H) e
  refine ⟨e', ?_⟩
  cases q : H b with
  | none => rfl
  | some x =>
    have hm : b ∈ trk h H := List.mem_filter.mpr ⟨List.mem_range.mpr (Heap.lt_size e'), by simp [q]⟩
    have z : (hidT h H).get? b = none := PySem.W.hideAll_none (trk h H) hm
    rw [z] at e; cases e
def allNews (g h : Heap) (L : Addr) : List (Addr × Obj) := (List.range h.objs.size).filterMap fun a => if a = L ∨ (g.get? a).isSome = true then none else (h.get? a).map fun o => (a, o)
def rest (g h : Heap) (L d : Addr) : List (Addr × Obj) := (allNews g h L).filter fun p => decide (p.1 ≠ d)
end L2
namespace L2
open PySem PySem.Spec PyProof.Rows
structure Mod (K : PySem.W.Frag) (mg : Str → Option Value) (base : Heap) : Prop where
  kin : K.In base
  glob : base.Ns mainGlobals mg
  blt : ∃ mb, base.Ns builtinsNs mb ∧ ∀ x : Str, x ≠ "__name__" → mb x = bootBuiltins x
  nolimit : base.NoLimit
structure Cx where
  prog : Program
  w : World
  K : PySem.W.Frag
  mg : Str → Option Value
  base : Heap
  A : Around
  N : List Str
  s₀ : Shared
  H₀ : Hp
  env : Env
  outer : List Env
  stack : List Env
  ex : List Addr
  fn : Str → Bool
  calm : Bool
  pn : List (Addr × Obj)
  xe : Value → Shared → Prop
def frs (l : List Env) : List Addr := l.filterMap (·.frame)
abbrev Cx.fs (X : Cx) : List Addr := frs X.outer
def Vis (sc : Scope) (x : Str) : Prop := sc.names.lookup x = some .local ∨ sc.names.lookup x = some .cell ∨ sc.names.lookup x = some .free
def Loc (sc : Scope) (x : Str) : Prop := sc.names.lookup x = some .local ∨ sc.names.lookup x = some .cell
def Look (env : Env) (h : Heap) (m : Str → Option Value) (x : Str) (u : Value) : Prop :=
  (env.kindOf x = some .local ∧ m x = some u) ∨ ((env.kindOf x = some .cell ∨ env.kindOf x = some .free) ∧ ∃ c, env.cells.lookup x = some c ∧ h.IsCell c (some u))
structure Cx.Ok (X : Cx) : Prop where
  mod : Mod X.K X.mg X.base
  kind : X.env.scope.kind = .function
  glob : X.env.globals = mainGlobals
  blt : X.env.builtins = builtinsNs
  above : X.s₀.heap.objs.size ≤ X.env.locals
  inj : ∀ x y c, X.env.cells.lookup x = some c → X.env.cells.lookup y = some c → x = y
  has : ∀ x, (X.env.kindOf x = some .cell ∨ X.env.kindOf x = some .free) → ∃ c, X.env.cells.lookup x = some c
  cab : ∀ x c, X.fn x = true → X.env.cells.lookup x = some c → X.s₀.heap.objs.size ≤ c
  hd : X.calm = true → X.A.handled = none
  frames : X.A.frames = some X.stack
  stk : X.stack = X.outer ∨ (X.stack = X.env :: X.outer ∧ X.env.frame = some X.env.locals)
  exf : ∀ b ∈ X.ex, b ≠ X.env.locals ∧ ∀ x c, X.env.cells.lookup x = some c → c ≠ b
  bs : ∀ b o, X.base.get? b = some o → X.s₀.heap.get? b = some o ∧ X.H₀ b = none
  bsz : X.base.objs.size ≤ X.s₀.heap.objs.size
  noex : ∀ b o, X.base.get? b = some o → b ∉ X.ex
  exfs : ∀ b ∈ X.ex, b ∉ X.fs
  funs : X.s₀.heap.FunFrames X.base X.outer
  frf : ∀ b ∈ X.fs, X.H₀ b = none
structure Inv (X : Cx) (pins : List (Addr × Obj)) (σ : List (Option V)) (H : Hp) (s : Shared) : Prop where
  ok : X.Ok
  os : s.os = X.s₀.os
  bare : AllBare s.gens
  base : Un X.fs X.ex X.H₀ H X.s₀.heap s.heap
  loc : ∃ m, s.heap.Ns X.env.locals m ∧ ∀ (i : Nat) (x : Str) (v : V), X.N[i]? = some x → σ[i]? = some (some v) → Vis X.env.scope x → ∃ u, RelV v u ∧ Look X.env s.heap m x u
  cell : ∀ x c, X.env.cells.lookup x = some c → ∃ v, s.heap.IsCell c v
  free : H X.env.locals = none
  freeC : ∀ x c, X.env.cells.lookup x = some c → H c = none
  pin : ∀ p ∈ X.pn ++ pins, s.heap.get? p.1 = some p.2 ∧ H p.1 = none ∧ p.1 ≠ X.env.locals ∧ p.1 ∉ X.fs ∧ ∀ v, p.2.data ≠ .cell v
  hok : HOk X.prog X.w H s.heap
  len : σ.length = X.N.length
section
variable {X : Cx} {pins : List (Addr × Obj)} {σ : List (Option V)} {H H' : Hp} {s : Shared} {h' : Heap}
theorem Cx.Ok.nofr (ok : X.Ok) {b : Addr} {o : Obj} (e : X.base.get? b = some o) : b ∉ X.fs := fun hb => by
  have := (ok.funs.mem hb).1
  rw [e] at this; cases this
theorem Inv.bs (I : Inv X pins σ H s) : ∀ b o, X.base.get? b = some o → s.heap.get? b = some o ∧ H b = none := fun b o e =>
  ⟨I.base.keep b o (I.ok.bs b o e).1 (I.ok.bs b o e).2 (I.ok.nofr e) (I.ok.noex b o e), I.base.free b o (I.ok.bs b o e).1 (I.ok.bs b o e).2 (I.ok.noex b o e)⟩
theorem Inv.bk (I : Inv X pins σ H s) : ∀ b o, X.base.get? b = some o → s.heap.get? b = some o := fun b o e => (I.bs b o e).1
theorem Inv.mod (I : Inv X pins σ H s) : Mod X.K X.mg X.base := I.ok.mod
theorem Inv.kIn (I : Inv X pins σ H s) : X.K.In s.heap := I.ok.mod.kin.keeps I.bk
theorem Inv.nolimit (I : Inv X pins σ H s) : s.heap.NoLimit := I.ok.mod.nolimit.keeps I.bk
theorem Inv.fr (I : Inv X pins σ H s) : ∃ m, Fr X.base X.env.locals s.heap m :=
  let ⟨m, hn, _⟩ := I.loc
  ⟨m, hn, I.bk, Nat.le_trans I.ok.bsz I.ok.above⟩
theorem Inv.lt (I : Inv X pins σ H s) : X.env.locals < s.heap.objs.size := let ⟨_, hn, _⟩ := I.loc; hn.lt
theorem Inv.sz (I : Inv X pins σ H s) : X.s₀.heap.objs.size ≤ s.heap.objs.size := Nat.le_trans I.ok.above (Nat.le_of_lt I.lt)
theorem Inv.nofs (I : Inv X pins σ H s) {a : Addr} (h : s.heap.objs.size ≤ a) : a ∉ X.fs := fun hb => by
  obtain ⟨_, o, ho, _⟩ := I.ok.funs.mem hb
  exact absurd (Nat.lt_of_lt_of_le (Heap.lt_size ho) (Nat.le_trans I.sz h)) (Nat.lt_irrefl _)
theorem Inv.cne (I : Inv X pins σ H s) : ∀ x c, X.env.cells.lookup x = some c → c ≠ X.env.locals := fun x c e z => by
  obtain ⟨v, o, ho, hd⟩ := I.cell x c e
  obtain ⟨m, ⟨o', es, ep, ho', hd', _⟩, _⟩ := I.loc
  rw [z, ho'] at ho; cases ho; rw [hd'] at hd; cases hd
theorem Inv.funs (I : Inv X pins σ H s) : s.heap.FunFrames X.base X.outer := by
  have all : ∀ (l : List Env), (∀ b ∈ frs l, b ∈ X.fs) → X.s₀.heap.FunFrames X.base l → s.heap.FunFrames X.base l := by
    intro l
    induction l with
    | nil => intro _ _; trivial
    | cons env r ih =>
      intro hs hl
      obtain ⟨hk, ⟨L, o, hf, hn, ho, hd⟩, hr⟩ := hl
      have hL : L ∈ X.fs := hs L (by unfold frs; rw [List.filterMap_cons, hf]; exact List.mem_cons_self)
      obtain ⟨sl, e⟩ := I.base.slot L o ho (I.ok.frf L hL) hL fun z => I.ok.exfs L z hL
      exact ⟨hk, ⟨L, _, hf, hn, e, hd⟩, ih (fun b hb => hs b (by unfold frs; rw [List.filterMap_cons, hf]; exact List.mem_cons_of_mem _ hb)) hr⟩
  exact all X.outer (fun _ hb => hb) I.ok.funs
theorem Inv.stack (I : Inv X pins σ H s) : s.heap.FunFrames X.base X.stack := by
  rcases I.ok.stk with e | ⟨e, hf⟩
  · rw [e]; exact I.funs
  · rw [e]
    obtain ⟨m, hn, _⟩ := I.loc
    refine .cons (by rw [I.ok.kind]; decide) hf hn ?_ I.funs
    exact Heap.get?_none_of_le (Nat.le_trans I.ok.bsz I.ok.above)
theorem Inv.stkSub (I : Inv X pins σ H s) : ∀ b ∈ frs X.stack, b ∈ X.env.locals :: X.fs := fun b hb => by
  rcases I.ok.stk with e | ⟨e, hf⟩
  · rw [e] at hb; exact List.mem_cons_of_mem _ hb
  · rw [e] at hb
    unfold frs at hb
    rw [List.filterMap_cons, hf] at hb
    exact hb
theorem Inv.stkFree (I : Inv X pins σ H s) : ∀ b ∈ frs X.stack, H b = none := fun b hb => by
  rcases List.mem_cons.mp (I.stkSub b hb) with e | hb
  · rw [e]; exact I.free
  · obtain ⟨_, o, ho, _⟩ := I.ok.funs.mem hb
    exact I.base.free b o ho (I.ok.frf b hb) fun z => I.ok.exfs b z hb
theorem Inv.step {g' : Array GenState} {t' : Nat} {d' : Drawn} {ch : List Addr} (I : Inv X pins σ H s)
    (hch : ∀ b ∈ ch, (b ∈ X.ex ∨ X.s₀.heap.objs.size ≤ b) ∧ b ≠ X.env.locals ∧ (∀ x c, X.env.cells.lookup x = some c → c ≠ b) ∧ ∀ p ∈ X.pn ++ pins, p.1 ≠ b)
    (keep : ∀ b o, b ≠ X.env.locals → b ∉ X.fs → b ∉ ch → s.heap.get? b = some o → H b = none → h'.get? b = some o)
    (slot : ∀ b o, b ≠ X.env.locals → b ∈ X.fs → b ∉ ch → s.heap.get? b = some o → H b = none → ∃ sl, h'.get? b = some { o with slots := sl }) (free : ∀ b o, b ∉ ch → s.heap.get? b = some o → H b = none → H' b = none)
    (there : ∀ b o, b ∉ ch → s.heap.get? b = some o → ∃ o', h'.get? b = some o')
    (tups : ∀ b xs, H b = some (.tup xs) → H' b = some (.tup xs)) (frzs : ∀ b o u, H b = some (.frz o u) → H' b = some (.frz o u)) (tbls : ∀ b ps, H b = some (.tbl ps) → ∃ more, H' b = some (.tbl (ps ++ more)))
    (ns : ∀ m, s.heap.Ns X.env.locals m → h'.Ns X.env.locals m) (hok : HOk X.prog X.w H' h') (hg : AllBare g') :
    Inv X pins σ H' { s with heap := h', gens := g', drawn := d', toks := t' } := by
  have neL : ∀ b o, X.s₀.heap.get? b = some o → b ≠ X.env.locals := fun b o e => Nat.ne_of_lt (Nat.lt_of_lt_of_le (Heap.lt_size e) I.ok.above)
  have neC : ∀ b o, X.s₀.heap.get? b = some o → b ∉ X.ex → b ∉ ch := fun b o e hx hb => by
    rcases (hch b hb).1 with z | z
    · exact hx z
    · exact absurd (Nat.lt_of_lt_of_le (Heap.lt_size e) z) (Nat.lt_irrefl _)
  have cellK : ∀ x c, X.env.cells.lookup x = some c → ∀ v, s.heap.IsCell c v → h'.IsCell c v := fun x c e v ⟨o, ho, hd⟩ => by
    have nch : c ∉ ch := fun z => (hch c z).2.2.1 x c e rfl
    by_cases hc : c ∈ X.fs
    · obtain ⟨sl, q⟩ := slot c o (I.cne x c e) hc nch ho (I.freeC x c e)
      exact ⟨_, q, hd⟩
    · exact ⟨o, keep c o (I.cne x c e) hc nch ho (I.freeC x c e), hd⟩
  refine ⟨I.ok, I.os, hg, ⟨fun b o e n hb hx => ?_, fun b o e n hb hx => ?_, fun b o e n hx => ?_, fun b o e hx => ?_, fun b xs e => tups b xs (I.base.tups b xs e), fun b o xs e => frzs b o xs (I.base.frzs b o xs e), fun b ps e => ?_⟩, ?_, fun x c e => ?_, ?_, fun x c e => ?_, fun p hp => ?_, hok, I.len⟩
  · exact keep b o (neL b o e) hb (neC b o e hx) (I.base.keep b o e n hb hx) (I.base.free b o e n hx)
  · obtain ⟨sl, e1⟩ := I.base.slot b o e n hb hx
    obtain ⟨sl', e2⟩ := slot b _ (neL b o e) hb (neC b o e hx) e1 (I.base.free b o e n hx)
    exact ⟨sl', e2⟩
  · obtain ⟨o', e1⟩ := I.base.there b o e hx
    exact free b o' (neC b o e hx) e1 (I.base.free b o e n hx)
  · obtain ⟨o', e1⟩ := I.base.there b o e hx
    exact there b o' (neC b o e hx) e1
  · obtain ⟨m1, e1⟩ := I.base.tbls b ps e
    obtain ⟨m2, e2⟩ := tbls b _ e1
    exact ⟨m1 ++ m2, by rw [e2, Array.append_assoc]⟩
  · obtain ⟨m, hn, hl⟩ := I.loc
    refine ⟨m, ns m hn, fun i x v e1 e2 e3 => ?_⟩
    obtain ⟨u, r, l⟩ := hl i x v e1 e2 e3
    refine ⟨u, r, ?_⟩
    rcases l with l | ⟨k, c, e, z⟩
    · exact .inl l
    · exact .inr ⟨k, c, e, cellK x c e _ z⟩
  · obtain ⟨v, z⟩ := I.cell x c e
    exact ⟨v, cellK x c e v z⟩
  · obtain ⟨m, ⟨o, _, _, ho, _⟩, _⟩ := I.loc
    exact free _ o (fun z => (hch _ z).2.1 rfl) ho I.free
  · obtain ⟨v, o, ho, hd⟩ := I.cell x c e
    exact free c o (fun z => (hch c z).2.2.1 x c e rfl) ho (I.freeC x c e)
  · obtain ⟨e, n, ne, nf, d⟩ := I.pin p hp
    have nch : p.1 ∉ ch := fun z => (hch p.1 z).2.2.2 p hp rfl
    exact ⟨keep p.1 p.2 ne nf nch e n, free p.1 p.2 nch e n, ne, nf, d⟩
theorem Inv.un {t' : Nat} (I : Inv X pins σ H s) (u : Un X.fs [] H H' s.heap h') (hok : HOk X.prog X.w H' h') : Inv X pins σ H' { s with heap := h', toks := t' } := by
  obtain ⟨m, ⟨o, es, ep, ho, r⟩, _⟩ := id I.loc
  obtain ⟨sl, hL⟩ := u.any ho I.free (by simp)
  exact I.step (g' := s.gens) (d' := s.drawn) (ch := []) (fun _ z => nomatch z) (fun b o _ hb _ e n => u.keep b o e n hb (by simp)) (fun b o _ hb _ e n => u.slot b o e n hb (by simp)) (fun b o _ e n => u.free b o e n (by simp)) (fun b o _ e => u.there b o e (by simp)) u.tups u.frzs u.tbls (fun m' hm => by
    obtain ⟨o', es', ep', ho', r'⟩ := hm
    rw [ho] at ho'; cases ho'
    exact ⟨_, es', ep', hL, r'⟩) hok I.bare
theorem Inv.call {g' : Array GenState} {t' : Nat} {d' : Drawn} {ch : List Addr} (I : Inv X pins σ H s) (u : Un (frs X.stack) ch H H' s.heap h') (hok : HOk X.prog X.w H' h') (hg : AllBare g')
    (hch : ∀ b ∈ ch, (b ∈ X.ex ∨ X.s₀.heap.objs.size ≤ b) ∧ b ≠ X.env.locals ∧ (∀ x c, X.env.cells.lookup x = some c → c ≠ b) ∧ ∀ p ∈ X.pn ++ pins, p.1 ≠ b) :
    Inv X pins σ H' { s with heap := h', gens := g', drawn := d', toks := t' } := by
  obtain ⟨m, ⟨o, es, ep, ho, r⟩, _⟩ := id I.loc
  obtain ⟨sl, hL⟩ := u.any ho I.free fun z => (hch _ z).2.1 rfl
  exact I.step (ch := ch) hch (fun b o hL hb hc e n => u.keep b o e n (fun z => (List.mem_cons.mp (I.stkSub b z)).elim hL hb) hc) (fun b o _ _ hc e n => u.any e n hc) (fun b o hc e n => u.free b o e n hc) (fun b o hc e => u.there b o e hc) u.tups u.frzs u.tbls (fun m' hm => by
    obtain ⟨o', es', ep', ho', r'⟩ := hm
    rw [ho] at ho'; cases ho'
    exact ⟨_, es', ep', hL, r'⟩) hok hg
theorem Inv.turned {t' : Nat} {it : Addr} (I : Inv X pins σ H s) (k : ∀ b o, b ≠ it → s.heap.get? b = some o → h'.get? b = some o) (hn : H it = none) (hL : it ≠ X.env.locals)
    (h1 : it ∈ X.ex ∨ X.s₀.heap.objs.size ≤ it) (h2 : ∀ x c, X.env.cells.lookup x = some c → c ≠ it) (h3 : ∀ p ∈ X.pn ++ pins, p.1 ≠ it) : Inv X pins σ H { s with heap := h', toks := t' } := by
  have nit : ∀ b u, H b = some u → b ≠ it := fun b u e z => by rw [z, hn] at e; cases e
  refine I.step (g' := s.gens) (d' := s.drawn) (ch := [it]) (fun b hb => ?_) (fun b o _ _ hc e _ => k b o (fun z => hc (by simp [z])) e) (fun b o _ _ hc e _ => ⟨o.slots, k b o (fun z => hc (by simp [z])) e⟩) (fun _ _ _ _ n => n)
    (fun b o hc e => ⟨o, k b o (fun z => hc (by simp [z])) e⟩) (fun _ _ e => e) (fun _ _ _ e => e) (fun b ps e => ⟨#[], by rw [e]; simp⟩) (fun m hm => ?_) (fun b u e => ?_) I.bare
  · have e : b = it := by simpa using hb
    subst e
    exact ⟨h1, hL, h2, h3⟩
  · obtain ⟨o, es, ep, ho, r⟩ := hm
    exact ⟨o, es, ep, k _ o (Ne.symm hL) ho, r⟩
  · refine (I.hok b u e).stay (fun c v hc q => k c v ?_ q) (fun _ q => q) fun _ _ q => q
    rcases hc with z | z
    · rw [z]; exact nit b u e
    · exact nit c _ z
theorem Inv.tok (I : Inv X pins σ H s) (t : Nat) : Inv X pins σ H { s with toks := t } := I.un (h' := s.heap) (t' := t) Un.refl I.hok
theorem Inv.kept {t' : Nat} (I : Inv X pins σ H s) (k : ∀ b u, s.heap.get? b = some u → h'.get? b = some u) : Inv X pins σ H { s with heap := h', toks := t' } := I.un (Un.kept k) (I.hok.kept k)
theorem Inv.laid {a : Addr} {o : HO} {t' : Nat} (I : Inv X pins σ H s) (k : ∀ b u, s.heap.get? b = some u → h'.get? b = some u) (hp : s.heap.objs.size ≤ a) (new : ObjOk X.prog X.w (upd H a o) h' a o) :
    Inv X pins σ (upd H a o) { s with heap := h', toks := t' } := I.un (Un.laid k hp (I.hok.fresh hp)) (I.hok.laid k hp new)
theorem Inv.write {x e : Addr} {o : HO} {t' : Nat} (I : Inv X pins σ H s) (mu : Mut (H x)) (he : e = x ∨ H e = some (.own x)) (k : ∀ b u, b ≠ e → s.heap.get? b = some u → h'.get? b = some u) (heo : ∃ u, h'.get? e = some u)
    (new : ObjOk X.prog X.w (upd H x o) h' x o) : Inv X pins σ (upd H x o) { s with heap := h', toks := t' } := I.un (Un.write mu he k heo) (I.hok.write mu he k heo new)
theorem Inv.weak {σ' : List (Option V)} (I : Inv X pins σ H s) (hl : σ'.length = σ.length) (w : ∀ (i : Nat) v, σ'[i]? = some (some v) → σ[i]? = some (some v)) : Inv X pins σ' H s :=
  ⟨I.ok, I.os, I.bare, I.base, let ⟨m, hn, hl'⟩ := I.loc; ⟨m, hn, fun i x v e1 e2 e3 => hl' i x v e1 (w i v e2) e3⟩, I.cell, I.free, I.freeC, I.pin, I.hok, hl.trans I.len⟩
theorem Inv.pins_of {pins' : List (Addr × Obj)} (I : Inv X pins σ H s) (h : ∀ p ∈ pins', s.heap.get? p.1 = some p.2 ∧ H p.1 = none ∧ p.1 ≠ X.env.locals ∧ p.1 ∉ X.fs ∧ ∀ v, p.2.data ≠ .cell v) : Inv X pins' σ H s :=
  ⟨I.ok, I.os, I.bare, I.base, I.loc, I.cell, I.free, I.freeC, fun p hp => (List.mem_append.mp hp).elim (fun z => I.pin p (List.mem_append_left _ z)) (h p), I.hok, I.len⟩
theorem nodup_ix {N : List Str} (hN : N.Nodup) {i j : Nat} {x : Str} (a : N[i]? = some x) (b : N[j]? = some x) : i = j := by
  obtain ⟨h1, e1⟩ := List.getElem?_eq_some_iff.mp a
  obtain ⟨h2, e2⟩ := List.getElem?_eq_some_iff.mp b
  exact (List.getElem_inj hN).mp (e1.trans e2.symm)
theorem store_ok2 {M : Model} {A : Around} {E : Value → Shared → Prop} {i : Nat} {x : Str} {v : V} {u : Value} {Q : Unit → Shared → Prop} (I : Inv X pins σ H s) (hN : X.N.Nodup) (hi : X.N[i]? = some x) (hx : Loc X.env.scope x) (r : RelV v u)
    (h : ∀ s', Inv X pins (σ.set i (some v)) H s' → (∃ a, Heap.SameBut a s.heap s'.heap ∧ (a = X.env.locals ∨ X.env.cells.lookup x = some a)) → Q () s') (hf : X.fn x = true ∨ X.env.scope.names.lookup x = some .local := by first | exact .inl rfl | exact .inr rfl | assumption) : wpAny M A (storeName X.env x u) Q E s := by
  obtain ⟨m, hn, hl⟩ := id I.loc
  have hcls : (X.env.scope.kind == .class || (X.env.scope.kind == .module && X.env.locals != X.env.globals)) = false := by rw [I.ok.kind]; rfl
  have hiσ : i < σ.length := by rw [I.len]; exact (List.getElem?_eq_some_iff.mp hi).1
  have cne := I.cne
  have tracked : ∀ {a : Addr} {h' : Heap}, (∃ o, s.heap.get? a = some o ∧ H a = none) → Heap.SameBut a s.heap h' → HOk X.prog X.w H h' := fun {a h'} ha hs b ob e => by
    obtain ⟨_, _, hfree⟩ := ha
    refine (I.hok b ob e).stay (fun c w' hc q => (hs.2 c ?_).trans q) (fun _ q => q) fun _ _ q => q
    rintro rfl
    rcases hc with rfl | hc
    · rw [hfree] at e; cases e
    · rw [hfree] at hc; cases hc
  rcases hx with hk | hk
  · refine wpAny_storeName_local hk hn (fun h' hn' hs => ?_) hcls
    obtain ⟨oL, _, _, hoL, _⟩ := id hn
    refine h _ ⟨I.ok, I.os, I.bare, ⟨fun b o e n hb hx => ?_, fun b o e n hb hx => ?_, I.base.free, fun b o e hx => ?_, I.base.tups, I.base.frzs, I.base.tbls⟩, ⟨_, hn', fun j y v' e1 e2 e3 => ?_⟩, fun y c e => ?_, I.free, I.freeC, fun p hp => ?_, tracked ⟨oL, hoL, I.free⟩ hs, by simpa using I.len⟩ ⟨_, hs, .inl rfl⟩
    · exact (hs.2 b (Nat.ne_of_lt (Nat.lt_of_lt_of_le (Heap.lt_size e) I.ok.above))).trans (I.base.keep b o e n hb hx)
    · obtain ⟨sl, e1⟩ := I.base.slot b o e n hb hx
      exact ⟨sl, (hs.2 b (Nat.ne_of_lt (Nat.lt_of_lt_of_le (Heap.lt_size e) I.ok.above))).trans e1⟩
    · obtain ⟨o', e1⟩ := I.base.there b o e hx
      exact ⟨o', (hs.2 b (Nat.ne_of_lt (Nat.lt_of_lt_of_le (Heap.lt_size e) I.ok.above))).trans e1⟩
    · by_cases hj : j = i
      · subst hj
        rw [hi] at e1; cases e1
        rw [List.getElem?_set_self hiσ] at e2
        cases e2
        exact ⟨u, r, .inl ⟨hk, by simp⟩⟩
      · rw [List.getElem?_set_ne (Ne.symm hj)] at e2
        obtain ⟨u', r', q⟩ := hl j y v' e1 e2 e3
        refine ⟨u', r', ?_⟩
        rcases q with ⟨k, e⟩ | ⟨k, c, e, z⟩
        · refine .inl ⟨k, ?_⟩
          have : y ≠ x := fun e => hj (nodup_ix hN e1 (e ▸ hi))
          simp [this, e]
        · exact .inr ⟨k, c, e, z.sameBut hs (cne y c e)⟩
    · obtain ⟨w', z⟩ := I.cell y c e
      exact ⟨w', z.sameBut hs (cne y c e)⟩
    · obtain ⟨e, n, ne, nf, d⟩ := I.pin p hp
      exact ⟨(hs.2 p.1 ne).trans e, n, ne, nf, d⟩
  · have hfn : X.fn x = true := by
      rcases hf with z | z
      · exact z
      · rw [z] at hk; cases hk
    obtain ⟨c, hc⟩ := I.ok.has x (.inl hk)
    obtain ⟨w', z⟩ := I.cell x c hc
    refine wpAny_storeName_cell I.ok.kind hk hc z (fun h' hc' hs => ?_)
    obtain ⟨oc, hoc, hocd⟩ := id z
    refine h { s with heap := h' } ⟨I.ok, I.os, I.bare, ⟨fun b o e n hb hx => ?_, fun b o e n hb hx => ?_, I.base.free, fun b o e hx => ?_, I.base.tups, I.base.frzs, I.base.tbls⟩, ⟨m, hn.sameBut hs (Ne.symm (cne x c hc)), fun j y v' e1 e2 e3 => ?_⟩, fun y c' e => ?_, I.free, I.freeC, fun p hp => ?_, tracked ⟨oc, hoc, I.freeC x c hc⟩ hs, by simpa using I.len⟩ ⟨c, hs, .inr hc⟩
    · exact (hs.2 b (Nat.ne_of_lt (Nat.lt_of_lt_of_le (Heap.lt_size e) (I.ok.cab x c hfn hc)))).trans (I.base.keep b o e n hb hx)
    · obtain ⟨sl, e1⟩ := I.base.slot b o e n hb hx
      exact ⟨sl, (hs.2 b (Nat.ne_of_lt (Nat.lt_of_lt_of_le (Heap.lt_size e) (I.ok.cab x c hfn hc)))).trans e1⟩
    · obtain ⟨o', e1⟩ := I.base.there b o e hx
      exact ⟨o', (hs.2 b (Nat.ne_of_lt (Nat.lt_of_lt_of_le (Heap.lt_size e) (I.ok.cab x c hfn hc)))).trans e1⟩
    · by_cases hj : j = i
      · subst hj
        rw [hi] at e1; cases e1
        rw [List.getElem?_set_self hiσ] at e2
        cases e2
        exact ⟨u, r, .inr ⟨.inl hk, c, hc, hc'⟩⟩
      · rw [List.getElem?_set_ne (Ne.symm hj)] at e2
        obtain ⟨u', r', q⟩ := hl j y v' e1 e2 e3
        refine ⟨u', r', ?_⟩
        rcases q with q | ⟨k, c', e, z'⟩
        · exact .inl q
        · refine .inr ⟨k, c', e, z'.sameBut hs ?_⟩
          rintro rfl
          exact hj (nodup_ix hN e1 (I.ok.inj _ _ _ e hc ▸ hi))
    · by_cases hcc : c' = c
      · subst hcc; exact ⟨_, hc'⟩
      · obtain ⟨w2, z2⟩ := I.cell y c' e
        exact ⟨w2, z2.sameBut hs hcc⟩
    · obtain ⟨e, n, ne, nf, d⟩ := I.pin p hp
      refine ⟨(hs.2 p.1 ?_).trans e, n, ne, nf, d⟩
      intro q
      rw [q, hoc] at e
      have q' : oc = p.2 := Option.some.inj e
      exact d w' (by rw [← q']; exact hocd)
theorem store_ok {M : Model} {A : Around} {E : Value → Shared → Prop} {i : Nat} {x : Str} {v : V} {u : Value} {Q : Unit → Shared → Prop} (I : Inv X pins σ H s) (hN : X.N.Nodup) (hi : X.N[i]? = some x) (hx : Loc X.env.scope x) (r : RelV v u)
    (h : ∀ s', Inv X pins (σ.set i (some v)) H s' → Q () s') (hf : X.fn x = true ∨ X.env.scope.names.lookup x = some .local := by first | exact .inl rfl | exact .inr rfl | assumption) : wpAny M A (storeName X.env x u) Q E s :=
  store_ok2 I hN hi hx r (fun s' I' _ => h s' I') hf
theorem Inv.call' {s' : Shared} {ch : List Addr} (I : Inv X pins σ H s) (ho : s'.os = s.os) (u : Un (frs X.stack) ch H H' s.heap s'.heap) (hok : HOk X.prog X.w H' s'.heap) (hg : AllBare s'.gens)
    (hch : ∀ b ∈ ch, (b ∈ X.ex ∨ X.s₀.heap.objs.size ≤ b) ∧ b ≠ X.env.locals ∧ (∀ x c, X.env.cells.lookup x = some c → c ≠ b) ∧ ∀ p ∈ X.pn ++ pins, p.1 ≠ b) : Inv X pins σ H' s' := by
  obtain ⟨h', g', d', t', o'⟩ := s'
  have e : o' = s.os := ho
  subst e
  exact I.call (g' := g') (t' := t') (d' := d') u hok hg hch
end
abbrev XK := Value → Option Addr → Hp → Prop
abbrev St := List (Option V)
abbrev VK := V → Hp → Prop
abbrev TE := St → Hp → VK → Prop
abbrev TT := St → Hp → (Bool → Hp → Prop) → Prop
abbrev TA := St → Hp → (List V → Hp → Prop) → Prop
structure Ends where
  nx : St → Hp → Prop
  rt : VK
  bk : St → Hp → Prop := fun _ _ => False
  ct : St → Hp → Prop := fun _ _ => False
abbrev TS := Ends → St → Hp → Prop
def EP (X : Cx) (pins : List (Addr × Obj)) (σ : St) (Q : VK) (u : Value) (s' : Shared) : Prop := ∃ v H', Inv X pins σ H' s' ∧ RelV v u ∧ Q v H'
def TP (X : Cx) (pins : List (Addr × Obj)) (σ : St) (Q : Bool → Hp → Prop) (b : Bool) (s' : Shared) : Prop := ∃ H', Inv X pins σ H' s' ∧ Q b H'
def AP (X : Cx) (pins : List (Addr × Obj)) (σ : St) (Q : List V → Hp → Prop) (us : List Value) (s' : Shared) : Prop := ∃ vs H', Inv X pins σ H' s' ∧ Vals vs us ∧ Q vs H'
def SP (X : Cx) (pins : List (Addr × Obj)) (D : Ends) (f : Flow) (s' : Shared) : Prop :=
  match f with
  | .next => ∃ σ' H', Inv X pins σ' H' s' ∧ D.nx σ' H'
  | .brk => ∃ σ' H', Inv X pins σ' H' s' ∧ D.bk σ' H'
  | .cont => ∃ σ' H', Inv X pins σ' H' s' ∧ D.ct σ' H'
  | .ret u => ∃ v σ' H', Inv X pins σ' H' s' ∧ RelV v u ∧ D.rt v H'
def PE (X : Cx) (e : Expr) (t : TE) : Prop :=
  ∀ (pins : List (Addr × Obj)) (s : Shared) (σ : St) (H : Hp) (Q : VK), Inv X pins σ H s → t σ H Q → wpAny (model X.prog X.w) X.A (eval e X.env) (EP X pins σ Q) X.xe s
def PT (X : Cx) (e : Expr) (t : TT) : Prop :=
  ∀ (pins : List (Addr × Obj)) (s : Shared) (σ : St) (H : Hp) (Q : Bool → Hp → Prop), Inv X pins σ H s → t σ H Q → wpAny (model X.prog X.w) X.A (isTrue e X.env (eval e X.env)) (TP X pins σ Q) X.xe s
def PW (X : Cx) (e : Expr) (t : TT) : Prop :=
  ∀ (whole : Sem Value) (pins : List (Addr × Obj)) (s : Shared) (σ : St) (H : Hp) (Q : Bool → Hp → Prop), Inv X pins σ H s → t σ H Q → wpAny (model X.prog X.w) X.A (isTrue e X.env whole) (TP X pins σ Q) X.xe s
theorem PW.pt {X : Cx} {e : Expr} {t : TT} (h : PW X e t) : PT X e t := h _
def PA (X : Cx) (es : List Expr) (t : TA) : Prop :=
  ∀ (pos : Pos) (pins : List (Addr × Obj)) (s : Shared) (σ : St) (H : Hp) (Q : List V → Hp → Prop), Inv X pins σ H s → t σ H Q → wpAny (model X.prog X.w) X.A (spliced (backTo pos (starEach es X.env))) (AP X pins σ Q) X.xe s
def PS (X : Cx) (st : Stmt) (t : TS) : Prop :=
  ∀ (pins : List (Addr × Obj)) (s : Shared) (σ : St) (H : Hp) (D : Ends), Inv X pins σ H s → t D σ H → wpAny (model X.prog X.w) X.A (exec st X.env) (SP X pins D) X.xe s
def PSs (X : Cx) (st : List Stmt) (t : TS) : Prop :=
  ∀ (pins : List (Addr × Obj)) (s : Shared) (σ : St) (H : Hp) (D : Ends), Inv X pins σ H s → t D σ H → wpAny (model X.prog X.w) X.A (execs st X.env) (SP X pins D) X.xe s
theorem thn {α : Type} {t : Sem α} {Q Q' : α → Shared → Prop} {M : Model} {A : Around} {E : Value → Shared → Prop} {s : Shared} (h : wpAny M A t Q E s) (hQ : ∀ a s, Q a s → Q' a s) : wpAny M A t Q' E s := wpAny_mono h hQ fun _ _ x => x
end L2
namespace L2
open PySem PySem.Spec PyProof.Rows
section
variable {X : Cx}
def tVar (i : Nat) : TE := fun σ H Q => ∃ v, σ[i]? = some (some v) ∧ Q v H
def tC (v : V) : TE := fun _ H Q => Q v H
theorem pe_var {i : Nat} {x : Str} {pos : Pos} (hN : X.N[i]? = some x) (hv : Vis X.env.scope x) (hd : (x == ("__debug__" : Str)) = false := by decide) (hcd : (x == ("__classdict__" : Str)) = false := by decide) : PE X (.Name x pos) (tVar i) := by
  intro pins s σ H Q I h
  obtain ⟨v, e, h⟩ := h
  obtain ⟨m, hn, hl⟩ := I.loc
  obtain ⟨u, r, l⟩ := hl i x v hN e hv
  have fin : EP X pins σ Q u s := ⟨v, H, I, r, h⟩
  rcases l with ⟨hk, hm⟩ | ⟨hk, c, hc, hcell⟩
  · exact wpAny_Name (wpAny_loadName_local I.ok.kind hk hn hm fin) hd
  · rcases hk with hk | hk
    · exact wpAny_Name (wpAny_loadName_cell I.ok.kind hk hc hcell fin) hd
    · exact wpAny_Name (wpAny_loadName_free I.ok.kind hk hc hcell fin hcd) hd
theorem pe_int {i j pos} : PE X (.Constant (.int i) j pos) (tC (.int i)) := fun _ _ _ H _ I h => wpAny_Constant_int ⟨.int i, H, I.tok _, ⟨_, rfl⟩, h⟩
theorem pe_bl {b j pos} : PE X (.Constant (.bool b) j pos) (tC (.bl b)) := fun _ _ _ H _ I h => Constant_bool ⟨.bl b, H, I, rfl, h⟩
theorem pe_non {j pos} : PE X (.Constant .none j pos) (tC .non) := fun _ _ _ H _ I h => Constant_none ⟨.non, H, I, rfl, h⟩
theorem pe_str {x j pos} : PE X (.Constant (.str x) j pos) (tC (.str x)) := fun _ _ _ H _ I h => Calls.Constant_str ⟨.str x, H, I.tok _, ⟨_, rfl⟩, h⟩
def Gl (X : Cx) (x : Str) : Prop := X.env.kindOf x = some .globalImplicit
theorem ld_glob {E : Value → Shared → Prop} {pins : List (Addr × Obj)} {s : Shared} {σ : St} {H : Hp} {x : Str} {u : Value} {pos : Pos} {Q : Value → Shared → Prop} (I : Inv X pins σ H s) (hg : Gl X x) (hm : X.mg x = some u) (h : Q u s)
    (hd : (x == ("__debug__" : Str)) = false := by decide) : wpAny (model X.prog X.w) X.A (eval (.Name x pos) X.env) Q E s :=
  Calls.Name_function_global I.ok.kind hg (Calls.loadGlobal_global (by rw [I.ok.glob]; exact I.mod.glob.keeps I.bk) hm h) hd
theorem ld_blt {E : Value → Shared → Prop} {pins : List (Addr × Obj)} {s : Shared} {σ : St} {H : Hp} {x : Str} {u : Value} {pos : Pos} {Q : Value → Shared → Prop} (I : Inv X pins σ H s) (hg : Gl X x) (hm : X.mg x = none) (hv : bootBuiltins x = some u) (h : Q u s)
    (hn : x ≠ "__name__" := by decide) (hd : (x == ("__debug__" : Str)) = false := by decide) : wpAny (model X.prog X.w) X.A (eval (.Name x pos) X.env) Q E s := by
  obtain ⟨mb, h1, h2⟩ := I.mod.blt
  exact Calls.Name_function_global I.ok.kind hg (Calls.loadGlobal_builtin (by rw [I.ok.glob]; exact I.mod.glob.keeps I.bk) hm (by rw [I.ok.blt]; exact h1.keeps I.bk) ((h2 x hn).trans hv) h) hd
theorem pe_glob {x : Str} {v : V} {u : Value} {pos : Pos} (hg : Gl X x) (hm : X.mg x = some u) (r : RelV v u) (hd : (x == ("__debug__" : Str)) = false := by decide) : PE X (.Name x pos) (tC v) :=
  fun _ _ _ H _ I h => ld_glob I hg hm ⟨v, H, I, r, h⟩ hd
theorem pe_bltn {x : Str} {v : V} {u : Value} {pos : Pos} (hg : Gl X x) (hm : X.mg x = none) (hv : bootBuiltins x = some u) (r : RelV v u) (hn : x ≠ "__name__" := by decide) (hd : (x == ("__debug__" : Str)) = false := by decide) : PE X (.Name x pos) (tC v) :=
  fun _ _ _ H _ I h => ld_blt I hg hm hv ⟨v, H, I, r, h⟩ hn hd
variable {a b : Expr} {ta tb : TE} {pos : Pos}
def PC (X : Cx) (op : CmpOp) (a b : Expr) (t : TE) : Prop :=
  ∀ (pins : List (Addr × Obj)) (s : Shared) (σ : St) (H : Hp) (Q : VK), Inv X pins σ H s → t σ H Q →
    wpAny (model X.prog X.w) X.A (eval a X.env) (fun v s₁ => wpAny (model X.prog X.w) X.A (eval b X.env) (fun u s₂ => wpAny (model X.prog X.w) X.A (compareOp op v u) (EP X pins σ Q) X.xe s₂) X.xe s₁) X.xe s
theorem nobehind (b : Expr) {op : CmpOp} (h : op ≠ .In) (h2 : op ≠ .NotIn) : behindInMarks op b = false := by
  have e1 : (op == CmpOp.In) = false := by cases op <;> first | rfl | exact absurd rfl h
  have e2 : (op == CmpOp.NotIn) = false := by cases op <;> first | rfl | exact absurd rfl h2
  cases b <;> simp [behindInMarks, e1, e2]
def tIsN (ta : TE) : TE := fun σ H Q => ta σ H fun x H1 => Q (.bl (decide (x = .non))) H1
theorem RelV.none_iff {x : V} {v : Value} (r : RelV x v) : (v == Value.none) = decide (x = .non) := by
  cases x with
  | non => cases r; rfl
  | bl _ => cases r; rfl
  | int _ => obtain ⟨t, rfl⟩ := r; rfl
  | str _ => obtain ⟨t, rfl⟩ := r; rfl
  | byt _ => obtain ⟨t, rfl⟩ := r; rfl
  | flt _ => obtain ⟨t, rfl⟩ := r; rfl
  | ref _ => cases r; rfl
  | ty _ => cases r; rfl
theorem pc_isN {j pos'} (ha : PE X a ta) : PC X .Is a (.Constant .none j pos') (tIsN ta) := by
  intro pins s σ H Q I h
  refine thn (ha pins s σ H _ I h) fun v s1 ⟨x, H1, I1, r1, q1⟩ => ?_
  exact Constant_none (is_none_gen ⟨.bl _, H1, I1, by rw [r1.none_iff]; rfl, q1⟩)
def tB (t : TE) : TT := fun σ H Q => t σ H fun x H1 => ∃ c, x = .bl c ∧ Q c H1
theorem pt_cmp {op : CmpOp} {t : TE} (h : PC X op a b t) (h1 : behindInMarks op b = false := by first | exact nobehind _ (by decide) (by decide) | rfl) : PT X (.Compare a [op] [b] pos) (tB t) := by
  intro pins s σ H Q I hw
  refine wpAny_isTrue_Compare1 (thn (h pins s σ H _ I hw) fun v s1 h1 => thn h1 fun u s2 h2 => thn h2 fun c s3 ⟨x, H1, I1, r1, q1⟩ => ?_) h1
  obtain ⟨d, rfl, q⟩ := q1
  cases r1
  exact wpAny_truthy_bool ⟨H1, I1, q⟩
theorem pt_val {e : Expr} {t : TE} (h : PE X e t) (he : ∀ whole, isTrue e X.env whole = (do let v ← whole; standAt e.pos; holding [v] (truthy v)) := by intro _; rfl) : PT X e (tB t) := by
  intro pins s σ H Q I hw
  refine isTrue_plain (thn (h pins s σ H _ I hw) fun v s1 ⟨x, H1, I1, r1, q1⟩ => ?_) (he _)
  obtain ⟨d, rfl, q⟩ := q1
  cases r1
  exact wpAny_truthy_bool ⟨H1, I1, q⟩
variable {tA tB' : TT} {rest : List Expr}
def tAnd (t u : TT) : TT := fun σ H Q => t σ H fun c H1 => if c = true then u σ H1 Q else Q false H1
def tOr (t u : TT) : TT := fun σ H Q => t σ H fun c H1 => if c = true then Q true H1 else u σ H1 Q
def tNot (t : TT) : TT := fun σ H Q => t σ H fun c H1 => Q (!c) H1
theorem pw_and1 (ha : PT X a tA) : PW X (.BoolOp .And [a] pos) tA := by
  intro wh pins s σ H Q I h
  refine isTrue_and (thn (ha pins s σ H Q I h) fun c s1 e => ?_)
  cases c with
  | true => exact isTrue_and_nil e
  | false => exact e
theorem pw_or1 (ha : PT X a tA) : PW X (.BoolOp .Or [a] pos) tA := by
  intro wh pins s σ H Q I h
  refine isTrue_or (thn (ha pins s σ H Q I h) fun c s1 e => ?_)
  cases c with
  | false => exact isTrue_or_nil e
  | true => exact e
theorem pw_and (ha : PT X a tA) (hb : PW X (.BoolOp .And (b :: rest) pos) tB') : PW X (.BoolOp .And (a :: b :: rest) pos) (tAnd tA tB') := by
  intro wh pins s σ H Q I h
  refine isTrue_and (thn (ha pins s σ H _ I h) fun c s1 ⟨H1, I1, q1⟩ => ?_)
  cases c with
  | true => exact hb wh pins s1 σ H1 Q I1 q1
  | false => exact ⟨H1, I1, q1⟩
theorem pw_or (ha : PT X a tA) (hb : PW X (.BoolOp .Or (b :: rest) pos) tB') : PW X (.BoolOp .Or (a :: b :: rest) pos) (tOr tA tB') := by
  intro wh pins s σ H Q I h
  refine isTrue_or (thn (ha pins s σ H _ I h) fun c s1 ⟨H1, I1, q1⟩ => ?_)
  cases c with
  | true => exact ⟨H1, I1, q1⟩
  | false => exact hb wh pins s1 σ H1 Q I1 q1
theorem pt_not (ha : PT X a tA) : PT X (.UnaryOp .Not a pos) (tNot tA) := by
  intro pins s σ H Q I h
  exact isTrue_not (ha pins s σ H (fun c H1 => Q (!c) H1) I h)
def tAndV (ta tb : TE) : TE := fun σ H Q => ta σ H fun x H1 => ∃ c, x = .bl c ∧ if c = true then tb σ H1 Q else Q (.bl false) H1
def tNotV (ta : TE) : TE := fun σ H Q => ta σ H fun x H1 => ∃ c, x = .bl c ∧ Q (.bl (!c)) H1
theorem pe_one {op} {t : TE} (h : PE X a t) : PE X (.BoolOp op [a] pos) t := fun pins s σ H Q I hw => BoolOp_one (h pins s σ H Q I hw)
theorem pe_and (ha : PE X a ta) (hb : PE X (.BoolOp .And (b :: rest) pos) tb) : PE X (.BoolOp .And (a :: b :: rest) pos) (tAndV ta tb) := by
  intro pins s σ H Q I h
  refine BoolOp_and (thn (ha pins s σ H _ I h) fun v s1 ⟨x, H1, I1, r1, q1⟩ => ?_)
  obtain ⟨c, rfl, q1⟩ := q1
  cases r1
  refine wpAny_truthy_bool ?_
  cases c with
  | true => exact hb pins s1 σ H1 Q I1 q1
  | false => exact ⟨.bl false, H1, I1, rfl, q1⟩
theorem pe_not (ha : PE X a ta) : PE X (.UnaryOp .Not a pos) (tNotV ta) := by
  intro pins s σ H Q I h
  refine UnaryOp_ (thn (ha pins s σ H _ I h) fun v s1 ⟨x, H1, I1, r1, q1⟩ => ?_)
  obtain ⟨c, rfl, q1⟩ := q1
  cases r1
  exact not_of (wpAny_truthy_bool ⟨.bl (!c), H1, I1, rfl, q1⟩)
end
end L2
namespace L2
open PySem PySem.Spec PyProof.Rows
def SqL (K : PySem.W.Frag) (H : Hp) (a : Addr) (xs : List V) : Prop :=
  Rd H a (.lst xs) ∨
    ∃ (o : Obj) (its : Array Value) (n : Nat), K.lookup a = some o ∧ o.cls = .type "list" ∧ o.dict = none ∧ o.data = .seq its n ∧ its.size ≤ sizeLine ∧ Vals xs its.toList
def SqT (K : PySem.W.Frag) (H : Hp) (a : Addr) (xs : List V) : Prop :=
  Rd H a (.tup xs) ∨
    ∃ (o : Obj) (its : Array Value) (n : Nat), K.lookup a = some o ∧ o.cls = .type "tuple" ∧ o.data = .seq its n ∧ its.size ≤ sizeLine ∧ Vals xs its.toList
def absV : Value → Option V
  | .none => some .non
  | .bool b => some (.bl b)
  | .int i _ => some (.int i)
  | .str x _ => some (.str x)
  | .bytes b _ => some (.byt b)
  | .float b _ => some (.flt b)
  | .ref a => some (.ref a)
  | .type n => some (.ty n)
  | _ => none
theorem RelV.abs {x : V} {u : Value} (r : RelV x u) : absV u = some x := by
  cases x with
  | non => cases r; rfl
  | bl _ => cases r; rfl
  | int _ => obtain ⟨t, rfl⟩ := r; rfl
  | str _ => obtain ⟨t, rfl⟩ := r; rfl
  | byt _ => obtain ⟨t, rfl⟩ := r; rfl
  | flt _ => obtain ⟨t, rfl⟩ := r; rfl
  | ref _ => cases r; rfl
  | ty _ => cases r; rfl
theorem RelV.inj {x y : V} {u : Value} (r : RelV x u) (q : RelV y u) : x = y := Option.some.inj (r.abs.symm.trans q.abs)
theorem Vals.inj : ∀ {xs ys : List V} {us : List Value}, Vals xs us → Vals ys us → xs = ys
  | _, _, _, .nil, .nil => rfl
  | _, _, _, .cons r t, .cons r' t' => by rw [r.inj r', Vals.inj t t']
section
variable {X : Cx} {pins : List (Addr × Obj)} {σ : St} {H : Hp} {s : Shared} {a : Addr} {xs ys : List V}
theorem SqL.of {K : PySem.W.Frag} (h : H a = some (.lst xs)) : SqL K H a xs := .inl (.inl h)
theorem SqT.of {K : PySem.W.Frag} (h : H a = some (.tup xs)) : SqT K H a xs := .inl (.inl h)
theorem Inv.list (I : Inv X pins σ H s) (h : SqL X.K H a xs) : ∃ its : List Value, Vals xs its ∧ PlainL s.heap a its.toArray ∧ xs.length ≤ sizeLine := by
  rcases h with h | ⟨o, its, n, hk, hc, hd, hs, hz, r⟩
  · obtain ⟨z, its, n, r, e⟩ := h.ok I.hok
    exact ⟨its, r, ⟨_, n, e, rfl, rfl, rfl⟩, z⟩
  · refine ⟨its.toList, r, ⟨o, n, I.kIn a o hk, hc, hd, by simpa using hs⟩, ?_⟩
    have e := r.length
    simp only [Array.length_toList] at e
    omega
theorem Inv.tuple (I : Inv X pins σ H s) (h : SqT X.K H a xs) : ∃ its : List Value, Vals xs its ∧ IsTup s.heap a its.toArray ∧ xs.length ≤ sizeLine := by
  rcases h with h | ⟨o, its, n, hk, hc, hs, hz, r⟩
  · obtain ⟨z, its, r, p⟩ := h.ok I.hok
    exact ⟨its, r, p, z⟩
  · refine ⟨its.toList, r, ⟨o, I.kIn a o hk, hc, n, by simpa using hs⟩, ?_⟩
    have e := r.length
    simp only [Array.length_toList] at e
    omega
theorem Inv.list_inj (I : Inv X pins σ H s) (h : SqL X.K H a xs) (h' : SqL X.K H a ys) : xs = ys := by
  obtain ⟨its, r, ⟨o, n, e, _, _, d⟩, _⟩ := I.list h
  obtain ⟨its', r', ⟨o', n', e', _, _, d'⟩, _⟩ := I.list h'
  rw [e] at e'; cases e'
  rw [d] at d'
  injection d' with d1 _
  have : its = its' := by simpa using congrArg Array.toList d1
  subst this
  exact r.inj r'
theorem Inv.tuple_inj (I : Inv X pins σ H s) (h : SqT X.K H a xs) (h' : SqT X.K H a ys) : xs = ys := by
  obtain ⟨its, r, ⟨o, e, _, n, d⟩, _⟩ := I.tuple h
  obtain ⟨its', r', ⟨o', e', _, n', d'⟩, _⟩ := I.tuple h'
  rw [e] at e'; cases e'
  rw [d] at d'
  injection d' with d1 _
  have : its = its' := by simpa using congrArg Array.toList d1
  subst this
  exact r.inj r'
end
abbrev Cx.wish (X : Cx) (E : Value → Shared → Prop) : Cx := { X with xe := E }
abbrev Cx.nox (X : Cx) : Cx := X.wish fun _ _ => False
theorem Cx.Ok.wish {X : Cx} (ok : X.Ok) (E : Value → Shared → Prop) : (X.wish E).Ok :=
  ⟨ok.mod, ok.kind, ok.glob, ok.blt, ok.above, ok.inj, ok.has, ok.cab, ok.hd, ok.frames, ok.stk, ok.exf, ok.bs, ok.bsz, ok.noex, ok.exfs, ok.funs, ok.frf⟩
theorem Cx.Ok.unwish {X : Cx} {E : Value → Shared → Prop} (ok : (X.wish E).Ok) : X.Ok :=
  ⟨ok.mod, ok.kind, ok.glob, ok.blt, ok.above, ok.inj, ok.has, ok.cab, ok.hd, ok.frames, ok.stk, ok.exf, ok.bs, ok.bsz, ok.noex, ok.exfs, ok.funs, ok.frf⟩
section
variable {X : Cx} {pins : List (Addr × Obj)} {σ : St} {H : Hp} {s : Shared} {E : Value → Shared → Prop}
theorem Inv.wish (I : Inv X pins σ H s) (E : Value → Shared → Prop) : Inv (X.wish E) pins σ H s := ⟨I.ok.wish E, I.os, I.bare, I.base, I.loc, I.cell, I.free, I.freeC, I.pin, I.hok, I.len⟩
theorem Inv.unwish (I : Inv (X.wish E) pins σ H s) : Inv X pins σ H s := ⟨I.ok.unwish, I.os, I.bare, I.base, I.loc, I.cell, I.free, I.freeC, I.pin, I.hok, I.len⟩
theorem SP.unwish {D : Ends} {f : Flow} {s' : Shared} (h : SP (X.wish E) pins D f s') : SP X pins D f s' := by
  cases f with
  | next => obtain ⟨σ', H', I, q⟩ := h; exact ⟨σ', H', I.unwish, q⟩
  | brk => obtain ⟨σ', H', I, q⟩ := h; exact ⟨σ', H', I.unwish, q⟩
  | cont => obtain ⟨σ', H', I, q⟩ := h; exact ⟨σ', H', I.unwish, q⟩
  | ret u => obtain ⟨v, σ', H', I, r, q⟩ := h; exact ⟨v, σ', H', I.unwish, r, q⟩
theorem PE.nox {e : Expr} {t : TE} (h : PE X.nox e t) : PE X e t := fun pins s σ H Q I hw =>
  wpAny_mono (h pins s σ H Q (I.wish _) hw) (fun _ _ ⟨v, H', I', r, q⟩ => ⟨v, H', I'.unwish, r, q⟩) fun _ _ z => False.elim z
theorem PT.nox {e : Expr} {t : TT} (h : PT X.nox e t) : PT X e t := fun pins s σ H Q I hw =>
  wpAny_mono (h pins s σ H Q (I.wish _) hw) (fun _ _ ⟨H', I', q⟩ => ⟨H', I'.unwish, q⟩) fun _ _ z => False.elim z
theorem PSs.nox {st : List Stmt} {t : TS} (h : PSs X.nox st t) : PSs X st t := fun pins s σ H D I hw =>
  wpAny_mono (h pins s σ H D (I.wish _) hw) (fun _ _ q => q.unwish) fun _ _ z => False.elim z
end
section
variable {X : Cx} {st : Stmt} {rest : List Stmt} {t u : TS} {e : Expr} {te : TE} {pos : Pos}
def tNext : TS := fun D σ H => D.nx σ H
def tSeq (t u : TS) : TS := fun D σ H => t { D with nx := u D } σ H
theorem pss_nil : PSs X [] tNext := fun _ _ σ H _ I h => wpAny_execs_nil ⟨σ, H, I, h⟩
theorem pss_cons (h1 : PS X st t) (h2 : PSs X rest u) : PSs X (st :: rest) (tSeq t u) := by
  intro pins s σ H D I h
  refine wpAny_execs_cons (thn (h1 pins s σ H { D with nx := u D } I h) fun f s1 q => ?_)
  cases f with
  | next =>
    obtain ⟨σ', H', I', q⟩ := q
    exact h2 pins s1 σ' H' D I' q
  | ret v => exact q
  | brk => exact q
  | cont => exact q
theorem pss_one (h1 : PS X st t) : PSs X [st] t := by
  intro pins s σ H D I h
  refine wpAny_execs_cons (thn (h1 pins s σ H D I h) fun f s1 q => ?_)
  cases f with
  | next => exact wpAny_execs_nil q
  | ret v => exact q
  | brk => exact q
  | cont => exact q
theorem Inv.quiet {pins : List (Addr × Obj)} {σ : St} {H : Hp} {s : Shared} (I : Inv X pins σ H s) : interactive X.env = false := by simp [interactive, I.ok.kind]
def tDrop (te : TE) : TS := fun D σ H => te σ H fun _ H1 => D.nx σ H1
theorem ps_expr (he : PE X e te) (hs : swapsWith e none pos.line X.env = pure false := by rfl) : PS X (.Expr e pos) (tDrop te) := by
  intro pins s σ H D I h
  exact wpAny_Expr_any (thn (he pins s σ H _ I h) fun v s1 ⟨x, H1, I1, r1, q1⟩ => ⟨σ, H1, I1, q1⟩) I.quiet hs
def tRet (te : TE) : TS := fun D σ H => te σ H D.rt
theorem ps_ret (he : PE X e te) : PS X (.Return (some e) pos) (tRet te) := by
  intro pins s σ H D I h
  exact wpAny_Return_some (thn (he pins s σ H _ I h) fun v s1 ⟨x, H1, I1, r1, q1⟩ => ⟨x, σ, H1, I1, r1, q1⟩)
def tIfS (c : TT) (t u : TS) : TS := fun D σ H => c σ H fun b H1 => if b = true then t D σ H1 else u D σ H1
theorem ps_if {c : Expr} {a b : List Stmt} {tc : TT} (hc : PT X c tc) (ha : PSs X a t) (hb : PSs X b u) : PS X (.If c a b pos) (tIfS tc t u) := by
  intro pins s σ H D I h
  refine wpAny_If (thn (hc pins s σ H _ I h) fun d s1 ⟨H1, I1, q1⟩ => ?_)
  cases d with
  | true => exact ha pins s1 σ H1 D I1 q1
  | false => exact hb pins s1 σ H1 D I1 q1
end
abbrev TG := V → St → Hp → (St → Hp → Prop) → Prop
abbrev TGs := List V → St → Hp → (St → Hp → Prop) → Prop
def PG (X : Cx) (target : Expr) (t : TG) : Prop :=
  ∀ (pins : List (Addr × Obj)) (s : Shared) (σ : St) (H : Hp) (v : V) (u : Value) (Q : St → Hp → Prop), Inv X pins σ H s → RelV v u → t v σ H Q →
    wpAny (model X.prog X.w) X.A (assign target X.env u) (fun _ s' => ∃ σ' H', Inv X pins σ' H' s' ∧ Q σ' H') X.xe s
def PGs (X : Cx) (ts : List Expr) (t : TGs) : Prop :=
  ∀ (pins : List (Addr × Obj)) (s : Shared) (σ : St) (H : Hp) (vs : List V) (us : List Value) (Q : St → Hp → Prop), Inv X pins σ H s → Vals vs us → t vs σ H Q →
    wpAny (model X.prog X.w) X.A (assignInOrder ((assignEach ts X.env).map (·.2)) us) (fun _ s' => ∃ σ' H', Inv X pins σ' H' s' ∧ Q σ' H') X.xe s
abbrev TSet := V → V → V → Hp → (Hp → Prop) → Prop
def PSet (X : Cx) (t : TSet) : Prop :=
  ∀ (pins : List (Addr × Obj)) (s : Shared) (σ : St) (H : Hp) (o i v : V) (ov iv u : Value) (Q : Hp → Prop), Inv X pins σ H s → RelV o ov → RelV i iv → RelV v u → t o i v H Q →
    wpAny (model X.prog X.w) X.A (setItem ov iv u) (fun _ s' => ∃ H', Inv X pins σ H' s' ∧ Q H') X.xe s
section
variable {X : Cx} {pos : Pos}
def gName (i : Nat) : TG := fun v σ H Q => Q (σ.set i (some v)) H
theorem pg_name {i : Nat} {x : Str} (hN : X.N.Nodup) (hi : X.N[i]? = some x) (hx : Loc X.env.scope x) (hf : X.fn x = true ∨ X.env.scope.names.lookup x = some .local := by first | exact .inl rfl | exact .inr rfl | assumption) : PG X (.Name x pos) (gName i) := by
  intro pins s σ H v u Q I r h
  exact wpAny_assign_Name (store_ok I hN hi hx r (fun s' I' => ⟨_, H, I', h⟩) hf)
def gNil : TGs := fun vs σ H Q => vs = [] ∧ Q σ H
def gCons (t : TG) (u : TGs) : TGs := fun vs σ H Q => ∃ v r, vs = v :: r ∧ t v σ H fun σ' H' => u r σ' H' Q
theorem pgs_nil : PGs X [] gNil := by
  intro pins s σ H vs us Q I r h
  obtain ⟨e, h⟩ := h
  subst e
  cases r
  exact assignInOrder_nil ⟨σ, H, I, h⟩
theorem pgs_cons {e : Expr} {es : List Expr} {t : TG} {u : TGs} (h1 : PG X e t) (h2 : PGs X es u)
    (hs : (assignEach (e :: es) X.env).map (·.2) = assign e X.env :: (assignEach es X.env).map (·.2) := by rfl) : PGs X (e :: es) (gCons t u) := by
  intro pins s σ H vs us Q I r h
  obtain ⟨v, vr, e1, h⟩ := h
  subst e1
  cases r with
  | cons r rr =>
    rw [hs]
    refine assignInOrder_cons (thn (h1 pins s σ H _ _ _ I r h) fun _ s1 ⟨σ1, H1, I1, q1⟩ => ?_)
    exact h2 pins s1 σ1 H1 _ _ Q I1 rr q1
def gTup (K : PySem.W.Frag) (n : Nat) (t : TGs) : TG := fun v σ H Q => ∃ a xs, v = .ref a ∧ SqT K H a xs ∧ xs.length = n ∧ t xs σ H Q
theorem pg_tup {es : List Expr} {k : Nat} {t : TGs} {n : Nat} (hc : X.calm = true) (h : PGs X es t)
    (hn : (assignEach es X.env).length = n := by rfl) (hst : (assignEach es X.env).findIdx? (·.1) = none := by rfl) : PG X (.Tuple es k pos) (gTup X.K n t) := by
  intro pins s σ H v u Q I r hw
  obtain ⟨a, xs, e1, hq, hl, hw⟩ := hw
  subst e1
  cases r
  obtain ⟨its, rv, ht, hz⟩ := I.tuple hq
  refine assign_Tuple_tuple (I.ok.hd hc) ht (by simp [hn, ← hl, rv.length]) hst fun h' hx => ?_
  have I1 : Inv X pins σ H { s with heap := h' } := I.kept (t' := s.toks) fun b o e => hx b o (Nat.ne_of_lt (Heap.lt_size e)) e
  exact h pins _ σ H xs _ Q I1 (by simpa using rv) hw
def gSub (to ti : TE) (t : TSet) : TG := fun v σ H Q => to σ H fun o H1 => ti σ H1 fun i H2 => t o i v H2 fun H3 => Q σ H3
theorem pg_sub {o i : Expr} {to ti : TE} {t : TSet} (ho : PE X o to) (hi : PE X i ti) (hs : PSet X t)
    (ha : ∀ v, assign (.Subscript o i pos) X.env v = (do
      let ov ← holding [v] (eval o X.env)
      let iv ← holding [v, ov] (eval i X.env)
      standAt pos
      holding [v, ov, iv] (setItem ov iv v)
      release [v, ov, iv] []) := by intro _; rfl) : PG X (.Subscript o i pos) (gSub to ti t) := by
  intro pins s σ H v u Q I r h
  rw [ha]
  refine wpAny_bind (wpAny_holding (thn (ho pins s σ H _ I h) fun ov s1 ⟨x, H1, I1, r1, q1⟩ => ?_))
  refine wpAny_bind (wpAny_holding (thn (hi pins s1 σ H1 _ I1 q1) fun iv s2 ⟨y, H2, I2, r2, q2⟩ => ?_))
  refine wpAny_bind (wpAny_standAt (wpAny_bind (wpAny_holding (thn (hs pins s2 σ H2 x y v ov iv u _ I2 r1 r2 r q2) fun _ s3 ⟨H3, I3, q3⟩ => ?_))))
  exact wpAny_release ⟨σ, H3, I3, q3⟩
def tAsg (te : TE) (g : TG) : TS := fun D σ H => te σ H fun x H1 => g x σ H1 D.nx
theorem ps_asg {tg e : Expr} {te : TE} {g : TG} (he : PE X e te) (hg : PG X tg g) (hs : swapsWithSole [tg] e pos.line X.env = pure false := by rfl) (hw : swappedStores [tg] e X.env = pure none := by rfl)
    (h1 : (assignEach [tg] X.env).map (·.2) = [assign tg X.env] := by rfl) : PS X (.Assign [tg] e pos) (tAsg te g) := by
  intro pins s σ H D I h
  refine wpAny_Assign_stores (thn (he pins s σ H _ I h) fun v s1 ⟨x, H1, I1, r1, q1⟩ => ?_) hs hw
  rw [h1]
  exact thn (hg pins s1 σ H1 x v _ I1 r1 q1) fun _ s2 q => q
theorem ps_set {i : Nat} {x : Str} {e : Expr} {te : TE} {pos' : Pos} (hN : X.N.Nodup) (hi : X.N[i]? = some x) (hx : Loc X.env.scope x) (he : PE X e te) (hs : swapsWith e (some (.Name x pos')) pos.line X.env = pure false := by rfl) (hf : X.fn x = true ∨ X.env.scope.names.lookup x = some .local := by first | exact .inl rfl | exact .inr rfl | assumption) :
    PS X (.Assign [.Name x pos'] e pos) (tAsg te (gName i)) := by
  intro pins s σ H D I h
  refine wpAny_Assign_Name (thn (he pins s σ H _ I h) fun v s1 ⟨y, H1, I1, r1, q1⟩ => ?_) hs
  exact store_ok I1 hN hi hx r1 (fun s2 I2 => ⟨_, H1, I2, q1⟩) hf
end
section
variable {X : Cx} {pos : Pos}
end
structure It where
  go : Nat → Hp → Prop
  yld : Nat → Hp → V → Hp → Prop
  stop : Nat → Hp → Prop
def FpOk (X : Cx) (pins : List (Addr × Obj)) (H : Hp) (b : Addr) : Prop :=
  H b = none ∧ b ≠ X.env.locals ∧ b ∉ X.fs ∧ (b ∈ X.ex ∨ X.s₀.heap.objs.size ≤ b) ∧ (∀ x c, X.env.cells.lookup x = some c → c ≠ b) ∧ ∀ p ∈ X.pn ++ pins, p.1 ≠ b
theorem Inv.fpOk {X : Cx} {pins : List (Addr × Obj)} {σ : St} {H H' : Hp} {s : Shared} {b : Addr} (I : Inv X pins σ H s) (hb : s.heap.objs.size ≤ b) (hn : H' b = none) : FpOk X pins H' b := by
  refine ⟨hn, Nat.ne_of_gt (Nat.lt_of_lt_of_le I.lt hb), I.nofs hb, .inr (Nat.le_trans I.sz hb), fun x c e z => ?_, fun p hp z => ?_⟩
  · obtain ⟨v, q⟩ := I.cell x c e
    exact absurd (Nat.lt_of_lt_of_le q.lt (by rw [z]; exact hb)) (Nat.lt_irrefl _)
  · exact absurd (Nat.lt_of_lt_of_le (Heap.lt_size (I.pin p hp).1) (by rw [z]; exact hb)) (Nat.lt_irrefl _)
structure Turn (P : Program) (w : World) (K : PySem.W.Frag) (tg : Expr) (J : It) (fp : List Addr) (it : Addr) (tn : Nat → Heap → Prop) : Prop where
  mem : it ∈ fp
  obj : ∀ i h, tn i h → ∀ b ∈ fp, ∃ o, h.get? b = some o ∧ ∀ v, o.data ≠ .cell v
  keep : ∀ i h h', tn i h → (∀ b ∈ fp, ∀ o, h.get? b = some o → h'.get? b = some o) → tn i h'
  item : ∀ (X : Cx), X.prog = P → X.w = w → X.K = K → X.calm = true → ∀ (i : Nat) (pins : List (Addr × Obj)) (s : Shared) (σ : St) (H : Hp) (E : Value → Shared → Prop), Inv X pins σ H s → (∀ b ∈ fp, FpOk X pins H b) → tn i s.heap → J.go i H →
    wpAny (model P w) X.A (pyNext (.ref it)) (fun r s1 => ∃ u, r = some u ∧
      wpAny (model P w) X.A (letOwnedTupleGo tg (.ref it) u) (fun _ s2 => ∃ x H', Inv X pins σ H' s2 ∧ RelV x u ∧ J.yld i H x H' ∧ tn (i + 1) s2.heap ∧ ∀ b ∈ fp, H' b = none) E s1) E s
  done : ∀ (X : Cx), X.prog = P → X.w = w → X.K = K → X.calm = true → ∀ (i : Nat) (pins : List (Addr × Obj)) (s : Shared) (σ : St) (H : Hp) (E : Value → Shared → Prop), Inv X pins σ H s → (∀ b ∈ fp, FpOk X pins H b) → tn i s.heap → J.stop i H →
    wpAny (model P w) X.A (pyNext (.ref it)) (fun r s1 => r = none ∧ Inv X pins σ H s1) E s
  self : ∀ (A : Around) (i : Nat) (s : Shared) (Q : Value → Shared → Prop) (E : Value → Shared → Prop), tn i s.heap → Q (.ref it) s → wpAny (model P w) A (pyIter (.ref it)) Q E s
abbrev TI := St → Hp → (It → Hp → Prop) → Prop
def PIE (X : Cx) (pins : List (Addr × Obj)) (σ : St) (tg : Expr) (R : It → Hp → Prop) (itv : Value) (s2 : Shared) : Prop :=
  ∃ (it : Addr) (fp : List Addr) (tn : Nat → Heap → Prop) (J : It) (H' : Hp), itv = .ref it ∧ Inv X pins σ H' s2 ∧ Turn X.prog X.w X.K tg J fp it tn ∧ tn 0 s2.heap ∧ (∀ b ∈ fp, FpOk X pins H' b) ∧ R J H'
def PI (X : Cx) (tg iter : Expr) (wi : TI) : Prop :=
  ∀ (pins : List (Addr × Obj)) (s : Shared) (σ : St) (H : Hp) (R : It → Hp → Prop), Inv X pins σ H s → wi σ H R →
    wpAny (model X.prog X.w) X.A (eval iter X.env) (fun v s1 => wpAny (model X.prog X.w) X.A (pyIter v) (PIE X pins σ tg R) X.xe s1) X.xe s
theorem go_of {M : Model} {A : Around} {E : Value → Shared → Prop} {s : Shared} {tg : Expr} {it : Addr} {u : Value} {o : Obj} {n : String} {vs : Array Value} {Q : Unit → Shared → Prop} (ho : s.heap.get? it = some o) (hc : o.cls = .type n) (hd : o.data = .fields vs)
    (hn : ["enumerate", "zip", "dict_itemiterator", "dict_reverseitemiterator", "odict_iterator", "itertools.zip_longest", "itertools.pairwise"].contains n = false) (hQ : Q () s) : wpAny M A (letOwnedTupleGo tg (.ref it) u) Q E s := by
  unfold letOwnedTupleGo
  cases tg <;> first
    | exact wpAny_pure hQ
    | (cases u <;> first
        | exact wpAny_pure hQ
        | (refine wpAny_bind (wpAny_load ho ?_)
           rw [hc, hd]
           show wpAny M A (if (["enumerate", "zip", "dict_itemiterator", "dict_reverseitemiterator", "odict_iterator", "itertools.zip_longest", "itertools.pairwise"].contains n && vs[0]? == some (rawInt _)) = true then _ else _) Q E s
           rw [if_neg (by intro h; rw [hn, Bool.false_and] at h; cases h)]
           exact wpAny_pure hQ))
def Itl (K : PySem.W.Frag) (a : Addr) : It :=
  ⟨fun i H => ∃ xs x, SqL K H a xs ∧ xs[i]? = some x, fun i H x H' => H' = H ∧ ∀ xs, SqL K H a xs → xs[i]? = some x, fun i H => ∃ xs, SqL K H a xs ∧ xs.length ≤ i⟩
def Itt (K : PySem.W.Frag) (a : Addr) : It :=
  ⟨fun i H => ∃ xs x, SqT K H a xs ∧ xs[i]? = some x, fun i H x H' => H' = H ∧ ∀ xs, SqT K H a xs → xs[i]? = some x, fun i H => ∃ xs, SqT K H a xs ∧ xs.length ≤ i⟩
def Itr (lo : Int) (n : Nat) : It := ⟨fun i _ => i < n, fun i H x H' => H' = H ∧ x = .int (lo + i), fun i _ => n ≤ i⟩
theorem turn_list {P : Program} {w : World} {K : PySem.W.Frag} {tg : Expr} (a it : Addr) : Turn P w K tg (Itl K a) [it] it (fun i h => h.IsListIter it a i) where
  mem := by simp
  obj := fun i h st b hb => by
    have e : b = it := by simpa using hb
    subst e
    obtain ⟨o, e, c, d⟩ := st
    exact ⟨o, e, fun v z => by rw [d] at z; cases z⟩
  keep := fun i h h' st k => st.at fun o e => k it (by simp) o e
  item := by
    intro X hP hw hK hc i pins s σ H E I hf st hg
    subst hP hw hK
    obtain ⟨xs, x, hq, hx⟩ := hg
    obtain ⟨its, rv, p, hz⟩ := I.list hq
    obtain ⟨u, hu, ru⟩ := rv.get hx
    obtain ⟨f0, f1, f2, f3, f4, f5⟩ := hf it (by simp)
    refine wpAny_pyNext_list_item st p.isList (x := u) (by simpa using hu) fun h' st' sb => ?_
    have I1 : Inv X pins σ H { s with heap := h' } := I.turned (t' := s.toks) (fun b o hb e => (sb.2 b hb).trans e) f0 f1 f3 f4 f5
    obtain ⟨o, e, c, d⟩ := id st'
    exact ⟨u, rfl, go_of (s := { s with heap := h' }) e c d (by decide) ⟨x, H, I1, ru, ⟨rfl, fun ys hy => by rw [I.list_inj hy hq]; exact hx⟩, st', fun b hb => (hf b hb).1⟩⟩
  done := by
    intro X hP hw hK hc i pins s σ H E I hf st hg
    subst hP hw hK
    obtain ⟨xs, hq, hx⟩ := hg
    obtain ⟨its, rv, p, hz⟩ := I.list hq
    obtain ⟨f0, f1, f2, f3, f4, f5⟩ := hf it (by simp)
    have hl := rv.length
    exact wpAny_pyNext_list_end (I.ok.hd hc) st p.isList (by simp; omega) fun h' eb => ⟨rfl, I.turned (t' := s.toks) (fun b o hb e => eb b o hb e) f0 f1 f3 f4 f5⟩
  self := fun _ _ _ _ _ st h => wpAny_pyIter_listiter st h
theorem turn_tuple {P : Program} {w : World} {K : PySem.W.Frag} {tg : Expr} (a it : Addr) : Turn P w K tg (Itt K a) [it] it (fun i h => h.IsTupleIter it a i) where
  mem := by simp
  obj := fun i h st b hb => by
    have e : b = it := by simpa using hb
    subst e
    obtain ⟨o, e, c, d⟩ := st
    exact ⟨o, e, fun v z => by rw [d] at z; cases z⟩
  keep := fun i h h' st k => st.at fun o e => k it (by simp) o e
  item := by
    intro X hP hw hK hc i pins s σ H E I hf st hg
    subst hP hw hK
    obtain ⟨xs, x, hq, hx⟩ := hg
    obtain ⟨its, rv, p, hz⟩ := I.tuple hq
    obtain ⟨u, hu, ru⟩ := rv.get hx
    obtain ⟨f0, f1, f2, f3, f4, f5⟩ := hf it (by simp)
    refine wpAny_pyNext_tuple_item st (show s.heap.IsTuple a its.toArray from p) (x := u) (by simpa using hu) fun h' st' sb => ?_
    have I1 : Inv X pins σ H { s with heap := h' } := I.turned (t' := s.toks) (fun b o hb e => (sb.2 b hb).trans e) f0 f1 f3 f4 f5
    obtain ⟨o, e, c, d⟩ := id st'
    exact ⟨u, rfl, go_of (s := { s with heap := h' }) e c d (by decide) ⟨x, H, I1, ru, ⟨rfl, fun ys hy => by rw [I.tuple_inj hy hq]; exact hx⟩, st', fun b hb => (hf b hb).1⟩⟩
  done := by
    intro X hP hw hK hc i pins s σ H E I hf st hg
    subst hP hw hK
    obtain ⟨xs, hq, hx⟩ := hg
    obtain ⟨its, rv, p, hz⟩ := I.tuple hq
    obtain ⟨f0, f1, f2, f3, f4, f5⟩ := hf it (by simp)
    have hl := rv.length
    exact wpAny_pyNext_tuple_end (I.ok.hd hc) st (show s.heap.IsTuple a its.toArray from p) (by simp; omega) fun h' eb => ⟨rfl, I.turned (t' := s.toks) (fun b o hb e => eb b o hb e) f0 f1 f3 f4 f5⟩
  self := fun _ _ _ _ _ st h => wpAny_pyIter_tupleiter st h
theorem turn_range {P : Program} {w : World} {K : PySem.W.Frag} {tg : Expr} (it : Addr) (lo : Int) (n : Nat) : Turn P w K tg (Itr lo n) [it] it (fun i h => IsRangeIter h it (lo + (i : Nat) * 1) ((n : Int) - (i : Nat)) 1) where
  mem := by simp
  obj := fun i h st b hb => by
    have e : b = it := by simpa using hb
    subst e
    exact ⟨_, st, fun v z => by
      have z' : Data.fields _ = Data.cell v := z
      cases z'⟩
  keep := fun i h h' st k => k it (by simp) _ st
  item := by
    intro X hP hw hK hc i pins s σ H E I hf st hg
    subst hP hw hK
    obtain ⟨f0, f1, f2, f3, f4, f5⟩ := hf it (by simp)
    have W := Walks.range (prog := X.prog) (w := X.w) (I.ok.hd hc) it lo 1 n
    refine W.item i s _ _ hg st fun v h' tk hv st' kk => ?_
    obtain ⟨t, rfl⟩ := hv
    have I1 : Inv X pins σ H { s with heap := h', toks := tk } := I.turned (fun b o hb e => kk b o (by simpa using hb) e) f0 f1 f3 f4 f5
    refine ⟨_, rfl, go_of (s := { s with heap := h', toks := tk }) (n := "range_iterator") st' rfl rfl (by decide) ⟨.int (lo + i), H, I1, ⟨t, ?_⟩, ⟨rfl, rfl⟩, st', fun b hb => (hf b hb).1⟩⟩
    rw [Int.mul_one]
  done := by
    intro X hP hw hK hc i pins s σ H E I hf st hg
    subst hP hw hK
    obtain ⟨f0, f1, f2, f3, f4, f5⟩ := hf it (by simp)
    exact wpAny_pyNext_range_end (I.ok.hd hc) st (by have : n ≤ i := hg; omega) fun h' eb => ⟨rfl, I.turned (t' := s.toks) (fun b o hb e => eb b o hb e) f0 f1 f3 f4 f5⟩
  self := fun _ _ _ _ _ st h => wpAny_pyIter_rangeiter st h
end L2
namespace L2
open PySem PySem.Spec PyProof.Rows
section
variable {X : Cx} {tg : Expr}
def iList (K : PySem.W.Frag) (tl : TE) : TI := fun σ H R => tl σ H fun x H1 => ∃ a, x = .ref a ∧ (∃ xs, SqL K H1 a xs) ∧ R (Itl K a) H1
def iTup (K : PySem.W.Frag) (tl : TE) : TI := fun σ H R => tl σ H fun x H1 => ∃ a, x = .ref a ∧ (∃ xs, SqT K H1 a xs) ∧ R (Itt K a) H1
theorem pi_list {l : Expr} {tl : TE} (hl : PE X l tl) : PI X tg l (iList X.K tl) := by
  intro pins s σ H R I h
  refine thn (hl pins s σ H _ I h) fun v s1 ⟨x, H1, I1, r1, q1⟩ => ?_
  obtain ⟨a, e, ⟨xs, hq⟩, q⟩ := q1
  subst e
  cases r1
  obtain ⟨its, rv, p, hz⟩ := I1.list hq
  refine wpAny_pyIter_list p.isList ?_
  refine ⟨s1.heap.objs.size, [s1.heap.objs.size], _, _, H1, rfl, I1.kept (t' := s1.toks) fun b o e => Heap.get?_push_of_some _ e, turn_list a _, ⟨_, Heap.get?_push_size _ rfl, rfl, rfl⟩, fun b hb => ?_, q⟩
  have e : b = s1.heap.objs.size := by simpa using hb
  subst e
  exact I1.fpOk (Nat.le_refl _) (I1.hok.fresh (Nat.le_refl _))
theorem pi_tup {l : Expr} {tl : TE} (hl : PE X l tl) : PI X tg l (iTup X.K tl) := by
  intro pins s σ H R I h
  refine thn (hl pins s σ H _ I h) fun v s1 ⟨x, H1, I1, r1, q1⟩ => ?_
  obtain ⟨a, e, ⟨xs, hq⟩, q⟩ := q1
  subst e
  cases r1
  obtain ⟨its, rv, p, hz⟩ := I1.tuple hq
  refine wpAny_pyIter_tuple (show s1.heap.IsTuple a its.toArray from p) ?_
  refine ⟨s1.heap.objs.size, [s1.heap.objs.size], _, _, H1, rfl, I1.kept (t' := s1.toks) fun b o e => Heap.get?_push_of_some _ e, turn_tuple a _, ⟨_, Heap.get?_push_size _ rfl, rfl, rfl⟩, fun b hb => ?_, q⟩
  have e : b = s1.heap.objs.size := by simpa using hb
  subst e
  exact I1.fpOk (Nat.le_refl _) (I1.hok.fresh (Nat.le_refl _))
theorem range_it {pins : List (Addr × Obj)} {σ : St} {H : Hp} {s : Shared} {R : It → Hp → Prop} {E : Value → Shared → Prop} {lo hi : Int} {t u v : Tok} {tk : Nat} (I : Inv X pins σ H s) (h1 : -(2 ^ 62) ≤ lo) (h2 : lo < 2 ^ 62) (h3 : -(2 ^ 62) ≤ hi) (h4 : hi < 2 ^ 62)
    (q : R (Itr lo (hi - lo).toNat) H) : wpAny (model X.prog X.w) X.A (pyIter (.ref s.heap.objs.size)) (PIE X pins σ tg R) E { s with heap := s.heap.push { cls := .type "range", data := .fields #[.int lo t, .int hi u, .int 1 v] }, toks := tk } := by
  refine wpAny_pyIter_range (IsRange.new ..) (small_one h1 h2 h3 h4) ?_
  have I1 : Inv X pins σ H { s with heap := s.heap.push { cls := .type "range", data := .fields #[.int lo t, .int hi u, .int 1 v] }, toks := tk } := I.kept fun b o e => Heap.get?_push_of_some _ e
  refine ⟨(s.heap.push { cls := .type "range", data := .fields #[.int lo t, .int hi u, .int 1 v] }).objs.size, [(s.heap.push { cls := .type "range", data := .fields #[.int lo t, .int hi u, .int 1 v] }).objs.size], _, _, H, rfl,
    I1.kept (t' := tk) fun b o e => Heap.get?_push_of_some _ e, turn_range _ lo (hi - lo).toNat, ?_, fun b hb => ?_, q⟩
  · have e1 : lo + ((0 : Nat) : Int) * 1 = lo := by simp
    have e2 : (((hi - lo).toNat : Nat) : Int) - ((0 : Nat) : Int) = Builtin.Range.rangeSize lo hi 1 := by rw [rangeSize_one]; split <;> omega
    show IsRangeIter _ _ (lo + ((0 : Nat) : Int) * 1) ((((hi - lo).toNat : Nat) : Int) - ((0 : Nat) : Int)) 1
    rw [e1, e2]
    exact Heap.get?_push_size _ rfl
  · have e : b = (s.heap.push { cls := .type "range", data := .fields #[.int lo t, .int hi u, .int 1 v] }).objs.size := by simpa using hb
    subst e
    exact I1.fpOk (Nat.le_refl _) (I1.hok.fresh (Nat.le_refl _))
def iRng1 (ta : TA) : TI := fun σ H R => ta σ H fun vs H1 => ∃ j : Int, vs = [.int j] ∧ -(2 ^ 62) ≤ j ∧ j < 2 ^ 62 ∧ R (Itr 0 j.toNat) H1
def iRng2 (ta : TA) : TI := fun σ H R => ta σ H fun vs H1 => ∃ i j : Int, vs = [.int i, .int j] ∧ (-(2 ^ 62) ≤ i ∧ i < 2 ^ 62 ∧ -(2 ^ 62) ≤ j ∧ j < 2 ^ 62) ∧ R (Itr i (j - i).toNat) H1
theorem pi_range1 {a : Expr} {ta : TA} {p pos : Pos} (hg : Gl X "range") (hm : X.mg "range" = none) (ha : PA X [a] ta) (hs : starEach [a] X.env = [(false, eval a X.env)] := by rfl) : PI X tg (.Call (.Name "range" p) [a] [] pos) (iRng1 ta) := by
  intro pins s σ H R I h
  refine Call_ (ld_blt I hg hm boot_range (PyProof.Rows.callWith_type1 (thn (ha pos pins s σ H _ I h) fun us s1 ⟨vs, H1, I1, r1, q1⟩ => ?_) hs rfl))
  obtain ⟨j, e, q1, q2, q⟩ := q1
  subst e
  cases r1 with
  | cons r rr =>
    cases rr
    obtain ⟨t, rfl⟩ := r
    exact call_range_1 (range_it I1 (by omega) (by omega) q1 q2 (by simpa using q))
theorem pi_range2 {a b : Expr} {ta : TA} {p pos : Pos} (hg : Gl X "range") (hm : X.mg "range" = none) (ha : PA X [a, b] ta) (hs : starEach [a, b] X.env = [(false, eval a X.env), (false, eval b X.env)] := by rfl) (hs2 : starEach [b] X.env = [(false, eval b X.env)] := by rfl) :
    PI X tg (.Call (.Name "range" p) [a, b] [] pos) (iRng2 ta) := by
  intro pins s σ H R I h
  refine Call_ (ld_blt I hg hm boot_range (PyProof.Rows.callWith_type1 (thn (ha pos pins s σ H _ I h) fun us s1 ⟨vs, H1, I1, r1, q1⟩ => ?_) (by rw [hs, hs2]) (by rw [hs2]; rfl)))
  obtain ⟨i, j, e, ⟨q1, q2, q3, q4⟩, q⟩ := q1
  subst e
  cases r1 with
  | cons r rr =>
    cases rr with
    | cons r' rr =>
      cases rr
      obtain ⟨t, rfl⟩ := r
      obtain ⟨t', rfl⟩ := r'
      exact call_range_2 (range_it I1 q1 q2 q3 q4 q)
def tFor (wi : TI) (g : TG) (tb : TS) : TS := fun D σ H => wi σ H fun J H1 => ∃ W : Nat → Nat → St → Hp → Prop, (∃ m, W 0 m σ H1) ∧ ∀ i m σ H, W i m σ H →
  (J.stop i H ∧ D.nx σ H) ∨ (J.go i H ∧ ∃ N : St → Hp → Prop, (∀ σ' H', N σ' H' → ∃ m', m' < m ∧ W (i + 1) m' σ' H') ∧ ∀ x H', J.yld i H x H' → g x σ H' fun σ2 H2 => tb { D with nx := N, ct := N, bk := D.nx } σ2 H2)
def pinsAt (fp : List Addr) (h : Heap) : List (Addr × Obj) := fp.filterMap fun b => (h.get? b).map fun o => (b, o)
theorem mem_pinsAt {fp : List Addr} {h : Heap} {b : Addr} {o : Obj} (hb : b ∈ fp) (e : h.get? b = some o) : (b, o) ∈ pinsAt fp h := List.mem_filterMap.mpr ⟨b, hb, by rw [e]; rfl⟩
theorem of_pinsAt {fp : List Addr} {h : Heap} {p : Addr × Obj} (hp : p ∈ pinsAt fp h) : p.1 ∈ fp ∧ h.get? p.1 = some p.2 := by
  obtain ⟨b, hb, e⟩ := List.mem_filterMap.mp hp
  cases q : h.get? b with
  | none => rw [q] at e; cases e
  | some o =>
    rw [q] at e
    have e' : (b, o) = p := Option.some.inj e
    subst e'
    exact ⟨hb, q⟩
theorem Inv.pinned {pins : List (Addr × Obj)} {σ : St} {H : Hp} {s : Shared} {fp : List Addr} (I : Inv X pins σ H s) (hf : ∀ b ∈ fp, FpOk X pins H b) (ho : ∀ b ∈ fp, ∃ o, s.heap.get? b = some o ∧ ∀ v, o.data ≠ .cell v) : Inv X (pins ++ pinsAt fp s.heap) σ H s :=
  I.pins_of fun p hp => (List.mem_append.mp hp).elim (fun z => I.pin p (List.mem_append_right _ z)) fun z => by
    obtain ⟨hb, e⟩ := of_pinsAt z
    obtain ⟨f0, f1, f2, _⟩ := hf p.1 hb
    obtain ⟨o, e', d⟩ := ho p.1 hb
    rw [e] at e'; cases e'
    exact ⟨e, f0, f1, f2, d⟩
theorem Inv.unpinned {pins pl : List (Addr × Obj)} {σ : St} {H : Hp} {s : Shared} (I : Inv X (pins ++ pl) σ H s) : Inv X pins σ H s := I.pins_of fun p hp => I.pin p (List.mem_append_right _ (List.mem_append_left _ hp))
theorem ps_for {iter : Expr} {body : List Stmt} {wi : TI} {g : TG} {tb : TS} {pos : Pos} (hp : PassesOwn (model X.prog X.w) X.A X.env X.xe) (hc : X.calm = true) (hi : PI X tg iter wi) (hg : PG X tg g) (hb : PSs X body tb)
    (hs : ∀ x, foldedSetIterable iter X.env x = pure x := by intro _; rfl) : PS X (.For tg iter body [] pos) (tFor wi g tb) := by
  intro pins s σ H D I h
  refine wpAny_For (thn (hi pins s σ H _ I h) fun v s1 h1 => thn h1 fun itv s2 h2 => ?_) hs
  obtain ⟨it, fp, tn, J, H2, e, I2, T, st2, f2, W, ⟨m0, w0⟩, turn⟩ := h2
  subst e
  -- what stays true of the iterator's objects through the loop
  have stat : ∀ {H' : Hp}, (∀ b ∈ fp, H' b = none) → ∀ b ∈ fp, FpOk X pins H' b := fun hn b hb => ⟨hn b hb, (f2 b hb).2⟩
  refine codeAny_forLoop_any (fun n s' => ∃ i σ' H', Inv X pins σ' H' s' ∧ tn i s'.heap ∧ (∀ b ∈ fp, H' b = none) ∧ W i n σ' H') ?_ m0 ⟨0, σ, H2, I2, st2, fun b hb => (f2 b hb).1, w0⟩
  rintro n s3 ⟨i, σ3, H3, I3, st3, fr3, w3⟩
  rcases turn i n σ3 H3 w3 with ⟨stop, qn⟩ | ⟨go, N, hN, step⟩
  · refine wpAny_passesOwn hp (thn (T.done X rfl rfl rfl hc i pins s3 σ3 H3 X.xe I3 (stat fr3) st3 stop) fun r s4 ⟨hr, I4⟩ => ?_)
    subst hr
    exact wpAny_execs_nil ⟨σ3, H3, I4, qn⟩
  · refine wpAny_passesOwn hp (thn (T.item X rfl rfl rfl hc i pins s3 σ3 H3 X.xe I3 (stat fr3) st3 go) fun r s4 ⟨u, hr, h4⟩ => ?_)
    subst hr
    refine wpAny_passesOwn hp (thn h4 fun _ s5 ⟨x, H5, I5, r5, y5, st5, fr5⟩ => ?_)
    have I5' := I5.pinned (stat fr5) (T.obj _ _ st5)
    refine wpAny_passesOwn hp (thn (hg _ s5 σ3 H5 x u _ I5' r5 (step x H5 y5)) fun _ s6 ⟨σ6, H6, I6, q6⟩ => ?_)
    refine wpAny_passesOwn hp (thn (hb _ s6 σ6 H6 _ I6 q6) fun f s7 q7 => ?_)
    have again : ∀ {σ7 : St} {H7 : Hp}, Inv X (pins ++ pinsAt fp s5.heap) σ7 H7 s7 → N σ7 H7 → ∃ m, m < n ∧ ∃ i σ' H', Inv X pins σ' H' s7 ∧ tn i s7.heap ∧ (∀ b ∈ fp, H' b = none) ∧ W i m σ' H' := fun {σ7 H7} I7 n7 => by
      obtain ⟨m', hm, w7⟩ := hN σ7 H7 n7
      refine ⟨m', hm, i + 1, σ7, H7, I7.unpinned, T.keep _ _ _ st5 fun b hb o e => (I7.pin (b, o) (List.mem_append_right _ (List.mem_append_right _ (mem_pinsAt hb e)))).1, fun b hb => ?_, w7⟩
      obtain ⟨o, e, d⟩ := T.obj _ _ st5 b hb
      exact (I7.pin (b, o) (List.mem_append_right _ (List.mem_append_right _ (mem_pinsAt hb e)))).2.1
    cases f with
    | next => obtain ⟨σ7, H7, I7, n7⟩ := q7; exact again I7 n7
    | cont => obtain ⟨σ7, H7, I7, n7⟩ := q7; exact again I7 n7
    | brk => obtain ⟨σ7, H7, I7, q7⟩ := q7; exact ⟨σ7, H7, I7.unpinned, q7⟩
    | ret v => obtain ⟨x7, σ7, H7, I7, r7, q7⟩ := q7; exact ⟨x7, σ7, H7, I7.unpinned, r7, q7⟩
end
theorem for_list {K : PySem.W.Frag} {a : Addr} {xs : List V} {g : TG} {tb : TS} {D : Ends} {σ : St} {H : Hp} (Pv : Nat → St → Hp → Prop) (h0 : Pv 0 σ H) (hl : ∀ i σ H, i ≤ xs.length → Pv i σ H → SqL K H a xs)
    (hs : ∀ i x σ H, xs[i]? = some x → Pv i σ H → g x σ H fun σ2 H2 => tb { D with nx := Pv (i + 1), ct := Pv (i + 1), bk := D.nx } σ2 H2) (hd : ∀ σ H, Pv xs.length σ H → D.nx σ H) :
    ∃ W : Nat → Nat → St → Hp → Prop, (∃ m, W 0 m σ H) ∧ ∀ i m σ H, W i m σ H →
      ((Itl K a).stop i H ∧ D.nx σ H) ∨ ((Itl K a).go i H ∧ ∃ N : St → Hp → Prop, (∀ σ' H', N σ' H' → ∃ m', m' < m ∧ W (i + 1) m' σ' H') ∧ ∀ x H', (Itl K a).yld i H x H' → g x σ H' fun σ2 H2 => tb { D with nx := N, ct := N, bk := D.nx } σ2 H2) := by
  refine ⟨fun i m σ H => m = xs.length - i ∧ i ≤ xs.length ∧ Pv i σ H, ⟨xs.length, by simp, Nat.zero_le _, h0⟩, ?_⟩
  rintro i m σ H ⟨rfl, hi, p⟩
  have q := hl i σ H hi p
  by_cases hlt : i < xs.length
  · refine .inr ⟨⟨xs, xs[i], q, by simp [hlt]⟩, Pv (i + 1), fun σ' H' p' => ⟨xs.length - (i + 1), by omega, rfl, hlt, p'⟩, fun x H' y => ?_⟩
    obtain ⟨e, y⟩ := y
    subst e
    exact hs i x σ _ (y xs q) p
  · have e : i = xs.length := by omega
    subst e
    exact .inl ⟨⟨xs, q, Nat.le_refl _⟩, hd σ H p⟩
theorem for_tup {K : PySem.W.Frag} {a : Addr} {xs : List V} {g : TG} {tb : TS} {D : Ends} {σ : St} {H : Hp} (Pv : Nat → St → Hp → Prop) (h0 : Pv 0 σ H) (hl : ∀ i σ H, i ≤ xs.length → Pv i σ H → SqT K H a xs)
    (hs : ∀ i x σ H, xs[i]? = some x → Pv i σ H → g x σ H fun σ2 H2 => tb { D with nx := Pv (i + 1), ct := Pv (i + 1), bk := D.nx } σ2 H2) (hd : ∀ σ H, Pv xs.length σ H → D.nx σ H) :
    ∃ W : Nat → Nat → St → Hp → Prop, (∃ m, W 0 m σ H) ∧ ∀ i m σ H, W i m σ H →
      ((Itt K a).stop i H ∧ D.nx σ H) ∨ ((Itt K a).go i H ∧ ∃ N : St → Hp → Prop, (∀ σ' H', N σ' H' → ∃ m', m' < m ∧ W (i + 1) m' σ' H') ∧ ∀ x H', (Itt K a).yld i H x H' → g x σ H' fun σ2 H2 => tb { D with nx := N, ct := N, bk := D.nx } σ2 H2) := by
  refine ⟨fun i m σ H => m = xs.length - i ∧ i ≤ xs.length ∧ Pv i σ H, ⟨xs.length, by simp, Nat.zero_le _, h0⟩, ?_⟩
  rintro i m σ H ⟨rfl, hi, p⟩
  have q := hl i σ H hi p
  by_cases hlt : i < xs.length
  · refine .inr ⟨⟨xs, xs[i], q, by simp [hlt]⟩, Pv (i + 1), fun σ' H' p' => ⟨xs.length - (i + 1), by omega, rfl, hlt, p'⟩, fun x H' y => ?_⟩
    obtain ⟨e, y⟩ := y
    subst e
    exact hs i x σ _ (y xs q) p
  · have e : i = xs.length := by omega
    subst e
    exact .inl ⟨⟨xs, q, Nat.le_refl _⟩, hd σ H p⟩
theorem for_range {lo : Int} {n : Nat} {g : TG} {tb : TS} {D : Ends} {σ : St} {H : Hp} (Pv : Nat → St → Hp → Prop) (h0 : Pv 0 σ H)
    (hs : ∀ i σ H, i < n → Pv i σ H → g (.int (lo + i)) σ H fun σ2 H2 => tb { D with nx := Pv (i + 1), ct := Pv (i + 1), bk := D.nx } σ2 H2) (hd : ∀ σ H, Pv n σ H → D.nx σ H) :
    ∃ W : Nat → Nat → St → Hp → Prop, (∃ m, W 0 m σ H) ∧ ∀ i m σ H, W i m σ H →
      ((Itr lo n).stop i H ∧ D.nx σ H) ∨ ((Itr lo n).go i H ∧ ∃ N : St → Hp → Prop, (∀ σ' H', N σ' H' → ∃ m', m' < m ∧ W (i + 1) m' σ' H') ∧ ∀ x H', (Itr lo n).yld i H x H' → g x σ H' fun σ2 H2 => tb { D with nx := N, ct := N, bk := D.nx } σ2 H2) := by
  refine ⟨fun i m σ H => m = n - i ∧ i ≤ n ∧ Pv i σ H, ⟨n, by simp, Nat.zero_le _, h0⟩, ?_⟩
  rintro i m σ H ⟨rfl, hi, p⟩
  by_cases hlt : i < n
  · refine .inr ⟨hlt, Pv (i + 1), fun σ' H' p' => ⟨n - (i + 1), by omega, rfl, hlt, p'⟩, fun x H' y => ?_⟩
    obtain ⟨e, y⟩ := y
    subst e y
    exact hs i σ _ hlt p
  · have e : i = n := by omega
    subst e
    exact .inl ⟨Nat.le_refl _, hd σ H p⟩
end L2
namespace L2
open PySem PySem.Spec PyProof.Rows
abbrev R2 := V → V → Hp → VK → Prop
def OpR (X : Cx) (f : Value → Value → Sem Value) (r : R2) : Prop :=
  ∀ (pins : List (Addr × Obj)) (s : Shared) (σ : St) (H : Hp) (x y : V) (v u : Value) (Q : VK), Inv X pins σ H s → RelV x v → RelV y u → r x y H Q →
    wpAny (model X.prog X.w) X.A (f v u) (EP X pins σ Q) X.xe s
def UnR (X : Cx) (f : Value → Sem Value) (r : V → Hp → VK → Prop) : Prop :=
  ∀ (pins : List (Addr × Obj)) (s : Shared) (σ : St) (H : Hp) (x : V) (v : Value) (Q : VK), Inv X pins σ H s → RelV x v → r x H Q →
    wpAny (model X.prog X.w) X.A (f v) (EP X pins σ Q) X.xe s
def CallR (X : Cx) (f : Value) (r : List V → Hp → VK → Prop) : Prop :=
  ∀ (pins : List (Addr × Obj)) (s : Shared) (σ : St) (H : Hp) (xs : List V) (us : List Value) (Q : VK), Inv X pins σ H s → Vals xs us → r xs H Q →
    wpAny (model X.prog X.w) X.A (call f us) (EP X pins σ Q) X.xe s
def tOp (r : R2) (ta tb : TE) : TE := fun σ H Q => ta σ H fun x H1 => tb σ H1 fun y H2 => r x y H2 Q
def tUn (r : V → Hp → VK → Prop) (ta : TE) : TE := fun σ H Q => ta σ H fun x H1 => r x H1 Q
def rI (C : Int → Int → Prop) (g : Int → Int → V) : R2 := fun x y H Q => ∃ i j, x = .int i ∧ y = .int j ∧ C i j ∧ Q (g i j) H
def rI0 (g : Int → Int → V) : R2 := fun x y H Q => ∃ i j, x = .int i ∧ y = .int j ∧ Q (g i j) H
def rU (g : Int → V) : V → Hp → VK → Prop := fun x H Q => ∃ i, x = .int i ∧ Q (g i) H
section
variable {X : Cx} {a b c : Expr} {ta tb tc : TE} {pos : Pos}
theorem binT (ha : PE X a ta) (hb : PE X b tb) {pins : List (Addr × Obj)} {s : Shared} {σ : St} {H : Hp} {R : V → V → Hp → Prop} (I : Inv X pins σ H s)
    (h : ta σ H fun x H1 => tb σ H1 fun y H2 => R x y H2) {Q : Value → Shared → Prop} {f : Value → Value → Sem Value}
    (hf : ∀ v u s2 x y H2, Inv X pins σ H2 s2 → RelV x v → RelV y u → R x y H2 → wpAny (model X.prog X.w) X.A (f v u) Q X.xe s2) :
    wpAny (model X.prog X.w) X.A (eval a X.env) (fun v s₁ => wpAny (model X.prog X.w) X.A (eval b X.env) (fun u s₂ => wpAny (model X.prog X.w) X.A (f v u) Q X.xe s₂) X.xe s₁) X.xe s := by
  refine thn (ha pins s σ H _ I h) fun v s1 ⟨x, H1, I1, r1, q1⟩ => ?_
  refine thn (hb pins s1 σ H1 _ I1 q1) fun u s2 ⟨y, H2, I2, r2, q2⟩ => ?_
  exact hf v u s2 x y H2 I2 r1 r2 q2
theorem pe_op {op : Operator} {r : R2} (ho : OpR X (binaryOp op) r) (ha : PE X a ta) (hb : PE X b tb) : PE X (.BinOp a op b pos) (tOp r ta tb) := by
  intro pins s σ H Q I h
  exact wpAny_BinOp (binT ha hb I h fun v u s2 x y H2 I2 rx ry q => ho pins s2 σ H2 x y v u Q I2 rx ry q)
theorem pe_un {op : UnaryOp} {r : V → Hp → VK → Prop} (ho : UnR X (unaryOp op) r) (ha : PE X a ta) : PE X (.UnaryOp op a pos) (tUn r ta) := by
  intro pins s σ H Q I h
  exact UnaryOp_ (thn (ha pins s σ H _ I h) fun v s1 ⟨x, H1, I1, r1, q1⟩ => ho pins s1 σ H1 x v Q I1 r1 q1)
theorem opI {f : Value → Value → Sem Value} {C : Int → Int → Prop} {g : Int → Int → Int}
    (rule : ∀ (i j : Int) (t u : Tok) (s : Shared) (Q : Value → Shared → Prop) (E : Value → Shared → Prop), C i j → Q (.int (g i j) s.toks) { s with toks := s.toks + 1 } → wpAny (model X.prog X.w) X.A (f (.int i t) (.int j u)) Q E s) :
    OpR X f (rI C fun i j => .int (g i j)) := by
  intro pins s σ H x y v u Q I rx ry h
  obtain ⟨i, j, rfl, rfl, hc, q⟩ := h
  obtain ⟨t, rfl⟩ := rx
  obtain ⟨t', rfl⟩ := ry
  exact rule i j t t' s _ _ hc ⟨.int (g i j), H, I.tok _, ⟨_, rfl⟩, q⟩
theorem opI0 {f : Value → Value → Sem Value} {g : Int → Int → Int}
    (rule : ∀ (i j : Int) (t u : Tok) (s : Shared) (Q : Value → Shared → Prop) (E : Value → Shared → Prop), Q (.int (g i j) s.toks) { s with toks := s.toks + 1 } → wpAny (model X.prog X.w) X.A (f (.int i t) (.int j u)) Q E s) :
    OpR X f (rI0 fun i j => .int (g i j)) := by
  intro pins s σ H x y v u Q I rx ry h
  obtain ⟨i, j, rfl, rfl, q⟩ := h
  obtain ⟨t, rfl⟩ := rx
  obtain ⟨t', rfl⟩ := ry
  exact rule i j t t' s _ _ ⟨.int (g i j), H, I.tok _, ⟨_, rfl⟩, q⟩
theorem opB0 {f : Value → Value → Sem Value} {g : Int → Int → Bool}
    (rule : ∀ (i j : Int) (t u : Tok) (s : Shared) (Q : Value → Shared → Prop) (E : Value → Shared → Prop), Q (.bool (g i j)) s → wpAny (model X.prog X.w) X.A (f (.int i t) (.int j u)) Q E s) :
    OpR X f (rI0 fun i j => .bl (g i j)) := by
  intro pins s σ H x y v u Q I rx ry h
  obtain ⟨i, j, rfl, rfl, q⟩ := h
  obtain ⟨t, rfl⟩ := rx
  obtain ⟨t', rfl⟩ := ry
  exact rule i j t t' s _ _ ⟨.bl (g i j), H, I, rfl, q⟩
def CDiv (i j : Int) : Prop := 0 < j ∧ j < 1073741824
def CPow (i j : Int) : Prop := 0 ≤ j ∧ j ≤ 1000000 ∧ i.natAbs < 2 ^ 64
def CMul (i j : Int) : Prop := (-(2 ^ 64) < i ∧ i < 2 ^ 64) ∨ (-(2 ^ 64) < j ∧ j < 2 ^ 64)
theorem CMul.ok {i j : Int} (h : CMul i j) : IntMulOk i j := by
  rcases h with ⟨h1, h2⟩ | ⟨h1, h2⟩
  · exact .of_left (intBits_le_64 h1 h2)
  · exact .of_right (intBits_le_64 h1 h2)
theorem op_add : OpR X (binaryOp .Add) (rI0 fun i j => .int (i + j)) := opI0 fun _ _ _ _ _ _ _ q => add_int q
theorem op_sub : OpR X (binaryOp .Sub) (rI0 fun i j => .int (i - j)) := opI0 fun _ _ _ _ _ _ _ q => sub_int q
theorem op_mul : OpR X (binaryOp .Mult) (rI CMul fun i j => .int (i * j)) := opI fun _ _ _ _ _ _ _ hc q => mul_int q hc.ok
theorem op_fdiv : OpR X (binaryOp .FloorDiv) (rI CDiv fun i j => .int (i / j)) := opI fun i j _ _ _ _ _ hc q => by
  have h1 : (0 : Int) < j := hc.1
  have h2 : j < 1073741824 := hc.2
  exact floordiv_int (by omega) (by rw [Int.fdiv_eq_ediv_of_nonneg i (by omega)]; exact q) (.inl (PyProof.noPylong_small (by omega)))
theorem op_mod : OpR X (binaryOp .Mod) (rI (fun _ j => 0 < j) fun i j => .int (i % j)) := opI fun i j _ _ _ _ _ hc q => by
  have h1 : (0 : Int) < j := hc
  exact mod_int' (by omega) (by rw [Int.fmod_eq_emod_of_nonneg i (by omega)]; exact q)
theorem op_pow : OpR X (binaryOp .Pow) (rI CPow fun i j => .int (i ^ j.toNat)) := opI fun _ _ _ _ _ _ _ hc q => pow_int_small hc.1 hc.2.1 hc.2.2 q
theorem unI {f : Value → Sem Value} {g : Int → Int}
    (rule : ∀ (i : Int) (t : Tok) (s : Shared) (Q : Value → Shared → Prop) (E : Value → Shared → Prop), Q (.int (g i) s.toks) { s with toks := s.toks + 1 } → wpAny (model X.prog X.w) X.A (f (.int i t)) Q E s) :
    UnR X f (rU fun i => .int (g i)) := by
  intro pins s σ H x v Q I rx h
  obtain ⟨i, rfl, q⟩ := h
  obtain ⟨t, rfl⟩ := rx
  exact rule i t s _ _ ⟨.int (g i), H, I.tok _, ⟨_, rfl⟩, q⟩
theorem un_neg : UnR X (unaryOp .USub) (rU fun i => .int (-i)) := unI fun _ _ _ _ _ q => neg_int q
end
def scal : V → V → Bool
  | .non, .non => true | .non, .int _ => true | .int _, .non => true | .non, .bl _ => true | .bl _, .non => true | .non, .str _ => true | .str _, .non => true
  | .int _, .int _ => true | .bl _, .bl _ => true | .str _, .str _ => true | .byt _, .byt _ => true
  | .int _, .str _ => true | .str _, .int _ => true | .bl _, .str _ => true | .str _, .bl _ => true
  | _, _ => false
def rEq : R2 := fun x y H Q => scal x y = true ∧ Q (.bl (decide (x = y))) H
def rNe : R2 := fun x y H Q => scal x y = true ∧ Q (.bl (!decide (x = y))) H
theorem dec_int {i j : Int} : decide (V.int i = V.int j) = (i == j) := by
  rw [Bool.eq_iff_iff]
  simp
theorem dec_bl {i j : Bool} : decide (V.bl i = V.bl j) = (i == j) := by
  rw [Bool.eq_iff_iff]
  simp
theorem dec_str {i j : Str} : decide (V.str i = V.str j) = (i == j) := by
  rw [Bool.eq_iff_iff]
  simp
theorem dec_byt {i j : Array UInt8} : decide (V.byt i = V.byt j) = (i.toList == j.toList) := by
  rw [Bool.eq_iff_iff]
  cases i
  cases j
  simp
section
variable {X : Cx} {a b c : Expr} {ta tb tc : TE} {pos : Pos}
theorem fin_bl {pins : List (Addr × Obj)} {σ : St} {H : Hp} {s : Shared} {Q : VK} {k k' : Bool} (I : Inv X pins σ H s) (q : Q (.bl k) H) (e : k = k') : EP X pins σ Q (.bool k') s := by
  subst e
  exact ⟨.bl k, H, I, rfl, q⟩
theorem op_eq : OpR X (compareOp .Eq) rEq := by
  intro pins s σ H x y v u Q I rx ry h
  obtain ⟨hs, q⟩ := h
  cases x with
  | non =>
    cases rx
    cases y with
    | non => cases ry; exact PySem.EqNone.eq_none_none (fin_bl I q (by simp))
    | bl j => cases ry; exact PySem.EqNone.eq_none_bool (fin_bl I q (by simp))
    | int j => obtain ⟨t', rfl⟩ := ry; exact PySem.EqNone.eq_none_int (fin_bl I q (by simp))
    | str j => obtain ⟨t', rfl⟩ := ry; exact PySem.EqNone.eq_none_str (fin_bl I q (by simp))
    | _ => exact absurd (show false = true from hs) Bool.false_ne_true
  | bl i =>
    cases rx
    cases y with
    | non => cases ry; exact PySem.EqNone.eq_bool_none (fin_bl I q (by simp))
    | bl j => cases ry; exact eq_bool (fin_bl I q dec_bl)
    | str j => obtain ⟨t', rfl⟩ := ry; exact PySem.EqMixed.eq_bool_str (fin_bl I q (by simp))
    | _ => exact absurd (show false = true from hs) Bool.false_ne_true
  | int i =>
    obtain ⟨t, rfl⟩ := rx
    cases y with
    | non => cases ry; exact PySem.EqNone.eq_int_none (fin_bl I q (by simp))
    | int j => obtain ⟨t', rfl⟩ := ry; exact eq_int (fin_bl I q dec_int)
    | str j => obtain ⟨t', rfl⟩ := ry; exact PySem.EqMixed.eq_int_str (fin_bl I q (by simp))
    | _ => exact absurd (show false = true from hs) Bool.false_ne_true
  | str i =>
    obtain ⟨t, rfl⟩ := rx
    cases y with
    | non => cases ry; exact PySem.EqNone.eq_str_none (fin_bl I q (by simp))
    | bl j => cases ry; exact PySem.EqMixed.eq_str_bool (fin_bl I q (by simp))
    | int j => obtain ⟨t', rfl⟩ := ry; exact PySem.EqMixed.eq_str_int (fin_bl I q (by simp))
    | str j => obtain ⟨t', rfl⟩ := ry; exact eq_str (fin_bl I q dec_str)
    | _ => exact absurd (show false = true from hs) Bool.false_ne_true
  | byt i =>
    obtain ⟨t, rfl⟩ := rx
    cases y with
    | byt j => obtain ⟨t', rfl⟩ := ry; exact PySem.W.eq_bytes (fin_bl I q dec_byt)
    | _ => exact absurd (show false = true from hs) Bool.false_ne_true
  | _ => cases y <;> exact absurd (show false = true from hs) Bool.false_ne_true
theorem op_ne : OpR X (compareOp .NotEq) rNe := by
  intro pins s σ H x y v u Q I rx ry h
  obtain ⟨hs, q⟩ := h
  cases x with
  | non =>
    cases rx
    cases y with
    | non => cases ry; exact PySem.EqNone.ne_none_none (fin_bl I q (by simp))
    | bl j => cases ry; exact PySem.EqNone.ne_none_bool (fin_bl I q (by simp))
    | int j => obtain ⟨t', rfl⟩ := ry; exact PySem.EqNone.ne_none_int (fin_bl I q (by simp))
    | str j => obtain ⟨t', rfl⟩ := ry; exact PySem.EqNone.ne_none_str (fin_bl I q (by simp))
    | _ => exact absurd (show false = true from hs) Bool.false_ne_true
  | bl i =>
    cases rx
    cases y with
    | non => cases ry; exact PySem.EqNone.ne_bool_none (fin_bl I q (by simp))
    | bl j => cases ry; exact ne_bool (fin_bl I q (congrArg not dec_bl))
    | str j => obtain ⟨t', rfl⟩ := ry; exact PySem.EqMixed.ne_bool_str (fin_bl I q (by simp))
    | _ => exact absurd (show false = true from hs) Bool.false_ne_true
  | int i =>
    obtain ⟨t, rfl⟩ := rx
    cases y with
    | non => cases ry; exact PySem.EqNone.ne_int_none (fin_bl I q (by simp))
    | int j => obtain ⟨t', rfl⟩ := ry; exact ne_int (fin_bl I q (congrArg not dec_int))
    | str j => obtain ⟨t', rfl⟩ := ry; exact PySem.EqMixed.ne_int_str (fin_bl I q (by simp))
    | _ => exact absurd (show false = true from hs) Bool.false_ne_true
  | str i =>
    obtain ⟨t, rfl⟩ := rx
    cases y with
    | non => cases ry; exact PySem.EqNone.ne_str_none (fin_bl I q (by simp))
    | bl j => cases ry; exact PySem.EqMixed.ne_str_bool (fin_bl I q (by simp))
    | int j => obtain ⟨t', rfl⟩ := ry; exact PySem.EqMixed.ne_str_int (fin_bl I q (by simp))
    | str j => obtain ⟨t', rfl⟩ := ry; exact ne_str (fin_bl I q (congrArg not dec_str))
    | _ => exact absurd (show false = true from hs) Bool.false_ne_true
  | byt i =>
    obtain ⟨t, rfl⟩ := rx
    cases y with
    | byt j => obtain ⟨t', rfl⟩ := ry; exact PySem.W.ne_bytes (fin_bl I q (congrArg not dec_byt))
    | _ => exact absurd (show false = true from hs) Bool.false_ne_true
  | _ => cases y <;> exact absurd (show false = true from hs) Bool.false_ne_true
theorem op_lt : OpR X (compareOp .Lt) (rI0 fun i j => .bl (decide (i < j))) := opB0 fun _ _ _ _ _ _ _ q => lt_int q
theorem op_le : OpR X (compareOp .LtE) (rI0 fun i j => .bl (decide (i ≤ j))) := opB0 fun _ _ _ _ _ _ _ q => le_int q
theorem op_gt : OpR X (compareOp .Gt) (rI0 fun i j => .bl (decide (j < i))) := opB0 fun _ _ _ _ _ _ _ q => gt_int q
theorem op_ge : OpR X (compareOp .GtE) (rI0 fun i j => .bl (decide (j ≤ i))) := opB0 fun _ _ _ _ _ _ _ q => ge_int q
theorem OpR.or {f : Value → Value → Sem Value} {r r' : R2} (h : OpR X f r) (h' : OpR X f r') : OpR X f (fun x y H Q => r x y H Q ∨ r' x y H Q) := by
  intro pins s σ H x y v u Q I rx ry q
  rcases q with q | q
  · exact h pins s σ H x y v u Q I rx ry q
  · exact h' pins s σ H x y v u Q I rx ry q
theorem nomark (b : Expr) {op : CmpOp} (h : op ≠ .In := by decide) (h2 : op ≠ .NotIn := by decide) : behindInMarks op b = false := by
  have e1 : (op == CmpOp.In) = false := by cases op <;> first | rfl | exact absurd rfl h
  have e2 : (op == CmpOp.NotIn) = false := by cases op <;> first | rfl | exact absurd rfl h2
  cases b <;> simp [behindInMarks, e1, e2]
theorem pe_cmpR {op : CmpOp} {r : R2} (ho : OpR X (compareOp op) r) (ha : PE X a ta) (hb : PE X b tb) (hm : behindInMarks op b = false) : PE X (.Compare a [op] [b] pos) (tOp r ta tb) := by
  intro pins s σ H Q I h
  exact wpAny_Compare1 (binT ha hb I h fun v u s2 x y H2 I2 rx ry q => ho pins s2 σ H2 x y v u Q I2 rx ry q) hm
def tTest (t : TE) : TT := fun σ H Q => t σ H fun x H' => ∃ k, x = .bl k ∧ Q k H'
theorem pt_cmpR {op : CmpOp} {r : R2} (ho : OpR X (compareOp op) r) (ha : PE X a ta) (hb : PE X b tb) (hm : behindInMarks op b = false) : PT X (.Compare a [op] [b] pos) (tTest (tOp r ta tb)) := by
  intro pins s σ H Q I h
  refine wpAny_isTrue_Compare1 (thn (ha pins s σ H _ I h) fun v s1 ⟨x, H1, I1, r1, q1⟩ => thn (hb pins s1 σ H1 _ I1 q1) fun u s2 ⟨y, H2, I2, r2, q2⟩ =>
    thn (ho pins s2 σ H2 x y v u _ I2 r1 r2 q2) fun c s3 ⟨z, H3, I3, r3, k, e, q3⟩ => ?_) hm
  subst e
  cases r3
  exact wpAny_truthy_bool ⟨H3, I3, q3⟩
def tChain (r r' : R2) (ta tb tc : TE) : TE := fun σ H Q => ta σ H fun x H1 => tb σ H1 fun y H2 => r x y H2 fun z H3 => ∃ k, z = .bl k ∧
  (if k = true then tc σ H3 fun w' H4 => r' y w' H4 Q else Q (.bl false) H3)
theorem pe_chain {op op' : CmpOp} {r r' : R2} (ho : OpR X (compareOp op) r) (ho' : OpR X (compareOp op') r') (ha : PE X a ta) (hb : PE X b tb) (hc : PE X c tc)
    (hm : lastMarks [op, op'] [b, c] = false := by with_unfolding_all rfl) : PE X (.Compare a [op, op'] [b, c] pos) (tChain r r' ta tb tc) := by
  intro pins s σ H Q I h
  refine Compare_chain (thn (ha pins s σ H _ I h) fun v s1 ⟨x, H1, I1, r1, q1⟩ => chain_link (thn (hb pins s1 σ H1 _ I1 q1) fun u s2 ⟨y, H2, I2, r2, q2⟩ =>
    thn (ho pins s2 σ H2 x y v u _ I2 r1 r2 q2) fun d s3 ⟨z, H3, I3, r3, k, e, q3⟩ => ?_)) hm
  subst e
  cases r3
  refine wpAny_truthy_bool ?_
  cases k with
  | false => exact ite_ff ⟨.bl false, H3, I3, rfl, q3⟩
  | true => exact ite_tt (chain_last (thn (hc pins s3 σ H3 _ I3 q3) fun w' s4 ⟨z', H4, I4, r4, q4⟩ => ho' pins s4 σ H4 y z' u w' Q I4 r2 r4 q4))
theorem line63 : (sizeLine : Nat) < 2 ^ 63 := by rw [sizeLine_eq]; decide
theorem vals1 {x : V} {us : List Value} (r : Vals [x] us) : ∃ u, us = [u] ∧ RelV x u := by
  cases r with
  | cons r1 r2 => cases r2; exact ⟨_, rfl, r1⟩
theorem vals2 {x y : V} {us : List Value} (r : Vals [x, y] us) : ∃ u w', us = [u, w'] ∧ RelV x u ∧ RelV y w' := by
  cases r with
  | cons r1 r2 =>
    cases r2 with
    | cons r3 r4 => cases r4; exact ⟨_, _, rfl, r1, r3⟩
theorem call_abs : CallR X (.builtin "abs") (fun xs H Q => ∃ i, xs = [.int i] ∧ Q (.int (if i < 0 then -i else i)) H) := by
  intro pins s σ H xs us Q I r h
  obtain ⟨i, rfl, q⟩ := h
  obtain ⟨u, rfl, t, rfl⟩ := vals1 r
  exact call_abs_int fun u tk => ⟨.int (if i < 0 then -i else i), H, I.tok _, ⟨_, rfl⟩, q⟩
theorem call_max2 (hc : X.calm = true) : CallR X (.builtin "max") (fun xs H Q => ∃ i j, xs = [.int i, .int j] ∧ Q (.int (if j > i then j else i)) H) := by
  intro pins s σ H xs us Q I r h
  obtain ⟨i, j, rfl, q⟩ := h
  obtain ⟨u, w', rfl, ⟨t, rfl⟩, ⟨t', rfl⟩⟩ := vals2 r
  refine max_two_ints (I.ok.hd hc) fun h' tk k => ⟨_, H, I.kept k, ?_, q⟩
  by_cases hj : j > i
  · rw [if_pos hj, if_pos hj]; exact ⟨_, rfl⟩
  · rw [if_neg hj, if_neg hj]; exact ⟨_, rfl⟩
theorem call_min2 (hc : X.calm = true) : CallR X (.builtin "min") (fun xs H Q => ∃ i j, xs = [.int i, .int j] ∧ Q (.int (if j < i then j else i)) H) := by
  intro pins s σ H xs us Q I r h
  obtain ⟨i, j, rfl, q⟩ := h
  obtain ⟨u, w', rfl, ⟨t, rfl⟩, ⟨t', rfl⟩⟩ := vals2 r
  refine min_two_ints (I.ok.hd hc) fun h' tk k => ⟨_, H, I.kept k, ?_, q⟩
  by_cases hj : j < i
  · rw [if_pos hj, if_pos hj]; exact ⟨_, rfl⟩
  · rw [if_neg hj, if_neg hj]; exact ⟨_, rfl⟩
theorem call_int1 : CallR X (.type "int") (fun xs H Q => (∃ i, xs = [.int i] ∧ Q (.int i) H) ∨ ∃ k, xs = [.bl k] ∧ Q (.int (if k then 1 else 0)) H) := by
  intro pins s σ H xs us Q I r h
  rcases h with ⟨i, rfl, q⟩ | ⟨k, rfl, q⟩
  · obtain ⟨u, rfl, t, rfl⟩ := vals1 r
    exact call_int_int ⟨.int i, H, I, ⟨_, rfl⟩, q⟩
  · obtain ⟨u, rfl, r1⟩ := vals1 r
    cases r1
    exact call_int_bool ⟨.int (if k then 1 else 0), H, I.tok _, ⟨_, rfl⟩, q⟩
end
end L2
namespace L2
open PySem PySem.Spec PyProof.Rows
structure ObjM (h : Heap) (x dx C : Addr) (mA : Str → Option Value) : Prop where
  obj : h.get? x = some (PySem.W.instObj C dx)
  ns : h.Ns1 dx mA
  ne : dx ≠ x
theorem lookIn_ns {h : Heap} {dx : Addr} {mA : Str → Option Value} (n : h.Ns1 dx mA) : ∃ od, h.get? dx = some od ∧ ∀ name, PySem.W.lookIn name od = some (mA name) := by
  obtain ⟨o, es, ep, ho, hd, hk, _, hm⟩ := n
  refine ⟨o, ho, fun name => ?_⟩
  have e := hm name
  unfold nsFind findBy at e
  rw [← Array.find?_toList] at e
  unfold PySem.W.lookIn
  rw [hd]
  dsimp only
  split
  · rename_i y q
    rw [q] at e
    exact congrArg some e
  · rename_i q
    rw [q] at e
    have a : es.toList.any (·.refKey) = false := by
      rw [List.any_eq_false]
      intro y hy
      obtain ⟨z, t, hkey⟩ := hk y (Array.mem_toList_iff.mp hy)
      simp [DictEntry.refKey, hkey]
    have a' : ¬ es.toList.any (·.refKey) = true := by rw [a]; exact Bool.false_ne_true
    rw [if_neg a']
    exact congrArg some e
theorem ObjM.look {h : Heap} {x dx C : Addr} {mA : Str → Option Value} (I : ObjM h x dx C mA) : ∃ od, PySem.W.InstAt h x (PySem.W.instObj C dx) C (some od) ∧ ∀ name, PySem.W.lookIn name od = some (mA name) :=
  let ⟨od, ho, hl⟩ := lookIn_ns I.ns
  ⟨od, ⟨I.obj, rfl, rfl, ho⟩, hl⟩
section
variable {prog : Program} {w : World} {A : Around} {E : Value → Shared → Prop} {s : Shared} {K : PySem.W.Frag} {x dx C f : Addr} {mA : Str → Option Value} {name : Str} {v : Value}
end
section
variable {P : Program} {w : World} {H H' : Hp} {h h' : Heap} {a C dx : Addr} {fs fs' : List (Str × V)}
theorem ins_get (hok : HOk P w H h) (e : H a = some (.ins C dx fs)) : ∃ mA, ObjM h a dx C mA ∧ (∀ f, RelO (fs.lookup f) (mA f)) ∧ PySem.Within mA (fs.map (·.1)) ∧ fs.length ≤ 1000 ∧ H dx = some (.own a) := by
  obtain ⟨d, z, ne, ob, mA, n, r, q⟩ := (show ObjOk P w H h a (.ins C dx fs) from hok a _ e)
  exact ⟨mA, ⟨ob, n, ne⟩, r, q, z, d⟩
end
structure Cls (K : PySem.W.Frag) (C : Addr) : Prop where
  pg : PySem.W.plainGet K C Str.empty = true
  hd : PySem.W.hasDictIn K C = true
  po : PySem.W.plainOver K C = true
  sa : PySem.W.findIn K (.ref C) "__setattr__" = some (some (.builtin "object.__setattr__"))
theorem Cls.get {K : PySem.W.Frag} {C : Addr} (c : Cls K C) (f : Str) : PySem.W.plainGet K C f = true := c.pg
section
variable {X : Cx} {pins : List (Addr × Obj)} {σ : St} {H : Hp} {s : Shared} {a C dx : Addr} {fs : List (Str × V)} {f : Str} {v : V} {A : Around} {E : Value → Shared → Prop}
theorem Inv.made (I : Inv X pins σ H s) : Inv X pins σ (upd (upd H s.heap.objs.size (.own (s.heap.objs.size + 1))) (s.heap.objs.size + 1) (.ins C s.heap.objs.size []))
    { s with heap := (s.heap.push PySem.W.emptyDict).push (PySem.W.instObj C s.heap.objs.size) } := by
  have e1 : (s.heap.push PySem.W.emptyDict).get? s.heap.objs.size = some PySem.W.emptyDict := Heap.get?_push_size s.heap rfl
  have e2 : ((s.heap.push PySem.W.emptyDict).push (PySem.W.instObj C s.heap.objs.size)).get? (s.heap.objs.size + 1) = some (PySem.W.instObj C s.heap.objs.size) := by
    have := Heap.get?_push_size (s.heap.push PySem.W.emptyDict) (o := PySem.W.instObj C s.heap.objs.size) rfl
    rwa [Heap.size_push] at this
  have e3 : (s.heap.push PySem.W.emptyDict).Ns s.heap.objs.size (fun _ => none) := ⟨PySem.W.emptyDict, #[], _, e1, rfl, (fun e he => absurd he (by simp)), fun _ => rfl⟩
  have I1 := I.laid (a := s.heap.objs.size) (o := .own (s.heap.objs.size + 1)) (h' := s.heap.push PySem.W.emptyDict) (t' := s.toks) (fun b u q => Heap.get?_push_of_some _ q) (Nat.le_refl _) ⟨_, e1⟩
  refine I1.laid (a := s.heap.objs.size + 1) (o := .ins C s.heap.objs.size []) (t' := s.toks) (fun b u q => Heap.get?_push_of_some _ q) (Nat.le_of_eq (Heap.size_push _ _)) ?_
  have ne : s.heap.objs.size ≠ s.heap.objs.size + 1 := Nat.ne_of_lt (Nat.lt_succ_self _)
  refine ⟨by rw [upd_ne ne, upd_same], Nat.zero_le _, ne, e2, fun _ => none, (Heap.Ns1.of_empty e3).at fun o q => Heap.get?_push_of_some _ q, fun _ => True.intro, fun y hy => absurd rfl hy⟩
end
section
variable {X : Cx} {o e value : Expr} {f : Str} {pos pos' tpos : Pos} {ta tv : TE}
end
section
variable {X : Cx} {pins : List (Addr × Obj)} {σ : St} {H : Hp} {s : Shared} {A : Around} {E : Value → Shared → Prop} {Q : Value → Shared → Prop} {c : Value} {b : Bool}
inductive TyOf (K : PySem.W.Frag) (H : Hp) : V → Value → Prop where
  | non : TyOf K H .non (.type "NoneType")
  | bl (x : Bool) : TyOf K H (.bl x) (.type "bool")
  | int (i : Int) : TyOf K H (.int i) (.type "int")
  | str (x : Str) : TyOf K H (.str x) (.type "str")
  | flt (x : UInt64) : TyOf K H (.flt x) (.type "float")
  | lst {a : Addr} {xs : List V} (e : H a = some (.lst xs)) : TyOf K H (.ref a) (.type "list")
  | frz {a : Addr} {o : Obj} {xs : List V} (e : H a = some (.frz o (.lst xs))) : TyOf K H (.ref a) (.type "list")
  | tup {a : Addr} {xs : List V} (e : H a = some (.tup xs)) : TyOf K H (.ref a) (.type "tuple")
  | dK {a : Addr} {kvs : List (Key × V)} (e : H a = some (.dK kvs)) : TyOf K H (.ref a) (.type "dict")
  | dT {a : Addr} {kvs : List (List Key × V)} (e : H a = some (.dT kvs)) : TyOf K H (.ref a) (.type "dict")
  | ins {a C dx : Addr} {fs : List (Str × V)} (e : H a = some (.ins C dx fs)) (cl : Cls K C) (ha : PySem.W.findIn K (.ref C) "__class__" = some (some (.builtin "object.__class__")))
      (hn : PySem.W.specialIn K (.builtin "object.__class__") "__get__" = some (some (.builtin "getset_descriptor.__get__"))) (htk : PySem.W.takesIn K (.builtin "object.__class__") = some true)
      (hm : PySem.W.mroIn K C (.type "object") = some true) : TyOf K H (.ref a) (.ref C)
theorem isinst_ok {x : V} {u t : Value} (I : Inv X pins σ H s) (rx : RelV x u) (ty : TyOf X.K H x t) (e : PySem.W.kitOne X.K t c = some b) (h : ∀ tk, Q (.bool b) { s with toks := tk }) :
    wpAny (model X.prog X.w) A (call (.builtin "isinstance") [u, c]) Q E s := by
  cases ty with
  | non => cases (show u = Value.none from rx); exact PySem.W.kia_one PySem.W.kitx_none I.kIn True.intro e (fun z => nomatch z) h
  | bl y => cases (show u = Value.bool y from rx); exact PySem.W.kia_one PySem.W.kitx_bool I.kIn True.intro e (fun z => nomatch z) h
  | int i => obtain ⟨t, q⟩ := (show ∃ t, u = Value.int i t from rx); cases q; exact PySem.W.kia_one PySem.W.kitx_int I.kIn True.intro e (fun z => nomatch z) h
  | str y => obtain ⟨t, q⟩ := (show ∃ t, u = Value.str y t from rx); cases q; exact PySem.W.kia_one PySem.W.kitx_str I.kIn True.intro e (fun z => nomatch z) h
  | flt y => obtain ⟨t, q⟩ := (show ∃ t, u = Value.float y t from rx); cases q; exact PySem.W.kia_one PySem.W.kitx_float I.kIn True.intro e (fun z => nomatch z) h
  | @lst a xs ea =>
    cases (show u = Value.ref a from rx)
    obtain ⟨_, _, n, _, h1⟩ := (show ObjOk X.prog X.w H s.heap a (.lst xs) from I.hok a _ ea)
    exact PySem.W.kia_one PySem.W.kitx_list I.kIn ⟨_, h1, rfl⟩ e (fun z => nomatch z) h
  | @frz a ob xs ea =>
    cases (show u = Value.ref a from rx)
    obtain ⟨_, _, _, n, _, h1⟩ := (show ObjOk X.prog X.w H s.heap a (.frz ob (.lst xs)) from I.hok a _ ea)
    exact PySem.W.kia_one PySem.W.kitx_list I.kIn ⟨_, h1, rfl⟩ e (fun z => nomatch z) h
  | @tup a xs ea =>
    cases (show u = Value.ref a from rx)
    obtain ⟨_, _, _, p⟩ := (show ObjOk X.prog X.w H s.heap a (.tup xs) from I.hok a _ ea)
    obtain ⟨o, h1, h2, _⟩ := p
    exact PySem.W.kia_one PySem.W.kitx_tuple I.kIn ⟨o, h1, h2⟩ e (fun z => nomatch z) h
  | @dK a kvs ea =>
    cases (show u = Value.ref a from rx)
    obtain ⟨_, _, vs, _, p⟩ := (show ObjOk X.prog X.w H s.heap a (.dK kvs) from I.hok a _ ea)
    obtain ⟨o, es, ep, h1, h2, _⟩ := p
    exact PySem.W.kia_one PySem.W.kitx_dict I.kIn ⟨o, h1, h2.1⟩ e (fun z => nomatch z) h
  | @dT a kvs ea =>
    cases (show u = Value.ref a from rx)
    obtain ⟨_, _, xs, _, o, es, ep, h1, h2, _⟩ := (show ObjOk X.prog X.w H s.heap a (.dT kvs) from I.hok a _ ea)
    exact PySem.W.kia_one PySem.W.kitx_dict I.kIn ⟨o, h1, h2.1⟩ e (fun z => nomatch z) h
  | @ins a C dx fs ea cl ha hn htk hm =>
    cases (show u = Value.ref a from rx)
    obtain ⟨mA, O, _⟩ := ins_get I.hok ea
    obtain ⟨od, J, _⟩ := O.look
    exact PySem.W.kia_one (PySem.W.kitx_own (cl.get _) cl.hd ha hn htk hm) I.kIn J e (fun z => nomatch z) h
end
end L2
namespace L2
open PySem PySem.Spec PyProof.Rows
structure Room (k : Nat) (A : Around) : Prop where
  hd : A.handled = none
  dp : A.depth + 3 * k + 5 < recursionLimit
  un : A.units + 16 * k + 200 < cLine
  gd : A.guards = some []
theorem Room.mono {j k : Nat} {A : Around} (r : Room k A) (h : j ≤ k) : Room j A := ⟨r.hd, by have := r.dp; omega, by have := r.un; omega, r.gd⟩
theorem Room.deeper {k : Nat} {A : Around} (r : Room (k + 1) A) (env : Env) : Room k (A.deeper env) :=
  ⟨r.hd, by have := r.dp; show A.depth + 1 + 3 * k + 5 < _; omega, by have := r.un; show A.units + 3 + 16 * k + 200 < _; omega, r.gd⟩
theorem Room.in1 {k : Nat} {A : Around} (r : Room (k + 1) A) : Room k A.in1 :=
  ⟨r.hd, by have := r.dp; show A.depth + 3 * k + 5 < _; omega, by have := r.un; show A.units + 1 + 16 * k + 200 < _; omega, r.gd⟩
theorem Room.depth {k : Nat} {A : Around} (r : Room k A) : A.depth < recursionLimit := by have := r.dp; omega
theorem Room.units {k : Nat} {A : Around} (r : Room k A) : A.units + 64 < cLine := by have := r.un; omega
theorem Room.units0 {k : Nat} {A : Around} (r : Room k A) : A.units < cLine := by have := r.un; omega
def tNil : TA := fun _ H Q => Q [] H
def tCons (ta : TE) (tr : TA) : TA := fun σ H Q => ta σ H fun x H1 => tr σ H1 fun xs H2 => Q (x :: xs) H2
section
variable {X : Cx} {e : Expr} {es : List Expr} {te : TE} {t : TA} {pos : Pos}
theorem pa_nil : PA X [] tNil := fun _ _ _ _ H Q I h => Calls.spliced_nil ⟨[], H, I, .nil, h⟩
theorem pa_cons (ha : PE X e te) (hr : PA X es t) (hs : starEach (e :: es) X.env = (false, eval e X.env) :: starEach es X.env := by rfl) : PA X (e :: es) (tCons te t) := by
  intro pos pins s σ H Q I h
  rw [hs]
  show wpAny _ _ (spliced ((false, eval e X.env) :: backTo pos (starEach es X.env))) _ _ s
  refine Calls.spliced_cons (thn (ha pins s σ H _ I h) fun u s1 ⟨x, H1, I1, r1, q1⟩ => ?_)
  exact thn (hr pos pins s1 σ H1 _ I1 q1) fun us s2 ⟨xs, H2, I2, r2, q2⟩ => ⟨x :: xs, H2, I2, .cons r1 r2, q2⟩
def tTup (t : TA) : TE := fun σ H Q => t σ H fun xs H1 => xs.length ≤ sizeLine ∧ ∀ p, H1 p = none → Q (.ref p) (upd H1 p (.tup xs))
def tLst (t : TA) : TE := fun σ H Q => t σ H fun xs H1 => xs.length ≤ sizeLine ∧ ∀ p, H1 p = none → Q (.ref p) (upd H1 p (.lst xs))
theorem pe_tup {x1} (h : PA X es t) : PE X (.Tuple es x1 pos) (tTup t) := by
  intro pins s σ H Q I hq
  refine wpAny_Tuple_spliced (thn (h pos pins s σ H _ I hq) fun us s1 ⟨xs, H1, I1, r, z, q⟩ => ⟨by rw [← r.length]; exact z, ?_⟩)
  have hf : H1 s1.heap.objs.size = none := I1.hok.fresh (Nat.le_refl _)
  refine ⟨.ref s1.heap.objs.size, upd H1 s1.heap.objs.size (.tup xs), I1.laid (t' := s1.toks) (fun b u e => Heap.get?_push_of_some _ e) (Nat.le_refl _) ?_, rfl, q _ hf⟩
  exact ⟨z, us, r, ⟨_, Heap.get?_push_size _ rfl, rfl, _, rfl⟩⟩
theorem pe_lst (h : PA X es t) : PE X (.List es pos) (tLst t) := by
  intro pins s σ H Q I hq
  refine wpAny_List_spliced (thn (h pos pins s σ H _ I hq) fun us s1 ⟨xs, H1, I1, r, z, q⟩ => ⟨by rw [← r.length]; exact z, ?_⟩)
  have hf : H1 s1.heap.objs.size = none := I1.hok.fresh (Nat.le_refl _)
  refine ⟨.ref s1.heap.objs.size, upd H1 s1.heap.objs.size (.lst xs), I1.laid (t' := s1.toks) (fun b u e => Heap.get?_push_of_some _ e) (Nat.le_refl _) ?_, rfl, q _ hf⟩
  exact ⟨z, us, 0, r, Heap.get?_push_size _ rfl⟩
end
abbrev Sp := List V → Hp → VK → XK → Prop
abbrev CXT := List Env → Hp → Shared → XK → Value → Shared → Prop
structure Env0 (P : Program) (w : World) (K : PySem.W.Frag) (mg : Str → Option Value) (base : Heap) (A : Around) (outer : List Env) (s : Shared) (H : Hp) : Prop where
  frames : A.frames = some outer
  mod : Mod K mg base
  bs : ∀ b o, base.get? b = some o → s.heap.get? b = some o ∧ H b = none
  bsz : base.objs.size ≤ s.heap.objs.size
  funs : s.heap.FunFrames base outer
  frf : ∀ b ∈ frs outer, H b = none
  hok : HOk P w H s.heap
  bare : AllBare s.gens
def CE (outer : List Env) (P : Program) (w : World) (H : Hp) (s : Shared) (Q : VK) (u : Value) (s' : Shared) : Prop :=
  ∃ v H', s'.os = s.os ∧ AllBare s'.gens ∧ Un (frs outer) [] H H' s.heap s'.heap ∧ HOk P w H' s'.heap ∧ RelV v u ∧ Q v H'
def CR (CX : CXT) (outer : List Env) (P : Program) (w : World) (H : Hp) (s : Shared) (Q : VK) (E : XK) (r : Result) (s' : Shared) : Prop :=
  match r with
  | .ok (.ret u) => CE outer P w H s Q u s'
  | .ok _ => False
  | .error e => CX outer H s E e s'
structure FnOk (P : Program) (w : World) (K : PySem.W.Frag) (mg : Str → Option Value) (base : Heap) (CX : CXT) (k : Nat) (f : Addr) (fd : FuncData) (ps : List Str) (sp : Sp) : Prop where
  len : ∀ vs H Q E, sp vs H Q E → vs.length = ps.length
  run : ∀ (A : Around) (outer : List Env) (s : Shared) (H : Hp) (args : Args) (us : List Value) (vs : List V) (Q : VK) (E : XK), Room k A → Env0 P w K mg base A outer s H → BindsTo s fd args (ps.zip us) → Vals vs us → sp vs H Q E →
    codeAny (model P w) A (.call (.ref f) args) (CR CX outer P w H s Q E) s
theorem FnOk.mono {P : Program} {w : World} {K : PySem.W.Frag} {mg : Str → Option Value} {base : Heap} {CX : CXT} {j k : Nat} {f : Addr} {fd : FuncData} {ps : List Str} {sp : Sp} (F : FnOk P w K mg base CX j f fd ps sp) (h : j ≤ k) :
    FnOk P w K mg base CX k f fd ps sp := ⟨F.len, fun A outer s H args us vs Q E hr => F.run A outer s H args us vs Q E (hr.mono h)⟩
theorem FnOk.imp {P : Program} {w : World} {K : PySem.W.Frag} {mg : Str → Option Value} {base : Heap} {CX : CXT} {k : Nat} {f : Addr} {fd : FuncData} {ps : List Str} {sp sp' : Sp} (F : FnOk P w K mg base CX k f fd ps sp)
    (h : ∀ vs H Q E, sp' vs H Q E → sp vs H Q E) : FnOk P w K mg base CX k f fd ps sp' :=
  ⟨fun vs H Q E q => F.len vs H Q E (h _ _ _ _ q), fun A outer s H args us vs Q E hr he hb hv hs => F.run A outer s H args us vs Q E hr he hb hv (h _ _ _ _ hs)⟩
theorem Env0.in1 {P : Program} {w : World} {K : PySem.W.Frag} {mg : Str → Option Value} {base : Heap} {A : Around} {outer : List Env} {s : Shared} {H : Hp} (e : Env0 P w K mg base A outer s H) :
    Env0 P w K mg base A.in1 outer s H := ⟨e.frames, e.mod, e.bs, e.bsz, e.funs, e.frf, e.hok, e.bare⟩
section
variable {X : Cx} {pins : List (Addr × Obj)} {σ : St} {H : Hp} {s s' : Shared}
theorem Inv.env0 (I : Inv X pins σ H s) : Env0 X.prog X.w X.K X.mg X.base X.A X.stack s H :=
  ⟨I.ok.frames, I.ok.mod, I.bs, Nat.le_trans I.ok.bsz I.sz, I.stack, I.stkFree, I.hok, I.bare⟩
theorem Inv.after {Q : VK} {u : Value} (I : Inv X pins σ H s) (h : CE X.stack X.prog X.w H s Q u s') : EP X pins σ Q u s' := by
  obtain ⟨v, H', os, bare, un, hok, r, q⟩ := h
  obtain ⟨hh, g, d, t, os'⟩ := s'
  obtain rfl : os' = s.os := os
  exact ⟨v, H', I.call (h' := hh) (g' := g) (d' := d) (t' := t) (ch := []) un hok bare (fun b z => absurd z (by simp)), r, q⟩
end
def tCall (sp : Sp) (dvs : List V) (E : XK) (t : TA) : TE := fun σ H Q => t σ H fun vs H1 => sp (vs ++ dvs) H1 Q E
def Binds (K : PySem.W.Frag) (fd : FuncData) (ps : List Str) (ds : List Value) : Prop :=
  ∀ (s : Shared) (us : List Value), K.In s.heap → (us ++ ds).length = ps.length → BindsTo s fd ⟨us, []⟩ (ps.zip (us ++ ds))
theorem Binds.all {K : PySem.W.Frag} {fd : FuncData} {ps : List Str} (h : ∀ us : List Value, us.length = ps.length → bindArgs fd ⟨us, []⟩ = pure (ps.zip us)) : Binds K fd ps [] := fun s us _ hl => by
  rw [List.append_nil] at hl ⊢
  exact .of_eq (h us hl)
def Passes (CX : CXT) (X : Cx) (E : XK) : Prop := ∀ (pins : List (Addr × Obj)) (σ : St) (H : Hp) (s : Shared) (e : Value) (s' : Shared), Inv X pins σ H s → CX X.stack H s E e s' → X.xe e s'
section
variable {X : Cx} {CX : CXT} {k : Nat} {f C : Addr} {fd : FuncData} {ps : List Str} {sp : Sp} {dvs : List V} {ds : List Value} {E : XK} {x m : Str} {p pos apos : Pos} {e o : Expr} {es : List Expr} {ta : TE} {t : TA}
theorem run_fn {pins : List (Addr × Obj)} {σ : St} {H : Hp} {s : Shared} {Q : VK} {us : List Value} {vs : List V} (F : FnOk X.prog X.w X.K X.mg X.base CX k f fd ps sp) (hr : Room k X.A) (hb : Binds X.K fd ps ds) (hd : Vals dvs ds) (hx : Passes CX X E)
    (I : Inv X pins σ H s) (r : Vals vs us) (h : sp (vs ++ dvs) H Q E) : wpAny (model X.prog X.w) X.A (call (.ref f) us) (EP X pins σ Q) X.xe s := by
  have r2 : Vals (vs ++ dvs) (us ++ ds) := r.append hd
  have hl : (us ++ ds).length = ps.length := by rw [← r2.length]; exact F.len _ _ _ _ h
  refine wpAny_call (codeAny_mono (F.run X.A X.stack s H ⟨us, []⟩ (us ++ ds) (vs ++ dvs) Q E hr I.env0 (hb s us I.kIn hl) r2 h) fun r s' hq => ?_)
  cases r with
  | error e => exact hx pins σ H s e s' I hq
  | ok fl =>
    cases fl with
    | ret u => exact I.after hq
    | next => exact False.elim hq
    | brk => exact False.elim hq
    | cont => exact False.elim hq
theorem pe_call (F : FnOk X.prog X.w X.K X.mg X.base CX k f fd ps sp) (hr : Room k X.A) (hg : Gl X x) (hm : X.mg x = some (.ref f)) (hk : PySem.W.keepIn X.K (.ref f) = true) (hb : Binds X.K fd ps ds) (hd : Vals dvs ds) (hx : Passes CX X E)
    (ha : PA X (e :: es) t) (hdb : (x == ("__debug__" : Str)) = false := by decide) (he : starEach (e :: es) X.env = (false, eval e X.env) :: starEach es X.env := by rfl) (hpl : (backTo pos (starEach es X.env)).any (·.1) = false := by rfl) :
    PE X (.Call (.Name x p) (e :: es) [] pos) (tCall sp dvs E t) := by
  intro pins s σ H Q I h
  refine wpAny_Call_Name_kw (ld_glob I hg hm ?_ hdb)
  refine PySem.W.callWith_K (h₀ := X.base) I.ok.mod.kin hk (thn (ha pos pins s σ H _ I h) fun us s1 ⟨vs, H1, I1, r, q⟩ => ⟨I1.kIn, ?_⟩) he hpl
  exact run_fn F hr hb hd hx I1 r q
end
section
variable {X : Cx} {CX : CXT} {k : Nat} {f C : Addr} {fd : FuncData} {ps ks : List Str} {sp : Sp} {E : XK} {x m : Str} {p pos apos kpos : Pos} {e o : Expr} {es : List Expr} {kws : List Keyword} {te ta : TE} {t tk : TA} {nm : Option Str}
variable {g : List Value → List Value → List Value} {gV : List V → List V → List V}
end
structure FnScope (N P : List Str) (sc : Scope) : Prop where
  kind : sc.kind = .function
  co : sc.isCoroutine = false
  gen : sc.isGenerator = false
  nd : N.Nodup
  pre : N.take P.length = P
  par : ∀ x ∈ P, sc.names.lookup x = some .local ∨ sc.names.lookup x = some .cell
  nofree : ∀ y ∈ sc.names, y.2 ≠ .free
theorem bindL_out {kindOf : Str → Option NameKind} {x : Str} : ∀ {binds : List (Str × Value)} {m : Str → Option Value}, (∀ v, (x, v) ∉ binds) → bindL kindOf binds m x = m x
  | [], _, _ => rfl
  | (n, v) :: r, m, h => by
    unfold bindL
    rw [bindL_out fun w hw => h w (List.mem_cons_of_mem _ hw)]
    split
    · have : x ≠ n := by rintro rfl; exact h v List.mem_cons_self
      simp [this]
    · rfl
theorem bindC_out {kindOf : Str → Option NameKind} {x : Str} : ∀ {binds : List (Str × Value)} {m : Str → Option Value}, (∀ v, (x, v) ∉ binds) → bindC kindOf binds m x = m x
  | [], _, _ => rfl
  | (n, v) :: r, m, h => by
    unfold bindC
    rw [bindC_out fun w hw => h w (List.mem_cons_of_mem _ hw)]
    split
    · rfl
    · have : x ≠ n := by rintro rfl; exact h v List.mem_cons_self
      simp [this]
theorem bindL_get {kindOf : Str → Option NameKind} {x : Str} {v : Value} : ∀ {P : List Str} {vs : List Value} {i : Nat} {m : Str → Option Value}, P.Nodup → P[i]? = some x → vs[i]? = some v → kindOf x = some .local →
    bindL kindOf (P.zip vs) m x = some v
  | [], _, _, _, _, h, _, _ => by simp at h
  | _ :: _, [], _, _, _, _, h, _ => by simp at h
  | p :: P, w :: vs, 0, m, nd, h1, h2, hk => by
    simp at h1 h2; subst h1; subst h2
    show bindL kindOf ((p, w) :: P.zip vs) m p = _
    unfold bindL
    rw [bindL_out fun v hv => (List.nodup_cons.mp nd).1 (List.of_mem_zip hv).1, if_pos hk]
    simp
  | p :: P, w :: vs, i + 1, m, nd, h1, h2, hk => by
    show bindL kindOf ((p, w) :: P.zip vs) m x = _
    unfold bindL
    exact bindL_get (i := i) (List.nodup_cons.mp nd).2 (by simpa using h1) (by simpa using h2) hk
theorem bindC_get {kindOf : Str → Option NameKind} {x : Str} {v : Value} : ∀ {P : List Str} {vs : List Value} {i : Nat} {m : Str → Option Value}, P.Nodup → P[i]? = some x → vs[i]? = some v → kindOf x ≠ some .local →
    bindC kindOf (P.zip vs) m x = some v
  | [], _, _, _, _, h, _, _ => by simp at h
  | _ :: _, [], _, _, _, _, h, _ => by simp at h
  | p :: P, w :: vs, 0, m, nd, h1, h2, hk => by
    simp at h1 h2; subst h1; subst h2
    show bindC kindOf ((p, w) :: P.zip vs) m p = _
    unfold bindC
    rw [bindC_out fun v hv => (List.nodup_cons.mp nd).1 (List.of_mem_zip hv).1, if_neg hk]
    simp
  | p :: P, w :: vs, i + 1, m, nd, h1, h2, hk => by
    show bindC kindOf ((p, w) :: P.zip vs) m x = _
    unfold bindC
    exact bindC_get (i := i) (List.nodup_cons.mp nd).2 (by simpa using h1) (by simpa using h2) hk
def start (N : List Str) (vs : List V) : St := vs.map some ++ List.replicate (N.length - vs.length) none
def cxOf (CX : CXT) (P : Program) (w : World) (K : PySem.W.Frag) (mg : Str → Option Value) (base : Heap) (N : List Str) (qual : Str) (scope : Scope) (f : Addr) (cd : Value) (A : Around) (outer : List Env) (s : Shared) (H : Hp) (E : XK) : Cx where
  prog := P
  w := w
  K := K
  mg := mg
  base := base
  A := A.deeper (envOfC qual scope s.heap.objs.size f cd)
  N := N
  s₀ := s
  H₀ := H
  env := envOfC qual scope s.heap.objs.size f cd
  outer := outer
  stack := envOfC qual scope s.heap.objs.size f cd :: outer
  ex := []
  calm := true
  fn := fun _ => true
  pn := []
  xe := fun e s' => wpAny (model P w) (A.deeper (envOfC qual scope s.heap.objs.size f cd)) (leaving (envOfC qual scope s.heap.objs.size f cd) e) (fun _ s'' => CX outer H s E e s'') (fun e' s'' => CX outer H s E e' s'') s'
theorem cell_has {sc : Scope} {n : Nat} {x : Str} (h : sc.names.lookup x = some .cell) : ∃ c, (cellsFrom n sc.names []).lookup x = some c := by
  have q := PySem.W.cellsFrom_some sc.names n [] (.inl h)
  exact Option.isSome_iff_exists.mp q
theorem inv_start {CX : CXT} {P : Program} {w : World} {K : PySem.W.Frag} {mg : Str → Option Value} {base : Heap} {N ps : List Str} {qual : Str} {scope : Scope} {f : Addr} {cd : Value} {A : Around} {outer : List Env} {s s1 : Shared} {H : Hp} {E : XK} {us : List Value} {vs : List V}
    (S : FnScope N ps scope) (hd : A.handled = none) (e0 : Env0 P w K mg base A outer s H) (hl : vs.length = ps.length) (r : Vals vs us)
    (x : InCallC s s.heap.objs.size (bindL (envOfC qual scope s.heap.objs.size f cd).kindOf (ps.zip us) fun _ => none) (cellsFrom (s.heap.objs.size + 1) scope.names []) (bindC (envOfC qual scope s.heap.objs.size f cd).kindOf (ps.zip us) fun _ => none) s1) :
    Inv (cxOf CX P w K mg base N qual scope f cd A outer s H E) [] (start N vs) H s1 := by
  have hpl : ps.length ≤ N.length := by have := congrArg List.length S.pre; rw [List.length_take] at this; omega
  obtain ⟨h1, tk, rfl, hk⟩ := x.done
  have noA : ∀ b : Addr, b ∉ (cxOf CX P w K mg base N qual scope f cd A outer s H E).ex := fun b z => absurd (show b ∈ ([] : List Addr) from z) (by simp)
  refine ⟨⟨e0.mod, S.kind, rfl, rfl, Nat.le_refl _, fun y z c h1 h2 => ?_, fun y hy => ?_, fun y c _ h => ?_, fun _ => hd, Around.frames_deeper e0.frames, .inr ⟨rfl, rfl⟩, fun b z => absurd z (noA b), e0.bs, e0.bsz, fun b _ _ => noA b, fun b z => absurd z (noA b), e0.funs, e0.frf⟩,
    rfl, e0.bare, Un.kept hk, ⟨_, x.toInCall.ns, fun i y v h1 h2 h3 => ?_⟩, fun y c h => ⟨_, x.cell y c h⟩, e0.hok.fresh (Nat.le_refl _), fun y c h => ?_, fun p hp => absurd (show p ∈ ([] : List (Addr × Obj)) from hp) (by simp), e0.hok.kept hk, ?_⟩
  · exact name_of_addr x.apart (PySem.mem_of_lookup h1) (PySem.mem_of_lookup h2)
  · have hy : scope.names.lookup y = some .cell ∨ scope.names.lookup y = some .free := hy
    rcases hy with hy | hy
    · exact cell_has hy
    · exact absurd rfl (S.nofree _ (PySem.mem_of_lookup hy))
  · exact Nat.le_of_lt (x.above y c (PySem.mem_of_lookup h))
  · have hi : i < vs.length := by
      unfold start at h2
      by_cases hi : i < vs.length
      · exact hi
      · rw [List.getElem?_append_right (by simpa using hi)] at h2
        rw [List.getElem?_replicate] at h2
        split at h2 <;> cases h2
    have ha : vs[i]? = some v := by
      unfold start at h2
      rw [List.getElem?_append_left (by simpa using hi), List.getElem?_map] at h2
      cases e : vs[i]? with
      | none => rw [e] at h2; cases h2
      | some a => rw [e] at h2; cases h2; rfl
    obtain ⟨u, hu, rv⟩ := r.get ha
    have hp : ps[i]? = some y := by
      rw [← S.pre, List.getElem?_take_of_lt (by omega)]; exact h1
    have ndP : ps.Nodup := by rw [← S.pre]; exact S.nd.sublist (List.take_sublist _ _)
    refine ⟨u, rv, ?_⟩
    rcases S.par y (List.mem_of_getElem? hp) with k | k
    · exact .inl ⟨k, bindL_get ndP hp hu k⟩
    · obtain ⟨c, e⟩ := cell_has (n := s.heap.objs.size + 1) k
      refine .inr ⟨.inl k, c, e, ?_⟩
      have q := x.cell y c e
      rw [bindC_get ndP hp hu (by show scope.names.lookup y ≠ _; rw [k]; decide)] at q
      exact q
  · exact e0.hok.fresh (Nat.le_of_lt (x.above y c (PySem.mem_of_lookup h)))
  · unfold start
    show _ = N.length
    rw [List.length_append, List.length_map, List.length_replicate]
    omega
theorem fn_of {CX : CXT} {P : Program} {w : World} {K : PySem.W.Frag} {mg : Str → Option Value} {base : Heap} {k : Nat} {f : Addr} {name qual : Str} {params : Arguments} {body : List Stmt} {scope : Scope} {dV kV doc pm cdv ct oc : Value} {an od : Option Addr}
    {osl : Array (Option Value)} {N ps : List Str} {sp : Sp} (lk : K.lookup f = some ⟨oc, od, .func (PySem.W.fnOf name qual params body scope dV kV doc pm an cdv ct), osl⟩) (hcd : PySem.W.codeIn K cdv qual = true) (S : FnScope N ps scope)
    (len : ∀ vs H Q E, sp vs H Q E → vs.length = ps.length)
    (hbody : ∀ (A : Around) (outer : List Env) (s : Shared) (H : Hp) (vs : List V) (Q : VK) (E : XK), Room k (A.deeper (envOfC qual scope s.heap.objs.size f cdv)) → sp vs H Q E →
      ∃ t, PSs (cxOf CX P w K mg base N qual scope f cdv A outer s H E) body t ∧ t { nx := fun _ H' => Q .non H', rt := Q } (start N vs) H) :
    FnOk P w K mg base CX (k + 1) f (PySem.W.fnOf name qual params body scope dV kV doc pm an cdv ct) ps sp := by
  refine ⟨len, fun A outer s H args us vs Q E hr e0 hb r hsp => ?_⟩
  have hl := len _ _ _ _ hsp
  have KX : K.In s.heap := e0.mod.kin.keeps fun b o e => (e0.bs b o e).1
  have lim : s.heap.NoLimit := e0.mod.nolimit.keeps fun b o e => (e0.bs b o e).1
  have hkind : ∀ y ∈ ps.zip us, scope.names.lookup y.1 = some .local ∨ (scope.names.lookup y.1 = some .cell ∧ ((cellsFrom (s.heap.objs.size + 1) scope.names []).lookup y.1).isSome = true) := fun ⟨n, v⟩ hy => by
    rcases S.par n (List.of_mem_zip hy).1 with q | q
    · exact .inl q
    · exact .inr ⟨q, PySem.W.cellsFrom_some _ _ _ (.inl q)⟩
  refine codeAny_call_function hr.depth (KX _ _ lk) rfl S.co S.gen rfl (PySem.W.codeRec_of KX hcd) (hb _ _ _ _ ?_)
  refine wpAny_newFunctionEnv_cells S.kind hkind fun env he s1 x => ?_
  subst he
  refine ⟨lim.keeps x.toInCall.keep, codeAny_func ?_⟩
  obtain ⟨t, ht, hq⟩ := hbody A outer s H vs Q E (hr.deeper _) hsp
  have I : Inv (cxOf CX P w K mg base N qual scope f cdv A outer s H E) [] (start N vs) H s1 := inv_start S hr.hd e0 hl r x
  refine wpAny_mono (ht [] s1 (start N vs) H _ I hq) (fun fl s' hs => ?_) fun e s' hs => hs
  have fin : ∀ {σ' : St} {H' : Hp} {v : V} {u : Value}, Inv (cxOf CX P w K mg base N qual scope f cdv A outer s H E) [] σ' H' s' → RelV v u → Q v H' → CE outer P w H s Q u s' :=
    fun {σ' H' v u} J rv q => ⟨v, H', J.os, J.bare, J.base, J.hok, rv, q⟩
  cases fl with
  | ret u =>
    obtain ⟨v, σ', H', J, rv, q⟩ := hs
    exact fin J rv q
  | next =>
    obtain ⟨σ', H', J, q⟩ := hs
    exact fin (v := V.non) (u := Value.none) J rfl q
  | brk =>
    obtain ⟨_, _, _, q⟩ := hs
    exact False.elim q
  | cont =>
    obtain ⟨_, _, _, q⟩ := hs
    exact False.elim q
end L2
namespace L2
open PySem PySem.Spec PyProof.Rows
section
variable {X : Cx} {x : Str} {p pos : Pos} {e : Expr} {es : List Expr} {t : TA} {id T : String} {r : List V → Hp → VK → Prop}
def tCB (r : List V → Hp → VK → Prop) (t : TA) : TE := fun σ H Q => t σ H fun vs H1 => r vs H1 Q
theorem pe_callB (hc : CallR X (.builtin id) r) (hg : Gl X x) (hm : X.mg x = none) (hv : bootBuiltins x = some (.builtin id)) (ha : PA X (e :: es) t) (hn : x ≠ "__name__" := by decide) (hdb : (x == ("__debug__" : Str)) = false := by decide)
    (he : starEach (e :: es) X.env = (false, eval e X.env) :: starEach es X.env := by rfl) (hpl : (backTo pos (starEach es X.env)).any (·.1) = false := by rfl) : PE X (.Call (.Name x p) (e :: es) [] pos) (tCB r t) := by
  intro pins s σ H Q I h
  refine wpAny_Call_Name_kw (ld_blt I hg hm hv ?_ hn hdb)
  exact PyProof.Rows.callWith_builtin1 (thn (ha pos pins s σ H _ I h) fun us s1 ⟨vs, H1, I1, r1, q1⟩ => hc pins s1 σ H1 vs us Q I1 r1 q1) he hpl
theorem pe_callTy (hc : CallR X (.type T) r) (hg : Gl X x) (hm : X.mg x = none) (hv : bootBuiltins x = some (.type T)) (ha : PA X (e :: es) t) (hn : x ≠ "__name__" := by decide) (hdb : (x == ("__debug__" : Str)) = false := by decide)
    (he : starEach (e :: es) X.env = (false, eval e X.env) :: starEach es X.env := by rfl) (hpl : (backTo pos (starEach es X.env)).any (·.1) = false := by rfl) : PE X (.Call (.Name x p) (e :: es) [] pos) (tCB r t) := by
  intro pins s σ H Q I h
  refine wpAny_Call_Name_kw (ld_blt I hg hm hv ?_ hn hdb)
  exact PyProof.Rows.callWith_type1 (thn (ha pos pins s σ H _ I h) fun us s1 ⟨vs, H1, I1, r1, q1⟩ => hc pins s1 σ H1 vs us Q I1 r1 q1) he hpl
end
end L2
namespace HT
open PySem PyProof.Rows
section
open PySem.SeqAt
open PySem.AutoSeq1 (wpAny_loadPart')
open PySem.MeetsSeq PySem.MeetsSeq2 PySem.MeetsSeq3
end
section
variable {prog : Program} {w : World} {A : Around} {E : Value → Shared → Prop} {s : Shared}
def sIx (n d : Nat) : Option Int → Nat
  | none => d
  | some v => if v < 0 then (v + (n : Int)).toNat else min v.toNat n
end
end HT
namespace L2
open PySem PySem.Spec PyProof.Rows
abbrev TO := St → Hp → (Option Int → Hp → Prop) → Prop
def PO (X : Cx) (e : Option Expr) (t : TO) : Prop :=
  ∀ (pins : List (Addr × Obj)) (s : Shared) (σ : St) (H : Hp) (Q : Option Int → Hp → Prop), Inv X pins σ H s → t σ H Q →
    wpAny (model X.prog X.w) X.A (evalPart e X.env) (fun u s' => ∃ o H', Inv X pins σ H' s' ∧ IsPart u o ∧ Q o H') X.xe s
def tNoPart : TO := fun _ H Q => Q none H
def tPart (t : TE) : TO := fun σ H Q => t σ H fun x H1 => ∃ i, x = .int i ∧ Q (some i) H1
section
variable {X : Cx} {e : Expr} {te : TE} {lo hi : Option Expr} {tl th : TO} {pos p2 : Pos}
theorem po_none : PO X none tNoPart := by
  intro pins s σ H Q I h
  rw [evalPart_none]
  exact wpAny_pure ⟨none, H, I, .none, h⟩
theorem po_some (h : PE X e te) : PO X (some e) (tPart te) := by
  intro pins s σ H Q I hw
  rw [evalPart_some]
  refine thn (h pins s σ H _ I hw) fun u s1 ⟨x, H1, I1, r1, q1⟩ => ?_
  obtain ⟨i, rfl, q⟩ := q1
  obtain ⟨t, rfl⟩ := r1
  exact ⟨some i, H1, I1, .int i t, q⟩
def SlR (X : Cx) (r : V → Option Int → Option Int → Hp → VK → Prop) : Prop :=
  ∀ (pins : List (Addr × Obj)) (s : Shared) (σ : St) (H : Hp) (x : V) (v vl vu : Value) (lo hi : Option Int) (sl : Addr) (Q : VK), Inv X pins σ H s → RelV x v → s.heap.IsSliceOf sl vl vu .none → IsPart vl lo → IsPart vu hi → r x lo hi H Q →
    ∃ T id, typeLookup (.type T) "__getitem__" = pure (some (.builtin id)) ∧ s.TypeIs v T ∧ wpAny (model X.prog X.w) X.A (getItem v (.ref sl)) (EP X pins σ Q) X.xe s
theorem SlR.or {r r' : V → Option Int → Option Int → Hp → VK → Prop} (h : SlR X r) (h' : SlR X r') : SlR X (fun x lo hi H Q => r x lo hi H Q ∨ r' x lo hi H Q) := by
  intro pins s σ H x v vl vu lo hi sl Q I rx hs pl pu q
  rcases q with q | q
  · exact h pins s σ H x v vl vu lo hi sl Q I rx hs pl pu q
  · exact h' pins s σ H x v vl vu lo hi sl Q I rx hs pl pu q
def tSl (r : V → Option Int → Option Int → Hp → VK → Prop) (te : TE) (tl th : TO) : TE := fun σ H Q => te σ H fun x H1 => tl σ H1 fun l H2 => th σ H2 fun u H3 => r x l u H3 Q
theorem pe_slice {r : V → Option Int → Option Int → Hp → VK → Prop} (hr : SlR X r) (he : PE X e te) (hl : PO X lo tl) (hu : PO X hi th) : PE X (.Subscript e (.Slice lo hi none p2) pos) (tSl r te tl th) := by
  intro pins s σ H Q I h
  refine Subscript_ (thn (he pins s σ H _ I h) fun v s1 ⟨x, H1, I1, r1, q1⟩ => ?_)
  refine wpAny_Slice (thn (hl pins s1 σ H1 _ I1 q1) fun vl s2 ⟨l, H2, I2, pl, q2⟩ => thn (hu pins s2 σ H2 _ I2 q2) fun vu s3 ⟨u, H3, I3, pu, q3⟩ => ?_)
  rw [evalPart_none]
  refine wpAny_pure ?_
  have I4 : Inv X pins σ H3 { s3 with heap := s3.heap.push { cls := .type "slice", data := .fields #[vl, vu, .none] } } := I3.kept (t' := s3.toks) fun b ob q => Heap.get?_push_of_some _ q
  obtain ⟨T, id, hT, ht, hg⟩ := hr pins { s3 with heap := s3.heap.push { cls := .type "slice", data := .fields #[vl, vu, .none] } } σ H3 x v vl vu l u s3.heap.objs.size Q I4 r1 (Heap.IsSliceOf.new ..) pl pu q3
  show wpAny (model X.prog X.w) X.A (subscriptTail e (.Slice lo hi none p2) v (.ref s3.heap.objs.size)) (EP X pins σ Q) X.xe { s3 with heap := s3.heap.push { cls := .type "slice", data := .fields #[vl, vu, .none] } }
  exact tail_any (ops := [.ref s3.heap.objs.size, v]) ht hT hg (by with_unfolding_all rfl)
def cutV (xs : List V) (lo hi : Option Int) : List V := (xs.drop (HT.sIx xs.length 0 lo)).take (HT.sIx xs.length xs.length hi - HT.sIx xs.length 0 lo)
theorem cutV_length (xs : List V) (lo hi : Option Int) : (cutV xs lo hi).length ≤ xs.length := by
  unfold cutV
  rw [List.length_take, List.length_drop]
  omega
end
end L2
namespace L2
open PySem PySem.Spec PyProof.Rows
def ixN (n : Nat) (i : Int) : Option Nat := if 0 ≤ i then (if i < n then some i.toNat else none) else if -(n : Int) ≤ i then some (i + n).toNat else none
def atI {α : Type} (xs : List α) (i : Int) : Option α := (ixN xs.length i).bind fun j => xs[j]?
theorem ixN_seq {n : Nat} {i : Int} {j : Nat} (h : ixN n i = some j) : seqIndex? i n = some j ∧ j < n ∧ -(n : Int) ≤ i ∧ i < n := by
  unfold ixN at h
  by_cases h0 : 0 ≤ i
  · rw [if_pos h0] at h
    by_cases h1 : i < n
    · rw [if_pos h1] at h
      have e : i.toNat = j := Option.some.inj h
      exact ⟨by rw [seqIndex_of h0 h1, e], by omega, by omega, h1⟩
    · rw [if_neg h1] at h; cases h
  · rw [if_neg h0] at h
    by_cases h1 : -(n : Int) ≤ i
    · rw [if_pos h1] at h
      have e : (i + n).toNat = j := Option.some.inj h
      exact ⟨by rw [seqIndex_neg (by omega) h1, e], by omega, h1, by omega⟩
    · rw [if_neg h1] at h; cases h
theorem atI_get {α : Type} {xs : List α} {i : Int} {v : α} (h : atI xs i = some v) : ∃ j, seqIndex? i xs.length = some j ∧ xs[j]? = some v ∧ j < xs.length ∧ -(xs.length : Int) ≤ i ∧ i < xs.length := by
  unfold atI at h
  cases e : ixN xs.length i with
  | none => rw [e] at h; cases h
  | some j =>
    rw [e] at h
    obtain ⟨h1, h2, h3, h4⟩ := ixN_seq e
    exact ⟨j, h1, h, h2, h3, h4⟩
theorem atI_nat {α : Type} {xs : List α} {j : Nat} {v : α} (h : xs[j]? = some v) : atI xs (j : Int) = some v := by
  have hj : j < xs.length := (List.getElem?_eq_some_iff.mp h).1
  have e : ixN xs.length (j : Int) = some j := by
    unfold ixN
    rw [if_pos (by omega), if_pos (by omega)]; simp
  unfold atI; rw [e]; exact h
def PlainIx (b : Expr) : Prop := ∀ o i, subscripted b false o i = operate [o, i] (getItem o i)
def IxR (X : Cx) (r : R2) : Prop :=
  ∀ (value slice : Expr) (pins : List (Addr × Obj)) (s : Shared) (σ : St) (H : Hp) (x y : V) (v u : Value) (Q : VK), Inv X pins σ H s → RelV x v → RelV y u → r x y H Q →
    subscripted slice false v u = operate [v, u] (getItem v u) → wpAny (model X.prog X.w) X.A (subscriptTail value slice v u) (EP X pins σ Q) X.xe s
def MtR (X : Cx) (id : String) (r : V → List V → Hp → VK → Prop) : Prop :=
  ∀ (pins : List (Addr × Obj)) (s : Shared) (σ : St) (H : Hp) (x : V) (xs : List V) (v : Value) (us : List Value) (Q : VK), Inv X pins σ H s → RelV x v → Vals xs us → r x xs H Q →
    wpAny (model X.prog X.w) X.A (call (.builtin id) (v :: us)) (EP X pins σ Q) X.xe s
section
variable {X : Cx} {a b : Expr} {ta tb : TE} {pos : Pos}
theorem IxR.or {r r' : R2} (h : IxR X r) (h' : IxR X r') : IxR X (fun x y H Q => r x y H Q ∨ r' x y H Q) := by
  intro value slice pins s σ H x y v u Q I rx ry q hs
  rcases q with q | q
  · exact h value slice pins s σ H x y v u Q I rx ry q hs
  · exact h' value slice pins s σ H x y v u Q I rx ry q hs
theorem MtR.or {id : String} {r r' : V → List V → Hp → VK → Prop} (h : MtR X id r) (h' : MtR X id r') : MtR X id (fun x xs H Q => r x xs H Q ∨ r' x xs H Q) := by
  intro pins s σ H x xs v us Q I rx rs q
  rcases q with q | q
  · exact h pins s σ H x xs v us Q I rx rs q
  · exact h' pins s σ H x xs v us Q I rx rs q
theorem pe_ix {r : R2} (hr : IxR X r) (ha : PE X a ta) (hb : PE X b tb) (hs : PlainIx b) : PE X (.Subscript a b pos) (tOp r ta tb) := by
  intro pins s σ H Q I h
  exact Subscript_ (binT ha hb I h fun v u s2 x y H2 I2 rx ry q => hr a b pins s2 σ H2 x y v u Q I2 rx ry q (hs _ _))
def rIxL (K : PySem.W.Frag) : R2 := fun x y H Q => ∃ p xs i v, x = .ref p ∧ y = .int i ∧ SqL K H p xs ∧ atI xs i = some v ∧ Q v H
def rIxT (K : PySem.W.Frag) : R2 := fun x y H Q => ∃ p xs i v, x = .ref p ∧ y = .int i ∧ SqT K H p xs ∧ atI xs i = some v ∧ Q v H
theorem ix_list : IxR X (rIxL X.K) := by
  intro value slice pins s σ H x y v u Q I rx ry h hs
  obtain ⟨p, xs, i, z, rfl, rfl, hq, he, q⟩ := h
  cases rx
  obtain ⟨t, rfl⟩ := ry
  obtain ⟨its, r, pl, hz⟩ := I.list hq
  obtain ⟨j, h1, h2, h3, h4, h5⟩ := atI_get he
  obtain ⟨w, ew, rw'⟩ := r.get h2
  have hl := r.length
  have hn := line63
  have fin : EP X pins σ Q w s := ⟨z, H, I, rw', q⟩
  by_cases h0 : 0 ≤ i
  · have hj : i.toNat = j := by
      rw [seqIndex_of h0 h5] at h1
      exact Option.some.inj h1
    exact item_listR pl.isList h0 (by omega) (by rw [hj]; simpa using ew) fin hs
  · have hj : (i + (its.toArray.size : Int)).toNat = j := by
      rw [seqIndex_neg (by omega) h4] at h1
      rw [List.size_toArray, ← hl]
      exact Option.some.inj h1
    exact subscriptTail_builtinR (x := w) pl.isList.typeIs slot_list_getitem.lookup
      (wpAny_getItem_list_neg (Q := fun r s' => r = w ∧ EP X pins σ Q r s') pl.isList (by omega) (by rw [List.size_toArray] <;> omega) (by omega) (by rw [hj]; simpa using ew) ⟨rfl, fin⟩) hs
theorem ix_tup : IxR X (rIxT X.K) := by
  intro value slice pins s σ H x y v u Q I rx ry h hs
  obtain ⟨p, xs, i, z, rfl, rfl, hq, he, q⟩ := h
  cases rx
  obtain ⟨t, rfl⟩ := ry
  obtain ⟨its, r, pl, hz⟩ := I.tuple hq
  obtain ⟨j, h1, h2, h3, h4, h5⟩ := atI_get he
  obtain ⟨w, ew, rw'⟩ := r.get h2
  have hl := r.length
  have hn := line63
  have fin : EP X pins σ Q w s := ⟨z, H, I, rw', q⟩
  exact subscriptTail_builtinR (x := w) pl.typeIs slot_tuple_getitem.lookup
    (getItem_tuple (j := j) (Q := fun r s' => r = w ∧ EP X pins σ Q r s') pl (by omega) (by omega) (by rw [List.size_toArray, ← hl]; exact h1) (by simpa using ew) ⟨rfl, fin⟩) hs
theorem mapSeq_set (its : List Value) (n j : Nat) (u : Value) : Obj.mapSeq (·.setIfInBounds j u) { cls := .type "list", data := .seq its.toArray n } = { cls := .type "list", data := .seq (its.set j u).toArray n } := by
  simp [Obj.mapSeq]
theorem Inv.lst {pins : List (Addr × Obj)} {σ : St} {H : Hp} {s : Shared} {p : Addr} {xs : List V} (I : Inv X pins σ H s) (h : H p = some (.lst xs)) :
    ∃ (its : List Value) (n : Nat), Vals xs its ∧ s.heap.get? p = some { cls := .type "list", data := .seq its.toArray n } ∧ xs.length ≤ sizeLine := by
  obtain ⟨z, its, n, r, e⟩ := I.hok p _ h
  exact ⟨its, n, r, e, z⟩
theorem Inv.lstUpd {pins : List (Addr × Obj)} {σ : St} {H : Hp} {s : Shared} {p : Addr} {xs ys : List V} {its its' : List Value} {n n' : Nat} {f : Obj → Obj} (I : Inv X pins σ H s) (h : H p = some (.lst xs))
    (ho : s.heap.get? p = some { cls := .type "list", data := .seq its.toArray n }) (hf : f { cls := .type "list", data := .seq its.toArray n } = { cls := .type "list", data := .seq its'.toArray n' }) (r : Vals ys its') (hz : ys.length ≤ sizeLine) (t : Nat) :
    Inv X pins σ (upd H p (.lst ys)) { s with heap := s.heap.update p f, toks := t } := by
  have e : (s.heap.update p f).get? p = some { cls := .type "list", data := .seq its'.toArray n' } := by
    rw [Heap.get?_update_self f ho (by rw [hf] <;> rfl), hf]
  refine I.write (x := p) (e := p) (by rw [h]; trivial) (.inl rfl) (fun b u hb q => (Heap.get?_update_other _ _ (Ne.symm hb)).trans q) ⟨_, e⟩ ?_
  exact ⟨hz, its', n', r, e⟩
def rSetL : V → V → V → Hp → (Hp → Prop) → Prop := fun o i v H Q => ∃ p xs k j, o = .ref p ∧ i = .int k ∧ H p = some (.lst xs) ∧ ixN xs.length k = some j ∧ Q (upd H p (.lst (xs.set j v)))
theorem set_list : PSet X rSetL := by
  intro pins s σ H o i v ov iv u Q I ro ri rv h
  obtain ⟨p, xs, k, j, rfl, rfl, hp, hj, q⟩ := h
  cases ro
  obtain ⟨t, rfl⟩ := ri
  obtain ⟨its, n, r, ho, hz⟩ := I.lst hp
  obtain ⟨h1, h2, h3, h4⟩ := ixN_seq hj
  have hl := r.length
  have hn := line63
  have I' : Inv X pins σ (upd H p (.lst (xs.set j v))) { s with heap := s.heap.update p (Obj.mapSeq (·.setIfInBounds j u)) } :=
    I.lstUpd hp ho (mapSeq_set its n j u) (r.set rv j) (by rw [List.length_set]; exact hz) s.toks
  by_cases h0 : 0 ≤ k
  · have hk : k.toNat = j := by
      rw [seqIndex_of h0 h4] at h1
      exact Option.some.inj h1
    exact PySem.W.ki_setAt ho h0 (by omega) (by rw [List.size_toArray, ← hl]; exact h4) (by rw [hk]; exact ⟨_, I', q⟩)
  · have hk : (k + (its.toArray.size : Int)).toNat = j := by
      rw [seqIndex_neg (by omega) h3] at h1
      rw [List.size_toArray, ← hl]
      exact Option.some.inj h1
    exact PySem.W.ki_setBack ho (by omega) (by rw [List.size_toArray, ← hl]; exact h3) (by omega) (by rw [hk]; exact ⟨_, I', q⟩)
theorem slice_bounds (lo hi : Option Int) (n : Nat) : (sliceBounds lo hi none n).1 = ((HT.sIx n 0 lo : Nat) : Int) ∧ (sliceBounds lo hi none n).2.1 = ((HT.sIx n n hi : Nat) : Int) ∧ (sliceBounds lo hi none n).2.2 = 1 := by
  refine ⟨?_, ?_, rfl⟩
  · cases lo with
    | none => simp [sliceBounds, HT.sIx]
    | some i =>
      simp only [sliceBounds, HT.sIx, Option.getD_none, show (1 : Int) > 0 by decide, if_true]
      by_cases h : i < 0
      · simp only [h, if_true] <;> omega
      · simp only [h, if_false] <;> omega
  · cases hi with
    | none => simp [sliceBounds, HT.sIx]
    | some i =>
      simp only [sliceBounds, HT.sIx, Option.getD_none, show (1 : Int) > 0 by decide, if_true]
      by_cases h : i < 0
      · simp only [h, if_true] <;> omega
      · simp only [h, if_false] <;> omega
theorem slicePick_cut (its : List Value) (lo hi : Option Int) : slicePick its.toArray lo hi none = ((its.drop (HT.sIx its.length 0 lo)).take (HT.sIx its.length its.length hi - HT.sIx its.length 0 lo)).toArray := by
  obtain ⟨h1, h2, h3⟩ := slice_bounds lo hi its.toArray.size
  unfold slicePick
  rw [h1, h2, h3]
  simp only [sliceRange_one, pick_run, List.size_toArray] <;> rfl
def rSlL (K : PySem.W.Frag) : V → Option Int → Option Int → Hp → VK → Prop := fun x lo hi H Q => ∃ a xs, x = .ref a ∧ SqL K H a xs ∧ ∀ p, H p = none → Q (.ref p) (upd H p (.lst (cutV xs lo hi)))
theorem sl_list : SlR X (rSlL X.K) := by
  intro pins s σ H x v vl vu lo hi sl Q I rx hs pl pu h
  obtain ⟨a, xs, rfl, hx, q⟩ := h
  cases rx
  obtain ⟨its, r, ht, hz⟩ := I.list hx
  have hlen := r.length
  refine ⟨"list", _, slot_list_getitem.lookup, ht.isList.typeIs, ?_⟩
  refine wpAny_getItem_list_slice ht.isList hs pl pu .none (by simp) ?_ (by rw [List.size_toArray] <;> omega)
  rw [slicePick_cut, ← hlen]
  refine ⟨.ref s.heap.objs.size, _, I.laid (t' := s.toks) (o := .lst (cutV xs lo hi)) (fun b ob q => Heap.get?_push_of_some _ q) (Nat.le_refl _) ?_, rfl, q _ (I.hok.fresh (Nat.le_refl _))⟩
  exact ⟨Nat.le_trans (cutV_length xs lo hi) hz, _, 0, (r.drop (HT.sIx xs.length 0 lo)).take (HT.sIx xs.length xs.length hi - HT.sIx xs.length 0 lo), Heap.get?_push_size _ rfl⟩
def flatV : V → Bool
  | .non => true
  | .bl _ => true
  | .int _ => true
  | .str _ => true
  | _ => false
def eqV : V → V → Bool
  | .non, .non => true
  | .bl a, .bl b => a == b
  | .bl a, .int b => (if a then 1 else 0) == b
  | .int a, .bl b => a == (if b then 1 else 0)
  | .int a, .int b => a == b
  | .str a, .str b => a == b
  | _, _ => false
theorem eqAt_V {A : Around} {s : Shared} {y x : V} {u v : Value} (ry : RelV y u) (rx : RelV x v) (fy : flatV y = true) (fx : flatV x = true) : SeqAt.EqAt A s u v (eqV y x) := by
  cases y with
  | non =>
    cases ry
    cases x with
    | non => cases rx; exact SeqAt.EqAt.same _
    | bl b => cases rx; exact SeqAt.EqAt.none_bool b
    | int b => obtain ⟨t, rfl⟩ := rx; exact SeqAt.EqAt.none_int b t
    | str b => obtain ⟨t, rfl⟩ := rx; exact SeqAt.EqAt.none_str b t
    | _ => exact absurd (show false = true from fx) Bool.false_ne_true
  | bl a =>
    cases ry
    cases x with
    | non => cases rx; exact SeqAt.EqAt.bool_none a
    | bl b => cases rx; exact SeqAt.EqAt.bool_bool a b
    | int b => obtain ⟨t, rfl⟩ := rx; exact SeqAt.EqAt.bool_int a b t
    | str b => obtain ⟨t, rfl⟩ := rx; exact SeqAt.EqAt.bool_str a b t
    | _ => exact absurd (show false = true from fx) Bool.false_ne_true
  | int a =>
    obtain ⟨t', rfl⟩ := ry
    cases x with
    | non => cases rx; exact SeqAt.EqAt.int_none a t'
    | bl b => cases rx; exact SeqAt.EqAt.int_bool a t' b
    | int b => obtain ⟨t, rfl⟩ := rx; exact SeqAt.EqAt.int_int a t' b t
    | str b => obtain ⟨t, rfl⟩ := rx; exact SeqAt.EqAt.int_str a t' b t
    | _ => exact absurd (show false = true from fx) Bool.false_ne_true
  | str a =>
    obtain ⟨t', rfl⟩ := ry
    cases x with
    | non => cases rx; exact SeqAt.EqAt.str_none a t'
    | bl b => cases rx; exact SeqAt.EqAt.str_bool a t' b
    | int b => obtain ⟨t, rfl⟩ := rx; exact SeqAt.EqAt.str_int a t' b t
    | str b => obtain ⟨t, rfl⟩ := rx; exact SeqAt.EqAt.str_str a t' b t
    | _ => exact absurd (show false = true from fx) Bool.false_ne_true
  | _ => exact absurd (show false = true from fy) Bool.false_ne_true
def eqU (x : V) (u : Value) : Bool := match u with
  | .none => eqV .non x
  | .bool b => eqV (.bl b) x
  | .int i _ => eqV (.int i) x
  | .str z _ => eqV (.str z) x
  | _ => false
theorem eqU_of {x y : V} {u : Value} (r : RelV y u) (f : flatV y = true) : eqU x u = eqV y x := by
  cases y with
  | non => cases r; rfl
  | bl b => cases r; rfl
  | int i => obtain ⟨t, rfl⟩ := r; rfl
  | str z => obtain ⟨t, rfl⟩ := r; rfl
  | _ => exact absurd (show false = true from f) Bool.false_ne_true
theorem any_eqU {x : V} : ∀ {xs : List V} {us : List Value}, Vals xs us → xs.all flatV = true → us.any (eqU x) = xs.any fun y => eqV y x
  | _, _, .nil, _ => rfl
  | y :: xs, u :: us, .cons r t, f => by
    rw [List.all_cons, Bool.and_eq_true] at f
    rw [List.any_cons, List.any_cons, eqU_of r f.1, any_eqU t f.2]
theorem mem_eqAt {A : Around} {s : Shared} {x : V} {v : Value} (rx : RelV x v) (fx : flatV x = true) : ∀ {xs : List V} {us : List Value}, Vals xs us → xs.all flatV = true → ∀ u ∈ us, SeqAt.EqAt A s u v (eqU x u)
  | _, _, .nil, _ => fun u hu => by cases hu
  | y :: xs, u :: us, .cons r t, f => fun u' hu => by
    rw [List.all_cons, Bool.and_eq_true] at f
    rcases List.mem_cons.mp hu with rfl | hu
    · rw [eqU_of r f.1]; exact eqAt_V r rx f.1 fx
    · exact mem_eqAt rx fx t f.2 u' hu
def inV (x : V) (xs : List V) : Bool := xs.any fun y => eqV y x
def rIn (K : PySem.W.Frag) (neg : Bool) : R2 := fun x y H Q => ∃ p xs, y = .ref p ∧ (SqL K H p xs ∨ SqT K H p xs) ∧ flatV x = true ∧ xs.all flatV = true ∧ Q (.bl (if neg then !inV x xs else inV x xs)) H
theorem op_in_seq : OpR X (compareOp .In) (rIn X.K false) := by
  intro pins s σ H x y v u Q I rx ry h
  obtain ⟨p, xs, rfl, hq, fx, fs, q⟩ := h
  cases ry
  rcases hq with hq | hq
  · obtain ⟨its, r, pl, hz⟩ := I.list hq
    refine SeqAt.in_listAt (eqU x) pl.isList (fun w hw => mem_eqAt rx fx r fs w (by simpa using hw)) ⟨.bl _, H, I, rfl, ?_⟩
    rw [show its.toArray.any (eqU x) = its.any (eqU x) by simp, any_eqU r fs]
    exact q
  · obtain ⟨its, r, pl, hz⟩ := I.tuple hq
    refine SeqAt.in_tupleAt (eqU x) pl (fun w hw => mem_eqAt rx fx r fs w (by simpa using hw)) ⟨.bl _, H, I, rfl, ?_⟩
    rw [show its.toArray.any (eqU x) = its.any (eqU x) by simp, any_eqU r fs]
    exact q
theorem call_len_seq : CallR X (.builtin "len") (fun xs H Q => ∃ p ys, xs = [.ref p] ∧ (SqL X.K H p ys ∨ SqT X.K H p ys) ∧ Q (.int ys.length) H) := by
  intro pins s σ H xs us Q I r h
  obtain ⟨p, ys, rfl, hq, q⟩ := h
  obtain ⟨u, rfl, rx⟩ := vals1 r
  cases rx
  have hn := line63
  rcases hq with hq | hq
  · obtain ⟨its, r', pl, hz⟩ := I.list hq
    have hlen := r'.length
    exact Calls.call_len_list pl.isList (by simp only [List.size_toArray] <;> omega) ⟨.int ys.length, H, I.tok _, ⟨s.toks + 1, by rw [List.size_toArray, hlen]⟩, q⟩
  · obtain ⟨its, r', pl, hz⟩ := I.tuple hq
    have hlen := r'.length
    exact len_tuple pl (by simp only [List.size_toArray] <;> omega) ⟨.int ys.length, H, I.tok _, ⟨s.toks + 1, by rw [List.size_toArray, hlen]⟩, q⟩
theorem CallR.or {f : Value} {r r' : List V → Hp → VK → Prop} (h : CallR X f r) (h' : CallR X f r') : CallR X f (fun xs H Q => r xs H Q ∨ r' xs H Q) := by
  intro pins s σ H xs us Q I rs q
  rcases q with q | q
  · exact h pins s σ H xs us Q I rs q
  · exact h' pins s σ H xs us Q I rs q
theorem call_list_of : CallR X (.type "list") (fun xs H Q => ∃ p ys, xs = [.ref p] ∧ (SqL X.K H p ys ∨ SqT X.K H p ys) ∧ ∀ l, H l = none → Q (.ref l) (upd H l (.lst ys))) := by
  intro pins s σ H xs us Q I r h
  obtain ⟨p, ys, rfl, hq, q⟩ := h
  obtain ⟨u, rfl, rx⟩ := vals1 r
  cases rx
  have fin : ∀ (its : List Value), Vals ys its → ys.length ≤ sizeLine → ∀ (h' : Heap) (c' : Nat), (∀ b o', s.heap.get? b = some o' → h'.get? b = some o') →
      h'.get? s.heap.objs.size = some { cls := .type "list", dict := none, data := .seq its.toArray c', slots := #[] } → EP X pins σ Q (.ref s.heap.objs.size) { s with heap := h' } := fun its r' hz h' c' kp e =>
    ⟨.ref s.heap.objs.size, _, I.laid (t' := s.toks) kp (Nat.le_refl _) (show ObjOk X.prog X.w _ h' _ (.lst ys) from ⟨hz, its, c', r', e⟩), rfl, q _ (I.hok.fresh (Nat.le_refl _))⟩
  rcases hq with hq | hq
  · obtain ⟨its, r', pl, hz⟩ := I.list hq
    have hlen := r'.length
    obtain ⟨o, ho, hc, n, hd⟩ := pl.isList
    exact call_list_seq p (.inl rfl) ho hc hd (fun h' c' kp e => fin its r' hz h' c' kp e) (by simp only [List.size_toArray] <;> omega)
  · obtain ⟨its, r', pl, hz⟩ := I.tuple hq
    have hlen := r'.length
    obtain ⟨o, ho, hc, n, hd⟩ := pl
    exact call_list_seq p (.inr rfl) ho hc hd (fun h' c' kp e => fin its r' hz h' c' kp e) (by simp only [List.size_toArray] <;> omega)
theorem call_tuple_of : CallR X (.type "tuple") (fun xs H Q => ∃ p ys, xs = [.ref p] ∧ ((SqL X.K H p ys ∧ ∀ l, H l = none → Q (.ref l) (upd H l (.tup ys))) ∨ (SqT X.K H p ys ∧ Q (.ref p) H))) := by
  intro pins s σ H xs us Q I r h
  obtain ⟨p, ys, rfl, h⟩ := h
  obtain ⟨u, rfl, rx⟩ := vals1 r
  cases rx
  rcases h with ⟨hq, q⟩ | ⟨hq, q⟩
  · obtain ⟨its, r', pl, hz⟩ := I.list hq
    have hlen := r'.length
    refine call_tuple_list pl.isList (fun h' kp => ?_) (by simp only [List.size_toArray] <;> omega)
    have I1 : Inv X pins σ H { s with heap := h' } := I.kept (t' := s.toks) kp
    have I2 : Inv X pins σ (upd H h'.objs.size (.tup ys)) { s with heap := h'.push { cls := .type "tuple", data := .seq its.toArray } } :=
      I1.laid (t' := s.toks) (fun b o e => Heap.get?_push_of_some _ e) (Nat.le_refl _) (show ObjOk X.prog X.w _ _ _ (.tup ys) from ⟨hz, its, r', IsTup.new _ _⟩)
    exact ⟨.ref h'.objs.size, _, I2, rfl, q _ (I1.hok.fresh (Nat.le_refl _))⟩
  · obtain ⟨its, r', pl, hz⟩ := I.tuple hq
    exact call_tuple_same pl ⟨.ref p, H, I, rfl, q⟩
def tyV (K : PySem.W.Frag) (T : String) (x : V) (H : Hp) : Prop := match x with
  | .str _ => T = "str"
  | .int _ => T = "int"
  | .ref p => (T = "list" ∧ ∃ xs, SqL K H p xs) ∨ (T = "tuple" ∧ ∃ o, K.lookup p = some o ∧ o.cls = .type "tuple" ∧ o.dict = none) ∨
      (T = "dict" ∧ ((∃ kvs, H p = some (.dK kvs)) ∨ ∃ kvs, H p = some (.dT kvs))) ∨ (T = "set" ∧ ∃ S n, H p = some (.set S n))
  | _ => False
theorem tyV_is {pins : List (Addr × Obj)} {σ : St} {H : Hp} {s : Shared} {T : String} {x : V} {v : Value} (I : Inv X pins σ H s) (r : RelV x v) (ty : tyV X.K T x H) :
    s.TypeIs v T ∧ ∀ a, v = .ref a → ∃ ob, s.heap.get? a = some ob ∧ ob.dict = none := by
  cases x with
  | str z =>
    obtain ⟨t, rfl⟩ := r
    cases (show T = "str" from ty)
    exact ⟨typeIs_str s z t, fun _ e => nomatch e⟩
  | int i =>
    obtain ⟨t, rfl⟩ := r
    cases (show T = "int" from ty)
    exact ⟨typeIs_int s i t, fun _ e => nomatch e⟩
  | ref p =>
    cases r
    rcases ty with ⟨rfl, xs, hq⟩ | ⟨rfl, o, hk, hc, hd⟩ | ⟨rfl, hk⟩ | ⟨rfl, S, n, hk⟩
    · obtain ⟨its, _, pl, _⟩ := I.list hq
      refine ⟨pl.isList.typeIs, fun a e => ?_⟩
      cases e
      obtain ⟨o, n, e, c, hd, _⟩ := pl
      exact ⟨o, e, hd⟩
    · refine ⟨⟨o, I.kIn p o hk, hc⟩, fun a e => ?_⟩
      cases e
      exact ⟨o, I.kIn _ o hk, hd⟩
    · have z : ∃ o, s.heap.get? p = some o ∧ o.ExactDict := by
        rcases hk with ⟨kvs, hk⟩ | ⟨kvs, hk⟩
        · obtain ⟨_, _, _, _, o, _, _, e, ex, _⟩ := I.hok p _ hk
          exact ⟨o, e, ex⟩
        · obtain ⟨_, _, _, _, o, _, _, e, ex, _⟩ := I.hok p _ hk
          exact ⟨o, e, ex⟩
      obtain ⟨o, e, ex⟩ := z
      refine ⟨⟨o, e, ex.1⟩, fun a e2 => ?_⟩
      cases e2
      exact ⟨o, e, ex.2.1⟩
    · obtain ⟨o, _, _, _, e, ex, _⟩ := I.hok p _ hk
      refine ⟨⟨o, e, ex.1⟩, fun a e2 => ?_⟩
      cases e2
      exact ⟨o, e, ex.2.1⟩
  | _ => exact False.elim ty
def tBM (K : PySem.W.Frag) (T : String) (r : V → List V → Hp → VK → Prop) (to : TE) (t : TA) : TE := fun σ H Q => to σ H fun x H1 => tyV K T x H1 ∧ t σ H1 fun xs H2 => r x xs H2 Q
variable {o e : Expr} {es : List Expr} {to : TE} {t : TA} {name : Str} {apos cpos : Pos} {T id : String} {r : V → List V → Hp → VK → Prop}
theorem pe_bm (pa : PlainAttrs T) (slot : Slot T name id) (hty : typeOf (.builtin id) = pure (.type "method_descriptor")) (hm : MtR X id r) (ho : PE X o to) (ha : PA X (e :: es) t)
    (hbase : attributeBase o name X.env (eval o X.env) = eval o X.env := by rfl)
    (hfew : ((backTo cpos (starEach (e :: es) X.env)).all (fun x => !x.1) && (backToKw cpos (keywordEach [] X.env)).all (fun x => x.1.isSome)
      && decide ((e :: es).length + ([] : List Keyword).length + (if ([] : List Keyword).isEmpty then 0 else 1) < 30)) = true := by rfl)
    (hline : (apos.endLine == cpos.line) = true := by rfl) (hs : starEach (e :: es) X.env = (false, eval e X.env) :: starEach es X.env := by rfl) (hplain : (backTo cpos (starEach es X.env)).any (·.1) = false := by rfl) :
    PE X (.Call (.Attribute o name apos) (e :: es) [] cpos) (tBM X.K T r to t) := by
  intro pins s σ H Q I h
  refine wpAny_Call_method_late hbase hfew hline rfl (thn (ho pins s σ H _ I h) fun v s1 ⟨x, H1, I1, r1, ty, q1⟩ => ?_)
  obtain ⟨h1, h2⟩ := tyV_is I1 r1 ty
  refine ⟨T, id, pa, slot, hty, h1, h2, ?_⟩
  have hA := ha cpos pins s1 σ H1 _ I1 q1
  rw [hs] at hA ⊢
  refine Calls.callWith_builtin (by show (false || (backTo cpos (starEach es X.env)).any (·.1)) = false; rw [hplain] <;> rfl) (Calls.evalArgs_plain ?_)
  exact thn hA fun us s2 ⟨vs, H2, I2, r2, q2⟩ => hm pins s2 σ H2 x vs v us Q I2 r1 r2 q2
/- xs.append(e), list.index on a module's tuple .. are MtR facts of 06m -/
end
end L2
namespace L2
open PySem PySem.Spec PyProof.Rows
def MtM (X : Cx) (id : String) (r : V → List V → Hp → VK → Prop) : Prop :=
  ∀ (pins : List (Addr × Obj)) (s : Shared) (σ : St) (H : Hp) (x : V) (xs : List V) (v : Value) (us : List Value) (Q : VK), Inv X pins σ H s → RelV x v → Vals xs us → r x xs H Q →
    wpAny (model X.prog X.w) X.A (call (.builtin id) (v :: us)) (EP X pins σ Q) X.xe s
theorem Vals.one : ∀ {x : V} {us : List Value}, Vals [x] us → ∃ u, us = [u] ∧ RelV x u
  | _, _, .cons r .nil => ⟨_, rfl, r⟩
theorem Vals.two : ∀ {x y : V} {us : List Value}, Vals [x, y] us → ∃ u v, us = [u, v] ∧ RelV x u ∧ RelV y v
  | _, _, _, .cons r (.cons q .nil) => ⟨_, _, rfl, r, q⟩
theorem Vals.zero : ∀ {us : List Value}, Vals [] us → us = []
  | _, .nil => rfl
theorem Vals.eraseIdx : ∀ {xs : List V} {us : List Value} (i : Nat), Vals xs us → Vals (xs.eraseIdx i) (us.eraseIdx i)
  | _, _, _, .nil => .nil
  | _, _, 0, .cons _ t => t
  | _, _, i + 1, .cons r t => .cons r (Vals.eraseIdx i t)
theorem Vals.rep {xs : List V} {us : List Value} (h : Vals xs us) : ∀ k : Nat, Vals (List.replicate k xs).flatten (List.replicate k us).flatten
  | 0 => .nil
  | k + 1 => by
    rw [List.replicate_succ, List.replicate_succ, List.flatten_cons, List.flatten_cons]
    exact Vals.append h (Vals.rep h k)
theorem len_erase {α : Type} : ∀ (l : List α) (i : Nat), (l.eraseIdx i).length ≤ l.length
  | [], _ => Nat.le_refl _
  | _ :: _, 0 => Nat.le_succ _
  | _ :: r, i + 1 => Nat.succ_le_succ (len_erase r i)
theorem foldl_rep (its : List Value) : ∀ (k : Nat) (acc : List Value),
    List.foldl (fun x1 x2 => x1 ++ x2) acc.toArray (List.replicate k its.toArray) = (acc ++ (List.replicate k its).flatten).toArray
  | 0, acc => by simp
  | k + 1, acc => by
    have e : acc.toArray ++ its.toArray = (acc ++ its).toArray := by simp
    have e2 : (acc ++ its) ++ (List.replicate k its).flatten = acc ++ (List.replicate (k + 1) its).flatten := by
      rw [List.replicate_succ, List.flatten_cons, List.append_assoc]
    rw [← e2, ← foldl_rep its k (acc ++ its), ← e, List.replicate_succ, List.foldl_cons]
section
variable {X : Cx} {pins : List (Addr × Obj)} {σ : St} {H : Hp} {s : Shared} {l b : Addr} {xs ys zs : List V}
theorem Inv.lset {its its' : List Value} {n : Nat} {f : Array Value → Array Value} {t' : Nat} (I : Inv X pins σ H s) (hH : H l = some (.lst xs))
    (e : s.heap.get? l = some { cls := .type "list", data := .seq its.toArray n }) (hf : f its.toArray = its'.toArray) (hv : Vals ys its') (hz : ys.length ≤ sizeLine) :
    Inv X pins σ (upd H l (.lst ys)) { s with heap := s.heap.update l (Obj.mapSeq f), toks := t' } := by
  have q := PySem.IsL.update e f
  rw [hf] at q
  refine I.write (x := l) (e := l) (by rw [hH]; exact trivial) (.inl rfl) (fun b' u hb hu => (Heap.get?_update_other s.heap (Obj.mapSeq f) (Ne.symm hb)).trans hu) ⟨_, q⟩ ?_
  exact ⟨hz, its', _, hv, q⟩
theorem Inv.lnew {its : List Value} {t' : Nat} (I : Inv X pins σ H s) (hv : Vals ys its) (hz : ys.length ≤ sizeLine) :
    Inv X pins σ (upd H s.heap.objs.size (.lst ys)) { s with heap := s.heap.push { cls := .type "list", data := .seq its.toArray }, toks := t' } :=
  I.laid (fun _ _ q => Heap.get?_push_of_some _ q) (Nat.le_refl _) ⟨hz, its, 0, hv, Heap.get?_push_size _ rfl⟩
theorem Inv.fresh (I : Inv X pins σ H s) : H s.heap.objs.size = none := I.hok.fresh (Nat.le_refl _)
theorem Inv.lstM (I : Inv X pins σ H s) (hH : H l = some (.lst xs)) : xs.length ≤ sizeLine ∧ ∃ (its : List Value) (n : Nat), Vals xs its ∧ xs.length = its.length ∧ s.heap.get? l = some { cls := .type "list", data := .seq its.toArray n } := by
  obtain ⟨z, its, n, r, e⟩ := I.hok l _ hH
  exact ⟨z, its, n, r, r.length, e⟩
theorem notLongL {n : Nat} (h : n ≤ sizeLine) : Builtin.List.listTooLong n = false := by
  unfold Builtin.List.listTooLong
  exact decide_eq_false (by omega)
end
section
variable {X : Cx}
def rAppend : V → List V → Hp → VK → Prop := fun x vs H Q => ∃ l xs y, x = .ref l ∧ vs = [y] ∧ H l = some (.lst xs) ∧ xs.length < sizeLine ∧ Q .non (upd H l (.lst (xs ++ [y])))
theorem mt_append : MtM X "list.append" rAppend := by
  intro pins s σ H x vs v us Q I rx rv h
  obtain ⟨l, xs, y, rfl, rfl, hH, hz, q⟩ := h
  cases rx
  obtain ⟨u, rfl, ru⟩ := rv.one
  obtain ⟨z, its, n, r, hl, e⟩ := I.lstM hH
  refine call_meets F.slot_list_append ⟨_, e, rfl⟩ F.entry_list_append (F.args_list_append_2 _ _) (PySem.list_append l its.toArray n u (by rw [List.size_toArray]; omega)) ⟨e, ?_⟩
  refine ⟨.non, _, I.lset (its' := its ++ [u]) hH e (by simp) (r.append (.cons ru .nil)) ?_, rfl, q⟩
  rw [List.length_append, List.length_singleton]
  omega
def rExtend : V → List V → Hp → VK → Prop := fun x vs H Q => ∃ l b xs zs, x = .ref l ∧ vs = [.ref b] ∧ H l = some (.lst xs) ∧ H b = some (.lst zs) ∧ xs.length + zs.length ≤ sizeLine ∧ Q .non (upd H l (.lst (xs ++ zs)))
theorem mt_extend : MtM X "list.extend" rExtend := by
  intro pins s σ H x vs v us Q I rx rv h
  obtain ⟨l, b, xs, zs, rfl, rfl, hH, hB, hz, q⟩ := h
  cases rx
  obtain ⟨u, rfl, ru⟩ := rv.one
  cases ru
  obtain ⟨z, its, n, r, hl, e⟩ := I.lstM hH
  obtain ⟨z2, its2, n2, r2, hl2, e2⟩ := I.lstM hB
  have hsz : its.toArray.size + its2.toArray.size ≤ sizeLine := by rw [List.size_toArray, List.size_toArray]; omega
  have hlong : ¬ (!its.toArray.isEmpty && Builtin.List.listTooLong (its.toArray.size + its2.toArray.size)) = true := by
    rw [notLongL hsz, Bool.and_false]
    exact Bool.false_ne_true
  refine call_meets F.slot_list_extend ⟨_, e, rfl⟩ F.entry_list_extend (F.args_list_extend_2 _ _)
    (AutoSeq1.list_extend_list_list_0 l its.toArray n b its2.toArray n2 hlong (by rw [List.size_toArray]; omega) (by omega)) ⟨e, e2, ?_⟩
  refine ⟨.non, _, I.lset (its' := its ++ its2) hH e (by simp) (r.append r2) ?_, rfl, q⟩
  rw [List.length_append]
  omega
def rPopAt : V → List V → Hp → VK → Prop := fun x vs H Q => ∃ l xs i k y, x = .ref l ∧ vs = [.int i] ∧ H l = some (.lst xs) ∧ -(2 ^ 63) ≤ i ∧ i < 2 ^ 63 ∧ seqIndex? i xs.length = some k ∧ xs[k]? = some y ∧ Q y (upd H l (.lst (xs.eraseIdx k)))
theorem mt_popAt : MtM X "list.pop" rPopAt := by
  intro pins s σ H x vs v us Q I rx rv h
  obtain ⟨l, xs, i, k, y, rfl, rfl, hH, h1, h2, hk, hy, q⟩ := h
  cases rx
  obtain ⟨u, rfl, ru⟩ := rv.one
  obtain ⟨t, rfl⟩ := ru
  obtain ⟨z, its, n, r, hl, e⟩ := I.lstM hH
  obtain ⟨w, hw, rw'⟩ := r.get hy
  refine call_meets F.slot_list_pop ⟨_, e, rfl⟩ F.entry_list_pop (F.args_list_pop_2 _ _)
    (MeetsSeq.list_pop_at l its.toArray n i t k w (fitsIndex_both h1 h2) (by rw [List.size_toArray, ← hl]; exact hk) (by rw [← Array.getElem?_toList]; exact hw) (by rw [List.size_toArray]; omega)) ⟨e, ?_⟩
  refine ⟨y, _, I.lset (its' := its.eraseIdx k) hH e ?_ (r.eraseIdx k) ?_, rw', q⟩
  · show its.toArray.eraseIdxIfInBounds k = (its.eraseIdx k).toArray
    rw [List.eraseIdxIfInBounds_toArray]
  · have := len_erase xs k
    omega
def rCat : R2 := fun x y H Q => ∃ l b xs zs, x = .ref l ∧ y = .ref b ∧ H l = some (.lst xs) ∧ H b = some (.lst zs) ∧ xs.length + zs.length ≤ sizeLine ∧ ∀ p, H p = none → Q (.ref p) (upd H p (.lst (xs ++ zs)))
theorem op_cat : OpR X (binaryOp .Add) rCat := by
  intro pins s σ H x y v u Q I rx ry h
  obtain ⟨l, b, xs, zs, rfl, rfl, hH, hB, hz, q⟩ := h
  cases rx
  cases ry
  obtain ⟨z, its, n, r, hl, e⟩ := I.lstM hH
  obtain ⟨z2, its2, n2, r2, hl2, e2⟩ := I.lstM hB
  refine PySem.P.add_list e e2 ?_ (by rw [List.size_toArray, List.size_toArray]; omega)
  have ea : its.toArray ++ its2.toArray = (its ++ its2).toArray := by simp
  rw [ea]
  exact ⟨.ref _, _, I.lnew (t' := s.toks) (r.append r2) (by rw [List.length_append]; omega), rfl, q _ I.fresh⟩
def rRep : R2 := fun x y H Q => ∃ l k xs, x = .ref l ∧ y = .int k ∧ H l = some (.lst xs) ∧ -(2 ^ 63) ≤ k ∧ k < 2 ^ 63 ∧ xs.length * k.toNat ≤ sizeLine ∧
  ∀ p, H p = none → Q (.ref p) (upd H p (.lst (List.replicate k.toNat xs).flatten))
theorem len_rep {α : Type} (xs : List α) (k : Nat) : (List.replicate k xs).flatten.length = k * xs.length := by
  induction k with
  | zero => simp
  | succ k ih => rw [List.replicate_succ, List.flatten_cons, List.length_append, ih, Nat.succ_mul, Nat.add_comm]
theorem op_rep : OpR X (binaryOp .Mult) rRep := by
  intro pins s σ H x y v u Q I rx ry h
  obtain ⟨l, k, xs, rfl, rfl, hH, h1, h2, hz, q⟩ := h
  cases rx
  obtain ⟨t, rfl⟩ := ry
  obtain ⟨z, its, n, r, hl, e⟩ := I.lstM hH
  have hlen : its.toArray.size * k.toNat ≤ sizeLine := by rw [List.size_toArray, ← hl]; exact hz
  have hcap : ¬ its.toArray.size * k.toNat > (2 ^ 63 - 1) / 8 := by
    have : (sizeLine : Nat) ≤ (2 ^ 63 - 1) / 8 := by decide
    omega
  have hfit : ¬ (!Builtin.List.listFitsIndex k) = true := by
    rw [fitsIndex_both h1 h2]
    exact Bool.false_ne_true
  have hlong : ¬ Builtin.List.listTooLong (its.toArray.size * k.toNat) = true := by
    rw [notLongL hlen]
    exact Bool.false_ne_true
  have hnew : List.foldl (fun x1 x2 => x1 ++ x2) #[] (List.replicate (if its.toArray.isEmpty = true then 0 else k.toNat) its.toArray) = (List.replicate k.toNat its).flatten.toArray := by
    have f0 : ∀ m : Nat, List.foldl (fun x1 x2 => x1 ++ x2) #[] (List.replicate m its.toArray) = (List.replicate m its).flatten.toArray := fun m => by
      have := foldl_rep its m []
      rw [List.nil_append] at this
      exact this
    rw [f0]
    cases its with
    | nil => simp
    | cons a r' => rw [if_neg (by simp)]
  refine wpAny_binaryOp_repeat_ref (T := "list") (U := "int") (by decide) ⟨_, e, rfl⟩ (fun s' => typeIs_int s' k t) noFill_list_mul F.fills_int_mul F.slot_int_rmul repeat_list F.slot_int_index.lookup
    (call_meets F.slot_int_rmul (typeIs_int s k t) F.entry_int_rmul (F.args_int_rmul_2 _ _) (int___rmul___int_list k t l its.toArray n)
      ⟨e, rfl, ⟨_, e, rfl⟩, call_meets F.slot_list_mul ⟨_, e, rfl⟩ F.entry_list_mul (F.args_list_mul_2 _ _) (AutoListH.list___mul___list_int_3 l its.toArray n k t hfit hcap hlong) ⟨e, ?_⟩⟩)
  rw [hnew]
  exact ⟨.ref _, _, I.lnew (t' := s.toks) (r.rep k.toNat) (by rw [len_rep, Nat.mul_comm]; exact hz), rfl, q _ I.fresh⟩
end
section
variable {prog : Program} {w : World} {A : Around} {E : Value → Shared → Prop} {s : Shared}
end
section
variable {X : Cx}
end
end L2
namespace Att
open PySem PySem.W PySem.Calls PyProof.Rows
theorem ints_of_wellAll {P : Params} {h : Heap} : ∀ (ns : List Int) (vs : List Value), WellAll P h vs (ns.map WData.int) → IntsAre vs ns := by
  intro ns
  induction ns with
  | nil =>
    intro vs w
    rw [List.map_nil] at w
    cases w
    exact .nil
  | cons n ns ih =>
    intro vs w
    rw [List.map_cons] at w
    cases w with
    | cons a b =>
      cases a
      exact .cons _ _ (ih _ b)
theorem script_of {l : OpenLaw} {n : Nat} (hn : l.most = some n) {P : Params} {h : Heap} {args : List WData} {vals : List Value}
    (hpre : l.row.toRowW.claim.pre args = true) (hwl : WellAll P h vals args) :
    ∃ a vs ns, vals = [Value.ref a] ∧ args = [WData.list (ns.map WData.int)] ∧ h.get? a = some { cls := .type "list", data := .seq vs.toArray } ∧ IntsAre vs ns ∧ ns.length ≤ n := by
  have hsh : WShape.hasAll [] args [.list .int] = true := (pre_splitW hpre).1
  have hc : l.pre.holds [] { args := args } = true := (pre_splitW hpre).2
  obtain ⟨d, r, rfl, h1, h2⟩ := hasAllW_cons hsh
  obtain rfl := hasAllW_nil h2
  obtain ⟨xs, rfl, h3⟩ := hasW_list h1
  obtain ⟨ns, rfl⟩ := items_int h3
  have hlen : ns.length ≤ n := by
    unfold OpenLaw.pre at hc
    have h4 : (WTm.not (.lt (.lit (.int (n : Int))) (.len (.arg 0)))).holds [] { args := [.list (ns.map .int)] } = true := by
      have h4 := (holds_andW hc).1
      rw [hn] at h4
      exact h4
    have h5 := condW_of h4 (w_not (w_lt w_lit (w_len_list (w_arg rfl))))
    rw [List.length_map] at h5
    refine Nat.le_of_not_lt fun q => ?_
    have q' : (n : Int) < ((ns.length : Nat) : Int) := by omega
    first
      | (rw [decide_eq_true q'] at h5; exact absurd h5 (by decide))
      | (simp at h5; omega)
  cases hwl with
  | cons w1 w2 =>
    cases w2
    cases w1 with
    | list ho hall => exact ⟨_, _, ns, rfl, rfl, ho, ints_of_wellAll ns _ hall, hlen⟩
theorem post_true (l : OpenLaw) (args : List WData) : l.row.toRowW.claim.post args (.bool true) args = true :=
  postW_of (r := l.row.toRowW) (X := (true == true))
    (show WShape.has [] (.bool true) .bool = true by first | rfl | decide | simp [WShape.has, WShape.arms, WShape.armsAll])
    (show (WTm.eq .res (.lit (.bool true))).value [] { args := args, res := some (.bool true), after := args } = some (.bool (true == true)) from w_eq_bool (w_res rfl) w_lit) rfl
theorem attach_call {l : OpenLaw} {n : Nat} {q : Program} {loose : List Str} {XP : (Str → Option Value) → Heap → Prop} {YP : World → Heap → Prop} {d : DefRec}
    (hn : l.most = some n) (hdf : d.params.defaults = [])
    (call : ∀ (w : World) (s₀ s₁ : Shared) (mg mb : Str → Option Value) (fa : Addr) (o : Obj) (pm cd doc : Value) (a : Addr) (vs : List Value) (ns : List Int),
      Ground q loose [] XP w s₀ mg mb s₁.heap → YP w s₁.heap →
      s₁.heap.get? fa = some o → o.data = .func (docDef d.name d.params d.body d.scope pm cd doc) → s₁.heap.CodeRec cd d.name → mg d.name = some (.ref fa) →
      s₁.heap.get? a = some { cls := .type "list", data := .seq vs.toArray } → IntsAre vs ns → ns.length ≤ n → s₁.gens = #[] →
      codeAny (model l.prog w) callerA (.call (.ref fa) ⟨[.ref a], []⟩) (fun r s' => r = .ok (.ret (.bool true)) ∧ OldK s₁.heap s'.heap ∧ s'.os = s₁.os ∧ AllBare s'.gens) s₁) :
    WalkO q loose XP YP l.row.toRowW d [] (fun f vs => PySem.call f vs) := by
  intro w s₀ s₁ mg mb G Y fa o pm cd doc dV kV ho hd hcd hD hmg hg args vals as hpre hlay hrd hwl hlo
  obtain rfl : dV = .none := Dflts.none hD hdf
  obtain rfl : kV = .none := Dflts.noKw hD
  obtain ⟨a, vs, ns, rfl, rfl, hobj, hints, hlen⟩ := script_of hn hpre hwl
  refine enter_call (codeAny_mono (call w s₀ s₁ mg mb fa o pm cd doc a vs ns G Y ho (fd_plain hd) hcd hmg hobj hints hlen hg) fun r s' hq => ?_)
  obtain ⟨rfl, h2, h3, h4⟩ := hq
  exact ⟨.inl ⟨.bool true, .bool true, [], rfl, fun _ => rfl, .bool true, post_true l _, fun _ => ⟨List.Pairwise.nil, fun _ hm => (nomatch hm)⟩⟩, h2, h3, h4⟩
section
variable {prog : Program} {w : World} {A : Around} {E : Value → Shared → Prop} {s : Shared} {K : Frag}
end
end Att
namespace L2
open PySem PySem.Spec PyProof.Rows
theorem vals_ints : ∀ {vs : List Value} {ns : List Int}, IntsAre vs ns → Vals (ns.map V.int) vs
  | _, _, .nil => .nil
  | _, _, .cons n t h => .cons ⟨t, rfl⟩ (vals_ints h)
def Only (H : Hp) : Prop := ∀ b, H b = none ∨ ∃ o xs, H b = some (.frz o (.lst xs))
theorem law_call {P : Program} {w : World} {K : PySem.W.Frag} {mg mb : Str → Option Value} {CX : CXT} {k : Nat} {fa a : Addr} {fd : FuncData} {x : Str} {sp : Sp} {s₁ : Shared} {vs : List Value} {ns : List Int}
    (KX : K.In s₁.heap) (hns : s₁.heap.Ns mainGlobals mg) (hb : s₁.heap.Ns builtinsNs mb) (hbb : ∀ x : Str, x ≠ "__name__" → mb x = bootBuiltins x) (hlim : s₁.heap.NoLimit) (hg : s₁.gens = #[])
    (ha : s₁.heap.get? a = some { cls := .type "list", data := .seq vs.toArray }) (hi : IntsAre vs ns) (hl : ns.length ≤ sizeLine) (hr : Room k callerA)
    (F : ∀ base : Heap, K.In base → base.Ns mainGlobals mg → FnOk P w K mg base CX k fa fd [x] sp) (hbind : ∀ (s : Shared) (u : Value), BindsTo s fd ⟨[u], []⟩ [(x, u)])
    (hsp : ∀ H : Hp, Only H → SqL K H a (ns.map V.int) → sp [.ref a] H (fun v _ => v = .bl true) fun _ _ _ => False)
    (hCX : ∀ H e s', CX [] H s₁ (fun _ _ _ => False) e s' → False) :
    codeAny (model P w) callerA (.call (.ref fa) ⟨[.ref a], []⟩) (fun r s' => r = .ok (.ret (.bool true)) ∧ OldK s₁.heap s'.heap ∧ s'.os = s₁.os ∧ AllBare s'.gens) s₁ := by
  have rv := vals_ints hi
  have lenV := hi.length
  -- from an abstract heap in which nothing but the script may be tracked
  have core : ∀ H : Hp, Only H → SqL K H a (ns.map V.int) → HOk P w H s₁.heap → (∀ b, H b ≠ none → b = a) → (H a ≠ none → K.lookup a = none) →
      codeAny (model P w) callerA (.call (.ref fa) ⟨[.ref a], []⟩) (fun r s' => r = .ok (.ret (.bool true)) ∧ OldK s₁.heap s'.heap ∧ s'.os = s₁.os ∧ AllBare s'.gens) s₁ := by
    intro H hO hS hok hA hK
    have base_of : ∀ {b : Addr} {o : Obj}, s₁.heap.get? b = some o → H b = none → (hidT s₁.heap H).get? b = some o := fun e n => hidT_get e n
    have noA : ∀ {b : Addr} {o : Obj} {es : Array DictEntry} {ep : Nat}, s₁.heap.get? b = some o → o.data = .dict es ep → H b = none := fun {b o es ep} e d => by
      cases q : H b with
      | none => rfl
      | some u =>
        have e' : b = a := hA b (by rw [q]; simp)
        subst e'
        rw [ha] at e; cases e
        have d' : Data.seq vs.toArray _ = Data.dict es ep := d
        cases d'
    have nsK : ∀ {b : Addr} {m : Str → Option Value}, s₁.heap.Ns b m → (hidT s₁.heap H).Ns b m := fun {b m} ⟨o, es, ep, e, d, r⟩ => ⟨o, es, ep, base_of e (noA e d), d, r⟩
    have hKb : K.In (hidT s₁.heap H) := fun b o e => base_of (KX b o e) (by
      cases q : H b with
      | none => rfl
      | some u =>
        have e' : b = a := hA b (by rw [q]; simp)
        subst e'
        rw [hK (by rw [q]; simp)] at e; cases e)
    have hM : Mod K mg (hidT s₁.heap H) := ⟨hKb, nsK hns, ⟨mb, nsK hb, hbb⟩, let ⟨mc, h1, h2⟩ := hlim; ⟨mc, nsK h1, h2⟩⟩
    have e0 : Env0 P w K mg (hidT s₁.heap H) callerA [] s₁ H := ⟨rfl, hM, fun b o e => of_hidT e, Nat.le_of_eq (hidT_size _ _), trivial, fun b hb => absurd (show b ∈ ([] : List Addr) from hb) (by simp), hok, .of_eq hg⟩
    refine codeAny_mono ((F _ hKb (nsK hns)).run callerA [] s₁ H ⟨[.ref a], []⟩ [.ref a] [.ref a] _ _ hr e0 (hbind s₁ (.ref a)) (.cons rfl .nil) (hsp H hO hS)) fun r s' h => ?_
    cases r with
    | error e => exact (hCX H e s' h).elim
    | ok fl =>
      cases fl with
      | next => exact False.elim h
      | brk => exact False.elim h
      | cont => exact False.elim h
      | ret u =>
        obtain ⟨v, H', os, bare, un, hok', r', q⟩ := h
        have q' : v = .bl true := q
        subst q'
        obtain rfl : u = Value.bool true := r'
        refine ⟨rfl, OldK.of_keep fun b o e => ?_, os, bare⟩
        cases q : H b with
        | none => exact un.keep b o e q (by intro z; exact absurd (show b ∈ ([] : List Addr) from z) (by simp)) (by simp)
        | some u =>
          rcases hO b with z | ⟨ob, xs, z⟩
          · rw [q] at z; cases z
          · have z2 := un.frzs b ob _ z
            obtain ⟨e1, _⟩ := hok b _ z
            obtain ⟨e2, _⟩ := hok' b _ z2
            rw [e] at e1; cases e1
            exact e2
  cases hk : K.lookup a with
  | some o =>
    -- the script is one of the module's own objects
    have e := KX a o hk
    rw [ha] at e
    cases e
    refine core (fun _ => none) (fun _ => .inl rfl) (.inr ⟨_, vs.toArray, _, hk, rfl, rfl, rfl, by rw [List.size_toArray, lenV]; exact hl, by simpa using rv⟩) (fun b u z => by have z' : (none : Option HO) = some u := z; cases z') (fun b z => absurd rfl z) fun z => absurd rfl z
  | none =>
    refine core (fun b => if b = a then some (.frz { cls := .type "list", data := .seq vs.toArray } (.lst (ns.map V.int))) else none) (fun b => ?_) (.inl (.inr ⟨{ cls := .type "list", data := .seq vs.toArray }, if_pos rfl⟩)) (fun b u z => ?_) (fun b z => ?_) fun _ => hk
    · by_cases hb : b = a
      · exact .inr ⟨_, _, if_pos hb⟩
      · exact .inl (if_neg hb)
    · by_cases hb : b = a
      · have z' := (if_pos hb).symm.trans z
        cases z'
        subst hb
        exact ⟨ha, by rw [List.length_map]; exact hl, vs, _, rv, ha⟩
      · have z' := (if_neg hb).symm.trans z
        cases z'
    · by_cases hb : b = a
      · exact hb
      · exact absurd (if_neg hb) z
end L2
namespace L2
open PySem PySem.Spec PyProof.Rows
abbrev KOf {K : PySem.W.Frag} {h : Heap} (_ : K.In h) : PySem.W.Frag := K
theorem walk_of {l : PySem.W.OpenLaw} {n k : Nat} {q : Program} {loose : List Str} {XP : (Str → Option Value) → Heap → Prop} {YP : World → Heap → Prop} {d : DefRec} {K : Params → PySem.W.Frag} {CX : World → CXT} {sp : World → Sp} {x : Str}
    (hn : l.most = some n) (hn2 : n ≤ sizeLine) (hdf : d.params.defaults = []) (hr : Room k callerA)
    (hY : ∀ (w : World) (h : Heap), YP w h → (K w.params).In h)
    (F : ∀ (w : World) (mg : Str → Option Value) (fa : Addr) (h : Heap), (K w.params).In h → h.Ns mainGlobals mg → mg d.name = some (.ref fa) →
      ∃ fd : FuncData, (∀ (s : Shared) (u : Value), BindsTo s fd ⟨[u], []⟩ [(x, u)]) ∧
        ∀ base : Heap, (K w.params).In base → base.Ns mainGlobals mg → FnOk l.prog w (K w.params) mg base (CX w) k fa fd [x] (sp w))
    (hsp : ∀ (w : World) (H : Hp) (a : Addr) (ns : List Int), ns.length ≤ n → Only H → SqL (K w.params) H a (ns.map V.int) → sp w [.ref a] H (fun v _ => v = .bl true) fun _ _ _ => False)
    (hCX : ∀ (w : World) (H : Hp) (s : Shared) (e : Value) (s' : Shared), CX w [] H s (fun _ _ _ => False) e s' → False) :
    PySem.W.WalkO q loose XP YP l.row.toRowW d [] (fun f vs => PySem.call f vs) := by
  refine Att.attach_call hn hdf fun w s₀ s₁ mg mb fa o pm cd doc a vs ns G Y ho hd hcd hmg hobj hints hlen hg => ?_
  have KX := hY w _ Y
  obtain ⟨fd, hb, hF⟩ := F w mg fa _ KX G.T.g hmg
  exact law_call KX G.T.g G.T.b G.T.builtins G.T.nolimit hg hobj hints (Nat.le_trans hlen hn2) hr hF hb (fun H hO hS => hsp w H a ns hlen hO hS) fun H e s' => hCX w H s₁ e s'
end L2

/- THE LAST THEOREM (shape; LID, My.* are yours):
   My.Adr: a structure of the addresses that your layer names (classes, functions); My.Txt K t: a structure (Prop) of the equations over K;
   My.txt_mk : {K} {implicit addresses ..} (e1 : nsIn K mainGlobals "law" = some (some (.ref f))) (e2 : K.lookup f = some ⟨oc, od, .func (fnOf "law" "law" params body scope dV kV doc pm an cdv ct), sl⟩) (e3 : codeIn K cdv "law" = true) .. : ∃ t, My.Txt K t

set_option maxRecDepth 100000 in
set_option maxHeartbeats 0 in
theorem PySem.Challenge.cw_LID_holds : PySem.Challenge.rw_LID.Holds := by
  w_on; o_law; k_head; (case hw => w_witness2)
  k_fill
  refine L2.walk_of (l := PySem.Challenge.rw_LID) (n := 63) (k := 40) (x := "script") (CX := fun w => ..) (sp := fun _ => My.sp_law) rfl (by decide) rfl ⟨rfl, by decide, by decide⟩ (fun w h Y => PySem.W.kIn_of Y) ?F ?S ?C
  case F =>
    intro w mg fa h KX G hmg
    have T : ∃ t, My.Txt (L2.KOf KX) t := by
      dsimp only [L2.KOf]                          -- K must stand as «<heap const> w.params» for k_is
      refine' My.txt_mk ?e1 ?e2 ?e3 ..
      (case e1 => PySem.W.k_is)                    -- in the order: a name -> its address -> its object -> its parts
      (case e2 => PySem.W.k_is)
      ..
    obtain ⟨t, T⟩ := T
    have e0 := hmg.symm.trans (PySem.W.mg_of KX G T.law)
    cases e0                                       -- fa is the law's own address
    exact ⟨_, fun s u => .of_eq rfl, fun base kb nb => My.law_fn T kb nb⟩     -- if «.of_eq rfl» comes too early: refine' ⟨_, ?b, fun base kb nb => My.law_fn T kb nb⟩; exact fun s u => .of_eq rfl
  case S => exact fun w H a ns hl hO hS => ..
  case C => exact ..
(the tactic k_is has no namespace: write k_is) -/
namespace L2
open PySem PySem.Spec PyProof.Rows
def defArgs (s : Stmt) : Arguments := match s with
  | .FunctionDef _ a _ _ _ _ _ _ _ _ => a
  | _ => { posonlyargs := [], args := [], vararg := none, kwonlyargs := [], kw_defaults := [], kwarg := none, defaults := [] }
def defBody (s : Stmt) : List Stmt := match s with
  | .FunctionDef _ _ b _ _ _ _ _ _ _ => b
  | _ => []
def defScope (s : Stmt) : Scope := match s with
  | .FunctionDef _ _ _ _ _ _ sc _ _ _ => sc
  | _ => { kind := .function, names := [], isGenerator := false, isCoroutine := false }
abbrev CX0 : CXT := fun _ _ _ _ _ _ => False
abbrev E0 : XK := fun _ _ _ => False
theorem pass0 {X : Cx} : Passes CX0 X E0 := fun _ _ _ _ _ _ _ h => h.elim
structure Fun (K : PySem.W.Frag) (x qual : Str) (st : Stmt) (f : Addr) (fd : FuncData) : Prop where
  ex : ∃ (oc : Value) (od : Option Addr) (kV doc pm : Value) (an : Option Addr) (cdv ct : Value) (osl : Array (Option Value)),
    fd = PySem.W.fnOf x qual (defArgs st) (defBody st) (defScope st) .none kV doc pm an cdv ct ∧ K.lookup f = some ⟨oc, od, .func fd, osl⟩ ∧ PySem.W.codeIn K cdv qual = true
  kp : PySem.W.keepIn K (.ref f) = true
section
variable {P : Program} {w : World} {K : PySem.W.Frag} {mg : Str → Option Value} {base : Heap}
theorem Fun.ok {x qual : Str} {st : Stmt} {f : Addr} {fd : FuncData} {N ps : List Str} {k : Nat} {sp : Sp} (F : Fun K x qual st f fd) (S : FnScope N ps (defScope st)) (len : ∀ vs H Q E, sp vs H Q E → vs.length = ps.length)
    (hbody : ∀ (cdv : Value) (A : Around) (outer : List Env) (s : Shared) (H : Hp) (vs : List V) (Q : VK) (E : XK), Room k (A.deeper (envOfC qual (defScope st) s.heap.objs.size f cdv)) → sp vs H Q E →
      ∃ t, PSs (cxOf CX0 P w K mg base N qual (defScope st) f cdv A outer s H E).nox (defBody st) t ∧ t { nx := fun _ H' => Q .non H', rt := Q } (start N vs) H) : FnOk P w K mg base CX0 (k + 1) f fd ps sp := by
  obtain ⟨oc, od, kV, doc, pm, an, cdv, ct, osl, rfl, lk, hcd⟩ := F.ex
  refine fn_of lk hcd S len fun A outer s H vs Q E hr hsp => ?_
  obtain ⟨t, h, q⟩ := hbody cdv A outer s H vs Q E hr hsp
  exact ⟨t, h.nox, q⟩
theorem Fun.binds {x qual : Str} {st : Stmt} {f : Addr} {fd : FuncData} {ps : List Str} (F : Fun K x qual st f fd)
    (h : ∀ (kV doc pm : Value) (an : Option Addr) (cdv ct : Value) (us : List Value), us.length = ps.length → bindArgs (PySem.W.fnOf x qual (defArgs st) (defBody st) (defScope st) .none kV doc pm an cdv ct) ⟨us, []⟩ = pure (ps.zip us)) : Binds K fd ps [] := by
  obtain ⟨oc, od, kV, doc, pm, an, cdv, ct, osl, rfl, lk, hcd⟩ := F.ex
  exact .all (h kV doc pm an cdv ct)
theorem fun_mk {x qual : Str} {st : Stmt} {f : Addr} {oc : Value} {od an : Option Addr} {osl : Array (Option Value)} {kV doc pm cdv ct : Value} (l : K.lookup f = some ⟨oc, od, .func (PySem.W.fnOf x qual (defArgs st) (defBody st) (defScope st) .none kV doc pm an cdv ct), osl⟩)
    (c : PySem.W.codeIn K cdv qual = true) (k : PySem.W.keepIn K (.ref f) = true) : Fun K x qual st f (PySem.W.fnOf x qual (defArgs st) (defBody st) (defScope st) .none kV doc pm an cdv ct) := ⟨⟨oc, od, kV, doc, pm, an, cdv, ct, osl, rfl, l, c⟩, k⟩
end
theorem small1000 {n : Nat} (h : n ≤ 1000) : n < sizeLine := Nat.lt_of_le_of_lt h (by decide)
section
variable {X : Cx}
theorem pv (i : Nat) {x : Str} {pos : Pos} (hN : X.N[i]? = some x := by rfl) (hv : Vis X.env.scope x := by first | exact Or.inl rfl | exact Or.inr (Or.inl rfl) | exact Or.inr (Or.inr rfl)) (hd : (x == ("__debug__" : Str)) = false := by decide)
    (hcd : (x == ("__classdict__" : Str)) = false := by decide) : PE X (.Name x pos) (tVar i) := pe_var hN hv hd hcd
end
theorem iteF {A B : Prop} (h : B) : if false = true then A else B := by
  rw [if_neg Bool.false_ne_true]
  exact h
theorem iteT {A B : Prop} (h : A) : if true = true then A else B := by
  rw [if_pos rfl]
  exact h
theorem ite2 {c A B : Prop} [Decidable c] (h1 : c → A) (h2 : ¬ c → B) : if c then A else B := by
  by_cases h : c
  · rw [if_pos h]
    exact h1 h
  · rw [if_neg h]
    exact h2 h
theorem iteNS {c A B : Prop} [Decidable c] (hc : c) (h : B) : if (!decide c) = true then A else B := by
  rw [decide_eq_true hc]
  exact iteF h
def Same (H H' : Hp) : Prop := ∀ b o, H b = some o → H' b = some o
theorem Same.refl (H : Hp) : Same H H := fun _ _ h => h
theorem Same.trans {H H1 H2 : Hp} (a : Same H H1) (b : Same H1 H2) : Same H H2 := fun c o h => b c o (a c o h)
theorem Same.free {H H' : Hp} (e : Same H H') {l : Addr} (h : H' l = Option.none) : H l = Option.none := by
  cases q : H l with
  | none => rfl
  | some o =>
    rw [e l o q] at h
    cases h
theorem Same.seq {K : PySem.W.Frag} {H H' : Hp} {a : Addr} {xs : List V} (e : Same H H') (h : SqL K H a xs) : SqL K H' a xs := by
  rcases h with (h | ⟨o, h⟩) | h
  · exact .inl (.inl (e _ _ h))
  · exact .inl (.inr ⟨o, e _ _ h⟩)
  · exact .inr h
end L2
set_option Elab.async false
set_option linter.all false
set_option maxRecDepth 100000
set_option maxHeartbeats 4000000
namespace L2
open PySem PySem.Spec PyProof.Rows
def closL (env : Env) : List (Str × NameKind) → List (Str × Addr) → List (Str × Addr)
  | [], acc => acc
  | (n, k) :: r, acc => if k == .free then closL env r ((n, (env.cells.lookup n).getD 0) :: acc) else closL env r acc
theorem closureFor_closL {env : Env} {scope : Scope} (h : ∀ x ∈ scope.names, x.2 = .free → ∃ c, env.cells.lookup x.1 = some c) : closureFor scope env = pure (closL env scope.names []) := by
  unfold closureFor
  have go : ∀ (names : List (Str × NameKind)) (acc : List (Str × Addr)), (∀ x ∈ names, x.2 = .free → ∃ c, env.cells.lookup x.1 = some c) →
      (forIn names acc fun x r => match x with
        | (name, kind) => if (kind == NameKind.free) = true then do let __do_lift ← cellOf env name; pure (ForInStep.yield ((name, __do_lift) :: r)) else pure (ForInStep.yield r) : Sem (List (Str × Addr))) = pure (closL env names acc) := by
    intro names
    induction names with
    | nil => intro acc _; rfl
    | cons x r ih =>
      intro acc hx
      obtain ⟨n, k⟩ := x
      rw [List.forIn_cons]
      have hr := fun y hy => hx y (List.mem_cons_of_mem _ hy)
      by_cases hk : k = .free
      · subst hk
        obtain ⟨c, hc⟩ := hx (n, .free) List.mem_cons_self rfl
        have hc' : env.cells.lookup n = some c := hc
        unfold closL
        simp only [beq_self_eq_true, if_true, cellOf, hc', Option.getD_some, pure_bind]
        exact ih _ hr
      · have hb : (k == NameKind.free) = false := by simpa using hk
        unfold closL
        simp only [hb, Bool.false_eq_true, if_false, pure_bind]
        exact ih _ hr
  have := go scope.names [] h
  simp only [this]
  first | rfl | simp
theorem closL_mem {env : Env} : ∀ (names : List (Str × NameKind)) (acc : List (Str × Addr)), (∀ x ∈ names, x.2 = .free → ∃ c, env.cells.lookup x.1 = some c) → (∀ p ∈ acc, env.cells.lookup p.1 = some p.2) →
    ∀ p ∈ closL env names acc, env.cells.lookup p.1 = some p.2
  | [], _, _, ha, p, hp => ha p hp
  | (n, k) :: r, acc, h, ha, p, hp => by
    unfold closL at hp
    have hr := fun y hy => h y (List.mem_cons_of_mem _ hy)
    split at hp
    · rename_i hk
      have hk : k = .free := by simpa using hk
      obtain ⟨c, hc⟩ := h (n, k) List.mem_cons_self hk
      have hc' : env.cells.lookup n = some c := hc
      refine closL_mem r _ hr (fun q hq => ?_) p hp
      rcases List.mem_cons.mp hq with rfl | hq
      · show env.cells.lookup n = some ((env.cells.lookup n).getD 0)
        rw [hc']; rfl
      · exact ha q hq
    · exact closL_mem r acc hr ha p hp
theorem closL_acc {env : Env} : ∀ (names : List (Str × NameKind)) (acc : List (Str × Addr)), ∀ p ∈ acc, p ∈ closL env names acc
  | [], _, _, hp => hp
  | (n, k) :: r, acc, p, hp => by
    unfold closL
    split
    · exact closL_acc r _ p (List.mem_cons_of_mem _ hp)
    · exact closL_acc r acc p hp
theorem closL_has {env : Env} : ∀ (names : List (Str × NameKind)) (acc : List (Str × Addr)) (n : Str), (n, NameKind.free) ∈ names → ∃ c, (n, c) ∈ closL env names acc
  | (m, k) :: r, acc, n, hn => by
    unfold closL
    rcases List.mem_cons.mp hn with e | hn
    · cases e
      simp only [beq_self_eq_true, if_true]
      exact ⟨_, closL_acc r _ _ List.mem_cons_self⟩
    · split
      · exact closL_has r _ n hn
      · exact closL_has r _ n hn
theorem closL_names {env : Env} : ∀ (names : List (Str × NameKind)) (acc : List (Str × Addr)), ∀ p ∈ closL env names acc, p ∈ acc ∨ (p.1, NameKind.free) ∈ names
  | [], _, _, hp => .inl hp
  | (n, k) :: r, acc, p, hp => by
    unfold closL at hp
    split at hp
    · rename_i hk
      have hk : k = .free := by simpa using hk
      subst hk
      rcases closL_names r _ p hp with z | z
      · rcases List.mem_cons.mp z with rfl | z
        · exact .inr List.mem_cons_self
        · exact .inl z
      · exact .inr (List.mem_cons_of_mem _ z)
    · rcases closL_names r _ p hp with z | z
      · exact .inl z
      · exact .inr (List.mem_cons_of_mem _ z)
theorem cellsFrom_mem : ∀ (names : List (Str × NameKind)) (n : Nat) (acc : List (Str × Addr)), ∀ p ∈ cellsFrom n names acc, p ∈ acc ∨ (n ≤ p.2 ∧ (p.1, NameKind.cell) ∈ names)
  | [], _, _, _, hp => .inl hp
  | (x, k) :: r, n, acc, p, hp => by
    unfold cellsFrom at hp
    split at hp
    · rename_i hk
      have hk : k = .cell := by simpa using hk
      subst hk
      rcases cellsFrom_mem r (n + 1) _ p hp with z | ⟨z, w⟩
      · rcases List.mem_cons.mp z with rfl | z
        · exact .inr ⟨Nat.le_refl _, List.mem_cons_self⟩
        · exact .inl z
      · exact .inr ⟨Nat.le_of_succ_le z, List.mem_cons_of_mem _ w⟩
    · rcases cellsFrom_mem r n acc p hp with z | ⟨z, w⟩
      · exact .inl z
      · exact .inr ⟨z, List.mem_cons_of_mem _ w⟩
theorem cellsFrom_acc : ∀ (names : List (Str × NameKind)) (n : Nat) (acc : List (Str × Addr)), ∀ p ∈ acc, p ∈ cellsFrom n names acc
  | [], _, _, _, hp => hp
  | (x, k) :: r, n, acc, p, hp => by
    unfold cellsFrom
    split
    · exact cellsFrom_acc r _ _ p (List.mem_cons_of_mem _ hp)
    · exact cellsFrom_acc r _ _ p hp
theorem cellsFrom_has : ∀ (names : List (Str × NameKind)) (n : Nat) (acc : List (Str × Addr)) (x : Str), (x, NameKind.cell) ∈ names → ∃ c, (x, c) ∈ cellsFrom n names acc
  | (y, k) :: r, n, acc, x, hx => by
    unfold cellsFrom
    rcases List.mem_cons.mp hx with e | hx
    · cases e
      simp only [beq_self_eq_true, if_true]
      exact ⟨_, cellsFrom_acc r _ _ _ List.mem_cons_self⟩
    · split
      · exact cellsFrom_has r _ _ x hx
      · exact cellsFrom_has r _ _ x hx
theorem cellsFrom_new : ∀ (names : List (Str × NameKind)) (h : Heap) (acc : List (Str × Addr)), ∀ p ∈ cellsFrom h.objs.size names acc, p ∈ acc ∨ (pushCells h names).IsCell p.2 none
  | [], _, _, _, hp => .inl hp
  | (x, k) :: r, h, acc, p, hp => by
    unfold cellsFrom at hp
    unfold pushCells
    split at hp
    · rename_i hk
      rw [if_pos hk]
      have := cellsFrom_new r (h.push { cls := .type "cell", data := .cell none }) ((x, h.objs.size) :: acc) p (by rw [Heap.size_push]; exact hp)
      rcases this with z | z
      · rcases List.mem_cons.mp z with rfl | z
        · exact .inr ⟨_, pushCells_keeps _ _ _ _ (Heap.get?_push_size _ rfl), rfl⟩
        · exact .inl z
      · exact .inr z
    · rename_i hk
      rw [if_neg hk]
      exact cellsFrom_new r h acc p hp
theorem cellsFrom_apart : ∀ (names : List (Str × NameKind)) (n : Nat) (acc : List (Str × Addr)), (acc.Pairwise fun x y => x.2 ≠ y.2) → (∀ p ∈ acc, p.2 < n) → (cellsFrom n names acc).Pairwise fun x y => x.2 ≠ y.2
  | [], _, _, h, _ => h
  | (x, k) :: r, n, acc, h, hl => by
    unfold cellsFrom
    split
    · refine cellsFrom_apart r (n + 1) _ (List.pairwise_cons.mpr ⟨fun y hy e => ?_, h⟩) fun p hp => ?_
      · have h1 := hl y hy
        have e' : n = y.2 := e
        exact absurd h1 (by rw [← e']; exact Nat.lt_irrefl _)
      · rcases List.mem_cons.mp hp with rfl | hp
        · exact Nat.lt_succ_self _
        · exact Nat.lt_succ_of_lt (hl p hp)
    · exact cellsFrom_apart r n acc h hl
theorem closL_apart {env : Env} (inj : ∀ x y c, env.cells.lookup x = some c → env.cells.lookup y = some c → x = y) : ∀ (names : List (Str × NameKind)) (acc : List (Str × Addr)), (names.map (·.1)).Nodup →
    (∀ x ∈ names, x.2 = .free → ∃ c, env.cells.lookup x.1 = some c) → (acc.Pairwise fun x y => x.2 ≠ y.2) → (∀ p ∈ acc, env.cells.lookup p.1 = some p.2 ∧ p.1 ∉ names.map (·.1)) → (closL env names acc).Pairwise fun x y => x.2 ≠ y.2
  | [], _, _, _, h, _ => h
  | (n, k) :: r, acc, nd, hf, h, ha => by
    unfold closL
    have nd' := List.nodup_cons.mp nd
    have hr := fun y hy => hf y (List.mem_cons_of_mem _ hy)
    split
    · rename_i hk
      have hk : k = .free := by simpa using hk
      obtain ⟨c, hc⟩ := hf (n, k) List.mem_cons_self hk
      have hc' : env.cells.lookup n = some c := hc
      refine closL_apart inj r _ nd'.2 hr (List.pairwise_cons.mpr ⟨fun y hy e => ?_, h⟩) fun p hp => ?_
      · have e' : (env.cells.lookup n).getD 0 = y.2 := e
        rw [hc'] at e'
        have e2 : c = y.2 := e'
        have q := (ha y hy).1
        have := inj n y.1 c hc' (by rw [e2]; exact q)
        exact (ha y hy).2 (by rw [← this]; exact List.mem_cons_self)
      · rcases List.mem_cons.mp hp with rfl | hp
        · refine ⟨?_, nd'.1⟩
          show env.cells.lookup n = some ((env.cells.lookup n).getD 0)
          rw [hc']; rfl
        · exact ⟨(ha p hp).1, fun z => (ha p hp).2 (List.mem_cons_of_mem _ z)⟩
    · exact closL_apart inj r acc nd'.2 hr h fun p hp => ⟨(ha p hp).1, fun z => (ha p hp).2 (List.mem_cons_of_mem _ z)⟩
theorem relabel_lookup {env : Env} : ∀ (names : List (Str × NameKind)) (x : Str),
    (names.map fun (n, k) => if (k == NameKind.free && env.scope.kind == .function && env.kindOf n == some .cell) then (n, NameKind.cell) else (n, k)).lookup x =
      (names.lookup x).map fun k => if (k == NameKind.free && env.scope.kind == .function && env.kindOf x == some .cell) then NameKind.cell else k
  | [], x => rfl
  | (n, k) :: r, x => by
    have ih := relabel_lookup (env := env) r x
    rw [List.map_cons]
    show List.lookup x ((if (k == NameKind.free && env.scope.kind == .function && env.kindOf n == some .cell) = true then (n, NameKind.cell) else (n, k)) :: _) = _
    split
    · rename_i hc
      rw [List.lookup_cons, List.lookup_cons]
      cases hx : x == n with
      | false => exact ih
      | true =>
        have e : x = n := by simpa using hx
        subst e
        simp only [Option.map_some]
        rw [if_pos hc]
    · rename_i hc
      rw [List.lookup_cons, List.lookup_cons]
      cases hx : x == n with
      | false => exact ih
      | true =>
        have e : x = n := by simpa using hx
        subst e
        simp only [Option.map_some]
        rw [if_neg hc]
theorem mem_lookup_nodup {α : Type} : ∀ {l : List (Str × α)} {n : Str} {c : α}, (l.map (·.1)).Nodup → (n, c) ∈ l → l.lookup n = some c
  | (k, v) :: r, n, c, nd, h => by
    have nd' := List.nodup_cons.mp nd
    rw [List.lookup_cons]
    rcases List.mem_cons.mp h with e | h2
    · cases e; simp
    · cases hb : n == k with
      | true =>
        have e : n = k := by simpa using hb
        exact absurd (List.mem_map.mpr ⟨(n, c), h2, e⟩ : k ∈ r.map (·.1)) nd'.1
      | false => exact mem_lookup_nodup nd'.2 h2
theorem lookup_of_mem {α : Type} : ∀ {l : List (Str × α)} {n : Str} {c : α}, (n, c) ∈ l → ∃ d, l.lookup n = some d
  | (k, v) :: r, n, c, h => by
    rw [List.lookup_cons]
    cases hb : n == k with
    | true => exact ⟨v, rfl⟩
    | false =>
      rcases List.mem_cons.mp h with e | h
      · cases e; simp at hb
      · exact lookup_of_mem h
abbrev compCx (X : Cx) (scope : Scope) (N' : List Str) (s2 : Shared) (H2 : Hp) (cs : List (Str × Addr)) (C : Addr) (fp : List Addr) : Cx where
  prog := X.prog
  w := X.w
  K := X.K
  mg := X.mg
  base := X.base
  A := X.A
  N := N'
  s₀ := s2
  H₀ := H2
  env := compEnvC scope cs C X.env
  outer := X.stack
  stack := X.stack
  ex := fp
  fn := fun x => scope.names.lookup x == some .cell
  calm := X.calm
  pn := X.pn
  xe := fun _ _ => False
def compOk (sc0 sc : Scope) (own cn N : List Str) (js : List Nat) : Bool :=
  (decide (sc.kind = .function)) && (sc.names.all fun x => !decide (x.2 = .free) || decide (sc0.names.lookup x.1 = some .cell) || decide (sc0.names.lookup x.1 = some .free))
  && decide ((sc.names.map (·.1)).Nodup) && (own.all fun x => decide (sc.names.lookup x = some .local) || decide (sc.names.lookup x = some .cell)) && (cn.all fun x => decide (sc.names.lookup x = some .free))
  && decide ((own ++ cn).Nodup) && decide (js.map (fun j => N[j]?) = cn.map some)
def capS (k : Nat) (js : List Nat) (σ : St) : St := List.replicate k none ++ js.map fun j => (σ[j]?).join
def PIfs (X : Cx) (ifs : List Expr) (t : TT) : Prop :=
  ∀ (pins : List (Addr × Obj)) (s : Shared) (σ : St) (H : Hp) (Q : Bool → Hp → Prop), Inv X pins σ H s → t σ H Q →
    wpAny (model X.prog X.w) X.A (forIn ifs true fun c r => if r = true then do let ok ← isTrue c X.env (eval c X.env); pure (ForInStep.yield ok) else pure (ForInStep.yield r)) (TP X pins σ Q) X.xe s
theorem pifs_nil {X : Cx} : PIfs X [] (fun _ H Q => Q true H) := fun _ _ _ H _ I h => wpAny_tests_nil ⟨H, I, h⟩
theorem pifs_one {X : Cx} {c : Expr} {t : TT} (h : PT X c t) : PIfs X [c] t := fun pins s σ H Q I hw => wpAny_tests_one (h pins s σ H Q I hw)
theorem comp_env {M : Model} {A : Around} {E : Value → Shared → Prop} {s : Shared} {scope : Scope} {env : Env} {cl : List (Str × Addr)} {Q : Env → Shared → Prop}
    (h : Q (newEnv scope s.heap.objs.size env.globals (cellsFrom (s.heap.objs.size + 1) scope.names cl) env.qual none .none (some env) builtinsNs) { s with heap := pushCells (s.heap.push { cls := .type "dict", data := .dict #[] }) scope.names }) :
    wpAny M A (newFunctionEnv scope env.globals cl [] env.qual none .none (some env)) Q E s := by
  simp only [newFunctionEnv, Option.isSome_some, if_true]
  refine wpAny_bind (wpAny_alloc ?_)
  refine wpAny_bind (wpAny_layCells _ (fun name kind cells => by cases hkc : kind == NameKind.cell <;> simp [hkc]) _ _ _ _ ?_)
  rw [show ({ s with heap := s.heap.push { cls := .type "dict", data := .dict #[] } } : Shared).heap.objs.size = s.heap.objs.size + 1 from Heap.size_push ..]
  refine wpAny_bind ?_
  rw [List.forIn_nil]
  exact wpAny_pure (wpAny_pure h)
theorem codeAny_compLoop_own {prog : Program} {w : World} {A : Around} {R : Result → Shared → Prop} {s : Shared} {elt target iter : Expr} {ifs : List Expr} {scope : Scope} {pos : Pos} {it acc : Value} {env : Env} (I : Nat → Shared → Prop)
    (turn : ∀ n s, I n s → wpAny (model prog w) A (pyNext it) (fun r s₁ => match r with
      | none => R (.ok .next) s₁
      | some v => wpAny (model prog w) A (letOwnedTupleGo target it v) (fun _ s₁' => wpAny (model prog w) A (assign target env v) (fun _ s₂ =>
          wpAny (model prog w) A (forIn ifs true fun c r => if r = true then do let ok ← isTrue c env (eval c env); pure (ForInStep.yield ok) else pure (ForInStep.yield r)) (fun ok s₃ =>
            if ok = true then wpAny (model prog w) A (eval elt env) (fun x s₄ =>
              wpAny (model prog w) A (call (.builtin "list.append") [acc, x]) (fun _ s₅ => ∃ m, m < n ∧ I m s₅) (fun _ _ => False) s₄) (fun _ _ => False) s₃
            else ∃ m, m < n ∧ I m s₃) (fun _ _ => False) s₂) (fun _ _ => False) s₁') (fun _ _ => False) s₁) (fun _ _ => False) s)
    (n : Nat) (h : I n s) :
    codeAny (model prog w) A (.compLoop (.ListComp elt [⟨target, iter, ifs, 0⟩] scope pos) 0 it acc env) R s := by
  refine codeAny_loop rfl I (fun n s hI => ?_) n h
  show wpAny _ A ((compTurn (.ListComp elt [⟨target, iter, ifs, 0⟩] scope pos) 0 it acc env).onRaise (fun x => do noteFrame x env; theTreesLotGoes x)) _ _ s
  refine wpAny_noted ?_
  rw [compTurn_list]
  refine wpAny_bind (wpAny_standAt (wpAny_bind (wpAny_mono (turn n s hI) (fun r s₁ h₁ => ?_) fun _ _ h' => False.elim h')))
  cases r with
  | none => exact wpAny_pure h₁
  | some v =>
    refine wpAny_bind (wpAny_mono h₁ (fun _ s₁' h₁' => ?_) fun _ _ h' => False.elim h')
    refine wpAny_bind (wpAny_mono h₁' (fun _ s₂ h₂ => wpAny_bind (wpAny_mono h₂ (fun ok s₃ h₃ => ?_) fun _ _ h' => False.elim h')) fun _ _ h' => False.elim h')
    cases ok with
    | false => exact wpAny_pure ⟨rfl, h₃⟩
    | true =>
      exact wpAny_bind (wpAny_bind (wpAny_mono h₃ (fun x s₄ h₄ => wpAny_bind (wpAny_mono h₄ (fun _ s₅ h₅ => wpAny_pure (wpAny_pure ⟨rfl, h₅⟩)) fun _ _ h' => False.elim h')) fun _ _ h' => False.elim h'))
def CompW (J : It) (g : TG) (tt : TT) (te : TE) (D : Addr) (σ' : St) (Q : List V → Hp → Prop) (W : Nat → Nat → List V → Hp → Prop) : Prop :=
  ∀ i m ys H, W i m ys H → (J.stop i H ∧ Q ys H) ∨ (J.go i H ∧ ∃ N : List V → Hp → Prop, (∀ ys' H', N ys' H' → ∃ m', m' < m ∧ W (i + 1) m' ys' H') ∧ ∀ x H', J.yld i H x H' → g x σ' H' fun σ2 H2 => tt σ2 H2 fun b H3 =>
    if b = true then te σ2 H3 fun v H4 => H4 D = some (.lst ys) ∧ ys.length < sizeLine ∧ N (ys ++ [v]) (upd H4 D (.lst (ys ++ [v]))) else N ys H3)
def tComp (wi : TI) (g : TG) (tt : TT) (te : TE) (k : Nat) (js : List Nat) : TE := fun σ H Q => wi σ H fun J H1 => ∀ D, H1 D = none →
  ∃ W : Nat → Nat → List V → Hp → Prop, (∃ m, W 0 m [] (upd H1 D (.lst []))) ∧ CompW J g tt te D (capS k js σ) (fun _ H => Q (.ref D) H) W
section
variable {X : Cx} {pins : List (Addr × Obj)} {σ : St} {H2 : Hp} {s2 : Shared} {tg elt iter : Expr} {ifs : List Expr} {scope : Scope} {pos : Pos} {own cn : List Str} {js : List Nat} {g : TG} {tt : TT} {te : TE}
theorem comp_block (hok : compOk X.env.scope scope own cn X.N js = true) (hc : X.calm = true)
    (hg : ∀ s2 H2 cs C fp, PG (compCx X scope (own ++ cn) s2 H2 cs C fp) tg g) (ht : ∀ s2 H2 cs C fp, PIfs (compCx X scope (own ++ cn) s2 H2 cs C fp) ifs tt) (he : ∀ s2 H2 cs C fp, PE (compCx X scope (own ++ cn) s2 H2 cs C fp) elt te)
    (I2 : Inv X pins σ H2 s2) {it : Addr} {fp : List Addr} {tn : Nat → Heap → Prop} {J : It} (T : Turn X.prog X.w X.K tg J fp it tn) (st2 : tn 0 s2.heap) (f2 : ∀ b ∈ fp, FpOk X pins H2 b)
    {Qe : Hp → Prop} (hW : ∃ W : Nat → Nat → List V → Hp → Prop, (∃ m, W 0 m [] (upd H2 s2.heap.objs.size (.lst []))) ∧ CompW J g tt te s2.heap.objs.size (capS own.length js σ) (fun _ H => Qe H) W)
    {RR : Value → Addr → Result → Shared → Prop}
    (hRR : ∀ C H' s', Inv X pins σ H' s' → FpOk X pins H' C → (∃ m, s'.heap.Ns C m) → Qe H' → RR (.ref s2.heap.objs.size) C (.ok .next) s') :
    wpAny (model X.prog X.w) X.A (newList []) (fun acc s₃ => wpAny (model X.prog X.w) X.A (newFunctionEnv scope X.env.globals (closL X.env scope.names []) [] X.env.qual none .none (some X.env)) (fun cenv s₄ =>
      codeAny (model X.prog X.w) X.A (.compStart (.ListComp elt [⟨tg, iter, ifs, 0⟩] scope pos) 0 (.ref it) acc { cenv with scope := relabel scope X.env }) (RR acc cenv.locals) s₄) X.xe s₃) X.xe s2 := by
  unfold compOk at hok
  simp only [Bool.and_eq_true, decide_eq_true_eq, List.all_eq_true, Bool.or_eq_true, Bool.not_eq_true', decide_eq_false_iff_not] at hok
  obtain ⟨⟨⟨⟨⟨⟨k1, k2⟩, k3⟩, k4⟩, k5⟩, k6⟩, k7⟩ := hok
  have hfreeK : ∀ x ∈ scope.names, x.2 = .free → X.env.kindOf x.1 = some .cell ∨ X.env.kindOf x.1 = some .free := fun x hx hf => by
    rcases k2 x hx with (z | z) | z
    · exact absurd hf z
    · exact .inl z
    · exact .inr z
  have hfree : ∀ x ∈ scope.names, x.2 = .free → ∃ c, X.env.cells.lookup x.1 = some c := fun x hx hf => I2.ok.has x.1 (hfreeK x hx hf)
  -- the heap behind the making
  refine wpAny_newObj_type (comp_env ?_)
  have hsz3 : (s2.heap.push { cls := .type "list", dict := none, data := .seq ([] : List Value).toArray }).objs.size = s2.heap.objs.size + 1 := Heap.size_push ..
  dsimp only
  generalize hh3 : s2.heap.push { cls := .type "list", dict := none, data := .seq ([] : List Value).toArray } = h3 at hsz3 ⊢
  have old3 : ∀ b o, s2.heap.get? b = some o → h3.get? b = some o := fun b o e => hh3 ▸ Heap.get?_push_of_some _ e
  have hD3 : h3.get? s2.heap.objs.size = some { cls := .type "list", data := .seq ([] : List Value).toArray } := hh3 ▸ Heap.get?_push_size _ rfl
  generalize hcs : cellsFrom (h3.objs.size + 1) scope.names (closL X.env scope.names []) = cs
  generalize hh4 : pushCells (h3.push { cls := .type "dict", data := .dict #[] }) scope.names = h4
  have old4 : ∀ b o, h3.get? b = some o → h4.get? b = some o := fun b o e => hh4 ▸ pushCells_keeps _ _ b o (Heap.get?_push_of_some _ e)
  have old : ∀ b o, s2.heap.get? b = some o → h4.get? b = some o := fun b o e => old4 b o (old3 b o e)
  have hD4 : h4.get? s2.heap.objs.size = some { cls := .type "list", data := .seq ([] : List Value).toArray } := old4 _ _ hD3
  have hNs : h4.Ns h3.objs.size (fun _ => none) := hh4 ▸ (Heap.Ns.new h3 (.type "dict")).keeps (pushCells_keeps _ _)
  generalize hC : h3.objs.size = C at hNs hcs ⊢
  have hCD : @Eq Nat C (s2.heap.objs.size + 1) := by rw [← hC]; exact hsz3
  have clM := closL_mem (env := X.env) scope.names [] hfree (fun p hp => absurd hp (by simp))
  have cellLt : ∀ x c, X.env.cells.lookup x = some c → @LT.lt Nat _ c s2.heap.objs.size := fun x c e => by obtain ⟨v, z⟩ := I2.cell x c e; exact z.lt
  have apart : cs.Pairwise fun x y => x.2 ≠ y.2 := by
    rw [← hcs]
    refine cellsFrom_apart _ _ _ (closL_apart I2.ok.inj scope.names [] k3 hfree List.Pairwise.nil fun p hp => absurd hp (by simp)) fun p hp => ?_
    have := cellLt _ _ (clM p hp)
    show @LT.lt Nat _ p.2 (C + 1)
    omega
  have csM : ∀ p ∈ cs, X.env.cells.lookup p.1 = some p.2 ∨ (C + 1 ≤ p.2 ∧ (p.1, NameKind.cell) ∈ scope.names ∧ h4.IsCell p.2 none) := fun p hp => by
    have hp0 := hp
    rw [← hcs] at hp
    rcases cellsFrom_mem _ _ _ p hp with z | ⟨z, y⟩
    · exact .inl (clM p z)
    · have e : h3.objs.size + 1 = (h3.push { cls := .type "dict", data := .dict #[] }).objs.size := by rw [Heap.size_push]
      have hp' := hp
      rw [← hC, e] at hp'
      rcases cellsFrom_new _ _ _ p hp' with q | q
      · exact .inl (clM p q)
      · exact .inr ⟨z, y, hh4 ▸ q⟩
  -- facts of the block's context
  have hX : (compCx X scope (own ++ cn) s2 H2 cs C fp).Ok := by
    refine ⟨I2.ok.mod, k1, I2.ok.glob, I2.ok.blt, by show @LE.le Nat _ s2.heap.objs.size C; omega, fun x y c h1 h2 => name_of_addr apart (PySem.mem_of_lookup h1) (PySem.mem_of_lookup h2), fun x hx => ?_, fun x c hf hx => ?_, I2.ok.hd, I2.ok.frames, .inl rfl, fun b hb => ?_, I2.bs, Nat.le_trans I2.ok.bsz I2.sz, fun b o e hb => ?_, fun b hb hf => ?_, I2.stack, I2.stkFree⟩
    · have hx' : (relabel scope X.env).names.lookup x = some .cell ∨ (relabel scope X.env).names.lookup x = some .free := hx
      have hl : scope.names.lookup x = some .cell ∨ scope.names.lookup x = some .free := by
        unfold relabel at hx'
        dsimp only at hx'
        rw [relabel_lookup] at hx'
        cases e : scope.names.lookup x with
        | none => rw [e] at hx'; simp at hx'
        | some k =>
          rw [e] at hx'
          cases k <;> simp_all
      have : ∃ c, (x, c) ∈ cs := by
        rw [← hcs]
        rcases hl with hl | hl
        · exact cellsFrom_has _ _ _ x (PySem.mem_of_lookup hl)
        · obtain ⟨c, hc'⟩ := closL_has (env := X.env) scope.names [] x (PySem.mem_of_lookup hl)
          exact ⟨c, cellsFrom_acc _ _ _ _ hc'⟩
      obtain ⟨c, hm⟩ := this
      exact lookup_of_mem hm
    · have hf' : scope.names.lookup x = some .cell := by simpa using hf
      have hm := PySem.mem_of_lookup (show cs.lookup x = some c from hx)
      rcases csM _ hm with z | ⟨z, _⟩
      · -- own cells are not captured ones: the captured of that name would be free in the scope
        rw [← hcs] at hm
        rcases cellsFrom_mem _ _ _ _ hm with q | ⟨q, _⟩
        · rcases closL_names (env := X.env) scope.names [] _ q with q' | q'
          · exact absurd q' (by simp)
          · have := mem_lookup_nodup k3 q'
            have h2 : scope.names.lookup x = some .free := this
            rw [hf'] at h2; cases h2
        · show @LE.le Nat _ s2.heap.objs.size c
          have q2 : @LE.le Nat _ (C + 1) c := q
          omega
      · show @LE.le Nat _ s2.heap.objs.size c
        have z2 : @LE.le Nat _ (C + 1) c := z
        omega
    · obtain ⟨f0, f1, f2', f3, f4, f5⟩ := f2 b hb
      obtain ⟨o, ho, _⟩ := T.obj 0 _ st2 b hb
      have hb2 : @LT.lt Nat _ b s2.heap.objs.size := Heap.lt_size ho
      refine ⟨?_, fun x c e => ?_⟩
      · show @Ne Nat b C
        omega
      · rcases csM _ (PySem.mem_of_lookup (show cs.lookup x = some c from e)) with z | ⟨z, _⟩
        · exact f4 x c z
        · have z2 : @LE.le Nat _ (C + 1) c := z
          show @Ne Nat c b
          omega
    · obtain ⟨f0, f1, f2', f3, f4, f5⟩ := f2 b hb
      rcases f3 with z | z
      · exact I2.ok.noex b o e z
      · exact absurd (Nat.lt_of_lt_of_le (Heap.lt_size e) (Nat.le_trans I2.ok.bsz z)) (Nat.lt_irrefl _)
    · obtain ⟨f0, f1, f2', _⟩ := f2 b hb
      rcases List.mem_cons.mp (I2.stkSub b hf) with z | z
      · exact f1 z
      · exact f2' z
  have hDn : H2 s2.heap.objs.size = none := I2.fresh
  have hCn : H2 C = none := I2.hok.fresh (show @LE.le Nat _ s2.heap.objs.size C by omega)
  have stkNe : ∀ b, b ≠ X.env.locals → b ∉ X.fs → b ∉ frs X.stack := fun b h1 h2 hb => by
    rcases List.mem_cons.mp (I2.stkSub b hb) with z | z
    · exact h1 z
    · exact h2 z
  have I4 : Inv (compCx X scope (own ++ cn) s2 H2 cs C fp) pins (capS own.length js σ) (upd H2 s2.heap.objs.size (.lst [])) { s2 with heap := h4 } := by
    refine ⟨hX, rfl, I2.bare, Un.laid old (Nat.le_refl _) hDn, ⟨fun _ => none, hNs, fun i x v e1 e2 e3 => ?_⟩, fun x c e => ?_, ?_, fun x c e => ?_, fun p hp => ?_, I2.hok.laid old (Nat.le_refl _) ⟨Nat.zero_le _, [], 0, .nil, hD4⟩, ?_⟩
    · -- a captured name
      have hi : own.length ≤ i := by
        rcases Nat.lt_or_ge i own.length with z | z
        · exfalso
          unfold capS at e2
          rw [List.getElem?_append_left (by simpa using z), List.getElem?_replicate, if_pos z] at e2
          cases e2
        · exact z
      have e1' : cn[i - own.length]? = some x := by
        have : (own ++ cn)[i]? = some x := e1
        rw [List.getElem?_append_right hi] at this
        exact this
      have e2' : (js.map fun j => (σ[j]?).join)[i - own.length]? = some (some v) := by
        unfold capS at e2
        rw [List.getElem?_append_right (by simpa using hi)] at e2
        simpa using e2
      rw [List.getElem?_map] at e2'
      cases hj : js[i - own.length]? with
      | none => rw [hj] at e2'; cases e2'
      | some j =>
        rw [hj] at e2'
        have e2'' : (σ[j]?).join = some v := by simpa using e2'
        have hσ : σ[j]? = some (some v) := by
          cases q : σ[j]? with
          | none => rw [q] at e2''; cases e2''
          | some z => rw [q] at e2''; simp at e2''; rw [e2'']
        have hNx : X.N[j]? = some x := by
          have := congrArg (fun l => l[i - own.length]?) k7
          simp only [List.getElem?_map, hj, e1', Option.map_some] at this
          exact Option.some.inj this
        have hfx : scope.names.lookup x = some .free := k5 x (List.mem_of_getElem? e1')
        have hK := hfreeK (x, .free) (PySem.mem_of_lookup hfx) rfl
        have hK' : X.env.kindOf x = some .cell ∨ X.env.kindOf x = some .free := hK
        obtain ⟨m, hn, hl⟩ := I2.loc
        have hvis : Vis X.env.scope x := by
          rcases hK' with z | z
          · exact .inr (.inl z)
          · exact .inr (.inr z)
        obtain ⟨u, r, l⟩ := hl j x v hNx hσ hvis
        refine ⟨u, r, .inr ?_⟩
        rcases l with ⟨l1, _⟩ | ⟨l1, c, l2, l3⟩
        · rcases hK' with z | z
          · rw [z] at l1; cases l1
          · rw [z] at l1; cases l1
        · have hrl : (compEnvC scope cs C X.env).kindOf x = some .cell ∨ (compEnvC scope cs C X.env).kindOf x = some .free := by
            show (relabel scope X.env).names.lookup x = _ ∨ (relabel scope X.env).names.lookup x = _
            unfold relabel
            dsimp only
            rw [relabel_lookup, hfx]
            simp only [Option.map_some]
            split
            · exact .inl rfl
            · exact .inr rfl
          refine ⟨hrl, c, ?_, l3.keeps fun b o e => old b o e⟩
          show cs.lookup x = some c
          obtain ⟨c', hc'⟩ := hX.has x hrl
          have hc2 : cs.lookup x = some c' := hc'
          rw [hc2]
          have hm := PySem.mem_of_lookup hc2
          have : X.env.cells.lookup x = some c' := by
            rcases csM _ hm with z | ⟨_, z, _⟩
            · exact z
            · have := mem_lookup_nodup k3 z
              have h2 : scope.names.lookup x = some .cell := this
              rw [hfx] at h2; cases h2
          rw [l2] at this
          exact this.symm
    · rcases csM _ (PySem.mem_of_lookup (show cs.lookup x = some c from e)) with z | ⟨_, _, z⟩
      · obtain ⟨v, q⟩ := I2.cell _ _ z
        exact ⟨v, q.keeps fun b o e => old b o e⟩
      · exact ⟨none, z⟩
    · show upd H2 s2.heap.objs.size (.lst []) C = none
      rw [upd_ne (show @Ne Nat C s2.heap.objs.size by omega)]; exact hCn
    · have hne : c ≠ s2.heap.objs.size ∧ H2 c = none := by
        rcases csM _ (PySem.mem_of_lookup (show cs.lookup x = some c from e)) with z | ⟨z, _, _⟩
        · exact ⟨Nat.ne_of_lt (cellLt _ _ z), I2.freeC _ _ z⟩
        · have z2 : @LE.le Nat _ (C + 1) c := z
          exact ⟨show @Ne Nat c s2.heap.objs.size by omega, I2.hok.fresh (show @LE.le Nat _ s2.heap.objs.size c by omega)⟩
      rw [upd_ne hne.1]; exact hne.2
    · obtain ⟨e, n, ne, nf, d⟩ := I2.pin p hp
      have hlt : @LT.lt Nat _ p.1 s2.heap.objs.size := Heap.lt_size e
      refine ⟨old _ _ e, ?_, ?_, stkNe _ ne nf, d⟩
      · rw [upd_ne (Nat.ne_of_lt hlt)]; exact n
      · show @Ne Nat p.1 C
        omega
    · show (capS own.length js σ).length = (own ++ cn).length
      unfold capS
      have hl := congrArg List.length k7
      simp only [List.length_map] at hl
      simp [hl]
  have stat : ∀ {H' : Hp}, (∀ b ∈ fp, H' b = none) → ∀ b ∈ fp, FpOk (compCx X scope (own ++ cn) s2 H2 cs C fp) pins H' b := fun hn b hb => by
    obtain ⟨f0, f1, f2', f3, f4, f5⟩ := f2 b hb
    exact ⟨hn b hb, (hX.exf b hb).1, stkNe b f1 f2', .inl hb, fun x c e => (hX.exf b hb).2 x c e, f5⟩
  have back : ∀ {σ' : St} {H' : Hp} {s' : Shared}, Inv (compCx X scope (own ++ cn) s2 H2 cs C fp) pins σ' H' s' → Inv X pins σ H' s' := fun {σ' H' s'} J' =>
    I2.call' (ch := fp) J'.os J'.base J'.hok J'.bare fun b hb => by
      obtain ⟨f0, f1, f2', f3, f4, f5⟩ := f2 b hb
      exact ⟨f3, f1, f4, f5⟩
  obtain ⟨W, ⟨m0, w0⟩, turn⟩ := hW
  have loop : codeAny (model X.prog X.w) X.A (.compLoop (.ListComp elt [⟨tg, iter, ifs, 0⟩] scope pos) 0 (.ref it) (.ref s2.heap.objs.size) (compEnvC scope cs C X.env)) (RR (.ref s2.heap.objs.size) C) { s2 with heap := h4 } := by
    refine codeAny_compLoop_own (fun n s' => ∃ i ys H', Inv (compCx X scope (own ++ cn) s2 H2 cs C fp) pins (capS own.length js σ) H' s' ∧ tn i s'.heap ∧ (∀ b ∈ fp, H' b = none) ∧ W i n ys H') ?_ m0
      ⟨0, [], _, I4, T.keep _ _ _ st2 fun b hb o e => old b o e, fun b hb => ?_, w0⟩
    · rintro n s3 ⟨i, ys, H3, I3, st3, fr3, w3⟩
      rcases turn i n ys H3 w3 with ⟨stop, q⟩ | ⟨go, N, hN, step⟩
      · refine thn (T.done (compCx X scope (own ++ cn) s2 H2 cs C fp) rfl rfl rfl hc i pins s3 _ H3 _ I3 (stat fr3) st3 stop) fun r s4 ⟨hr, I5⟩ => ?_
        subst hr
        obtain ⟨m, hn, _⟩ := I5.loc
        exact hRR C H3 s4 (back I5) (I2.fpOk (show @LE.le Nat _ s2.heap.objs.size C by omega) I5.free) ⟨m, hn⟩ q
      · refine thn (T.item (compCx X scope (own ++ cn) s2 H2 cs C fp) rfl rfl rfl hc i pins s3 _ H3 _ I3 (stat fr3) st3 go) fun r s4 ⟨u, hr, h4'⟩ => ?_
        subst hr
        refine thn h4' fun _ s5 ⟨x, H5, I5, r5, y5, st5, fr5⟩ => ?_
        have I5' := I5.pinned (stat fr5) (T.obj _ _ st5)
        refine thn (hg s2 H2 cs C fp _ s5 _ H5 x u _ I5' r5 (step x H5 y5)) fun _ s6 ⟨σ6, H6, I6, q6⟩ => ?_
        refine thn (ht s2 H2 cs C fp _ s6 σ6 H6 _ I6 q6) fun b s7 ⟨H7, I7, q7⟩ => ?_
        have again : ∀ {σ8 : St} {H8 : Hp} {s8 : Shared} {ys8 : List V}, Inv (compCx X scope (own ++ cn) s2 H2 cs C fp) (pins ++ pinsAt fp s5.heap) σ8 H8 s8 → (∀ (j : Nat) v, (capS own.length js σ)[j]? = some (some v) → σ8[j]? = some (some v)) → (∃ m', m' < n ∧ W (i + 1) m' ys8 H8) →
            ∃ m, m < n ∧ ∃ i ys H', Inv (compCx X scope (own ++ cn) s2 H2 cs C fp) pins (capS own.length js σ) H' s8 ∧ tn i s8.heap ∧ (∀ b ∈ fp, H' b = none) ∧ W i m ys H' := fun {σ8 H8 s8 ys8} I8 hw8 ⟨m', hm, w8⟩ => by
          refine ⟨m', hm, i + 1, ys8, H8, I8.unpinned.weak (by rw [I8.len, I4.len]) hw8, T.keep _ _ _ st5 fun b hb o e => (I8.pin (b, o) (List.mem_append_right _ (List.mem_append_right _ (mem_pinsAt hb e)))).1, fun b hb => ?_, w8⟩
          obtain ⟨o, e, d⟩ := T.obj _ _ st5 b hb
          exact (I8.pin (b, o) (List.mem_append_right _ (List.mem_append_right _ (mem_pinsAt hb e)))).2.1
        -- the captured slots outlive the turn: what they said ahead of it is said of the cells
        have capK : ∀ {σ8 : St} {H8 : Hp} {s8 : Shared}, Inv (compCx X scope (own ++ cn) s2 H2 cs C fp) (pins ++ pinsAt fp s5.heap) σ8 H8 s8 → Inv (compCx X scope (own ++ cn) s2 H2 cs C fp) (pins ++ pinsAt fp s5.heap) (capS own.length js σ) H8 s8 := fun {σ8 H8 s8} I8 => by
          have IX := back I8.unpinned
          refine ⟨I8.ok, I8.os, I8.bare, I8.base, ?_, I8.cell, I8.free, I8.freeC, I8.pin, I8.hok, I4.len⟩
          obtain ⟨m, hn, _⟩ := I8.loc
          refine ⟨m, hn, fun i x v e1 e2 e3 => ?_⟩
          obtain ⟨mx, hnx, hlx⟩ := IX.loc
          have hi : own.length ≤ i := by
            rcases Nat.lt_or_ge i own.length with z | z
            · exfalso
              unfold capS at e2
              rw [List.getElem?_append_left (by simpa using z), List.getElem?_replicate, if_pos z] at e2
              cases e2
            · exact z
          have e1' : cn[i - own.length]? = some x := by
            have : (own ++ cn)[i]? = some x := e1
            rw [List.getElem?_append_right hi] at this
            exact this
          have e2' : (js.map fun j => (σ[j]?).join)[i - own.length]? = some (some v) := by
            unfold capS at e2
            rw [List.getElem?_append_right (by simpa using hi)] at e2
            simpa using e2
          rw [List.getElem?_map] at e2'
          cases hj : js[i - own.length]? with
          | none => rw [hj] at e2'; cases e2'
          | some j =>
            rw [hj] at e2'
            have e2'' : (σ[j]?).join = some v := by simpa using e2'
            have hσ : σ[j]? = some (some v) := by
              cases q : σ[j]? with
              | none => rw [q] at e2''; cases e2''
              | some z => rw [q] at e2''; simp at e2''; rw [e2'']
            have hNx : X.N[j]? = some x := by
              have := congrArg (fun l => l[i - own.length]?) k7
              simp only [List.getElem?_map, hj, e1', Option.map_some] at this
              exact Option.some.inj this
            have hfx : scope.names.lookup x = some .free := k5 x (List.mem_of_getElem? e1')
            have hK' : X.env.kindOf x = some .cell ∨ X.env.kindOf x = some .free := hfreeK (x, .free) (PySem.mem_of_lookup hfx) rfl
            have hvis : Vis X.env.scope x := by
              rcases hK' with z | z
              · exact .inr (.inl z)
              · exact .inr (.inr z)
            obtain ⟨u, r, l⟩ := hlx j x v hNx hσ hvis
            refine ⟨u, r, .inr ?_⟩
            rcases l with ⟨l1, _⟩ | ⟨l1, c, l2, l3⟩
            · rcases hK' with z | z
              · rw [z] at l1; cases l1
              · rw [z] at l1; cases l1
            · have hrl : (compEnvC scope cs C X.env).kindOf x = some .cell ∨ (compEnvC scope cs C X.env).kindOf x = some .free := by
                show (relabel scope X.env).names.lookup x = _ ∨ (relabel scope X.env).names.lookup x = _
                unfold relabel
                dsimp only
                rw [relabel_lookup, hfx]
                simp only [Option.map_some]
                split
                · exact .inl rfl
                · exact .inr rfl
              refine ⟨hrl, c, ?_, l3⟩
              show cs.lookup x = some c
              obtain ⟨c', hc'⟩ := hX.has x hrl
              have hc2 : cs.lookup x = some c' := hc'
              rw [hc2]
              have hm := PySem.mem_of_lookup hc2
              have : X.env.cells.lookup x = some c' := by
                rcases csM _ hm with z | ⟨_, z, _⟩
                · exact z
                · have := mem_lookup_nodup k3 z
                  have h2 : scope.names.lookup x = some .cell := this
                  rw [hfx] at h2; cases h2
              rw [l2] at this
              exact this.symm
        cases b with
        | false =>
          rw [if_neg Bool.false_ne_true]
          rw [if_neg Bool.false_ne_true] at q7
          exact again (capK I7) (fun _ _ e => e) (hN _ _ q7)
        | true =>
          rw [if_pos rfl]
          rw [if_pos rfl] at q7
          refine thn (he s2 H2 cs C fp _ s7 σ6 H7 _ I7 q7) fun y s8 ⟨v, H8, I8, r8, hD8, hz8, q8⟩ => ?_
          refine thn (mt_append (X := compCx X scope (own ++ cn) s2 H2 cs C fp) _ s8 σ6 H8 (.ref s2.heap.objs.size) [v] (.ref s2.heap.objs.size) [y] (fun _ H9 => H9 = upd H8 s2.heap.objs.size (.lst (ys ++ [v]))) I8 rfl (.cons r8 .nil) ⟨_, ys, v, rfl, rfl, hD8, hz8, rfl⟩) fun _ s9 ⟨z, H9, I9, r9, e9⟩ => ?_
          subst e9
          exact again (capK I9) (fun _ _ e => e) (hN _ _ q8)
    · obtain ⟨f0, _⟩ := f2 b hb
      obtain ⟨o, ho, _⟩ := T.obj 0 _ st2 b hb
      rw [upd_ne (Nat.ne_of_lt (Heap.lt_size ho))]; exact f0
  exact codeAny_compStart_list loop (T.self _ 0 _ _ _ (T.keep _ _ _ st2 fun b hb o e => old b o e) loop)
theorem pe_comp {wi : TI} (own cn : List Str) (js : List Nat) (hi : PI X tg iter wi) (hg : ∀ s2 H2 cs C fp, PG (compCx X scope (own ++ cn) s2 H2 cs C fp) tg g) (ht : ∀ s2 H2 cs C fp, PIfs (compCx X scope (own ++ cn) s2 H2 cs C fp) ifs tt)
    (he : ∀ s2 H2 cs C fp, PE (compCx X scope (own ++ cn) s2 H2 cs C fp) elt te) (hc : X.calm = true := by rfl) (hok : compOk X.env.scope scope own cn X.N js = true := by kernel_rfl)
    (hs : ∀ x, foldedSetIterable iter X.env x = pure x := by intro _; rfl) : PE X (.ListComp elt [⟨tg, iter, ifs, 0⟩] scope pos) (tComp wi g tt te own.length js) := by
  intro pins s σ H Q I h
  have hok' := hok
  unfold compOk at hok'
  simp only [Bool.and_eq_true, decide_eq_true_eq, List.all_eq_true, Bool.or_eq_true, Bool.not_eq_true', decide_eq_false_iff_not] at hok'
  obtain ⟨⟨⟨⟨⟨⟨k1, k2⟩, k3⟩, k4⟩, k5⟩, k6⟩, k7⟩ := hok'
  have hfree : ∀ x ∈ scope.names, x.2 = .free → ∃ c, X.env.cells.lookup x.1 = some c := fun x hx hf => I.ok.has x.1 (by
    rcases k2 x hx with (z | z) | z
    · exact absurd hf z
    · exact .inl z
    · exact .inr z)
  rw [eval_ListComp]
  refine wpAny_comprehension_free (use := none) rfl hs (closureFor_closL hfree) k1 (fun x hx hl => ?_) (thn (hi pins s σ H _ I h) fun v s1 h1 => thn h1 fun itv s2 h2 => ?_)
  · have := mem_lookup_nodup k3 (show (x.1, x.2) ∈ scope.names from hx)
    rw [this, hl]
  · obtain ⟨it, fp, tn, J, H2, e, I2, T, st2, f2, q⟩ := h2
    subst e
    refine comp_block (RR := fun acc C => compPost (model X.prog X.w) X.A X.xe none (EP X pins σ Q) acc C) hok hc hg ht he I2 T st2 f2 (q _ I2.fresh) ?_
    intro C H' s' I' fC ⟨m, hn⟩ q'
    obtain ⟨f0, f1, f2', f3, f4, f5⟩ := fC
    refine ⟨m, hn, fun h' hs' => ⟨.ref s2.heap.objs.size, H', ?_, rfl, q'⟩⟩
    exact I'.turned (t' := s'.toks) (fun b o hb e => (hs'.2 b hb).trans e) f0 f1 f3 f4 f5
theorem ps_setComp {wi : TI} {i : Nat} {x : Str} {px spos : Pos} (own cn : List Str) (js : List Nat) (hN : X.N.Nodup) (hix : X.N[i]? = some x) (hx : X.env.scope.names.lookup x = some .local) (hi : PI X tg iter wi)
    (hg : ∀ s2 H2 cs C fp, PG (compCx X scope (own ++ cn) s2 H2 cs C fp) tg g) (ht : ∀ s2 H2 cs C fp, PIfs (compCx X scope (own ++ cn) s2 H2 cs C fp) ifs tt)
    (he : ∀ s2 H2 cs C fp, PE (compCx X scope (own ++ cn) s2 H2 cs C fp) elt te) (hc : X.calm = true := by rfl) (hok : compOk X.env.scope scope own cn X.N js = true := by kernel_rfl)
    (hsw : swapsWith (.ListComp elt [⟨tg, iter, ifs, 0⟩] scope pos) (some (.Name x px)) spos.line X.env = pure true := by rfl)
    (hs : ∀ x, foldedSetIterable iter X.env x = pure x := by intro _; rfl) : PS X (.Assign [.Name x px] (.ListComp elt [⟨tg, iter, ifs, 0⟩] scope pos) spos) (tAsg (tComp wi g tt te own.length js) (gName i)) := by
  intro pins s σ H D I h
  have hok' := hok
  unfold compOk at hok'
  simp only [Bool.and_eq_true, decide_eq_true_eq, List.all_eq_true, Bool.or_eq_true, Bool.not_eq_true', decide_eq_false_iff_not] at hok'
  obtain ⟨⟨⟨⟨⟨⟨k1, k2⟩, k3⟩, k4⟩, k5⟩, k6⟩, k7⟩ := hok'
  have hfree : ∀ x ∈ scope.names, x.2 = .free → ∃ c, X.env.cells.lookup x.1 = some c := fun x hx hf => I.ok.has x.1 (by
    rcases k2 x hx with (z | z) | z
    · exact absurd hf z
    · exact .inl z
    · exact .inr z)
  rw [exec_Assign_Name_used _ _ _ _ hsw]
  refine wpAny_bind (wpAny_standAt (wpAny_bind ?_))
  show wpAny _ X.A (do let _ ← comprehension (.ListComp elt [⟨tg, iter, ifs, 0⟩] scope pos) scope X.env _ (newList []) false (eval iter X.env) (some (assign (.Name x px) X.env))) _ _ s
  refine wpAny_bind (wpAny_mono (wpAny_comprehension_free (use := some (assign (.Name x px) X.env)) (Q := fun _ s' => SP X pins D .next s') rfl hs (closureFor_closL hfree) k1 (fun x hx hl => ?_)
    (thn (hi pins s σ H _ I h) fun v s1 h1 => thn h1 fun itv s2 h2 => ?_)) (fun _ s' hq => wpAny_pure (wpAny_pure hq)) fun _ _ e => e)
  · have := mem_lookup_nodup k3 (show (x.1, x.2) ∈ scope.names from hx)
    rw [this, hl]
  · obtain ⟨it, fp, tn, J, H2, e, I2, T, st2, f2, q⟩ := h2
    subst e
    refine comp_block (RR := fun acc C => compPost (model X.prog X.w) X.A X.xe (some (assign (.Name x px) X.env)) (fun _ s' => SP X pins D .next s') acc C) hok hc hg ht he I2 T st2 f2 (q _ I2.fresh) ?_
    intro C H' s' I' fC ⟨m, hn⟩ q'
    obtain ⟨f0, f1, f2', f3, f4, f5⟩ := fC
    show wpAny _ X.A (assign (.Name x px) X.env (.ref s2.heap.objs.size)) _ _ _
    refine wpAny_assign_Name (store_ok2 I' hN hix (.inl hx) (v := .ref s2.heap.objs.size) rfl (fun s3 I3 hch => ?_) (.inr hx))
    obtain ⟨a, hsb, ha⟩ := hch
    have hCa : C ≠ a := by
      rcases ha with z | z
      · rw [z]; exact f1
      · exact fun e => f4 x a z e.symm
    refine ⟨m, hn.sameBut hsb hCa, fun h' hs' => ?_⟩
    exact ⟨_, H', I3.turned (t' := s3.toks) (fun b o hb e => (hs'.2 b hb).trans e) f0 f1 f3 f4 f5, q'⟩
end
section
variable {g : TG} {tt : TT} {te : TE} {D : Addr} {σ' : St} {Q : List V → Hp → Prop} {H1 : Hp}
abbrev CompTurn (g : TG) (tt : TT) (te : TE) (D : Addr) (σ' : St) (ys : List V) (N : List V → Hp → Prop) (x : V) (H : Hp) : Prop :=
  g x σ' H fun σ2 H2 => tt σ2 H2 fun b H3 => if b = true then te σ2 H3 fun v H4 => H4 D = some (.lst ys) ∧ ys.length < sizeLine ∧ N (ys ++ [v]) (upd H4 D (.lst (ys ++ [v]))) else N ys H3
theorem comp_range {lo : Int} {n : Nat} (Pv : Nat → List V → Hp → Prop) (h0 : Pv 0 [] (upd H1 D (.lst [])))
    (hs : ∀ i ys H, i < n → Pv i ys H → CompTurn g tt te D σ' ys (Pv (i + 1)) (.int (lo + i)) H) (hd : ∀ ys H, Pv n ys H → Q ys H) :
    ∃ W : Nat → Nat → List V → Hp → Prop, (∃ m, W 0 m [] (upd H1 D (.lst []))) ∧ CompW (Itr lo n) g tt te D σ' Q W := by
  refine ⟨fun i m ys H => m = n - i ∧ i ≤ n ∧ Pv i ys H, ⟨n, by simp, Nat.zero_le _, h0⟩, ?_⟩
  rintro i m ys H ⟨rfl, hi, p⟩
  by_cases hlt : i < n
  · refine .inr ⟨hlt, Pv (i + 1), fun ys' H' p' => ⟨n - (i + 1), by omega, rfl, hlt, p'⟩, fun x H' y => ?_⟩
    obtain ⟨e, y⟩ := y
    subst e y
    exact hs i ys _ hlt p
  · have e : i = n := by omega
    subst e
    exact .inl ⟨Nat.le_refl _, hd ys H p⟩
theorem comp_list {K : PySem.W.Frag} {a : Addr} {xs : List V} (Pv : Nat → List V → Hp → Prop) (h0 : Pv 0 [] (upd H1 D (.lst []))) (hl : ∀ i ys H, i ≤ xs.length → Pv i ys H → SqL K H a xs)
    (hs : ∀ i x ys H, xs[i]? = some x → Pv i ys H → CompTurn g tt te D σ' ys (Pv (i + 1)) x H) (hd : ∀ ys H, Pv xs.length ys H → Q ys H) :
    ∃ W : Nat → Nat → List V → Hp → Prop, (∃ m, W 0 m [] (upd H1 D (.lst []))) ∧ CompW (Itl K a) g tt te D σ' Q W := by
  refine ⟨fun i m ys H => m = xs.length - i ∧ i ≤ xs.length ∧ Pv i ys H, ⟨xs.length, by simp, Nat.zero_le _, h0⟩, ?_⟩
  rintro i m ys H ⟨rfl, hi, p⟩
  have q := hl i ys H hi p
  by_cases hlt : i < xs.length
  · refine .inr ⟨⟨xs, xs[i], q, by simp [hlt]⟩, Pv (i + 1), fun ys' H' p' => ⟨xs.length - (i + 1), by omega, rfl, hlt, p'⟩, fun x H' y => ?_⟩
    obtain ⟨e, y⟩ := y
    subst e
    exact hs i x ys _ (y xs q) p
  · have e : i = xs.length := by omega
    subst e
    exact .inl ⟨⟨xs, q, Nat.le_refl _⟩, hd ys H p⟩
theorem comp_tup {K : PySem.W.Frag} {a : Addr} {xs : List V} (Pv : Nat → List V → Hp → Prop) (h0 : Pv 0 [] (upd H1 D (.lst []))) (hl : ∀ i ys H, i ≤ xs.length → Pv i ys H → SqT K H a xs)
    (hs : ∀ i x ys H, xs[i]? = some x → Pv i ys H → CompTurn g tt te D σ' ys (Pv (i + 1)) x H) (hd : ∀ ys H, Pv xs.length ys H → Q ys H) :
    ∃ W : Nat → Nat → List V → Hp → Prop, (∃ m, W 0 m [] (upd H1 D (.lst []))) ∧ CompW (Itt K a) g tt te D σ' Q W := by
  refine ⟨fun i m ys H => m = xs.length - i ∧ i ≤ xs.length ∧ Pv i ys H, ⟨xs.length, by simp, Nat.zero_le _, h0⟩, ?_⟩
  rintro i m ys H ⟨rfl, hi, p⟩
  have q := hl i ys H hi p
  by_cases hlt : i < xs.length
  · refine .inr ⟨⟨xs, xs[i], q, by simp [hlt]⟩, Pv (i + 1), fun ys' H' p' => ⟨xs.length - (i + 1), by omega, rfl, hlt, p'⟩, fun x H' y => ?_⟩
    obtain ⟨e, y⟩ := y
    subst e
    exact hs i x ys _ (y xs q) p
  · have e : i = xs.length := by omega
    subst e
    exact .inl ⟨⟨xs, q, Nat.le_refl _⟩, hd ys H p⟩
end
end L2
set_option Elab.async false
set_option linter.all false
set_option maxRecDepth 100000
set_option maxHeartbeats 4000000
namespace PySem
open AutoSeq1 (wpAny_loadPart')
section
variable {prog : Program} {w : World} {A : Around} {E : Value → Shared → Prop} {s : Shared}
theorem hue_nextOf_tuple_item {it l : Addr} {i : Nat} {items} {x : Value} {Q : Value → Shared → Prop} (hit : s.heap.IsTupleIter it l i)
    (hl : s.heap.IsTuple l items) (hx : items[i]? = some x)
    (hQ : ∀ h', h'.IsTupleIter it l (i + 1) → Heap.SameBut it s.heap h' → Q x { s with heap := h' }) :
    wpAny (model prog w) A (Builtin.SmallTypes.nextOf (.ref it)) Q E s := by
  obtain ⟨o, ho, hc, hd⟩ := id hit
  obtain ⟨ol, hol, _, nl, hdl⟩ := hl
  unfold Builtin.SmallTypes.nextOf
  refine wpAny_bind (wpAny_callSpecial?_slot (name := Str.ofString "__next__") hit.typeIs F.slot_tuple_iterator_next
    (wpAny_call_entry F.slot_tuple_iterator_next hit.typeIs F.entry_tuple_iterator_next ?_ (F.args_tuple_iterator_next_1 _)))
  show wpAny _ _ (field (.ref it) 0 >>= _) _ _ s
  refine wpAny_bind (wpAny_field ho hd (x := .ref l) rfl ?_)
  show wpAny _ _ (if (Value.ref l == Value.none) = true then _ else _) _ _ s
  rw [if_neg (show ¬ ((Value.ref l == Value.none) = true) from Bool.false_ne_true)]
  show wpAny _ _ (field (.ref it) 1 >>= _) _ _ s
  refine wpAny_bind (wpAny_field ho hd (x := .int i 0) rfl ?_)
  show wpAny _ _ (seqItems? (.ref l) >>= _) _ _ s
  refine wpAny_bind (wpAny_seqItems hol hdl ?_)
  simp only [Int.toNat_natCast, hx]
  refine wpAny_bind (wpAny_setField ho hd (by simp) (wpAny_pure ⟨x, rfl, wpAny_pure (hQ _ ?_ (Heap.SameBut.update ..))⟩))
  exact ⟨_, Heap.get?_update_self _ ho (Obj.isFreed_of_fields (Obj.data_mapFields hd _)), (Obj.cls_mapFields ..).trans hc, by
    rw [Obj.data_mapFields hd]; simp [rawInt]⟩
theorem hue_nextOf_tuple_end {it l : Addr} {i : Nat} {items} {Q : Value → Shared → Prop} (hh : A.handled = none)
    (hit : s.heap.IsTupleIter it l i) (hl : s.heap.IsTuple l items) (hx : items[i]? = none)
    (hE : ∀ h' e, Heap.ExtBut it s.heap h' → (∃ o, h'.get? e = some o ∧ o.cls = .type "StopIteration") → E (.ref e) { s with heap := h' }) :
    wpAny (model prog w) A (Builtin.SmallTypes.nextOf (.ref it)) Q E s := by
  obtain ⟨o, ho, hc, hd⟩ := id hit
  obtain ⟨ol, hol, _, nl, hdl⟩ := hl
  unfold Builtin.SmallTypes.nextOf
  refine wpAny_bind (wpAny_callSpecial?_slot (name := Str.ofString "__next__") hit.typeIs F.slot_tuple_iterator_next
    (wpAny_call_entry F.slot_tuple_iterator_next hit.typeIs F.entry_tuple_iterator_next ?_ (F.args_tuple_iterator_next_1 _)))
  show wpAny _ _ (field (.ref it) 0 >>= _) _ _ s
  refine wpAny_bind (wpAny_field ho hd (x := .ref l) rfl ?_)
  show wpAny _ _ (if (Value.ref l == Value.none) = true then _ else _) _ _ s
  rw [if_neg (show ¬ ((Value.ref l == Value.none) = true) from Bool.false_ne_true)]
  show wpAny _ _ (field (.ref it) 1 >>= _) _ _ s
  refine wpAny_bind (wpAny_field ho hd (x := .int i 0) rfl ?_)
  show wpAny _ _ (seqItems? (.ref l) >>= _) _ _ s
  refine wpAny_bind (wpAny_seqItems hol hdl ?_)
  simp only [Int.toNat_natCast, hx]
  refine wpAny_bind (wpAny_rule (wpAny_bind (wpAny_setField ho hd (by simp) ?_)))
  first
    | refine wpAny_bind (wpAny_letGo ?_)
    | skip
  show wpAny _ _ (newExc (.type "StopIteration") [] >>= _) _ _ _
  refine wpAny_bind ?_
  simp only [newExc, newTuple]
  refine wpAny_bind (wpAny_newObj_type ?_ (by size_fits))
  refine wpAny_bind (m := firstArgMember _ _) (wpAny_of_eq (a := Value.none) (by first | rfl | (simp only [firstArgMember]; rfl)) ?_)
  refine wpAny_newObj_type ?_ (by size_fits)
  simp only [raiseNew]
  refine wpAny_bind (wpAny_handled ?_)
  first | rw [show A.in1.handled = none from hh] | rw [hh]
  refine wpAny_bind (wpAny_pure (wpAny_throw ?_))
  exact hE _ _ (((Heap.SameBut.update ..).extBut.push _).push _) ⟨_, Heap.get?_push_size _ rfl, rfl⟩
end
theorem hue_draws_tuple {prog : Program} {w : World} {A : Around} (hh : A.handled = none) (it l : Addr) (hne : l ≠ it) (items : Array Value) :
    Draws prog w A it [it, l] items.size (fun i v => items[i]? = some v) (fun i h => h.IsTupleIter it l i ∧ h.IsTuple l items) where
  live := fun _ _ st => let ⟨o, ho, _⟩ := st.1; ⟨o, ho⟩
  frame := fun _ _ _ st hk => ⟨st.1.at fun o e => hk it (by simp) o e, let ⟨o, ho, r⟩ := st.2; ⟨o, hk l (by simp) o ho, r⟩⟩
  item := fun i s Q E hi st hQ => by
    refine hue_nextOf_tuple_item st.1 st.2 (x := items[i]) (by simp [hi]) fun h' hit' hs' => ?_
    exact hQ _ h' s.toks (by simp [hi]) ⟨hit', st.2.extBut hs'.extBut hne⟩ hs'
  done := fun s Q E st hE => hue_nextOf_tuple_end hh st.1 st.2 (by simp) hE
theorem hue_enumerate_newT (l : Addr) (items : Array Value) (n : Nat) (dct : Option Addr) (sl : Array (Option Value)) :
    Meets (Builtin.«enumerate.__new__» ⟨[.type "enumerate", .ref l], []⟩) (fun _ R s => s.heap.get? l = some { cls := .type "tuple", dict := dct, data := .seq items n, slots := sl } ∧
      R (.ok (.ret (.ref (s.heap.push { cls := .type "tuple_iterator", data := .fields #[.ref l, .int 0 0] }).objs.size)))
        { s with heap := (s.heap.push { cls := .type "tuple_iterator", data := .fields #[.ref l, .int 0 0] }).push { cls := .type "enumerate", data := .fields #[.none, .bool false, .ref s.heap.objs.size, rawInt 0, .none, .none] } }) :=
  .of_wp fun prog w A R s h => by
    obtain ⟨hp, g, d, tk, os⟩ := s; obtain ⟨hl, h⟩ := h
    have hsub := sub_enumerate
    have hL : Heap.IsTuple (Shared.heap ⟨hp, g, d, tk, os⟩) l items := ⟨_, hl, rfl, n, rfl⟩
    wp_walk using wpAny_loadPart' hl
    refine wpAny_stack_any fun st => wpAny_pure ?_
    split
    · rename_i c _ _ _ _ _
      cases (c == Value.type "enumerate")
      · wp_walk using wpAny_loadPart' hl, wpAny_pyIter_tuple hL
        exact ⟨_, rfl, h⟩
      · wp_walk using wpAny_loadPart' hl, wpAny_pyIter_tuple hL
        exact ⟨_, rfl, h⟩
    · wp_walk using wpAny_loadPart' hl, wpAny_pyIter_tuple hL
      exact ⟨_, rfl, h⟩
section
variable {prog : Program} {w : World} {A : Around} {E : Value → Shared → Prop} {s : Shared}
theorem hue_call_enumerate_tuple {l : Addr} {items : Array Value} {Q : Value → Shared → Prop} (hL : s.heap.IsTuple l items)
    (h : ∀ h', IsEnum h' (s.heap.objs.size + 1) s.heap.objs.size 0 .none → h'.IsTupleIter s.heap.objs.size l 0 → h'.objs.size = s.heap.objs.size + 2 →
      (∀ b o, s.heap.get? b = some o → h'.get? b = some o) → Q (.ref (s.heap.objs.size + 1)) { s with heap := h' }) :
    wpAny (model prog w) A (call (.type "enumerate") [.ref l]) Q E s := by
  obtain ⟨⟨c, dct, dt, sl⟩, hl, hc, n, hd⟩ := hL
  replace hc : c = .type "tuple" := hc
  replace hd : dt = .seq items n := hd
  subst hc hd
  refine callType_new F.called_enumerate (by decide) (F.typeCall_enumerate_1 _) (F.newCall_enumerate_1 _) (fun obj => F.args_object_init_2 obj _) F.entry_enumerate_new
    (hue_enumerate_newT l items n dct sl) ⟨hl, ?_⟩
  have hz : (s.heap.push { cls := .type "tuple_iterator", data := .fields #[.ref l, .int 0 0] }).objs.size = s.heap.objs.size + 1 := Heap.size_push ..
  show _ ∧ _
  rw [hz]
  have he : IsEnum ((s.heap.push { cls := .type "tuple_iterator", data := .fields #[.ref l, .int 0 0] }).push
      { cls := .type "enumerate", data := .fields #[.none, .bool false, .ref s.heap.objs.size, rawInt 0, .none, .none] }) (s.heap.objs.size + 1) s.heap.objs.size 0 .none := by
    have := Heap.get?_push_size (s.heap.push { cls := .type "tuple_iterator", data := .fields #[.ref l, .int 0 0] })
      (o := { cls := .type "enumerate", data := .fields #[.none, .bool false, .ref s.heap.objs.size, rawInt 0, .none, .none] }) rfl
    rw [hz] at this; exact this
  refine ⟨⟨_, he, rfl⟩, h _ he ⟨_, Heap.get?_push_of_some _ (Heap.get?_push_size _ rfl), rfl, rfl⟩ (by rw [Heap.size_push, hz]) fun b o x => Heap.get?_push_of_some _ (Heap.get?_push_of_some _ x)⟩
end
end PySem
namespace L2
open PySem PySem.Spec PyProof.Rows
section
variable {X : Cx} {pins : List (Addr × Obj)} {σ : St} {H : Hp} {s : Shared} {h' : Heap}
theorem Inv.turnedL {t' : Nat} {ch : List Addr} (I : Inv X pins σ H s) (k : ∀ b o, b ∉ ch → s.heap.get? b = some o → h'.get? b = some o) (hf : ∀ b ∈ ch, FpOk X pins H b) : Inv X pins σ H { s with heap := h', toks := t' } := by
  have nit : ∀ b u, H b = some u → b ∉ ch := fun b u e z => by rw [(hf b z).1] at e; cases e
  refine I.step (g' := s.gens) (d' := s.drawn) (ch := ch) (fun b hb => ?_) (fun b o _ _ hc e _ => k b o hc e) (fun b o _ _ hc e _ => ⟨o.slots, k b o hc e⟩) (fun _ _ _ _ n => n)
    (fun b o hc e => ⟨o, k b o hc e⟩) (fun _ _ e => e) (fun _ _ _ e => e) (fun b ps e => ⟨#[], by rw [e]; simp⟩) (fun m hm => ?_) (fun b u e => ?_) I.bare
  · obtain ⟨f0, f1, f2, f3, f4, f5⟩ := hf b hb
    exact ⟨f3, f1, f4, f5⟩
  · obtain ⟨o, es, ep, ho, r⟩ := hm
    exact ⟨o, es, ep, k _ o (fun z => (hf _ z).2.1 rfl) ho, r⟩
  · refine (I.hok b u e).stay (fun c v hc q => k c v ?_ q) (fun _ q => q) fun _ _ q => q
    rcases hc with z | z
    · rw [z]; exact nit b u e
    · exact nit c _ z
theorem Inv.turnLay {t' : Nat} {ch : List Addr} {o : HO} (I : Inv X pins σ H s) (k : ∀ b u, b ∉ ch → s.heap.get? b = some u → h'.get? b = some u) (hf : ∀ b ∈ ch, FpOk X pins H b)
    (new : ObjOk X.prog X.w (upd H s.heap.objs.size o) h' s.heap.objs.size o) : Inv X pins σ (upd H s.heap.objs.size o) { s with heap := h', toks := t' } := by
  have hT : H s.heap.objs.size = none := I.fresh
  have nit : ∀ b u, H b = some u → b ∉ ch := fun b u e z => by rw [(hf b z).1] at e; cases e
  have lt : ∀ b u, s.heap.get? b = some u → b ≠ s.heap.objs.size := fun b u e => Nat.ne_of_lt (Heap.lt_size e)
  refine I.step (g' := s.gens) (d' := s.drawn) (ch := ch) (fun b hb => ?_) (fun b o _ _ hc e _ => k b o hc e) (fun b o _ _ hc e _ => ⟨o.slots, k b o hc e⟩) (fun b u _ e n => by rw [upd_ne (lt b u e)]; exact n)
    (fun b o hc e => ⟨o, k b o hc e⟩) (fun b xs e => by rw [upd_ne (ne_of_none e hT)]; exact e) (fun b u xs e => by rw [upd_ne (ne_of_none e hT)]; exact e) (fun b ps e => ⟨#[], by rw [upd_ne (ne_of_none e hT), e]; simp⟩) (fun m hm => ?_) (fun b u e => ?_) I.bare
  · obtain ⟨f0, f1, f2, f3, f4, f5⟩ := hf b hb
    exact ⟨f3, f1, f4, f5⟩
  · obtain ⟨o, es, ep, ho, r⟩ := hm
    exact ⟨o, es, ep, k _ o (fun z => (hf _ z).2.1 rfl) ho, r⟩
  · by_cases hb : b = s.heap.objs.size
    · subst hb; rw [upd_same] at e; cases e; exact new
    · rw [upd_ne hb] at e
      refine (I.hok b u e).stay (fun c v hc q => k c v ?_ q) (fun c q => by rw [upd_ne (ne_of_none q hT)]; exact q) fun c xs q => by rw [upd_ne (ne_of_none q hT)]; exact q
      rcases hc with z | z
      · rw [z]; exact nit b u e
      · exact nit c _ z
end
def IteL (K : PySem.W.Frag) (a : Addr) : It :=
  ⟨fun i H => ∃ xs x, SqL K H a xs ∧ xs[i]? = some x, fun i H x H' => ∃ p v, H p = none ∧ x = .ref p ∧ (∀ xs, SqL K H a xs → xs[i]? = some v) ∧ H' = upd H p (.tup [.int i, v]), fun i H => ∃ xs, SqL K H a xs ∧ xs.length = i⟩
def IteT (K : PySem.W.Frag) (a : Addr) : It :=
  ⟨fun i H => ∃ xs x, SqT K H a xs ∧ xs[i]? = some x, fun i H x H' => ∃ p v, H p = none ∧ x = .ref p ∧ (∀ xs, SqT K H a xs → xs[i]? = some v) ∧ H' = upd H p (.tup [.int i, v]), fun i H => ∃ xs, SqT K H a xs ∧ xs.length = i⟩
theorem two_le : 2 ≤ sizeLine := by decide
theorem turn_enumL {P : Program} {w : World} {K : PySem.W.Frag} {elts : List Expr} {kx : Nat} {tp : Pos} (a e it : Addr) (hei : e ≠ it) (hae : a ≠ e) (hai : a ≠ it) : Turn P w K (.Tuple elts kx tp) (IteL K a) [e, it] e (fun i h => (∃ old, IsEnum h e it i old) ∧ h.IsListIter it a i) where
  mem := by simp
  obj := fun i h st b hb => by
    rcases List.mem_cons.mp hb with rfl | hb
    · obtain ⟨⟨old, z⟩, _⟩ := st
      exact ⟨_, z, fun v q => by cases q⟩
    · have e' : b = it := by simpa using hb
      subst e'
      obtain ⟨o, q, c, d⟩ := st.2
      exact ⟨o, q, fun v z => by rw [d] at z; cases z⟩
  keep := fun i h h' st k => ⟨let ⟨old, z⟩ := st.1; ⟨old, k e (by simp) _ z⟩, st.2.at fun o q => k it (by simp) o q⟩
  item := by
    intro X hP hw hK hc i pins s σ H E I hf st hg
    subst hP hw hK
    obtain ⟨xs, x, hq, hx⟩ := hg
    obtain ⟨its, rv, p, hz⟩ := I.list hq
    obtain ⟨u, hu, ru⟩ := rv.get hx
    obtain ⟨⟨old, he⟩, hli⟩ := st
    have hil : i < its.toArray.size := by
      have := (List.getElem?_eq_some_iff.mp hu).1
      simpa using this
    refine wpAny_pyNext_enum_itemD (Draws.list (prog := X.prog) (w := X.w) (A := X.A.in1) (show X.A.in1.handled = none from I.ok.hd hc) it a hai its.toArray) he ⟨hli, p.isList⟩ hil hei (by simp [hei, Ne.symm hae]) fun y h' tk hy ho hs' hT hsz hk => ?_
    have hyu : y = u := by
      have : its.toArray[i]? = some u := by simpa using hu
      rw [this] at hy; exact (Option.some.inj hy).symm
    subst hyu
    refine ⟨_, rfl, ?_⟩
    have I1 : Inv X pins σ (upd H s.heap.objs.size (.tup [.int i, x])) { s with heap := h', toks := tk + 1 } :=
      I.turnLay (ch := [e, it]) (fun b o hb q => hk b o (fun z => hb (by simp [z])) (fun z => hb (by simp [z])) q) hf ⟨two_le, [.int i tk, y], .cons ⟨tk, rfl⟩ (.cons ru .nil), ⟨_, hT, rfl, _, rfl⟩⟩
    refine wpAny_letOwnedTupleGo_enum ho fun h2 he2 hs2 => ?_
    have hfp1 : ∀ b ∈ [e, it], FpOk X pins (upd H s.heap.objs.size (.tup [.int i, x])) b := fun b hb => by
      obtain ⟨f0, f1⟩ := hf b hb
      have hbl : b ≠ s.heap.objs.size := by
        rcases List.mem_cons.mp hb with rfl | hb
        · exact Nat.ne_of_lt (Heap.lt_size he)
        · have e' : b = it := by simpa using hb
          subst e'
          obtain ⟨o, q, _⟩ := hli
          exact Nat.ne_of_lt (Heap.lt_size q)
      exact ⟨by rw [upd_ne hbl]; exact f0, f1⟩
    have I2 : Inv X pins σ (upd H s.heap.objs.size (.tup [.int i, x])) { s with heap := h2, toks := tk + 1 } :=
      Inv.turnedL (s := { s with heap := h', toks := tk + 1 }) (t' := tk + 1) (ch := [e, it]) I1 (fun b o hb q => (hs2.2 b (fun z => hb (by simp [z]))).trans q) hfp1
    refine ⟨.ref s.heap.objs.size, _, I2, rfl, ⟨_, x, I.fresh, rfl, fun ys hy => by rw [I.list_inj hy hq]; exact hx, rfl⟩, ⟨⟨y, by simpa using he2⟩, hs'.1.extBut hs2.extBut (Ne.symm hei)⟩, fun b hb => (hfp1 b hb).1⟩
  done := by
    intro X hP hw hK hc i pins s σ H E I hf st hg
    subst hP hw hK
    obtain ⟨xs, hq, hx⟩ := hg
    obtain ⟨its, rv, p, hz⟩ := I.list hq
    obtain ⟨⟨old, he⟩, hli⟩ := st
    have hl := rv.length
    have hn : its.toArray.size = i := by simp; omega
    refine wpAny_pyNext_enum_endD (Draws.list (prog := X.prog) (w := X.w) (A := X.A.in1) (show X.A.in1.handled = none from I.ok.hd hc) it a hai its.toArray) he (by rw [hn]; exact ⟨hli, p.isList⟩) fun h' eb => ⟨rfl, I.turnedL (t' := s.toks) (ch := [e, it]) (fun b o hb q => eb b o (fun z => hb (by simp [z])) q) hf⟩
  self := fun _ _ _ _ _ st h => let ⟨old, z⟩ := st.1; wpAny_pyIter_enum z h
theorem turn_enumT {P : Program} {w : World} {K : PySem.W.Frag} {elts : List Expr} {kx : Nat} {tp : Pos} (a e it : Addr) (hei : e ≠ it) (hae : a ≠ e) (hai : a ≠ it) : Turn P w K (.Tuple elts kx tp) (IteT K a) [e, it] e (fun i h => (∃ old, IsEnum h e it i old) ∧ h.IsTupleIter it a i) where
  mem := by simp
  obj := fun i h st b hb => by
    rcases List.mem_cons.mp hb with rfl | hb
    · obtain ⟨⟨old, z⟩, _⟩ := st
      exact ⟨_, z, fun v q => by cases q⟩
    · have e' : b = it := by simpa using hb
      subst e'
      obtain ⟨o, q, c, d⟩ := st.2
      exact ⟨o, q, fun v z => by rw [d] at z; cases z⟩
  keep := fun i h h' st k => ⟨let ⟨old, z⟩ := st.1; ⟨old, k e (by simp) _ z⟩, st.2.at fun o q => k it (by simp) o q⟩
  item := by
    intro X hP hw hK hc i pins s σ H E I hf st hg
    subst hP hw hK
    obtain ⟨xs, x, hq, hx⟩ := hg
    obtain ⟨its, rv, p, hz⟩ := I.tuple hq
    obtain ⟨u, hu, ru⟩ := rv.get hx
    obtain ⟨⟨old, he⟩, hli⟩ := st
    have hil : i < its.toArray.size := by
      have := (List.getElem?_eq_some_iff.mp hu).1
      simpa using this
    refine wpAny_pyNext_enum_itemD (hue_draws_tuple (prog := X.prog) (w := X.w) (A := X.A.in1) (show X.A.in1.handled = none from I.ok.hd hc) it a hai its.toArray) he ⟨hli, p⟩ hil hei (by simp [hei, Ne.symm hae]) fun y h' tk hy ho hs' hT hsz hk => ?_
    have hyu : y = u := by
      have : its.toArray[i]? = some u := by simpa using hu
      rw [this] at hy; exact (Option.some.inj hy).symm
    subst hyu
    refine ⟨_, rfl, ?_⟩
    have I1 : Inv X pins σ (upd H s.heap.objs.size (.tup [.int i, x])) { s with heap := h', toks := tk + 1 } :=
      I.turnLay (ch := [e, it]) (fun b o hb q => hk b o (fun z => hb (by simp [z])) (fun z => hb (by simp [z])) q) hf ⟨two_le, [.int i tk, y], .cons ⟨tk, rfl⟩ (.cons ru .nil), ⟨_, hT, rfl, _, rfl⟩⟩
    refine wpAny_letOwnedTupleGo_enum ho fun h2 he2 hs2 => ?_
    have hfp1 : ∀ b ∈ [e, it], FpOk X pins (upd H s.heap.objs.size (.tup [.int i, x])) b := fun b hb => by
      obtain ⟨f0, f1⟩ := hf b hb
      have hbl : b ≠ s.heap.objs.size := by
        rcases List.mem_cons.mp hb with rfl | hb
        · exact Nat.ne_of_lt (Heap.lt_size he)
        · have e' : b = it := by simpa using hb
          subst e'
          obtain ⟨o, q, _⟩ := hli
          exact Nat.ne_of_lt (Heap.lt_size q)
      exact ⟨by rw [upd_ne hbl]; exact f0, f1⟩
    have I2 : Inv X pins σ (upd H s.heap.objs.size (.tup [.int i, x])) { s with heap := h2, toks := tk + 1 } :=
      Inv.turnedL (s := { s with heap := h', toks := tk + 1 }) (t' := tk + 1) (ch := [e, it]) I1 (fun b o hb q => (hs2.2 b (fun z => hb (by simp [z]))).trans q) hfp1
    refine ⟨.ref s.heap.objs.size, _, I2, rfl, ⟨_, x, I.fresh, rfl, fun ys hy => by rw [I.tuple_inj hy hq]; exact hx, rfl⟩, ⟨⟨y, by simpa using he2⟩, hs'.1.extBut hs2.extBut (Ne.symm hei)⟩, fun b hb => (hfp1 b hb).1⟩
  done := by
    intro X hP hw hK hc i pins s σ H E I hf st hg
    subst hP hw hK
    obtain ⟨xs, hq, hx⟩ := hg
    obtain ⟨its, rv, p, hz⟩ := I.tuple hq
    obtain ⟨⟨old, he⟩, hli⟩ := st
    have hl := rv.length
    have hn : its.toArray.size = i := by simp; omega
    refine wpAny_pyNext_enum_endD (hue_draws_tuple (prog := X.prog) (w := X.w) (A := X.A.in1) (show X.A.in1.handled = none from I.ok.hd hc) it a hai its.toArray) he (by rw [hn]; exact ⟨hli, p⟩) fun h' eb => ⟨rfl, I.turnedL (t' := s.toks) (ch := [e, it]) (fun b o hb q => eb b o (fun z => hb (by simp [z])) q) hf⟩
  self := fun _ _ _ _ _ st h => let ⟨old, z⟩ := st.1; wpAny_pyIter_enum z h
section
variable {X : Cx}
def iEnum (K : PySem.W.Frag) (ta : TA) : TI := fun σ H R => ta σ H fun vs H1 => ∃ a, vs = [.ref a] ∧ (((∃ xs, SqL K H1 a xs) ∧ R (IteL K a) H1) ∨ ((∃ xs, SqT K H1 a xs) ∧ R (IteT K a) H1))
theorem boot_enumerate : bootBuiltins "enumerate" = some (.type "enumerate") := by decide +kernel
theorem boot_zip : bootBuiltins "zip" = some (.type "zip") := by decide +kernel
theorem pi_enum {a : Expr} {ta : TA} {p pos : Pos} {elts : List Expr} {kx : Nat} {tp : Pos} (hg : Gl X "enumerate") (hm : X.mg "enumerate" = none) (ha : PA X [a] ta) (hs : starEach [a] X.env = [(false, eval a X.env)] := by rfl) :
    PI X (.Tuple elts kx tp) (.Call (.Name "enumerate" p) [a] [] pos) (iEnum X.K ta) := by
  intro pins s σ H R I h
  refine Call_ (ld_blt I hg hm boot_enumerate (PyProof.Rows.callWith_type1 (thn (ha pos pins s σ H _ I h) fun us s1 ⟨vs, H1, I1, r1, q1⟩ => ?_) hs rfl))
  obtain ⟨l, e, q1⟩ := q1
  subst e
  cases r1 with
  | cons r rr =>
    cases rr
    cases r
    rcases q1 with ⟨⟨xs, hq⟩, q⟩ | ⟨⟨xs, hq⟩, q⟩
    · obtain ⟨its, rv, pl, hz⟩ := I1.list hq
      have hlt : @LT.lt Nat _ l s1.heap.objs.size := by obtain ⟨o, n, e, _⟩ := pl; exact Heap.lt_size e
      refine call_enumerate_list pl.isList fun h' he hli hsz hk => ?_
      refine wpAny_pyIter_enum he ?_
      have I2 : Inv X pins σ H1 { s1 with heap := h' } := I1.kept (t' := s1.toks) hk
      refine ⟨s1.heap.objs.size + 1, [s1.heap.objs.size + 1, s1.heap.objs.size], _, _, H1, rfl, I2, turn_enumL l _ s1.heap.objs.size (show @Ne Nat _ _ by omega) (show @Ne Nat _ _ by omega) (show @Ne Nat _ _ by omega), ⟨⟨_, he⟩, hli⟩, fun b hb => ?_, q⟩
      have hb2 : @LE.le Nat _ s1.heap.objs.size b := by
        rcases List.mem_cons.mp hb with rfl | hb
        · exact Nat.le_succ _
        · have e : b = s1.heap.objs.size := by simpa using hb
          rw [e]; exact Nat.le_refl _
      exact I1.fpOk hb2 (I1.hok.fresh hb2)
    · obtain ⟨its, rv, pl, hz⟩ := I1.tuple hq
      have hlt : @LT.lt Nat _ l s1.heap.objs.size := by obtain ⟨o, e, _⟩ := pl; exact Heap.lt_size e
      refine hue_call_enumerate_tuple (show s1.heap.IsTuple l its.toArray from pl) fun h' he hli hsz hk => ?_
      refine wpAny_pyIter_enum he ?_
      have I2 : Inv X pins σ H1 { s1 with heap := h' } := I1.kept (t' := s1.toks) hk
      refine ⟨s1.heap.objs.size + 1, [s1.heap.objs.size + 1, s1.heap.objs.size], _, _, H1, rfl, I2, turn_enumT l _ s1.heap.objs.size (show @Ne Nat _ _ by omega) (show @Ne Nat _ _ by omega) (show @Ne Nat _ _ by omega), ⟨⟨_, he⟩, hli⟩, fun b hb => ?_, q⟩
      have hb2 : @LE.le Nat _ s1.heap.objs.size b := by
        rcases List.mem_cons.mp hb with rfl | hb
        · exact Nat.le_succ _
        · have e : b = s1.heap.objs.size := by simpa using hb
          rw [e]; exact Nat.le_refl _
      exact I1.fpOk hb2 (I1.hok.fresh hb2)
end
def Itz (K : PySem.W.Frag) (a b : Addr) : It :=
  ⟨fun i H => ∃ xs ys x y, SqL K H a xs ∧ SqL K H b ys ∧ xs[i]? = some x ∧ ys[i]? = some y,
   fun i H x H' => ∃ p v u, H p = none ∧ x = .ref p ∧ (∀ xs, SqL K H a xs → xs[i]? = some v) ∧ (∀ ys, SqL K H b ys → ys[i]? = some u) ∧ H' = upd H p (.tup [v, u]),
   fun i H => ∃ xs ys, SqL K H a xs ∧ SqL K H b ys ∧ (xs.length ≤ i ∨ ys.length ≤ i)⟩
theorem turn_zip {P : Program} {w : World} {K : PySem.W.Frag} {elts : List Expr} {kx : Nat} {tp : Pos} (z TI TO i1 i2 l1 l2 : Addr) (D : ZipApart z TI TO i1 i2 l1 l2) : Turn P w K (.Tuple elts kx tp) (Itz K l1 l2) [z, TI, TO, i1, i2] z
    (fun i h => IsZip h z TI TO .none ∧ IsPair h TI (.ref i1) (.ref i2) ∧ (∃ a b, IsPair h TO a b) ∧ h.IsListIter i1 l1 i ∧ h.IsListIter i2 l2 i) where
  mem := by simp
  obj := fun i h st b hb => by
    obtain ⟨hz, hTI, ⟨a', b', hTO⟩, ⟨o1, e1, c1, d1⟩, ⟨o2, e2, c2, d2⟩⟩ := st
    simp only [List.mem_cons, List.not_mem_nil, or_false] at hb
    rcases hb with rfl | rfl | rfl | rfl | rfl
    · exact ⟨_, hz, fun v q => by cases q⟩
    · exact ⟨_, hTI, fun v q => by cases q⟩
    · exact ⟨_, hTO, fun v q => by cases q⟩
    · exact ⟨o1, e1, fun v q => by rw [d1] at q; cases q⟩
    · exact ⟨o2, e2, fun v q => by rw [d2] at q; cases q⟩
  keep := fun i h h' st k => by
    obtain ⟨hz, hTI, ⟨a', b', hTO⟩, h1, h2⟩ := st
    exact ⟨k z (by simp) _ hz, k TI (by simp) _ hTI, ⟨a', b', k TO (by simp) _ hTO⟩, h1.at fun o q => k i1 (by simp) o q, h2.at fun o q => k i2 (by simp) o q⟩
  item := by
    intro X hP hw hK hc i pins s σ H E I hf st hg
    subst hP hw hK
    obtain ⟨xs, ys, x, y, hq1, hq2, hx, hy⟩ := hg
    obtain ⟨its1, rv1, p1, hz1⟩ := I.list hq1
    obtain ⟨its2, rv2, p2, hz2⟩ := I.list hq2
    obtain ⟨u1, hu1, ru1⟩ := rv1.get hx
    obtain ⟨u2, hu2, ru2⟩ := rv2.get hy
    obtain ⟨hz, hTI, ⟨a', b', hTO⟩, h1, h2⟩ := st
    refine wpAny_pyNext_zip_item D hz hTI hTO h1 h2 p1.isList p2.isList (x := u1) (y := u2) (by simpa using hu1) (by simpa using hu2) fun h' b1 b2 b3 b4 b5 b6 hk => ?_
    refine ⟨_, rfl, ?_⟩
    have I1 : Inv X pins σ (upd H s.heap.objs.size (.tup [x, y])) { s with heap := h' } :=
      I.turnLay (t' := s.toks) (ch := [z, TI, TO, i1, i2]) (fun b o hb q => hk b o (fun e => hb (by simp [e])) (fun e => hb (by simp [e])) (fun e => hb (by simp [e])) (fun e => hb (by simp [e])) q) hf ⟨two_le, [u1, u2], .cons ru1 (.cons ru2 .nil), ⟨_, b5, rfl, _, rfl⟩⟩
    have lt1 : i1 < s.heap.objs.size := by obtain ⟨_, q, _⟩ := h1; exact Heap.lt_size q
    have lt2 : i2 < s.heap.objs.size := by obtain ⟨_, q, _⟩ := h2; exact Heap.lt_size q
    have hfp1 : ∀ b ∈ [z, TI, TO, i1, i2], FpOk X pins (upd H s.heap.objs.size (.tup [x, y])) b := fun b hb => by
      obtain ⟨f0, f1⟩ := hf b hb
      have hbl : b ≠ s.heap.objs.size := by
        simp only [List.mem_cons, List.not_mem_nil, or_false] at hb
        rcases hb with rfl | rfl | rfl | rfl | rfl
        · exact Nat.ne_of_lt (Heap.lt_size hz)
        · exact Nat.ne_of_lt (Heap.lt_size hTI)
        · exact Nat.ne_of_lt (Heap.lt_size hTO)
        · exact Nat.ne_of_lt lt1
        · exact Nat.ne_of_lt lt2
      exact ⟨by rw [upd_ne hbl]; exact f0, f1⟩
    refine wpAny_letOwnedTupleGo_zip b1 fun h2' hz' hs' => ?_
    have I2 : Inv X pins σ (upd H s.heap.objs.size (.tup [x, y])) { s with heap := h2' } :=
      Inv.turnedL (s := { s with heap := h' }) (t' := s.toks) (ch := [z, TI, TO, i1, i2]) I1 (fun b o hb q => (hs'.2 b (fun e => hb (by simp [e]))).trans q) hfp1
    refine ⟨.ref s.heap.objs.size, _, I2, rfl, ⟨_, x, y, I.fresh, rfl, fun zs hy' => by rw [I.list_inj hy' hq1]; exact hx, fun zs hy' => by rw [I.list_inj hy' hq2]; exact hy, rfl⟩,
      ⟨hz', hs'.extBut _ _ D.TIz (hk _ _ D.TIz D.TITO D.TIi1 D.TIi2 hTI), ⟨_, _, hs'.extBut _ _ D.TOz b2⟩, b3.extBut hs'.extBut D.i1z, b4.extBut hs'.extBut D.i2z⟩, fun b hb => (hfp1 b hb).1⟩
  done := by
    intro X hP hw hK hc i pins s σ H E I hf st hg
    subst hP hw hK
    obtain ⟨xs, ys, hq1, hq2, hx⟩ := hg
    obtain ⟨its1, rv1, p1, hz1⟩ := I.list hq1
    obtain ⟨its2, rv2, p2, hz2⟩ := I.list hq2
    obtain ⟨hz, hTI, ⟨a', b', hTO⟩, h1, h2⟩ := st
    have hl1 := rv1.length
    have hl2 := rv2.length
    have hend : its1.toArray[i]? = none ∨ its2.toArray[i]? = none := by
      rcases hx with h | h
      · exact .inl (by simp; omega)
      · exact .inr (by simp; omega)
    exact wpAny_pyNext_zip_end (I.ok.hd hc) D hz hTI hTO h1 h2 p1.isList p2.isList hend fun h' hk => ⟨rfl, I.turnedL (t' := s.toks) (ch := [z, TI, TO, i1, i2]) (fun b o hb q => hk b o (fun e => hb (by simp [e])) (fun e => hb (by simp [e])) (fun e => hb (by simp [e])) (fun e => hb (by simp [e])) q) hf⟩
  self := fun _ _ _ _ _ st h => wpAny_pyIter_zip st.1 h
section
variable {X : Cx}
def iZip (K : PySem.W.Frag) (ta : TA) : TI := fun σ H R => ta σ H fun vs H1 => ∃ a b, vs = [.ref a, .ref b] ∧ (∃ xs, SqL K H1 a xs) ∧ (∃ ys, SqL K H1 b ys) ∧ R (Itz K a b) H1
theorem pi_zip {a b : Expr} {ta : TA} {p pos : Pos} {elts : List Expr} {kx : Nat} {tp : Pos} (hg : Gl X "zip") (hm : X.mg "zip" = none) (ha : PA X [a, b] ta) (hs : starEach [a, b] X.env = [(false, eval a X.env), (false, eval b X.env)] := by rfl)
    (hs2 : starEach [b] X.env = [(false, eval b X.env)] := by rfl) : PI X (.Tuple elts kx tp) (.Call (.Name "zip" p) [a, b] [] pos) (iZip X.K ta) := by
  intro pins s σ H R I h
  refine Call_ (ld_blt I hg hm boot_zip (PyProof.Rows.callWith_type1 (thn (ha pos pins s σ H _ I h) fun us s1 ⟨vs, H1, I1, r1, q1⟩ => ?_) (by rw [hs, hs2]) (by rw [hs2]; rfl)))
  obtain ⟨l1, l2, e, ⟨xs, hq1⟩, ⟨ys, hq2⟩, q⟩ := q1
  subst e
  obtain ⟨u1, u2, rfl, r1', r2'⟩ := Vals.two r1
  cases r1'
  cases r2'
  obtain ⟨its1, rv1, p1, hz1⟩ := I1.list hq1
  obtain ⟨its2, rv2, p2, hz2⟩ := I1.list hq2
  have hl1 : @LT.lt Nat _ l1 s1.heap.objs.size := by obtain ⟨o, n, e, _⟩ := p1; exact Heap.lt_size e
  have hl2 : @LT.lt Nat _ l2 s1.heap.objs.size := by obtain ⟨o, n, e, _⟩ := p2; exact Heap.lt_size e
  refine call_zip_2 p1.isList p2.isList fun h' c1 c2 c3 c4 c5 c6 hk => ?_
  refine wpAny_pyIter_zip c1 ?_
  have I2 : Inv X pins σ H1 { s1 with heap := h' } := I1.kept (t' := s1.toks) hk
  refine ⟨s1.heap.objs.size + 4, [s1.heap.objs.size + 4, s1.heap.objs.size + 2, s1.heap.objs.size + 3, s1.heap.objs.size, s1.heap.objs.size + 1], _, _, H1, rfl, I2, turn_zip _ _ _ _ _ l1 l2 ?_, ⟨c1, c2, ⟨_, _, c3⟩, c4, c5⟩, fun b hb => ?_, q⟩
  · constructor <;> (show @Ne Nat _ _) <;> omega
  · have hb2 : @LE.le Nat _ s1.heap.objs.size b := by
      simp only [List.mem_cons, List.not_mem_nil, or_false] at hb
      rcases hb with rfl | rfl | rfl | rfl | rfl
      · exact Nat.le_add_right _ _
      · exact Nat.le_add_right _ _
      · exact Nat.le_add_right _ _
      · exact Nat.le_refl _
      · exact Nat.le_add_right _ _
    exact I1.fpOk hb2 (I1.hok.fresh hb2)
end
theorem insert_eq (its : List Value) (k : Nat) (y : Value) : (its.toArray.extract 0 k).push y ++ its.toArray.extract k = (its.take k ++ y :: its.drop k).toArray := by
  apply Array.toList_inj.mp
  simp
  first
    | done
    | exact List.take_of_length_le (by simp)
section
variable {X : Cx}
def rInsert : V → List V → Hp → VK → Prop := fun x vs H Q => ∃ l xs i y, x = .ref l ∧ vs = [.int i, y] ∧ H l = some (.lst xs) ∧ 0 ≤ i ∧ i ≤ xs.length ∧ xs.length < sizeLine ∧ Q .non (upd H l (.lst (xs.take i.toNat ++ y :: xs.drop i.toNat)))
theorem mt_insert : MtM X "list.insert" rInsert := by
  intro pins s σ H x vs v us Q I rx rv h
  obtain ⟨l, xs, i, y, rfl, rfl, hH, h0, h1, hz, q⟩ := h
  cases rx
  obtain ⟨u1, u2, rfl, ⟨t, rfl⟩, ru⟩ := Vals.two rv
  obtain ⟨z, its, n, r, hl, e⟩ := I.lstM hH
  have hn := line63
  refine call_meets F.slot_list_insert ⟨_, e, rfl⟩ F.entry_list_insert (F.args_list_insert_3 _ _ _) (AutoSeq1.list_insert_list_int_val_1 l its.toArray n i t u2 (by rw [fitsIndex_both (by omega) (by omega)]; exact Bool.false_ne_true) (by rw [List.size_toArray]; omega)) ⟨e, ?_⟩
  refine ⟨.non, _, I.lset (its' := its.take i.toNat ++ u2 :: its.drop i.toNat) hH e ?_ (Vals.append (r.take _) (.cons ru (r.drop _))) ?_, rfl, q⟩
  · have hk : (if i < 0 then (i + (its.toArray.size : Int)).toNat else min i.toNat its.toArray.size) = i.toNat := by
      rw [if_neg (by omega), List.size_toArray]; omega
    show (let k := if i < 0 then (i + (its.toArray.size : Int)).toNat else min i.toNat its.toArray.size; (its.toArray.extract 0 k).push u2 ++ its.toArray.extract k) = _
    rw [hk]
    exact insert_eq its i.toNat u2
  · rw [List.length_append, List.length_take, List.length_cons, List.length_drop]
    omega
def eqVs (xs ys : List V) : Bool := xs.length == ys.length && (xs.zip ys).all fun p => eqV p.1 p.2
def rEqL (K : PySem.W.Frag) (neg : Bool) : R2 := fun x y H Q => ∃ a b xs ys, x = .ref a ∧ y = .ref b ∧ SqL K H a xs ∧ SqL K H b ys ∧ ((xs.all flatV = true ∧ ys.all flatV = true) ∨ xs = [] ∨ ys = []) ∧ Q (.bl (if neg then !eqVs xs ys else eqVs xs ys)) H
theorem eqVs_range {xs ys : List V} (hl : xs.length = ys.length) : (List.range xs.length).all (fun j => eqV (xs.getD j .non) (ys.getD j .non)) = eqVs xs ys := by
  have e1 : eqVs xs ys = (xs.zip ys).all fun p => eqV p.1 p.2 := by unfold eqVs; simp [hl]
  rw [e1, Bool.eq_iff_iff, List.all_eq_true, List.all_eq_true]
  constructor
  · intro h p hp
    obtain ⟨j, hj, e⟩ := List.mem_iff_getElem.mp hp
    have hj1 : j < xs.length := by simp at hj; omega
    have hj2 : j < ys.length := by omega
    have := h j (List.mem_range.mpr hj1)
    rw [← e]
    simpa [List.getD, hj1, hj2] using this
  · intro h j hj
    have hj1 : j < xs.length := List.mem_range.mp hj
    have hj2 : j < ys.length := by omega
    have := h (xs[j], ys[j]) (List.mem_iff_getElem.mpr ⟨j, by simp; omega, by simp⟩)
    simpa [List.getD, hj1, hj2] using this
theorem eqAt_lists {xs ys : List V} {us ws : List Value} {A : Around} {s : Shared} (r1 : Vals xs us) (r2 : Vals ys ws) (f : (xs.all flatV = true ∧ ys.all flatV = true) ∨ xs = [] ∨ ys = []) :
    ∀ j (h1 : j < us.toArray.size) (h2 : j < ws.toArray.size), SeqAt.EqAt A s us.toArray[j] ws.toArray[j] (eqV (xs.getD j .non) (ys.getD j .non)) := by
  intro j h1 h2
  have l1 := r1.length
  have l2 := r2.length
  simp only [List.size_toArray] at h1 h2
  have hj1 : j < xs.length := by omega
  have hj2 : j < ys.length := by omega
  obtain ⟨f1, f2⟩ : xs.all flatV = true ∧ ys.all flatV = true := by
    rcases f with f | f | f
    · exact f
    · subst f; simp at hj1
    · subst f; simp at hj2
  obtain ⟨u, eu, ru⟩ := r1.get (i := j) (x := xs[j]) (by simp [hj1])
  obtain ⟨w', ew, rw'⟩ := r2.get (i := j) (x := ys[j]) (by simp [hj2])
  have e1 : us.toArray[j] = u := by
    have := List.getElem?_eq_some_iff.mp eu
    obtain ⟨_, q⟩ := this
    simpa using q
  have e2 : ws.toArray[j] = w' := by
    obtain ⟨_, q⟩ := List.getElem?_eq_some_iff.mp ew
    simpa using q
  rw [e1, e2]
  have g1 : xs.getD j .non = xs[j] := by simp [List.getD, hj1]
  have g2 : ys.getD j .non = ys[j] := by simp [List.getD, hj2]
  rw [g1, g2]
  exact eqAt_V ru rw' (List.all_eq_true.mp f1 _ (List.getElem_mem hj1)) (List.all_eq_true.mp f2 _ (List.getElem_mem hj2))
theorem op_eqL (hu : X.A.units < cLine) : OpR X (compareOp .Eq) (rEqL X.K false) := by
  intro pins s σ H x y v u Q I rx ry h
  obtain ⟨a, b, xs, ys, rfl, rfl, h1, h2, f, q⟩ := h
  cases rx
  cases ry
  obtain ⟨its1, r1, p1, _⟩ := I.list h1
  obtain ⟨its2, r2, p2, _⟩ := I.list h2
  have l1 := r1.length
  have l2 := r2.length
  by_cases hl : xs.length = ys.length
  · refine SeqAt.eq_listAt p1.isList p2.isList (by simp; omega) hu (eqAt_lists r1 r2 f) ⟨.bl _, H, I, rfl, ?_⟩
    rw [List.size_toArray, ← l1, eqVs_range hl]
    exact q
  · refine SeqAt.eq_list_lengthsAt p1.isList p2.isList (by simp; omega) hu ⟨.bl false, H, I, rfl, ?_⟩
    have e : eqVs xs ys = false := by unfold eqVs; simp [hl]
    rw [show (if false = true then !eqVs xs ys else eqVs xs ys) = eqVs xs ys from rfl, e] at q
    exact q
theorem op_neL (hu : X.A.units < cLine) : OpR X (compareOp .NotEq) (rEqL X.K true) := by
  intro pins s σ H x y v u Q I rx ry h
  obtain ⟨a, b, xs, ys, rfl, rfl, h1, h2, f, q⟩ := h
  cases rx
  cases ry
  obtain ⟨its1, r1, p1, _⟩ := I.list h1
  obtain ⟨its2, r2, p2, _⟩ := I.list h2
  have l1 := r1.length
  have l2 := r2.length
  by_cases hl : xs.length = ys.length
  · refine (SeqAt.RcNeAt.lists p1.isList p2.isList (by simp; omega) hu (eqAt_lists r1 r2 f)) _ _ _ _ ?_
    refine ⟨.bl _, H, I, rfl, ?_⟩
    rw [List.size_toArray, ← l1, eqVs_range hl]
    exact q
  · refine (SeqAt.RcNeAt.lists_lengths p1.isList p2.isList (by simp; omega) hu) _ _ _ _ ?_
    refine ⟨.bl true, H, I, rfl, ?_⟩
    have e : eqVs xs ys = false := by unfold eqVs; simp [hl]
    rw [show (if true = true then !eqVs xs ys else eqVs xs ys) = !eqVs xs ys from rfl, e] at q
    exact q
theorem call_isi1 : CallR X (.builtin "isinstance") (fun xs H Q => ∃ x T t b, xs = [x, .ty T] ∧ TyOf X.K H x t ∧ PySem.W.kitOne X.K t (.type T) = some b ∧ Q (.bl b) H) := by
  intro pins s σ H xs us Q I r h
  obtain ⟨x, T, t, b, rfl, ty, e, q⟩ := h
  obtain ⟨u1, u2, rfl, r1, r2⟩ := Vals.two r
  cases r2
  exact isinst_ok I r1 ty e fun tk => ⟨.bl b, H, I.tok tk, rfl, q⟩
theorem isinstT_ok {pins : List (Addr × Obj)} {σ : St} {H : Hp} {s : Shared} {A : Around} {E : Value → Shared → Prop} {Q : Value → Shared → Prop} {b : Bool} {x : V} {u t : Value} {tp : Addr} {dd : Option Addr} {its : List Value} {n : Nat} {sl : Array (Option Value)} (I : Inv X pins σ H s) (rx : RelV x u) (ty : TyOf X.K H x t)
    (htp : s.heap.get? tp = some ⟨.type "tuple", dd, .seq its.toArray n, sl⟩) (e : PySem.W.kitAny X.K t its = some b) (h : ∀ tk, Q (.bool b) { s with toks := tk }) :
    wpAny (model X.prog X.w) A (call (.builtin "isinstance") [u, .ref tp]) Q E s := by
  cases ty with
  | non => cases (show u = Value.none from rx); exact PySem.W.kia_tup PySem.W.kitx_none I.kIn True.intro htp e (fun z => nomatch z) h
  | bl y => cases (show u = Value.bool y from rx); exact PySem.W.kia_tup PySem.W.kitx_bool I.kIn True.intro htp e (fun z => nomatch z) h
  | int i => obtain ⟨t, q⟩ := (show ∃ t, u = Value.int i t from rx); cases q; exact PySem.W.kia_tup PySem.W.kitx_int I.kIn True.intro htp e (fun z => nomatch z) h
  | str y => obtain ⟨t, q⟩ := (show ∃ t, u = Value.str y t from rx); cases q; exact PySem.W.kia_tup PySem.W.kitx_str I.kIn True.intro htp e (fun z => nomatch z) h
  | flt y => obtain ⟨t, q⟩ := (show ∃ t, u = Value.float y t from rx); cases q; exact PySem.W.kia_tup PySem.W.kitx_float I.kIn True.intro htp e (fun z => nomatch z) h
  | @lst a xs ea =>
    cases (show u = Value.ref a from rx)
    obtain ⟨_, _, n, _, h1⟩ := (show ObjOk X.prog X.w H s.heap a (.lst xs) from I.hok a _ ea)
    exact PySem.W.kia_tup PySem.W.kitx_list I.kIn ⟨_, h1, rfl⟩ htp e (fun z => nomatch z) h
  | @frz a ob xs ea =>
    cases (show u = Value.ref a from rx)
    obtain ⟨_, _, _, n, _, h1⟩ := (show ObjOk X.prog X.w H s.heap a (.frz ob (.lst xs)) from I.hok a _ ea)
    exact PySem.W.kia_tup PySem.W.kitx_list I.kIn ⟨_, h1, rfl⟩ htp e (fun z => nomatch z) h
  | @tup a xs ea =>
    cases (show u = Value.ref a from rx)
    obtain ⟨_, _, _, p⟩ := (show ObjOk X.prog X.w H s.heap a (.tup xs) from I.hok a _ ea)
    obtain ⟨o, h1, h2, _⟩ := p
    exact PySem.W.kia_tup PySem.W.kitx_tuple I.kIn ⟨o, h1, h2⟩ htp e (fun z => nomatch z) h
  | @dK a kvs ea =>
    cases (show u = Value.ref a from rx)
    obtain ⟨_, _, vs, _, p⟩ := (show ObjOk X.prog X.w H s.heap a (.dK kvs) from I.hok a _ ea)
    obtain ⟨o, es, ep, h1, h2, _⟩ := p
    exact PySem.W.kia_tup PySem.W.kitx_dict I.kIn ⟨o, h1, h2.1⟩ htp e (fun z => nomatch z) h
  | @dT a kvs ea =>
    cases (show u = Value.ref a from rx)
    obtain ⟨_, _, xs, _, o, es, ep, h1, h2, _⟩ := (show ObjOk X.prog X.w H s.heap a (.dT kvs) from I.hok a _ ea)
    exact PySem.W.kia_tup PySem.W.kitx_dict I.kIn ⟨o, h1, h2.1⟩ htp e (fun z => nomatch z) h
  | @ins a C dx fs ea cl ha hn htk hm =>
    cases (show u = Value.ref a from rx)
    obtain ⟨mA, O, _⟩ := ins_get I.hok ea
    obtain ⟨od, J, _⟩ := O.look
    exact PySem.W.kia_tup (PySem.W.kitx_own (cl.get _) cl.hd ha hn htk hm) I.kIn J htp e (fun z => nomatch z) h
theorem vals_ty : ∀ (Ts : List String) {us : List Value}, Vals (Ts.map V.ty) us → us = Ts.map Value.type
  | [], _, .nil => rfl
  | T :: r, _, .cons h t => by cases h; rw [vals_ty r t]; rfl
theorem call_isiT : CallR X (.builtin "isinstance") (fun xs H Q => ∃ (x : V) (p : Addr) (Ts : List String) (t : Value) (b : Bool), xs = [x, .ref p] ∧ H p = some (.tup (Ts.map V.ty)) ∧ TyOf X.K H x t ∧ PySem.W.kitAny X.K t (Ts.map Value.type) = some b ∧ Q (.bl b) H) := by
  intro pins s σ H xs us Q I r h
  obtain ⟨x, p, Ts, t, b, rfl, hp, ty, e, q⟩ := h
  obtain ⟨u1, u2, rfl, r1, r2⟩ := Vals.two r
  cases r2
  obtain ⟨_, its, rv, ⟨⟨c, dd, dt, sl⟩, h1, h2, n, h3⟩⟩ := (show ObjOk X.prog X.w H s.heap p (.tup (Ts.map V.ty)) from I.hok p _ hp)
  have ei := vals_ty Ts rv
  subst ei
  replace h2 : c = .type "tuple" := h2
  replace h3 : dt = .seq (Ts.map Value.type).toArray n := h3
  subst h2 h3
  exact isinstT_ok I r1 ty h1 e fun tk => ⟨.bl b, H, I.tok tk, rfl, q⟩
theorem call_allB (hc : X.calm = true) : CallR X (.builtin "all") (fun xs H Q => ∃ (a : Addr) (bs : List Bool), xs = [.ref a] ∧ SqL X.K H a (bs.map V.bl) ∧ Q (.bl (bs.all id)) H) := by
  intro pins s σ H xs us Q I r h
  obtain ⟨a, bs, rfl, hq, q⟩ := h
  obtain ⟨u, rfl, ru⟩ := vals1 r
  cases ru
  obtain ⟨its, rv, pl, hz⟩ := I.list hq
  have hl := rv.length
  rw [List.length_map] at hl
  refine call_all_walk (wpAny_pyIter_list pl.isList ?_)
  have hlt : a < s.heap.objs.size := by obtain ⟨o, n, e, _⟩ := pl; exact Heap.lt_size e
  refine ⟨s.heap.objs.size, _, _, _, _, _, fun i => bs.getD i false, rfl, Walks.list (by exact I.ok.hd hc) s.heap.objs.size a (Nat.ne_of_lt hlt) its.toArray, ⟨⟨_, Heap.get?_push_size _ rfl, rfl, rfl⟩, pl.isList.push _⟩, ?_, fun h' tk hk => ?_⟩
  · intro i v s' Q' E' hv hQ'
    have hv' : its[i]? = some v := by simpa using hv
    have hi : i < its.length := (List.getElem?_eq_some_iff.mp hv').1
    have hb : (bs.map V.bl)[i]? = some (.bl (bs[i]'(by omega))) := by simp
    obtain ⟨u', eu, ru'⟩ := rv.get hb
    rw [hv'] at eu
    cases eu
    cases ru'
    have hg : bs.getD i false = bs[i]'(by omega) := by simp [List.getD, show i < bs.length by omega]
    have hQ2 : Q' (bs.getD i false) s' := hQ'
    rw [hg] at hQ2
    exact wpAny_truthy_bool hQ2
  · have I1 : Inv X pins σ H { s with heap := h', toks := tk } := I.kept fun b o e => hk b o (by simp; exact Nat.ne_of_lt (Heap.lt_size e)) (Heap.get?_push_of_some _ e)
    refine ⟨.bl _, H, I1, rfl, ?_⟩
    have e : (List.range its.toArray.size).all (fun i => bs.getD i false) = bs.all id := by
      rw [List.size_toArray, ← hl, Bool.eq_iff_iff, List.all_eq_true, List.all_eq_true]
      constructor
      · intro h b hb
        obtain ⟨j, hj, e⟩ := List.mem_iff_getElem.mp hb
        have := h j (List.mem_range.mpr hj)
        simpa [List.getD, hj, e] using this
      · intro h j hj
        have hj1 : j < bs.length := List.mem_range.mp hj
        have := h bs[j] (List.getElem_mem hj1)
        simpa [List.getD, hj1] using this
    rw [e]
    exact q
theorem call_rng1 : CallR X (.type "range") (fun xs H Q => ∃ b, xs = [.int b] ∧ ∀ p, H p = none → Q (.ref p) (upd H p (.rng 0 b))) := by
  intro pins s σ H xs us Q I r h
  obtain ⟨b, rfl, q⟩ := h
  obtain ⟨u1, rfl, ⟨t, rfl⟩⟩ := vals1 r
  refine call_range_1 ⟨.ref s.heap.objs.size, _, I.laid (o := .rng 0 b) (fun b o e => Heap.get?_push_of_some _ e) (Nat.le_refl _) ⟨_, _, _, Heap.get?_push_size _ rfl⟩, rfl, q _ I.fresh⟩
def rngV (lo : Int) (n : Nat) : List V := (List.range n).map fun (i : Nat) => V.int (lo + (i : Int))
theorem rngV_length (lo : Int) (n : Nat) : (rngV lo n).length = n := by unfold rngV; simp
theorem call_listRng (hc : X.calm = true) : CallR X (.type "list") (fun xs H Q => ∃ p a b, xs = [.ref p] ∧ H p = some (.rng a b) ∧ -(2 ^ 62) ≤ a ∧ a < 2 ^ 62 ∧ -(2 ^ 62) ≤ b ∧ b < 2 ^ 62 ∧ (b - a).toNat ≤ 100000 ∧ ∀ l, H l = none → Q (.ref l) (upd H l (.lst (rngV a (b - a).toNat)))) := by
  intro pins s σ H xs us Q I r h
  obtain ⟨p, a, b, rfl, hp, h1, h2, h3, h4, h5, q⟩ := h
  obtain ⟨u, rfl, ru⟩ := vals1 r
  cases ru
  obtain ⟨t, u', v, ho⟩ := (show ObjOk X.prog X.w H s.heap p (.rng a b) from I.hok p _ hp)
  have hn : Builtin.Range.rangeSize a b 1 = (((b - a).toNat : Nat) : Int) := by rw [rangeSize_one]; split <;> omega
  refine call_list_range (I.ok.hd hc) (show IsRange s.heap p a b 1 t u' v from ho) (small_one h1 h2 h3 h4) hn (by omega) fun h' tk acc c' kp e hi => ?_
  have hz : (b - a).toNat ≤ sizeLine := Nat.le_trans h5 (by decide)
  refine ⟨.ref s.heap.objs.size, _, I.laid kp (Nat.le_refl _) (show ObjOk X.prog X.w _ h' _ (.lst (rngV a (b - a).toNat)) from ⟨by rw [rngV_length]; exact hz, acc.toList, c', ?_, by simpa using e⟩), rfl, q _ I.fresh⟩
  obtain ⟨hs, hv⟩ := hi
  have key : ∀ (n : Nat) (l : List Value) (lo : Int), l.length = n → (∀ (j : Nat) (v : Value), l[j]? = some v → ∃ t, v = Value.int (lo + (j : Int)) t) → Vals ((List.range n).map fun (i : Nat) => V.int (lo + (i : Int))) l := by
    intro n
    induction n with
    | zero => intro l lo hl _; cases l with | nil => exact .nil | cons _ _ => simp at hl
    | succ n ih =>
      intro l lo hl hv
      cases l with
      | nil => simp at hl
      | cons x r =>
        rw [List.range_succ_eq_map, List.map_cons, List.map_map]
        refine .cons ?_ ?_
        · obtain ⟨t, e⟩ := hv 0 x (by simp)
          exact ⟨t, e⟩
        · have := ih r (lo + 1) (by simpa using hl) fun j v hj => by
            obtain ⟨t, e⟩ := hv (j + 1) v (by simpa using hj)
            refine ⟨t, ?_⟩
            rw [e]
            congr 1
            omega
          have e2 : ((fun (i : Nat) => V.int (lo + (i : Int))) ∘ Nat.succ) = fun (i : Nat) => V.int (lo + 1 + (i : Int)) := by
            funext i
            show V.int (lo + ((i + 1 : Nat) : Int)) = V.int (lo + 1 + (i : Int))
            congr 1
            omega
          rw [e2]
          exact this
  refine key _ _ a (by simpa using hs) fun j v hj => ?_
  obtain ⟨t, e⟩ := hv j v (by simpa using hj)
  exact ⟨t, by rw [e]; congr 1; omega⟩
end
theorem comp_enumT {K : PySem.W.Frag} {a : Addr} {xs : List V} {g : TG} {tt : TT} {te : TE} {D : Addr} {σ' : St} {Q : List V → Hp → Prop} {H1 : Hp} (Pv : Nat → List V → Hp → Prop) (h0 : Pv 0 [] (upd H1 D (.lst []))) (hl : ∀ i ys H, i ≤ xs.length → Pv i ys H → SqT K H a xs)
    (hs : ∀ i x ys H p, xs[i]? = some x → Pv i ys H → H p = none → CompTurn g tt te D σ' ys (Pv (i + 1)) (.ref p) (upd H p (.tup [.int i, x]))) (hd : ∀ ys H, Pv xs.length ys H → Q ys H) :
    ∃ W : Nat → Nat → List V → Hp → Prop, (∃ m, W 0 m [] (upd H1 D (.lst []))) ∧ CompW (IteT K a) g tt te D σ' Q W := by
  refine ⟨fun i m ys H => m = xs.length - i ∧ i ≤ xs.length ∧ Pv i ys H, ⟨xs.length, by simp, Nat.zero_le _, h0⟩, ?_⟩
  rintro i m ys H ⟨rfl, hi, p⟩
  have q := hl i ys H hi p
  by_cases hlt : i < xs.length
  · refine .inr ⟨⟨xs, xs[i], q, by simp [hlt]⟩, Pv (i + 1), fun ys' H' p' => ⟨xs.length - (i + 1), by omega, rfl, hlt, p'⟩, fun x H' y => ?_⟩
    obtain ⟨pp, v, hp, e1, hv, e2⟩ := y
    subst e1 e2
    exact hs i v ys _ pp (hv xs q) p hp
  · have e : i = xs.length := by omega
    subst e
    exact .inl ⟨⟨xs, q, rfl⟩, hd ys H p⟩
theorem comp_zip {K : PySem.W.Frag} {a b : Addr} {xs zs : List V} {g : TG} {tt : TT} {te : TE} {D : Addr} {σ' : St} {Q : List V → Hp → Prop} {H1 : Hp} (hlen : xs.length = zs.length) (Pv : Nat → List V → Hp → Prop) (h0 : Pv 0 [] (upd H1 D (.lst [])))
    (hl : ∀ i ys H, i ≤ xs.length → Pv i ys H → SqL K H a xs ∧ SqL K H b zs)
    (hs : ∀ i x z ys H p, xs[i]? = some x → zs[i]? = some z → Pv i ys H → H p = none → CompTurn g tt te D σ' ys (Pv (i + 1)) (.ref p) (upd H p (.tup [x, z]))) (hd : ∀ ys H, Pv xs.length ys H → Q ys H) :
    ∃ W : Nat → Nat → List V → Hp → Prop, (∃ m, W 0 m [] (upd H1 D (.lst []))) ∧ CompW (Itz K a b) g tt te D σ' Q W := by
  refine ⟨fun i m ys H => m = xs.length - i ∧ i ≤ xs.length ∧ Pv i ys H, ⟨xs.length, by simp, Nat.zero_le _, h0⟩, ?_⟩
  rintro i m ys H ⟨rfl, hi, p⟩
  obtain ⟨q1, q2⟩ := hl i ys H hi p
  by_cases hlt : i < xs.length
  · refine .inr ⟨⟨xs, zs, xs[i], zs[i]'(by omega), q1, q2, by simp [hlt], by simp⟩, Pv (i + 1), fun ys' H' p' => ⟨xs.length - (i + 1), by omega, rfl, hlt, p'⟩, fun x H' y => ?_⟩
    obtain ⟨pp, v, u, hp, e1, hv, hu, e2⟩ := y
    subst e1 e2
    exact hs i v u ys _ pp (hv xs q1) (hu zs q2) p hp
  · have e : i = xs.length := by omega
    subst e
    exact .inl ⟨⟨xs, zs, q1, q2, .inl (Nat.le_refl _)⟩, hd ys H p⟩
end L2
set_option Elab.async false
set_option linter.all false
set_option maxRecDepth 100000
set_option maxHeartbeats 4000000
namespace L2
open PySem PySem.Spec PyProof.Rows
theorem vals_intsAre : ∀ {ns : List Int} {us : List Value}, Vals (ns.map V.int) us → IntsAre us ns
  | [], _, .nil => .nil
  | _ :: _, _, .cons ⟨_, e⟩ t => by subst e; exact .cons _ _ (vals_intsAre t)
section
variable {X : Cx}
end
end L2
set_option Elab.async false
set_option linter.all false
set_option maxRecDepth 100000
set_option maxHeartbeats 4000000
namespace L2
open PySem PySem.Spec PyProof.Rows
section
variable {κ : Type} [DecidableEq κ]
def valV (kvs : List (κ × V)) (k : κ) : Option V := (kvs.find? fun kv => decide (kv.1 = k)).map (·.2)
def putK (kvs : List (κ × V)) (k : κ) (v : V) : List (κ × V) :=
  if (kvs.any fun kv => decide (kv.1 = k)) = true then kvs.map (fun kv => if kv.1 = k then (kv.1, v) else kv) else kvs ++ [(k, v)]
def dropK (kvs : List (κ × V)) (k : κ) : List (κ × V) := kvs.filter fun kv => decide (kv.1 ≠ k)
theorem valV_pos {p : κ × V} {r : List (κ × V)} {k : κ} (e : p.1 = k) : valV (p :: r) k = some p.2 := by simp [valV, List.find?_cons, e]
theorem valV_neg {p : κ × V} {r : List (κ × V)} {k : κ} (e : ¬ p.1 = k) : valV (p :: r) k = valV r k := by simp [valV, List.find?_cons, e]
theorem valV_any (k : κ) : ∀ kvs : List (κ × V), (kvs.any fun kv => decide (kv.1 = k)) = (valV kvs k).isSome
  | [] => rfl
  | p :: r => by
    rw [List.any_cons]
    by_cases e : p.1 = k
    · simp only [valV_pos e, decide_eq_true e, Bool.true_or, Option.isSome_some]
    · rw [valV_neg e, decide_eq_false e, Bool.false_or]; exact valV_any k r
theorem RelO.isSome_eq {o : Option V} {u : Option Value} (r : RelO o u) : o.isSome = u.isSome := by
  cases o with
  | none => cases u with
    | none => rfl
    | some _ => exact (show False from r).elim
  | some _ => cases u with
    | none => exact (show False from r).elim
    | some _ => rfl
theorem RelO.getD {o : Option V} {u : Option Value} {d : V} {d' : Value} (r : RelO o u) (rd : RelV d d') : RelV (o.getD d) (u.getD d') := by
  cases o with
  | none => cases u with
    | none => exact rd
    | some _ => exact (show False from r).elim
  | some _ => cases u with
    | none => exact (show False from r).elim
    | some _ => exact r
theorem KV.val {kvs : List (κ × V)} {vs : List (κ × Value)} (r : KV kvs vs) (k : κ) : RelO (valV kvs k) (valueAt vs k) := by
  unfold KV at r
  induction r with
  | nil => exact True.intro
  | @cons p q ps qs h t ih =>
    obtain ⟨h1, h2⟩ := h
    by_cases e : p.1 = k
    · have e' : q.1 = k := h1.symm.trans e
      have b : valueAt (q :: qs) k = some q.2 := by simp [valueAt, List.find?_cons, e']
      rw [valV_pos e, b]; exact h2
    · have e' : ¬ q.1 = k := fun z => e (h1.trans z)
      have b : valueAt (q :: qs) k = valueAt qs k := by simp [valueAt, List.find?_cons, e']
      rw [valV_neg e, b]; exact ih
theorem KV.any {kvs : List (κ × V)} {vs : List (κ × Value)} (r : KV kvs vs) (k : κ) : (kvs.any fun kv => decide (kv.1 = k)) = vs.any fun kv => decide (kv.1 = k) := by
  unfold KV at r
  induction r with
  | nil => rfl
  | cons h t ih => rw [List.any_cons, List.any_cons, ih, h.1]
theorem KV.repl {kvs : List (κ × V)} {vs : List (κ × Value)} (r : KV kvs vs) (k : κ) {y : V} {u : Value} (ry : RelV y u) :
    KV (kvs.map fun kv => if kv.1 = k then (kv.1, y) else kv) (vs.map fun kv => if kv.1 = k then (kv.1, u) else kv) := by
  unfold KV at r ⊢
  induction r with
  | nil => exact .nil
  | @cons p q ps qs h t ih =>
    rw [List.map_cons, List.map_cons]
    refine .cons ?_ ih
    obtain ⟨h1, h2⟩ := h
    by_cases e : p.1 = k
    · rw [if_pos e, if_pos (h1.symm.trans e)]; exact ⟨h1, ry⟩
    · rw [if_neg e, if_neg (fun z => e (h1.trans z))]; exact ⟨h1, h2⟩
theorem KV.put {kvs : List (κ × V)} {vs : List (κ × Value)} (r : KV kvs vs) (k : κ) {y : V} {u : Value} (ry : RelV y u) : KV (putK kvs k y) (stored vs k u) := by
  unfold putK stored
  rw [r.any k]
  by_cases e : (vs.any fun kv => decide (kv.1 = k)) = true
  · rw [if_pos e, if_pos e]; exact r.repl k ry
  · rw [if_neg e, if_neg e]; exact Paired.snoc r ⟨rfl, ry⟩
theorem KV.drop {kvs : List (κ × V)} {vs : List (κ × Value)} (r : KV kvs vs) (k : κ) : KV (dropK kvs k) (without vs k) := by
  unfold KV at r ⊢
  unfold dropK without
  induction r with
  | nil => exact .nil
  | @cons p q ps qs h t ih =>
    obtain ⟨h1, h2⟩ := h
    rw [List.filter_cons, List.filter_cons]
    by_cases e : p.1 = k
    · have a : ¬ decide (p.1 ≠ k) = true := by simp [e]
      have b : ¬ decide (q.1 ≠ k) = true := by simp [h1.symm.trans e]
      rw [if_neg a, if_neg b]; exact ih
    · have e' : ¬ q.1 = k := fun z => e (h1.trans z)
      have a : decide (p.1 ≠ k) = true := by simp [e]
      have b : decide (q.1 ≠ k) = true := by simp [e']
      rw [if_pos a, if_pos b]; exact .cons ⟨h1, h2⟩ ih
theorem KV.keys {kvs : List (κ × V)} {vs : List (κ × Value)} (r : KV kvs vs) : kvs.map (·.1) = vs.map (·.1) := by
  unfold KV at r
  induction r with
  | nil => rfl
  | cons h t ih => rw [List.map_cons, List.map_cons, ih, h.1]
theorem KV.length {kvs : List (κ × V)} {vs : List (κ × Value)} (r : KV kvs vs) : kvs.length = vs.length := Paired.length r
end
abbrev KT (H : Hp) : List (List Key × V) → List (List Key × Addr × Value) → Prop := Paired fun p q => p.1 = q.1 ∧ H q.2.1 = some (.tup (p.1.map kV)) ∧ RelV p.2 q.2.2
theorem KT.val {H : Hp} {kvs : List (List Key × V)} {xs : List (List Key × Addr × Value)} (r : KT H kvs xs) (k : List Key) : RelO (valV kvs k) ((atKey xs k).map (·.2)) := by
  induction r with
  | nil => exact True.intro
  | @cons p q ps qs h t ih =>
    obtain ⟨h1, _, h2⟩ := h
    by_cases e : p.1 = k
    · have e' : q.1 = k := h1.symm.trans e
      have b : atKey (q :: qs) k = some q.2 := by simp [atKey, List.find?_cons, e']
      rw [valV_pos e, b]; exact h2
    · have e' : ¬ q.1 = k := fun z => e (h1.trans z)
      have b : atKey (q :: qs) k = atKey qs k := by simp [atKey, List.find?_cons, e']
      rw [valV_neg e, b]; exact ih
theorem KT.repl {H : Hp} {kvs : List (List Key × V)} {xs : List (List Key × Addr × Value)} (r : KT H kvs xs) (k : List Key) {y : V} {u : Value} (ry : RelV y u) :
    KT H (kvs.map fun kv => if kv.1 = k then (kv.1, y) else kv) (xs.map (putAt k u)) := by
  induction r with
  | nil => exact .nil
  | @cons p q ps qs h t ih =>
    rw [List.map_cons, List.map_cons]
    refine .cons ?_ ih
    obtain ⟨h1, h2, h3⟩ := h
    unfold putAt
    by_cases e : p.1 = k
    · rw [if_pos e, if_pos (h1.symm.trans e)]; exact ⟨h1, h2, ry⟩
    · rw [if_neg e, if_neg (fun z => e (h1.trans z))]; exact ⟨h1, h2, h3⟩
theorem KT.put {H : Hp} {kvs : List (List Key × V)} {xs : List (List Key × Addr × Value)} (r : KT H kvs xs) (k : List Key) {b : Addr} {y : V} {u : Value} (hb : H b = some (.tup (k.map kV))) (ry : RelV y u) :
    KT H (putK kvs k y) (storedH xs k b u) := by
  have e : (kvs.any fun kv => decide (kv.1 = k)) = (atKey xs k).isSome := by
    rw [valV_any, (r.val k).isSome_eq, Option.isSome_map]
  unfold putK storedH
  rw [e]
  by_cases q : (atKey xs k).isSome = true
  · rw [if_pos q, if_pos q]; exact r.repl k ry
  · rw [if_neg q, if_neg q]; exact Paired.snoc r ⟨rfl, hb, ry⟩
theorem KT.keeps {H H' : Hp} {kvs : List (List Key × V)} {xs : List (List Key × Addr × Value)} (r : KT H kvs xs) (ht : ∀ b ys, H b = some (.tup ys) → H' b = some (.tup ys)) : KT H' kvs xs :=
  Paired.mapP r fun _ _ z => ⟨z.1, ht _ _ z.2.1, z.2.2⟩
section
variable {P : Program} {w : World} {H : Hp} {h : Heap} {a : Addr}
end
def DGet (H : Hp) (a : Addr) (y : V) (r : Option V) : Prop :=
  (∃ kvs k, Rd H a (.dK kvs) ∧ y = kV k ∧ r = valV kvs k) ∨ ∃ kvs k b, Rd H a (.dT kvs) ∧ y = .ref b ∧ H b = some (.tup (k.map kV)) ∧ r = valV kvs k
def DPut (H : Hp) (a : Addr) (y v : V) (H' : Hp) : Prop :=
  (∃ kvs k, H a = some (.dK kvs) ∧ y = kV k ∧ kvs.length < sizeLine ∧ H' = upd H a (.dK (putK kvs k v))) ∨
  ∃ kvs k b, H a = some (.dT kvs) ∧ y = .ref b ∧ H b = some (.tup (k.map kV)) ∧ kvs.length < sizeLine ∧ H' = upd H a (.dT (putK kvs k v))
theorem DGet.k {H : Hp} {a : Addr} {kvs : List (Key × V)} {k : Key} (e : H a = some (.dK kvs)) : DGet H a (kV k) (valV kvs k) := .inl ⟨kvs, k, .inl e, rfl, rfl⟩
theorem DGet.t {H : Hp} {a b : Addr} {kvs : List (List Key × V)} {k : List Key} (e : H a = some (.dT kvs)) (eb : H b = some (.tup (k.map kV))) : DGet H a (.ref b) (valV kvs k) := .inr ⟨kvs, k, b, .inl e, rfl, eb, rfl⟩
theorem DPut.k {H : Hp} {a : Addr} {kvs : List (Key × V)} {k : Key} {v : V} (e : H a = some (.dK kvs)) (hl : kvs.length < sizeLine) : DPut H a (kV k) v (upd H a (.dK (putK kvs k v))) := .inl ⟨kvs, k, e, rfl, hl, rfl⟩
theorem DPut.t {H : Hp} {a b : Addr} {kvs : List (List Key × V)} {k : List Key} {v : V} (e : H a = some (.dT kvs)) (eb : H b = some (.tup (k.map kV))) (hl : kvs.length < sizeLine) :
    DPut H a (.ref b) v (upd H a (.dT (putK kvs k v))) := .inr ⟨kvs, k, b, e, rfl, eb, hl, rfl⟩
section
variable {X : Cx} {pins : List (Addr × Obj)} {σ : St} {H : Hp} {s : Shared} {a : Addr} {y v : V} {u r : Value} {o : Option V} {A : Around} {E : Value → Shared → Prop}
theorem Inv.big (I : Inv X pins σ H s) : sysModules < s.heap.objs.size := by
  have h : mainGlobals < s.heap.objs.size := (I.mod.glob.keeps I.bk).lt
  exact Nat.lt_trans (by decide) h
end
section
variable {X : Cx} {pins : List (Addr × Obj)} {σ : St} {H : Hp} {s : Shared} {a : Addr} {kvs : List (Key × V)} {k : Key} {u : Value} {A : Around} {E : Value → Shared → Prop}
end
section
variable {X : Cx} {o i e value : Expr} {pos pos' tpos : Pos} {td ty tv : TE}
end
section
variable {X : Cx} {pos : Pos}
end
section
variable {X : Cx} {pins : List (Addr × Obj)} {σ : St} {H : Hp} {s : Shared} {a : Addr} {y d : V} {u r : Value} {o : Option V} {A : Around} {E : Value → Shared → Prop}
end
section
variable {X : Cx} {o e f : Expr} {apos cpos : Pos} {td ty tx : TE}
end
section
variable {X : Cx} {pins : List (Addr × Obj)} {σ : St} {H : Hp} {s : Shared} {a : Addr} {kvs : List (Key × V)} {A : Around} {E : Value → Shared → Prop}
end
section
variable {X : Cx} {pins : List (Addr × Obj)} {σ : St} {H : Hp} {s : Shared} {a : Addr} {y : V} {u : Value} {A : Around} {E : Value → Shared → Prop}
end
end L2
namespace L2
open PySem PySem.Spec PyProof.Rows
section
variable {X : Cx}
end
section
variable {κ : Type} [DecidableEq κ]
end
end L2
set_option Elab.async false
set_option linter.all false
set_option maxRecDepth 100000
set_option maxHeartbeats 4000000
namespace L2
open PySem PySem.Spec PyProof.Rows
section
variable {prog : Program} {w : World} {A : Around} {E : Value → Shared → Prop} {s : Shared}
end
section
variable {X : Cx} {pins : List (Addr × Obj)} {σ : St} {H : Hp} {s : Shared} {a : Addr} {A : Around} {E : Value → Shared → Prop}
end
section
variable {X : Cx} {o e f : Expr} {apos cpos : Pos} {td ty tx : TE}
end
end L2
set_option Elab.async false
set_option linter.all false
set_option maxRecDepth 100000
set_option maxHeartbeats 4000000
namespace L2
open PySem PySem.Spec PyProof.Rows
section
variable {X : Cx}
end
end L2
set_option Elab.async false
set_option linter.all false
set_option maxRecDepth 100000
set_option maxHeartbeats 4000000
namespace L2
open PySem PySem.Spec PyProof.Rows
mutual
def Dat (H : Hp) : V → PyData → Prop
  | x, .none => x = .non
  | x, .bool b => x = .bl b
  | x, .int i => x = .int i
  | x, .str s => x = .str s
  | x, .list ds => ∃ a xs, x = .ref a ∧ H a = some (.lst xs) ∧ DatAll H xs ds
  | x, .tuple ds => ∃ a xs, x = .ref a ∧ H a = some (.tup xs) ∧ DatAll H xs ds
  | _, .dict _ => False
def DatAll (H : Hp) : List V → List PyData → Prop
  | [], [] => True
  | x :: xs, d :: ds => Dat H x d ∧ DatAll H xs ds
  | [], _ :: _ => False
  | _ :: _, [] => False
end
mutual
theorem Dat.mono {H H' : Hp} (k : ∀ b o, H b = some o → H' b = some o) : ∀ (x : V) (d : PyData), Dat H x d → Dat H' x d
  | _, .none, h => by unfold Dat at h ⊢; exact h
  | _, .bool _, h => by unfold Dat at h ⊢; exact h
  | _, .int _, h => by unfold Dat at h ⊢; exact h
  | _, .str _, h => by unfold Dat at h ⊢; exact h
  | x, .list ds, h => by
    unfold Dat at h ⊢
    obtain ⟨a, xs, e, h1, h2⟩ := h
    exact ⟨a, xs, e, k _ _ h1, DatAll.mono k xs ds h2⟩
  | x, .tuple ds, h => by
    unfold Dat at h ⊢
    obtain ⟨a, xs, e, h1, h2⟩ := h
    exact ⟨a, xs, e, k _ _ h1, DatAll.mono k xs ds h2⟩
  | _, .dict _, h => by unfold Dat at h; exact h.elim
theorem DatAll.mono {H H' : Hp} (k : ∀ b o, H b = some o → H' b = some o) : ∀ (xs : List V) (ds : List PyData), DatAll H xs ds → DatAll H' xs ds
  | [], [], _ => by unfold DatAll; trivial
  | x :: xs, d :: ds, h => by
    unfold DatAll at h ⊢
    exact ⟨Dat.mono k x d h.1, DatAll.mono k xs ds h.2⟩
  | [], _ :: _, h => by unfold DatAll at h; exact h.elim
  | _ :: _, [], h => by unfold DatAll at h; exact h.elim
end
theorem DatAll.length {H : Hp} : ∀ {xs : List V} {ds : List PyData}, DatAll H xs ds → xs.length = ds.length
  | [], [], _ => rfl
  | x :: xs, d :: ds, h => by unfold DatAll at h; simp [DatAll.length h.2]
  | [], _ :: _, h => by unfold DatAll at h; exact h.elim
  | _ :: _, [], h => by unfold DatAll at h; exact h.elim
theorem DatAll.get {H : Hp} : ∀ {xs : List V} {ds : List PyData} {i : Nat} {x : V}, DatAll H xs ds → xs[i]? = some x → ∃ d, ds[i]? = some d ∧ Dat H x d
  | x :: xs, d :: ds, 0, y, h, e => by
    unfold DatAll at h
    cases e
    exact ⟨d, rfl, h.1⟩
  | x :: xs, d :: ds, i + 1, y, h, e => by
    unfold DatAll at h
    exact DatAll.get (xs := xs) (ds := ds) (i := i) h.2 (by simpa using e)
  | [], [], i, y, _, e => by simp at e
  | [], _ :: _, i, y, h, e => by unfold DatAll at h; exact h.elim
  | _ :: _, [], i, y, h, e => by unfold DatAll at h; exact h.elim
theorem DatAll.app {H : Hp} : ∀ {xs : List V} {ds : List PyData} {ys : List V} {es : List PyData}, DatAll H xs ds → DatAll H ys es → DatAll H (xs ++ ys) (ds ++ es)
  | [], [], _, _, _, h => h
  | x :: xs, d :: ds, ys, es, h, h' => by
    unfold DatAll at h
    show DatAll H (x :: (xs ++ ys)) (d :: (ds ++ es))
    unfold DatAll
    exact ⟨h.1, h.2.app h'⟩
  | [], _ :: _, _, _, h, _ => by unfold DatAll at h; exact h.elim
  | _ :: _, [], _, _, h, _ => by unfold DatAll at h; exact h.elim
theorem DatAll.of {H : Hp} : ∀ {xs : List V}, (∀ x ∈ xs, ∃ d, Dat H x d) → ∃ ds, DatAll H xs ds
  | [], _ => ⟨[], by unfold DatAll; trivial⟩
  | x :: xs, h => by
    obtain ⟨d, hd⟩ := h x (List.mem_cons_self ..)
    obtain ⟨ds, hs⟩ := DatAll.of (xs := xs) fun y hy => h y (List.mem_cons_of_mem _ hy)
    exact ⟨d :: ds, by unfold DatAll; exact ⟨hd, hs⟩⟩
section
variable {X : Cx} {pins : List (Addr × Obj)} {σ : St} {H : Hp} {s : Shared}
mutual
theorem Inv.reads (I : Inv X pins σ H s) : ∀ (x : V) (d : PyData) (v : Value), Dat H x d → RelV x v → ∃ as, Reads s.heap v d as
  | _, .none, _, h, r => by unfold Dat at h; subst h; cases r; exact ⟨_, .none⟩
  | _, .bool _, _, h, r => by unfold Dat at h; subst h; cases r; exact ⟨_, .bool _⟩
  | _, .int _, _, h, r => by unfold Dat at h; subst h; obtain ⟨t, rfl⟩ := r; exact ⟨_, .int _ _⟩
  | _, .str _, _, h, r => by unfold Dat at h; subst h; obtain ⟨t, rfl⟩ := r; exact ⟨_, .str _ _⟩
  | x, .list ds, v, h, r => by
    unfold Dat at h
    obtain ⟨a, xs, rfl, h1, h2⟩ := h
    cases r
    obtain ⟨its, rv, pl, _⟩ := I.list (SqL.of h1)
    obtain ⟨o, n, ho, hc, _, hd⟩ := pl
    obtain ⟨as, ra⟩ := Inv.readsAll I xs ds its h2 rv
    exact ⟨_, .list ho hc hd (by simpa using ra)⟩
  | x, .tuple ds, v, h, r => by
    unfold Dat at h
    obtain ⟨a, xs, rfl, h1, h2⟩ := h
    cases r
    obtain ⟨its, rv, pl, _⟩ := I.tuple (SqT.of h1)
    obtain ⟨o, ho, hc, n, hd⟩ := pl
    obtain ⟨as, ra⟩ := Inv.readsAll I xs ds its h2 rv
    exact ⟨_, .tuple ho hc hd (by simpa using ra)⟩
  | _, .dict _, _, h, _ => by unfold Dat at h; exact h.elim
theorem Inv.readsAll (I : Inv X pins σ H s) : ∀ (xs : List V) (ds : List PyData) (vs : List Value), DatAll H xs ds → Vals xs vs → ∃ as, ReadsAll s.heap vs ds as
  | [], [], _, _, r => by cases r; exact ⟨_, .nil⟩
  | x :: xs, d :: ds, _, h, r => by
    unfold DatAll at h
    cases r with
    | cons r1 r2 =>
      obtain ⟨as, ra⟩ := Inv.reads I x d _ h.1 r1
      obtain ⟨bs, rb⟩ := Inv.readsAll I xs ds _ h.2 r2
      exact ⟨_, .cons ra rb⟩
  | [], _ :: _, _, h, _ => by unfold DatAll at h; exact h.elim
  | _ :: _, [], _, h, _ => by unfold DatAll at h; exact h.elim
end
end
mutual
theorem Dat.noDict {H : Hp} : ∀ (x : V) (d : PyData), Dat H x d → d.hasDict = false
  | _, .none, _ => by simp only [PyData.hasDict]
  | _, .bool _, _ => by simp only [PyData.hasDict]
  | _, .int _, _ => by simp only [PyData.hasDict]
  | _, .str _, _ => by simp only [PyData.hasDict]
  | x, .list ds, h => by
    unfold Dat at h
    obtain ⟨a, xs, e, h1, h2⟩ := h
    simp only [PyData.hasDict]
    exact DatAll.noDict xs ds h2
  | x, .tuple ds, h => by
    unfold Dat at h
    obtain ⟨a, xs, e, h1, h2⟩ := h
    simp only [PyData.hasDict]
    exact DatAll.noDict xs ds h2
  | _, .dict _, h => by unfold Dat at h; exact h.elim
theorem DatAll.noDict {H : Hp} : ∀ (xs : List V) (ds : List PyData), DatAll H xs ds → PyData.hasDictAll ds = false
  | [], [], _ => by simp only [PyData.hasDictAll]
  | x :: xs, d :: ds, h => by
    unfold DatAll at h
    simp only [PyData.hasDictAll, Bool.or_eq_false_iff]
    exact ⟨Dat.noDict x d h.1, DatAll.noDict xs ds h.2⟩
  | [], _ :: _, h => by unfold DatAll at h; exact h.elim
  | _ :: _, [], h => by unfold DatAll at h; exact h.elim
end
def strD : PyData → Str
  | .str x => x
  | d => d.shown
section
variable {X : Cx}
structure Fit (d : PyData) : Prop where
  sh : d.showable = true
  sz : d.shown.length ≤ sizeLine
  dp : d.depth ≤ 40
theorem call_strD (hg : X.A.guards = some []) (hu : X.A.units + 100 < cLine) : CallR X (.type "str") (fun xs H Q => ∃ x d, xs = [x] ∧ Dat H x d ∧ Fit d ∧ Q (.str (strD d)) H) := by
  intro pins s σ H xs us Q I r h
  obtain ⟨x, d, rfl, hd, f, q⟩ := h
  obtain ⟨u, rfl, ru⟩ := vals1 r
  have refs : ∀ a, u = .ref a → (∀ z, d ≠ .str z) → wpAny (model X.prog X.w) X.A (call (.type "str") [u]) (EP X pins σ Q) X.xe s := fun a e hn => by
    subst e
    obtain ⟨as, rd⟩ := I.reads x d _ hd ru
    refine str_of_reads rd f.sh (PyData.noDict_hsm (Dat.noDict x d hd)) hg (by have := f.dp; omega) (fun _ _ e => e) (fun h' u tk hk => ?_) f.sz
    refine ⟨.str d.shown, H, I.kept (t' := tk) hk, ⟨_, rfl⟩, ?_⟩
    have e : strD d = d.shown := by
      cases d with
      | str z => exact absurd rfl (hn z)
      | _ => rfl
    rw [← e]; exact q
  cases d with
  | none => unfold Dat at hd; subst hd; cases ru; exact P.str_of_none ⟨.str "None", H, I.tok _, ⟨_, rfl⟩, q⟩
  | bool b => unfold Dat at hd; subst hd; cases ru; exact P.str_of_bool ⟨.str (if b then "True" else "False"), H, I.tok _, ⟨_, rfl⟩, by cases b <;> exact q⟩
  | int i => unfold Dat at hd; subst hd; obtain ⟨t, rfl⟩ := ru; exact P.str_of_int (by have := f.sh; simpa [PyData.showable] using this) ⟨.str (toString i), H, I.tok _, ⟨_, rfl⟩, q⟩
  | str z => unfold Dat at hd; subst hd; obtain ⟨t, rfl⟩ := ru; exact P.str_of_str ⟨.str z, H, I, ⟨_, rfl⟩, q⟩
  | list ds =>
    have hd' := hd
    unfold Dat at hd'
    obtain ⟨a, xs, rfl, _⟩ := hd'
    exact refs a ru (fun z e => nomatch e)
  | tuple ds =>
    have hd' := hd
    unfold Dat at hd'
    obtain ⟨a, xs, rfl, _⟩ := hd'
    exact refs a ru (fun z e => nomatch e)
  | dict _ => unfold Dat at hd; exact hd.elim
end
section
variable {X : Cx} {a b c d : Expr} {ta tb tc td : TE} {pos : Pos}
def tChain3 (r r' r'' : R2) (ta tb tc td : TE) : TE := fun σ H Q => ta σ H fun x H1 => tb σ H1 fun y H2 => r x y H2 fun z H3 => ∃ k, z = .bl k ∧
  (if k = true then tc σ H3 fun w' H4 => r' y w' H4 fun z' H5 => ∃ k', z' = .bl k' ∧ (if k' = true then td σ H5 fun u' H6 => r'' w' u' H6 Q else Q (.bl false) H5) else Q (.bl false) H3)
theorem pe_chain3 {op op' op'' : CmpOp} {r r' r'' : R2} (ho : OpR X (compareOp op) r) (ho' : OpR X (compareOp op') r') (ho'' : OpR X (compareOp op'') r'') (ha : PE X a ta) (hb : PE X b tb) (hc : PE X c tc) (hd : PE X d td)
    (hm : lastMarks [op, op', op''] [b, c, d] = false := by with_unfolding_all rfl) : PE X (.Compare a [op, op', op''] [b, c, d] pos) (tChain3 r r' r'' ta tb tc td) := by
  intro pins s σ H Q I h
  refine Compare_chain (thn (ha pins s σ H _ I h) fun v s1 ⟨x, H1, I1, r1, q1⟩ => chain_link (thn (hb pins s1 σ H1 _ I1 q1) fun u s2 ⟨y, H2, I2, r2, q2⟩ =>
    thn (ho pins s2 σ H2 x y v u _ I2 r1 r2 q2) fun d' s3 ⟨z, H3, I3, r3, k, e, q3⟩ => ?_)) hm
  subst e
  cases r3
  refine wpAny_truthy_bool ?_
  cases k with
  | false => exact ite_ff ⟨.bl false, H3, I3, rfl, q3⟩
  | true =>
    refine ite_tt (chain_link (thn (hc pins s3 σ H3 _ I3 q3) fun w' s4 ⟨y', H4, I4, r4, q4⟩ => thn (ho' pins s4 σ H4 y y' u w' _ I4 r2 r4 q4) fun d'' s5 ⟨z', H5, I5, r5, k', e', q5⟩ => ?_))
    subst e'
    cases r5
    refine wpAny_truthy_bool ?_
    cases k' with
    | false => exact ite_ff ⟨.bl false, H5, I5, rfl, q5⟩
    | true => exact ite_tt (chain_last (thn (hd pins s5 σ H5 _ I5 q5) fun u' s6 ⟨y'', H6, I6, r6, q6⟩ => ho'' pins s6 σ H6 y' y'' w' u' Q I6 r4 r6 q6))
end
section
variable {X : Cx} {a b : Expr} {ta : TE} {pos : Pos}
end
section
variable {X : Cx}
end
section
variable {prog : Program} {w : World} {A : Around} {E : Value → Shared → Prop} {s : Shared}
end
section
variable {X : Cx}
end
end L2
set_option Elab.async false
set_option linter.all false
set_option maxRecDepth 100000
set_option maxHeartbeats 4000000
namespace L2
open PySem PySem.Spec PyProof.Rows
structure Sz (k b : Nat) (d : PyData) : Prop where
  dp : d.depth ≤ k
  bk : d.bulk ≤ b
  sh : d.showable = true
  lf : d.leavesShort 100 = true
theorem Sz.mono {k b k' b' : Nat} {d : PyData} (h : Sz k b d) (hk : k ≤ k') (hb : b ≤ b') : Sz k' b' d := ⟨Nat.le_trans h.dp hk, Nat.le_trans h.bk hb, h.sh, h.lf⟩
theorem Sz.fit {k b : Nat} {d : PyData} (h : Sz k b d) (hk : k ≤ 40) (hb : b ≤ 100000) : Fit d := ⟨h.sh, by
  have := PyData.shown_le_bulk 100 (by decide) d h.lf
  have h2 := h.bk
  rw [sizeLine_eq]
  omega, Nat.le_trans h.dp hk⟩
structure SzA (k b n : Nat) (ds : List PyData) : Prop where
  dp : PyData.depthAll ds ≤ k
  bk : PyData.bulkAll ds ≤ n * (b + 1)
  sh : PyData.showableAll ds = true
  lf : PyData.leavesShortAll 100 ds = true
theorem SzA.nil {k b : Nat} : SzA k b 0 [] := ⟨by simp [PyData.depthAll], by simp [PyData.bulkAll], by simp [PyData.showableAll], by simp [PyData.leavesShortAll]⟩
theorem SzA.cons {k b n : Nat} {d : PyData} {ds : List PyData} (h : Sz k b d) (h' : SzA k b n ds) : SzA k b (n + 1) (d :: ds) := by
  refine ⟨?_, ?_, ?_, ?_⟩
  · simp only [PyData.depthAll]; have := h.dp; have := h'.dp; omega
  · simp only [PyData.bulkAll]
    have := h.bk
    have := h'.bk
    rw [Nat.succ_mul]
    omega
  · simp only [PyData.showableAll, h.sh, h'.sh]; rfl
  · simp only [PyData.leavesShortAll, h.lf, h'.lf]; rfl
theorem SzA.list {k b n : Nat} {ds : List PyData} (h : SzA k b n ds) : Sz (k + 1) (n * (b + 1)) (.list ds) := ⟨by simp only [PyData.depth]; have := h.dp; omega, by simp only [PyData.bulk]; exact h.bk, by simp only [PyData.showable]; exact h.sh, by simp only [PyData.leavesShort]; exact h.lf⟩
theorem SzA.tuple {k b n : Nat} {ds : List PyData} (h : SzA k b n ds) : Sz (k + 1) (n * (b + 1)) (.tuple ds) := ⟨by simp only [PyData.depth]; have := h.dp; omega, by simp only [PyData.bulk]; exact h.bk, by simp only [PyData.showable]; exact h.sh, by simp only [PyData.leavesShort]; exact h.lf⟩
def DN (k b : Nat) (H : Hp) (x : V) : Prop := ∃ d, Dat H x d ∧ Sz k b d
theorem DN.mono {k b k' b' : Nat} {H H' : Hp} {x : V} (h : DN k b H x) (s : ∀ c o, H c = some o → H' c = some o) (hk : k ≤ k') (hb : b ≤ b') : DN k' b' H' x := let ⟨d, a, z⟩ := h; ⟨d, Dat.mono s x d a, z.mono hk hb⟩
theorem DN.all {k b : Nat} {H : Hp} : ∀ {xs : List V}, (∀ x ∈ xs, DN k b H x) → ∃ ds, DatAll H xs ds ∧ SzA k b xs.length ds
  | [], _ => ⟨[], by unfold DatAll; trivial, .nil⟩
  | x :: xs, h => by
    obtain ⟨d, hd, hz⟩ := h x (List.mem_cons_self ..)
    obtain ⟨ds, hs, hzs⟩ := DN.all (xs := xs) fun y hy => h y (List.mem_cons_of_mem _ hy)
    exact ⟨d :: ds, by unfold DatAll; exact ⟨hd, hs⟩, .cons hz hzs⟩
theorem DN.non {k b : Nat} {H : Hp} : DN k b H .non := ⟨.none, by unfold Dat; rfl, by simp [PyData.depth], by simp [PyData.bulk], by simp [PyData.showable], by simp [PyData.leavesShort]⟩
theorem DN.bl {k b : Nat} {H : Hp} (c : Bool) : DN k b H (.bl c) := ⟨.bool c, by unfold Dat; rfl, by simp [PyData.depth], by simp [PyData.bulk], by simp [PyData.showable], by simp [PyData.leavesShort]⟩
theorem DN.int {k b : Nat} {H : Hp} {i : Int} (h : i.natAbs.log2 < 90) : DN k b H (.int i) := ⟨.int i, by unfold Dat; rfl, by simp [PyData.depth], by simp [PyData.bulk], by simp only [PyData.showable, decide_eq_true_eq]; omega, by
  have := int_text_length_le (a := i) (k := 90) (by decide) h
  simp only [PyData.leavesShort, PyData.shown]
  refine decide_eq_true ?_
  show (Str.ofString (toString i)).length ≤ 100
  rw [PySem.ofString_length]
  omega⟩
theorem small_log {i : Int} (h0 : -1000000 ≤ i) (h1 : i ≤ 1000000) : i.natAbs.log2 < 90 := by
  by_cases z : i.natAbs = 0
  · rw [z]; decide
  · refine (Nat.log2_lt z).mpr (Nat.lt_of_le_of_lt (show i.natAbs ≤ 1000000 by omega) (by decide))
theorem DN.str {k b : Nat} {H : Hp} {x : Str} (h : x.cps.size ≤ b) (hc : (x.cps.toList.all fun c => decide (c < 16 ^ 8)) = true) : DN k b H (.str x) := ⟨.str x, by unfold Dat; rfl, by simp [PyData.depth], by simp only [PyData.bulk]; exact h, by simp [PyData.showable], by simp only [PyData.leavesShort]; exact hc⟩
theorem DN.tup {k b n : Nat} {H : Hp} {p : Addr} {xs : List V} (hp : H p = some (.tup xs)) (h : ∀ x ∈ xs, DN k b H x) (hn : xs.length ≤ n) : DN (k + 1) (n * (b + 1)) H (.ref p) := by
  obtain ⟨ds, hd, hz⟩ := DN.all h
  exact ⟨.tuple ds, by unfold Dat; exact ⟨p, xs, rfl, hp, hd⟩, hz.tuple.mono (Nat.le_refl _) (Nat.mul_le_mul_right _ hn)⟩
theorem DN.lst {k b n : Nat} {H : Hp} {p : Addr} {xs : List V} (hp : H p = some (.lst xs)) (h : ∀ x ∈ xs, DN k b H x) (hn : xs.length ≤ n) : DN (k + 1) (n * (b + 1)) H (.ref p) := by
  obtain ⟨ds, hd, hz⟩ := DN.all h
  exact ⟨.list ds, by unfold Dat; exact ⟨p, xs, rfl, hp, hd⟩, hz.list.mono (Nat.le_refl _) (Nat.mul_le_mul_right _ hn)⟩
def hid (o : Option Addr) (H : Hp) : Hp := fun b => if o = some b then none else H b
def Live (o : Option Addr) (H : Hp) : Prop := ∀ t, o = some t → ∃ u, H t = some u
theorem hid_at {o : Option Addr} {H : Hp} {p : Addr} {u : HO} (n : o ≠ some p) (h : H p = some u) : hid o H p = some u := by unfold hid; rw [if_neg n]; exact h
theorem hid_le {o : Option Addr} {H : Hp} : ∀ b u, hid o H b = some u → H b = some u := fun b u h => by
  unfold hid at h
  split at h
  · cases h
  · exact h
theorem Live.ne {o : Option Addr} {H : Hp} {p : Addr} (l : Live o H) (n : H p = none) : o ≠ some p := fun e => by
  obtain ⟨u, h⟩ := l p e
  rw [n] at h; cases h
theorem Live.same {o : Option Addr} {H H' : Hp} (l : Live o H) (s : Same H H') : Live o H' := fun t e => let ⟨u, h⟩ := l t e; ⟨u, s t u h⟩
section
variable {X : Cx} {o : Option Addr} {C : St → Hp → Prop} {k b n : Nat} {e : Expr} {es : List Expr} {pos : Pos}
end
end L2
set_option Elab.async false
set_option linter.all false
set_option maxRecDepth 100000
set_option maxHeartbeats 4000000
namespace PySem
structure ZipFar (z TI TO i1 i2 : Addr) (f1 f2 : List Addr) : Prop where
  iz : TI ≠ z ∧ TO ≠ z ∧ i1 ≠ z ∧ i2 ≠ z
  im : TI ≠ TO ∧ TI ≠ i1 ∧ TI ≠ i2 ∧ TO ≠ i1 ∧ TO ≠ i2 ∧ i1 ≠ i2
  g1 : ∀ c ∈ f1, c ≠ z ∧ c ≠ TO ∧ c ≠ i2
  g2 : ∀ c ∈ f2, c ≠ z ∧ c ≠ TO ∧ c ≠ i1
section
variable {prog : Program} {w : World} {A : Around} {E : Value → Shared → Prop} {s : Shared}
theorem hue_zip_item {z TI TO i1 i2 : Addr} {f1 f2 : List Addr} {n1 n2 k : Nat} {P1 P2 : Nat → Value → Prop} {S1 S2 : Nat → Heap → Prop} {Q : Value → Shared → Prop}
    (W1 : Draws prog w A i1 f1 n1 P1 S1) (W2 : Draws prog w A i2 f2 n2 P2 S2) (Fa : ZipFar z TI TO i1 i2 f1 f2) (hz : IsZip s.heap z TI TO .none) (hI : IsPair s.heap TI (.ref i1) (.ref i2)) (hO : ∃ a b, IsPair s.heap TO a b)
    (t1 : S1 k s.heap) (t2 : S2 k s.heap) (l1 : k < n1) (l2 : k < n2)
    (hQ : ∀ x y h' tk, P1 k x → P2 k y → IsZip h' z TI TO (rawInt s.heap.objs.size) → (∃ a b, IsPair h' TO a b) → S1 (k + 1) h' → S2 (k + 1) h' → IsPair h' s.heap.objs.size x y → h'.objs.size = s.heap.objs.size + 1 →
      (∀ c o, c ≠ z → c ≠ TO → c ≠ i1 → c ≠ i2 → s.heap.get? c = some o → h'.get? c = some o) → Q (.ref s.heap.objs.size) { s with heap := h', toks := tk }) :
    wpAny (model prog w) A (Builtin.«zip.__next__» ⟨[.ref z], []⟩) (fun fin s' => ∃ v, fin = .done (.ret v) ∧ Q v s') E s := by
  obtain ⟨a, b, hO⟩ := hO
  obtain ⟨z1, z2, z3, z4⟩ := Fa.iz
  obtain ⟨m1, m2, m3, m4, m5, m6⟩ := Fa.im
  have get2 : ∀ {R : Value → Shared → Prop}, R (.bool false) s → wpAny (model prog w) A (field (.ref z) 2) R E s := fun q => wpAny_field hz rfl (x := .bool false) rfl q
  show wpAny _ _ (field (.ref z) 2 >>= _) _ _ _
  refine wpAny_bind (get2 ?_)
  show wpAny _ _ (field (.ref z) 3 >>= _) _ _ _
  refine wpAny_bind (wpAny_field hz rfl (x := .ref TI) rfl (wpAny_bind (wpAny_seqItems hI rfl ?_)))
  show wpAny _ _ (Builtin.SmallTypes.ownedTupleIsFree (.ref z) >>= _) _ _ _
  refine wpAny_bind ?_
  unfold Builtin.SmallTypes.ownedTupleIsFree
  refine wpAny_bind (wpAny_field hz rfl (x := .none) rfl (wpAny_pure ?_))
  simp only [if_true]
  refine wpAny_bind (wpAny_rule (wpAny_bind (wpAny_field hz rfl (x := .ref TO) rfl (wpAny_bind (wpAny_setField_rec hz (by simp) fun ha za ka => wpAny_bind ?_)))))
  replace za : IsZip ha z TI TO .ellipsis := za
  simp only [List.zipIdx_cons, List.zipIdx_nil, List.forIn_cons, List.forIn_nil]
  -- the first
  refine wpAny_bind (wpAny_bind (wpAny_onRaise ?_))
  show wpAny _ _ (Builtin.SmallTypes.nextOf (.ref i1) >>= _) _ _ _
  have t1a : S1 k ha := W1.frame _ _ _ t1 fun c hc o e => ka.extBut _ _ (Fa.g1 c hc).1 e
  refine wpAny_bind (W1.item k { s with heap := ha } _ _ l1 t1a fun x hb tb px t1b kb => wpAny_pure ?_)
  have Ob : IsPair hb TO a b := kb.extBut _ _ m4 (ka.extBut _ _ z2 hO)
  refine wpAny_bind (wpAny_seqItems Ob rfl (wpAny_bind (wpAny_updateSeq_pair Ob fun hc Oc kc => ?_)))
  replace Oc : IsPair hc TO x b := Oc
  refine wpAny_bind (wpAny_letGo (wpAny_pure ?_))
  -- the second
  refine wpAny_bind (wpAny_bind (wpAny_onRaise ?_))
  show wpAny _ _ (Builtin.SmallTypes.nextOf (.ref i2) >>= _) _ _ _
  have t2c : S2 k hc := W2.frame _ _ _ t2 fun c hm o e => kc.extBut _ _ (Fa.g2 c hm).2.1 (kb.extBut _ _ (Fa.g2 c hm).2.2 (ka.extBut _ _ (Fa.g2 c hm).1 e))
  refine wpAny_bind (W2.item k { s with heap := hc, toks := tb } _ _ l2 t2c fun y hd td py t2d kd => wpAny_pure ?_)
  have Od : IsPair hd TO x b := kd.extBut _ _ m5 Oc
  refine wpAny_bind (wpAny_seqItems Od rfl (wpAny_bind (wpAny_updateSeq_pair Od fun he Oe ke => ?_)))
  replace Oe : IsPair he TO x y := Oe
  refine wpAny_bind (wpAny_letGo (wpAny_pure (wpAny_pure ?_)))
  refine wpAny_bind (wpAny_seqItems Oe rfl (wpAny_bind (wpAny_newTuple ?_)))
  have hsz : he.objs.size = s.heap.objs.size := by rw [ke.1, kd.1, kc.1, kb.1, ka.1]
  have ze : IsZip he z TI TO .ellipsis := ke.extBut _ _ z2.symm (kd.extBut _ _ z4.symm (kc.extBut _ _ z2.symm (kb.extBut _ _ z3.symm za)))
  have kk : ∀ c o, c ≠ z → c ≠ TO → c ≠ i1 → c ≠ i2 → s.heap.get? c = some o → he.get? c = some o := fun c o c1 c2 c3 c4 e => ke.extBut _ _ c2 (kd.extBut _ _ c4 (kc.extBut _ _ c2 (kb.extBut _ _ c3 (ka.extBut _ _ c1 e))))
  have lz : z < he.objs.size := Heap.lt_size ze
  show wpAny _ _ (Builtin.SmallTypes.ownedTupleHandOut (.ref z) (.ref he.objs.size) >>= _) _ _ _
  refine wpAny_bind ?_
  unfold Builtin.SmallTypes.ownedTupleHandOut
  have zf : IsZip (he.push { cls := .type "tuple", data := .seq #[x, y] }) z TI TO .ellipsis := Heap.get?_push_of_some _ ze
  refine wpAny_bind (wpAny_setField_rec zf (by simp) fun hf zf' kf => ?_)
  replace zf' : IsZip hf z TI TO (rawInt he.objs.size) := zf'
  refine wpAny_setField_rec zf' (by simp) fun hg zg kg => ?_
  replace zg : IsZip hg z TI TO (rawInt he.objs.size) := zg
  have up : ∀ c o, c ≠ z → he.get? c = some o → hg.get? c = some o := fun c o c1 e => kg.extBut _ _ c1 (kf.extBut _ _ c1 (Heap.get?_push_of_some _ e))
  have Tg : IsPair hg he.objs.size x y := kg.extBut _ _ (Nat.ne_of_gt lz) (kf.extBut _ _ (Nat.ne_of_gt lz) (Heap.get?_push_size _ rfl))
  have sg : hg.objs.size = he.objs.size + 1 := by rw [kg.1, kf.1, Heap.size_push]
  rw [hsz] at zg Tg sg
  refine wpAny_pure ⟨_, rfl, ?_⟩
  show Q (.ref he.objs.size) _
  rw [hsz]
  refine hQ x y hg td px py zg ⟨x, y, up _ _ z2 Oe⟩ (W1.frame _ _ _ t1b fun c hm o e => up c o (Fa.g1 c hm).1 (ke.extBut _ _ (Fa.g1 c hm).2.1 (kd.extBut _ _ (Fa.g1 c hm).2.2 (kc.extBut _ _ (Fa.g1 c hm).2.1 e))))
    (W2.frame _ _ _ t2d fun c hm o e => up c o (Fa.g2 c hm).1 (ke.extBut _ _ (Fa.g2 c hm).2.1 e)) Tg sg fun c o c1 c2 c3 c4 e => up c o c1 (kk c o c1 c2 c3 c4 e)
theorem hue_zip_end {z TI TO i1 i2 : Addr} {f1 : List Addr} {n1 : Nat} {P1 : Nat → Value → Prop} {S1 : Nat → Heap → Prop} {Q : Fin → Shared → Prop}
    (W1 : Draws prog w A i1 f1 n1 P1 S1) (iz : i1 ≠ z) (g1 : ∀ c ∈ f1, c ≠ z) (hz : IsZip s.heap z TI TO .none) (hI : IsPair s.heap TI (.ref i1) (.ref i2)) (t1 : S1 n1 s.heap)
    (hE : ∀ h' e, (∀ c o, c ≠ z → c ≠ i1 → s.heap.get? c = some o → h'.get? c = some o) → (∃ o, h'.get? e = some o ∧ o.cls = .type "StopIteration") → E (.ref e) { s with heap := h' }) :
    wpAny (model prog w) A (Builtin.«zip.__next__» ⟨[.ref z], []⟩) Q E s := by
  show wpAny _ _ (field (.ref z) 2 >>= _) _ _ _
  refine wpAny_bind (wpAny_field hz rfl (x := .bool false) rfl ?_)
  show wpAny _ _ (field (.ref z) 3 >>= _) _ _ _
  refine wpAny_bind (wpAny_field hz rfl (x := .ref TI) rfl (wpAny_bind (wpAny_seqItems hI rfl ?_)))
  show wpAny _ _ (Builtin.SmallTypes.ownedTupleIsFree (.ref z) >>= _) _ _ _
  refine wpAny_bind ?_
  unfold Builtin.SmallTypes.ownedTupleIsFree
  refine wpAny_bind (wpAny_field hz rfl (x := .none) rfl (wpAny_pure ?_))
  simp only [if_true]
  refine wpAny_bind (wpAny_rule (wpAny_bind (wpAny_field hz rfl (x := .ref TO) rfl (wpAny_bind (wpAny_setField_rec hz (by simp) fun ha za ka => wpAny_bind ?_)))))
  replace za : IsZip ha z TI TO .ellipsis := za
  simp only [List.zipIdx_cons, List.zipIdx_nil, List.forIn_cons, List.forIn_nil]
  refine wpAny_bind (wpAny_bind (wpAny_onRaise ?_))
  show wpAny _ _ (Builtin.SmallTypes.nextOf (.ref i1) >>= _) _ _ _
  refine wpAny_bind (W1.done { s with heap := ha } _ _ (W1.frame _ _ _ t1 fun c hc o e => ka.extBut _ _ (g1 c hc) e) fun hb e kb he => ?_)
  obtain ⟨oe, hoe, hce⟩ := he
  have zb : IsZip hb z TI TO .ellipsis := kb _ _ iz.symm za
  have ez : e ≠ z := fun x => by subst x; rw [zb] at hoe; cases hoe; simp at hce
  exact wpAny_setField_rec zb (by simp) fun hc _ kc => hE hc e (fun c o c1 c3 x => kc.extBut _ _ c1 (kb _ _ c3 (ka.extBut _ _ c1 x))) ⟨oe, kc.extBut _ _ ez hoe, hce⟩
theorem hue_next_zip_item {z TI TO i1 i2 : Addr} {f1 f2 : List Addr} {n1 n2 k : Nat} {P1 P2 : Nat → Value → Prop} {S1 S2 : Nat → Heap → Prop} {Q : Option Value → Shared → Prop}
    (W1 : Draws prog w A.in1 i1 f1 n1 P1 S1) (W2 : Draws prog w A.in1 i2 f2 n2 P2 S2) (Fa : ZipFar z TI TO i1 i2 f1 f2) (hz : IsZip s.heap z TI TO .none) (hI : IsPair s.heap TI (.ref i1) (.ref i2)) (hO : ∃ a b, IsPair s.heap TO a b)
    (t1 : S1 k s.heap) (t2 : S2 k s.heap) (l1 : k < n1) (l2 : k < n2)
    (hQ : ∀ x y h' tk, P1 k x → P2 k y → IsZip h' z TI TO (rawInt s.heap.objs.size) → (∃ a b, IsPair h' TO a b) → S1 (k + 1) h' → S2 (k + 1) h' → IsPair h' s.heap.objs.size x y → h'.objs.size = s.heap.objs.size + 1 →
      (∀ c o, c ≠ z → c ≠ TO → c ≠ i1 → c ≠ i2 → s.heap.get? c = some o → h'.get? c = some o) → Q (some (.ref s.heap.objs.size)) { s with heap := h', toks := tk }) :
    wpAny (model prog w) A (pyNext (.ref z)) Q E s := by
  have hT : s.TypeIs (.ref z) "zip" := ⟨_, hz, rfl⟩
  unfold pyNext
  exact wpAny_bind (wpAny_attempt (wpAny_callSpecial?_slot (name := Str.ofString "__next__") hT F.slot_zip_next
    (wpAny_call_entry F.slot_zip_next hT F.entry_zip_next (hue_zip_item W1 W2 Fa hz hI hO t1 t2 l1 l2 fun x y h' tk a1 a2 a3 a4 a5 a6 a7 a8 a9 => wpAny_pure (hQ x y h' tk a1 a2 a3 a4 a5 a6 a7 a8 a9)) (F.args_zip_next_1 _))))
theorem hue_next_zip_end {z TI TO i1 i2 : Addr} {f1 : List Addr} {n1 : Nat} {P1 : Nat → Value → Prop} {S1 : Nat → Heap → Prop} {Q : Option Value → Shared → Prop}
    (W1 : Draws prog w A.in1 i1 f1 n1 P1 S1) (iz : i1 ≠ z) (g1 : ∀ c ∈ f1, c ≠ z) (hz : IsZip s.heap z TI TO .none) (hI : IsPair s.heap TI (.ref i1) (.ref i2)) (t1 : S1 n1 s.heap)
    (hQ : ∀ h', (∀ c o, c ≠ z → c ≠ i1 → s.heap.get? c = some o → h'.get? c = some o) → Q none { s with heap := h' }) : wpAny (model prog w) A (pyNext (.ref z)) Q E s := by
  have hT : s.TypeIs (.ref z) "zip" := ⟨_, hz, rfl⟩
  unfold pyNext
  refine wpAny_bind (wpAny_attempt (wpAny_callSpecial?_slot (name := Str.ofString "__next__") hT F.slot_zip_next
    (wpAny_call_entry F.slot_zip_next hT F.entry_zip_next (hue_zip_end W1 iz g1 hz hI t1 fun h' e hk he => ?_) (F.args_zip_next_1 _))))
  obtain ⟨o, ho, hc⟩ := he
  exact wpAny_bind (wpAny_isInstance (T := "StopIteration") (b := true) ⟨o, ho, hc⟩ isSubtype_stop (wpAny_pure (hQ _ hk)))
end
abbrev ztIt (l : Addr) : Obj := { cls := .type "tuple_iterator", data := .fields #[.ref l, .int 0 0] }
abbrev zt3 (h : Heap) (l1 l2 : Addr) : Heap := ((h.push (ztIt l1)).push (ztIt l2)).push { cls := .type "tuple", data := .seq #[.ref h.objs.size, .ref (h.push (ztIt l1)).objs.size] }
abbrev zt4 (h : Heap) (l1 l2 : Addr) : Heap := (zt3 h l1 l2).push { cls := .type "tuple", data := .seq #[.none, .none] }
abbrev zt5 (h : Heap) (l1 l2 : Addr) : Heap := (zt4 h l1 l2).push { cls := .type "zip", data := .fields #[.none, .bool false, .bool false, .ref ((h.push (ztIt l1)).push (ztIt l2)).objs.size, .ref (zt3 h l1 l2).objs.size] }
theorem hue_zip_new (l1 l2 : Addr) (xs ys : Array Value) :
    Meets (Builtin.«zip.__new__» ⟨[.type "zip", .ref l1, .ref l2], []⟩) (fun _ R s => s.heap.IsTuple l1 xs ∧ s.heap.IsTuple l2 ys ∧
      R (.ok (.ret (.ref (zt4 s.heap l1 l2).objs.size))) { s with heap := zt5 s.heap l1 l2 }) :=
  .of_wp fun prog w A R s h => by
    obtain ⟨hp, g, d, tk, os⟩ := s; obtain ⟨hl1, hl2, h⟩ := h
    have hsub := sub_zip
    have hL1 : Heap.IsTuple (Shared.heap ⟨hp, g, d, tk, os⟩) l1 xs := hl1
    have hL2 : Heap.IsTuple (Shared.heap ⟨hp.push (ztIt l1), g, d, tk, os⟩) l2 ys := let ⟨o, e, r⟩ := hl2; ⟨o, Heap.get?_push_of_some _ e, r⟩
    wp_walk using wpAny_pyIter_tuple hL1, wpAny_pyIter_tuple hL2
    exact ⟨_, rfl, h⟩
section
variable {prog : Program} {w : World} {A : Around} {E : Value → Shared → Prop} {s : Shared}
theorem hue_call_zip {l1 l2 : Addr} {xs ys : Array Value} {Q : Value → Shared → Prop} (hl1 : s.heap.IsTuple l1 xs) (hl2 : s.heap.IsTuple l2 ys)
    (h : ∀ h', IsZip h' (s.heap.objs.size + 4) (s.heap.objs.size + 2) (s.heap.objs.size + 3) .none → IsPair h' (s.heap.objs.size + 2) (.ref s.heap.objs.size) (.ref (s.heap.objs.size + 1)) →
      (∃ a b, IsPair h' (s.heap.objs.size + 3) a b) → h'.IsTupleIter s.heap.objs.size l1 0 → h'.IsTupleIter (s.heap.objs.size + 1) l2 0 →
      (∀ c o, s.heap.get? c = some o → h'.get? c = some o) → Q (.ref (s.heap.objs.size + 4)) { s with heap := h' }) :
    wpAny (model prog w) A (call (.type "zip") [.ref l1, .ref l2]) Q E s := by
  refine callType_new F.called_zip (by decide) (F.typeCall_zip_2 _ _) (F.newCall_zip_2 _ _) (fun obj => F.args_object_init_3 obj _ _) F.entry_zip_new (hue_zip_new l1 l2 xs ys) ⟨hl1, hl2, ?_⟩
  have y1 : (s.heap.push (ztIt l1)).objs.size = s.heap.objs.size + 1 := Heap.size_push ..
  have y2 : ((s.heap.push (ztIt l1)).push (ztIt l2)).objs.size = s.heap.objs.size + 2 := by rw [Heap.size_push, y1]
  have y3 : (zt3 s.heap l1 l2).objs.size = s.heap.objs.size + 3 := by rw [Heap.size_push, y2]
  have y4 : (zt4 s.heap l1 l2).objs.size = s.heap.objs.size + 4 := by rw [Heap.size_push, y3]
  have up : ∀ {h0 : Heap} {o1 : Obj} {c o}, h0.get? c = some o → (h0.push o1).get? c = some o := fun e => Heap.get?_push_of_some _ e
  have q5 : (zt5 s.heap l1 l2).get? (zt4 s.heap l1 l2).objs.size = some _ := Heap.get?_push_size _ rfl
  have q4 : (zt5 s.heap l1 l2).get? (zt3 s.heap l1 l2).objs.size = some _ := up (Heap.get?_push_size _ rfl)
  have q3 : (zt5 s.heap l1 l2).get? ((s.heap.push (ztIt l1)).push (ztIt l2)).objs.size = some _ := up (up (Heap.get?_push_size _ rfl))
  have q2 : (zt5 s.heap l1 l2).get? (s.heap.push (ztIt l1)).objs.size = some _ := up (up (up (Heap.get?_push_size _ rfl)))
  have q1 : (zt5 s.heap l1 l2).get? s.heap.objs.size = some _ := up (up (up (up (Heap.get?_push_size _ rfl))))
  show _ ∧ _
  rw [y2, y3, y4] at q5
  rw [y1, y2] at q3
  rw [y3] at q4
  rw [y1] at q2
  rw [y4]
  exact ⟨⟨_, q5, rfl⟩, h _ q5 q3 ⟨_, _, q4⟩ ⟨_, q1, rfl, rfl⟩ ⟨_, q2, rfl, rfl⟩ fun c o x => up (up (up (up (up x))))⟩
end
end PySem
namespace L2
open PySem PySem.Spec PyProof.Rows
def ItzT (K : PySem.W.Frag) (a b : Addr) : It :=
  ⟨fun i H => ∃ xs ys x y, SqT K H a xs ∧ SqT K H b ys ∧ xs[i]? = some x ∧ ys[i]? = some y,
   fun i H x H' => ∃ p v u, H p = none ∧ x = .ref p ∧ (∀ xs, SqT K H a xs → xs[i]? = some v) ∧ (∀ ys, SqT K H b ys → ys[i]? = some u) ∧ H' = upd H p (.tup [v, u]),
   fun i H => ∃ xs, SqT K H a xs ∧ xs.length = i⟩
theorem far_tup {z TI TO i1 i2 l1 l2 : Addr} (D : ZipApart z TI TO i1 i2 l1 l2) : ZipFar z TI TO i1 i2 [i1, l1] [i2, l2] where
  iz := ⟨D.TIz, D.TOz, D.i1z, D.i2z⟩
  im := ⟨D.TITO, D.TIi1, D.TIi2, D.TOi1, D.TOi2, D.i12⟩
  g1 := fun c hc => by
    rcases List.mem_cons.mp hc with rfl | hc
    · exact ⟨D.i1z, D.TOi1.symm, D.i12⟩
    · rw [List.mem_singleton.mp hc]; exact ⟨D.l1z, D.l1TO, D.l1i2⟩
  g2 := fun c hc => by
    rcases List.mem_cons.mp hc with rfl | hc
    · exact ⟨D.i2z, D.TOi2.symm, D.i12.symm⟩
    · rw [List.mem_singleton.mp hc]; exact ⟨D.l2z, D.l2TO, D.l2i1⟩
theorem turn_zipT {P : Program} {w : World} {K : PySem.W.Frag} {elts : List Expr} {kx : Nat} {tp : Pos} (z TI TO i1 i2 l1 l2 : Addr) (D : ZipApart z TI TO i1 i2 l1 l2) : Turn P w K (.Tuple elts kx tp) (ItzT K l1 l2) [z, TI, TO, i1, i2] z
    (fun i h => IsZip h z TI TO .none ∧ IsPair h TI (.ref i1) (.ref i2) ∧ (∃ a b, IsPair h TO a b) ∧ h.IsTupleIter i1 l1 i ∧ h.IsTupleIter i2 l2 i) where
  mem := by simp
  obj := fun i h st b hb => by
    obtain ⟨hz, hTI, ⟨a', b', hTO⟩, ⟨o1, e1, c1, d1⟩, ⟨o2, e2, c2, d2⟩⟩ := st
    simp only [List.mem_cons, List.not_mem_nil, or_false] at hb
    rcases hb with rfl | rfl | rfl | rfl | rfl
    · exact ⟨_, hz, fun v q => by cases q⟩
    · exact ⟨_, hTI, fun v q => by cases q⟩
    · exact ⟨_, hTO, fun v q => by cases q⟩
    · exact ⟨o1, e1, fun v q => by rw [d1] at q; cases q⟩
    · exact ⟨o2, e2, fun v q => by rw [d2] at q; cases q⟩
  keep := fun i h h' st k => by
    obtain ⟨hz, hTI, ⟨a', b', hTO⟩, h1, h2⟩ := st
    exact ⟨k z (by simp) _ hz, k TI (by simp) _ hTI, ⟨a', b', k TO (by simp) _ hTO⟩, h1.at fun o q => k i1 (by simp) o q, h2.at fun o q => k i2 (by simp) o q⟩
  item := by
    intro X hP hw hK hc i pins s σ H E I hf st hg
    subst hP hw hK
    obtain ⟨xs, ys, x, y, hq1, hq2, hx, hy⟩ := hg
    obtain ⟨its1, rv1, p1, hz1⟩ := I.tuple hq1
    obtain ⟨its2, rv2, p2, hz2⟩ := I.tuple hq2
    obtain ⟨u1, hu1, ru1⟩ := rv1.get hx
    obtain ⟨u2, hu2, ru2⟩ := rv2.get hy
    obtain ⟨hz, hTI, hTO, h1, h2⟩ := st
    have hs1 : i < its1.toArray.size := by simpa using (List.getElem?_eq_some_iff.mp hu1).1
    have hs2 : i < its2.toArray.size := by simpa using (List.getElem?_eq_some_iff.mp hu2).1
    refine hue_next_zip_item (hue_draws_tuple (prog := X.prog) (w := X.w) (A := X.A.in1) (show X.A.in1.handled = none from I.ok.hd hc) i1 l1 D.l1i1 its1.toArray) (hue_draws_tuple (prog := X.prog) (w := X.w) (A := X.A.in1) (show X.A.in1.handled = none from I.ok.hd hc) i2 l2 D.l2i2 its2.toArray) (far_tup D) hz hTI hTO ⟨h1, p1⟩ ⟨h2, p2⟩ hs1 hs2 fun v1 v2 h' tk e1 e2 b1 b2 b3 b4 b5 b6 hk => ?_
    have e1 : v1 = u1 := by have := e1.symm.trans (show its1.toArray[i]? = some u1 by simpa using hu1); cases this; rfl
    have e2 : v2 = u2 := by have := e2.symm.trans (show its2.toArray[i]? = some u2 by simpa using hu2); cases this; rfl
    subst e1 e2
    refine ⟨_, rfl, ?_⟩
    have I1 : Inv X pins σ (upd H s.heap.objs.size (.tup [x, y])) { s with heap := h', toks := tk } :=
      I.turnLay (t' := tk) (ch := [z, TI, TO, i1, i2]) (fun b o hb q => hk b o (fun e => hb (by simp [e])) (fun e => hb (by simp [e])) (fun e => hb (by simp [e])) (fun e => hb (by simp [e])) q) hf ⟨two_le, [v1, v2], .cons ru1 (.cons ru2 .nil), ⟨_, b5, rfl, _, rfl⟩⟩
    have lt1 : i1 < s.heap.objs.size := by obtain ⟨_, q, _⟩ := h1; exact Heap.lt_size q
    have lt2 : i2 < s.heap.objs.size := by obtain ⟨_, q, _⟩ := h2; exact Heap.lt_size q
    obtain ⟨a', b', hTO⟩ := hTO
    have hfp1 : ∀ b ∈ [z, TI, TO, i1, i2], FpOk X pins (upd H s.heap.objs.size (.tup [x, y])) b := fun b hb => by
      obtain ⟨f0, f1⟩ := hf b hb
      have hbl : b ≠ s.heap.objs.size := by
        simp only [List.mem_cons, List.not_mem_nil, or_false] at hb
        rcases hb with rfl | rfl | rfl | rfl | rfl
        · exact Nat.ne_of_lt (Heap.lt_size hz)
        · exact Nat.ne_of_lt (Heap.lt_size hTI)
        · exact Nat.ne_of_lt (Heap.lt_size hTO)
        · exact Nat.ne_of_lt lt1
        · exact Nat.ne_of_lt lt2
      exact ⟨by rw [upd_ne hbl]; exact f0, f1⟩
    refine wpAny_letOwnedTupleGo_zip b1 fun h2' hz' hs' => ?_
    have I2 : Inv X pins σ (upd H s.heap.objs.size (.tup [x, y])) { s with heap := h2', toks := tk } :=
      Inv.turnedL (s := { s with heap := h', toks := tk }) (t' := tk) (ch := [z, TI, TO, i1, i2]) I1 (fun b o hb q => (hs'.2 b (fun e => hb (by simp [e]))).trans q) hfp1
    obtain ⟨a2, b2', b2⟩ := b2
    refine ⟨.ref s.heap.objs.size, _, I2, rfl, ⟨_, x, y, I.fresh, rfl, fun zs hy' => by rw [I.tuple_inj hy' hq1]; exact hx, fun zs hy' => by rw [I.tuple_inj hy' hq2]; exact hy, rfl⟩,
      ⟨hz', hs'.extBut _ _ D.TIz (hk _ _ D.TIz D.TITO D.TIi1 D.TIi2 hTI), ⟨_, _, hs'.extBut _ _ D.TOz b2⟩, b3.1.at fun o q => hs'.extBut _ _ D.i1z q, b4.1.at fun o q => hs'.extBut _ _ D.i2z q⟩, fun b hb => (hfp1 b hb).1⟩
  done := by
    intro X hP hw hK hc i pins s σ H E I hf st hg
    subst hP hw hK
    obtain ⟨xs, hq1, hx⟩ := hg
    obtain ⟨its1, rv1, p1, hz1⟩ := I.tuple hq1
    obtain ⟨hz, hTI, hTO, h1, h2⟩ := st
    have hl1 := rv1.length
    have hsz : i = its1.toArray.size := by rw [← hx, hl1]; simp
    subst hsz
    refine hue_next_zip_end (hue_draws_tuple (prog := X.prog) (w := X.w) (A := X.A.in1) (show X.A.in1.handled = none from I.ok.hd hc) i1 l1 D.l1i1 its1.toArray) D.i1z (fun c hc => ((far_tup D).g1 c hc).1) hz hTI ⟨h1, p1⟩ fun h' hk => ⟨rfl, I.turnedL (t' := s.toks) (ch := [z, TI, TO, i1, i2]) (fun b o hb q => hk b o (fun e => hb (by simp [e])) (fun e => hb (by simp [e])) q) hf⟩
  self := fun _ _ _ _ _ st h => wpAny_pyIter_zip st.1 h
section
variable {X : Cx}
def iZipT (K : PySem.W.Frag) (ta : TA) : TI := fun σ H R => ta σ H fun vs H1 => ∃ a b, vs = [.ref a, .ref b] ∧ (∃ xs, SqT K H1 a xs) ∧ (∃ ys, SqT K H1 b ys) ∧ R (ItzT K a b) H1
theorem pi_zipT {a b : Expr} {ta : TA} {p pos : Pos} {elts : List Expr} {kx : Nat} {tp : Pos} (hg : Gl X "zip") (hm : X.mg "zip" = none) (ha : PA X [a, b] ta) (hs : starEach [a, b] X.env = [(false, eval a X.env), (false, eval b X.env)] := by rfl)
    (hs2 : starEach [b] X.env = [(false, eval b X.env)] := by rfl) : PI X (.Tuple elts kx tp) (.Call (.Name "zip" p) [a, b] [] pos) (iZipT X.K ta) := by
  intro pins s σ H R I h
  refine Call_ (ld_blt I hg hm boot_zip (PyProof.Rows.callWith_type1 (thn (ha pos pins s σ H _ I h) fun us s1 ⟨vs, H1, I1, r1, q1⟩ => ?_) (by rw [hs, hs2]) (by rw [hs2]; rfl)))
  obtain ⟨l1, l2, e, ⟨xs, hq1⟩, ⟨ys, hq2⟩, q⟩ := q1
  subst e
  obtain ⟨u1, u2, rfl, r1', r2'⟩ := Vals.two r1
  cases r1'
  cases r2'
  obtain ⟨its1, rv1, p1, hz1⟩ := I1.tuple hq1
  obtain ⟨its2, rv2, p2, hz2⟩ := I1.tuple hq2
  have hl1 : @LT.lt Nat _ l1 s1.heap.objs.size := by obtain ⟨o, e, _⟩ := p1; exact Heap.lt_size e
  have hl2 : @LT.lt Nat _ l2 s1.heap.objs.size := by obtain ⟨o, e, _⟩ := p2; exact Heap.lt_size e
  refine hue_call_zip p1 p2 fun h' c1 c2 c3 c4 c5 hk => ?_
  refine wpAny_pyIter_zip c1 ?_
  have I2 : Inv X pins σ H1 { s1 with heap := h' } := I1.kept (t' := s1.toks) hk
  refine ⟨s1.heap.objs.size + 4, [s1.heap.objs.size + 4, s1.heap.objs.size + 2, s1.heap.objs.size + 3, s1.heap.objs.size, s1.heap.objs.size + 1], _, _, H1, rfl, I2, turn_zipT _ _ _ _ _ l1 l2 ?_, ⟨c1, c2, c3, c4, c5⟩, fun b hb => ?_, q⟩
  · constructor <;> (show @Ne Nat _ _) <;> omega
  · have hb2 : @LE.le Nat _ s1.heap.objs.size b := by
      simp only [List.mem_cons, List.not_mem_nil, or_false] at hb
      rcases hb with rfl | rfl | rfl | rfl | rfl
      · exact Nat.le_add_right _ _
      · exact Nat.le_add_right _ _
      · exact Nat.le_add_right _ _
      · exact Nat.le_refl _
      · exact Nat.le_add_right _ _
    exact I1.fpOk hb2 (I1.hok.fresh hb2)
end
theorem comp_zipT {K : PySem.W.Frag} {a b : Addr} {xs zs : List V} {g : TG} {tt : TT} {te : TE} {D : Addr} {σ' : St} {Q : List V → Hp → Prop} {H1 : Hp} (hlen : xs.length = zs.length) (Pv : Nat → List V → Hp → Prop) (h0 : Pv 0 [] (upd H1 D (.lst [])))
    (hl : ∀ i ys H, i ≤ xs.length → Pv i ys H → SqT K H a xs ∧ SqT K H b zs)
    (hs : ∀ i x z ys H p, xs[i]? = some x → zs[i]? = some z → Pv i ys H → H p = none → CompTurn g tt te D σ' ys (Pv (i + 1)) (.ref p) (upd H p (.tup [x, z]))) (hd : ∀ ys H, Pv xs.length ys H → Q ys H) :
    ∃ W : Nat → Nat → List V → Hp → Prop, (∃ m, W 0 m [] (upd H1 D (.lst []))) ∧ CompW (ItzT K a b) g tt te D σ' Q W := by
  refine ⟨fun i m ys H => m = xs.length - i ∧ i ≤ xs.length ∧ Pv i ys H, ⟨xs.length, by simp, Nat.zero_le _, h0⟩, ?_⟩
  rintro i m ys H ⟨rfl, hi, p⟩
  obtain ⟨q1, q2⟩ := hl i ys H hi p
  by_cases hlt : i < xs.length
  · refine .inr ⟨⟨xs, zs, xs[i], zs[i]'(by omega), q1, q2, by simp [hlt], by simp⟩, Pv (i + 1), fun ys' H' p' => ⟨xs.length - (i + 1), by omega, rfl, hlt, p'⟩, fun x H' y => ?_⟩
    obtain ⟨pp, v, u, hp, e1, hv, hu, e2⟩ := y
    subst e1 e2
    exact hs i v u ys _ pp (hv xs q1) (hu zs q2) p hp
  · have e : i = xs.length := by omega
    subst e
    exact .inl ⟨⟨xs, q1, rfl⟩, hd ys H p⟩
end L2
set_option Elab.async false
set_option linter.all false
set_option maxRecDepth 100000
set_option maxHeartbeats 4000000
namespace L2
open PySem PySem.Spec PyProof.Rows
theorem b_set : bootBuiltins "set" = some (.type "set") := by decide +kernel
section
variable {prog : Program} {w : World} {A : Around} {E : Value → Shared → Prop} {s : Shared}
end
end L2
set_option Elab.async false
set_option linter.all false
set_option maxRecDepth 100000
set_option maxHeartbeats 4000000
namespace L2
open PySem PySem.Spec PyProof.Rows
def Up (xs : Array Nat) : Prop := ∀ i j (hi : i < xs.size) (hj : j < xs.size), i < j → xs[i] < xs[j]
theorem up_list {xs : Array Nat} : Up xs ↔ xs.toList.Pairwise (· < ·) := by
  rw [List.pairwise_iff_getElem]
  exact ⟨fun h i j hi hj hij => by simpa using h i j (by simpa using hi) (by simpa using hj) hij, fun h i j hi hj hij => by
    have := h i j (by simpa using hi) (by simpa using hj) hij
    rwa [Array.getElem_toList, Array.getElem_toList] at this⟩
theorem below_go {xs : Array Nat} (hu : Up xs) (j : Nat) : ∀ (f lo hi : Nat), hi ≤ xs.size → lo ≤ hi → hi - lo ≤ f → (∀ i (h : i < xs.size), i < lo → xs[i] < j) → (∀ i (h : i < xs.size), hi ≤ i → j ≤ xs[i]) →
    (SetTable.below.go xs j f lo hi) ≤ xs.size ∧ (∀ i (h : i < xs.size), i < SetTable.below.go xs j f lo hi → xs[i] < j) ∧ (∀ i (h : i < xs.size), SetTable.below.go xs j f lo hi ≤ i → j ≤ xs[i]) := by
  intro f
  induction f with
  | zero =>
    intro lo hi h1 h2 h3 h4 h5
    have : lo = hi := by omega
    subst this
    unfold SetTable.below.go
    exact ⟨h1, h4, h5⟩
  | succ f ih =>
    intro lo hi h1 h2 h3 h4 h5
    unfold SetTable.below.go
    by_cases hlh : lo < hi
    · rw [if_pos hlh]
      have hm : (lo + hi) / 2 < xs.size := by omega
      have e : xs.getD ((lo + hi) / 2) j = xs[(lo + hi) / 2] := by simp [Array.getD, hm]
      dsimp only
      rw [e]
      by_cases hc : xs[(lo + hi) / 2] < j
      · rw [if_pos hc]
        refine ih _ _ h1 (by omega) (by omega) (fun i h hi' => ?_) h5
        by_cases z : i = (lo + hi) / 2
        · subst z; exact hc
        · exact Nat.lt_trans (hu i _ h hm (by omega)) hc
      · rw [if_neg hc]
        refine ih _ _ (by omega) (by omega) (by omega) h4 (fun i h hi' => ?_)
        by_cases z : i = (lo + hi) / 2
        · subst z; omega
        · have := hu _ i hm h (by omega); omega
    · rw [if_neg hlh]
      have : lo = hi := by omega
      subst this
      exact ⟨h1, h4, h5⟩
theorem below_ok {xs : Array Nat} (hu : Up xs) (j : Nat) : SetTable.below xs j ≤ xs.size ∧ (∀ i (h : i < xs.size), i < SetTable.below xs j → xs[i] < j) ∧ (∀ i (h : i < xs.size), SetTable.below xs j ≤ i → j ≤ xs[i]) :=
  below_go hu j xs.size 0 xs.size (Nat.le_refl _) (Nat.zero_le _) (by omega) (fun i _ h => absurd h (Nat.not_lt_zero _)) (fun i h h' => absurd h (Nat.not_lt.mpr h'))
theorem up_put {xs : Array Nat} (hu : Up xs) {j : Nat} (hn : xs[SetTable.below xs j]? ≠ some j) : Up (SetTable.insertAt xs (SetTable.below xs j) j) := by
  obtain ⟨h1, h2, h3⟩ := below_ok hu j
  rw [up_list, SetTable.toList_insertAt]
  have hl := up_list.mp hu
  have hgt : ∀ i (h : i < xs.size), SetTable.below xs j ≤ i → j < xs[i] := by
    intro i h hi
    have := h3 i h hi
    by_cases z : SetTable.below xs j = i
    · have : xs[i] ≠ j := fun e => hn (by rw [z]; simp [h, e])
      omega
    · have a := hu _ i (by omega) h (Nat.lt_of_le_of_ne hi z)
      have b := h3 (SetTable.below xs j) (by omega) (Nat.le_refl _)
      omega
  rw [List.pairwise_append]
  refine ⟨hl.take, ?_, ?_⟩
  · rw [List.pairwise_cons]
    refine ⟨fun y hy => ?_, hl.drop⟩
    obtain ⟨i, hi, e⟩ := List.mem_iff_getElem.mp hy
    rw [List.getElem_drop] at e
    have hi' : SetTable.below xs j + i < xs.size := by simp at hi; omega
    have := hgt _ hi' (Nat.le_add_right _ _)
    rw [← e]; simpa using this
  · intro x hx y hy
    obtain ⟨i, hi, e⟩ := List.mem_iff_getElem.mp hx
    have hib : i < SetTable.below xs j := by simp at hi; omega
    have hx' : x < j := by
      rw [← e, List.getElem_take]
      have := h2 i (by omega) hib
      simpa using this
    rcases List.mem_cons.mp hy with rfl | hy
    · exact hx'
    · obtain ⟨k, hk, e2⟩ := List.mem_iff_getElem.mp hy
      rw [List.getElem_drop] at e2
      have hk' : SetTable.below xs j + k < xs.size := by simp at hk; omega
      have := hgt _ hk' (Nat.le_add_right _ _)
      have h : xs.toList[SetTable.below xs j + k]'(by simpa using hk') = xs[SetTable.below xs j + k] := by simp
      rw [h] at e2
      omega
structure Tab (w : World) (t : SetTable) : Prop where
  up : Up t.place
  no : t.dummies = #[]
  led : t.led = !w.params.followText "set-order"
theorem tab_slot {w : World} {t : SetTable} (T : Tab w t) (j : Nat) : t.slot j ≠ .dummy := by
  unfold SetTable.slot
  rw [T.no]
  dsimp only
  split
  · exact fun z => nomatch z
  · have : SetTable.has #[] j = false := rfl
    rw [this]
    exact fun z => nomatch z
theorem tab_go {w : World} {t : SetTable} (T : Tab w t) (g : Nat → Int) (h : Int) : ∀ (f : Nat) (p : SetTable.Probe) (j : Nat) (d : Option Nat), p.dummy = none → SetTable.probe.go t g h f p = some (.empty j d) → t.slot j = .empty ∧ d = none := by
  intro f
  induction f with
  | zero => intro p j d _ e; unfold SetTable.probe.go at e; cases e
  | succ f ih =>
    intro p j d hp e
    have adv : ∀ q : SetTable.Probe, q.dummy = none → (t.advance q).dummy = none := by
      intro q hq
      unfold SetTable.advance
      split
      · exact hq
      · exact hq
    unfold SetTable.probe.go at e
    split at e
    · rename_i hs
      cases e
      exact ⟨hs, hp⟩
    · rename_i hs
      exact absurd hs (tab_slot T _)
    · split at e
      · cases e
      · exact ih _ _ _ (adv _ hp) e
theorem tab_free {w : World} {t : SetTable} (T : Tab w t) {h : Int} {j : Nat} {b : Bool} (e : t.freeSlot h = some (j, b)) : t.place[SetTable.below t.place j]? ≠ some j := by
  unfold SetTable.freeSlot at e
  split at e
  · rename_i j' d hp
    unfold SetTable.probe at hp
    obtain ⟨hs, hd⟩ := tab_go T _ _ _ _ _ _ rfl hp
    subst hd
    cases e
    unfold SetTable.slot at hs
    dsimp only [Option.getD_none] at hs ⊢
    split at hs
    · cases hs
    · rename_i hn
      intro z
      exact hn (by rw [z]; simp)
  · cases e
theorem tab_stand {w : World} {t : SetTable} (T : Tab w t) (n : Nat) : Tab w (t.standIn n) := by
  refine ⟨?_, rfl, T.led⟩
  show Up (Array.range n)
  intro i j hi hj hij
  simpa using hij
theorem tab_or {w : World} {t : SetTable} (T : Tab w t) (n : Nat) : Tab w (t.orStandIn n) := by
  unfold SetTable.orStandIn
  split
  · exact T
  · exact tab_stand T n
theorem tab_lay {w : World} {t : SetTable} (T : Tab w t) (es : Array (Int × Value)) (h : Int) (x : Value) : Tab w (layNew t es h x).2.1 := by
  unfold layNew
  split
  · rename_i j b e
    refine tab_or (t := (t.put j).1) ⟨up_put T.up (tab_free T e), ?_, T.led⟩ _
    show (if SetTable.has t.dummies j = true then _ else t.dummies) = #[]
    rw [T.no]
    rfl
  · exact tab_stand T _
theorem tab_relay {w : World} {t : SetTable} (T : Tab w t) (es : Array (Int × Value)) (n : Nat) : Tab w (relayAll t es n).2.1 := by
  unfold relayAll
  split
  · rename_i t' order e
    dsimp only
    split
    · unfold SetTable.relaid SetTable.laid at e
      obtain ⟨owner, _, e⟩ := Option.bind_eq_some_iff.mp e
      have e' := Option.some.inj e
      have e1 := congrArg Prod.fst e'
      subst e1
      refine ⟨?_, rfl, T.led⟩
      rw [up_list]
      have key : ∀ l : List Nat, l.Pairwise (· < ·) → ((l.filterMap fun j => (owner.getD j none).map (j, ·)).map (·.1)).Pairwise (· < ·) := by
        intro l hl
        have : (l.filterMap fun j => (owner.getD j none).map (j, ·)).map (·.1) = l.filter fun j => (owner.getD j none).isSome := by
          induction l with
          | nil => rfl
          | cons a l ih =>
            have ih := ih (List.pairwise_cons.mp hl).2
            cases ho : owner.getD a none with
            | none => rw [List.filterMap_cons_none (by rw [ho]; rfl), List.filter_cons_of_neg (by rw [ho]; simp), ih]
            | some b => rw [List.filterMap_cons_some (b := (a, b)) (by rw [ho]; rfl), List.filter_cons_of_pos (by rw [ho]; rfl), List.map_cons, ih]
        rw [this]
        exact hl.filter _
      simpa using key _ List.pairwise_lt_range
    · exact tab_stand T _
  · exact tab_stand T _
def SetX (prog : Program) (w : World) (h : Heap) (a : Addr) (L : List Int) : Prop :=
  ∃ o es ep t, h.get? a = some o ∧ o.ExactSet ∧ o.data = .set es ep t ∧ ElemsOf (intKind prog w) es.toList ∧ es.size < scanBound ∧ t.fits es.size = true ∧ Tab w t ∧ (es.toList.map fun e => numOf e.2).Perm L
section
variable {prog : Program} {w : World} {A : Around} {E : Value → Shared → Prop} {s : Shared}
theorem SetX.keep {h h' : Heap} {a : Addr} {L : List Int} (x : SetX prog w h a L) (k : ∀ o, h.get? a = some o → h'.get? a = some o) : SetX prog w h' a L := by
  obtain ⟨o, es, ep, t, ho, r⟩ := x
  exact ⟨o, es, ep, t, k o ho, r⟩
theorem int_num {k : Int} {v : Value} (h : (intKind prog w).is k v = true) : numOf v = k := by
  obtain ⟨t, rfl⟩ := Value.isInt_shape (k := k) (v := v) h
  rfl
theorem storeX {h : Heap} {a : Addr} {o : Obj} {es es' : Array (Int × Value)} {ep : Nat} {t t' : SetTable} {L : List Int} (ho : h.get? a = some o) (hx : o.ExactSet) (hd : o.data = .set es ep t)
    (he : ElemsOf (intKind prog w) es'.toList) (hb : es'.size < scanBound) (hf : t'.fits es'.size = true) (hT : Tab w t') (hp : (es'.toList.map fun e => numOf e.2).Perm L) :
    (h.update a (Obj.putSet es' t')).get? a = some { o with data := .set es' (ep + 1) t' } ∧ SetX prog w (h.update a (Obj.putSet es' t')) a L := by
  have g := Heap.get?_update_self (Obj.putSet es' t') ho (by rw [putSet_of es' t' hd]; rfl)
  rw [putSet_of es' t' hd] at g
  exact ⟨g, _, es', ep + 1, t', g, hx, rfl, he, hb, hf, hT, hp⟩
theorem tailX {g : Bool → Sem Unit} (hg : ∀ (b : Bool) (s₁ : Shared) (Q' : Unit → Shared → Prop), Q' () s₁ → wpAny (model prog w) A (g b) Q' E s₁) {a : Addr} {o : Obj} {es es1 : Array (Int × Value)} {ep : Nat} {t t2 : SetTable} {L : List Int} {dm : Bool}
    {R : Option Bool → Shared → Prop} (ho : s.heap.get? a = some o) (hx : o.ExactSet) (hd : o.data = .set es ep t) (he : ElemsOf (intKind prog w) es1.toList) (hb : es1.size < scanBound) (hf : t2.fits es1.size = true) (hT : Tab w t2) (hp : (es1.toList.map fun e => numOf e.2).Perm L)
    (h : ∀ h', Heap.SameBut a s.heap h' → SetX prog w h' a L → R (some true) { s with heap := h' }) :
    wpAny (model prog w) A (do
        storeSet a es1 t2
        if (!dm && t2.tooFull) = true then do
            g (relayAll t2 es1 (SetTable.grown es1.size)).2.2
            storeSet a (relayAll t2 es1 (SetTable.grown es1.size)).1 (relayAll t2 es1 (SetTable.grown es1.size)).2.1
            pure (some true)
          else pure (some true)) R E s := by
  obtain ⟨g1, x1⟩ := storeX (prog := prog) ho hx hd he hb hf hT hp
  have b1 := Heap.SameBut.update s.heap a (Obj.putSet es1 t2)
  refine wpAny_bind (wpAny_storeSet_of ho hd ?_ (fits_of_scanBound hb))
  by_cases hc : (!dm && t2.tooFull) = true
  · rw [if_pos hc]
    have hpr := relayAll_perm t2 es1 (SetTable.grown es1.size)
    have hfr := relayAll_fits t2 es1 (SetTable.grown es1.size)
    have hTr := tab_relay hT es1 (SetTable.grown es1.size)
    have hsz : (relayAll t2 es1 (SetTable.grown es1.size)).1.size < scanBound := by
      rw [← Array.length_toList, hpr.length_eq, Array.length_toList]; exact hb
    obtain ⟨_, x2⟩ := storeX (prog := prog) g1 hx rfl (he.perm hpr) hsz hfr hTr ((hpr.map _).trans hp)
    exact wpAny_bind (hg _ _ _ (wpAny_bind (wpAny_storeSet_of g1 rfl (wpAny_pure (h _ (b1.trans (Heap.SameBut.update _ a _)) x2)) (fits_of_scanBound hsz))))
  · rw [if_neg hc]
    exact wpAny_pure (h _ b1 x1)
theorem addX {a : Addr} {L : List Int} {k : Int} {tk : Tok} {Q : Bool → Shared → Prop} (hX : SetX prog w s.heap a L) (hroom : L.length + 1 < scanBound)
    (h : ∀ h' b, Heap.SameBut a s.heap h' → SetX prog w h' a (step_dedup L k) → Q b { s with heap := h' }) : wpAny (model prog w) A (setAddHashed a (.int k tk) ((intKind prog w).hash k)) Q E s := by
  obtain ⟨o, es, ep, t, ho, hx, hd, hel, hb, hf, hT, hp⟩ := hX
  have hkey : (intKind prog w).is k (.int k tk) = true := intKind_is _ _ _ _
  have hsz : es.size = L.length := by rw [← hp.length_eq, List.length_map, Array.length_toList]
  unfold setAddHashed setAddHashedIn
  refine wpAny_holding (wpAny_bind (wpAny_setState_of ho hd hf ?_))
  dsimp only
  rw [byScan_of (knd := intKind prog w) rfl hb hel, if_pos rfl]
  unfold setAddByScan
  refine wpAny_bind (wpAny_bind (wpAny_rule (wpAny_bind (wpAny_setScan_of hkey ho hd hf hel ?_))))
  have hin : (L.any (· == k)) = true ↔ ∃ e ∈ es.toList, (intKind prog w).is k e.2 = true := by
    rw [List.any_eq_true]
    constructor
    · rintro ⟨x, hxL, e⟩
      obtain ⟨y, hy, ey⟩ := List.mem_map.mp (hp.mem_iff.mpr hxL)
      obtain ⟨⟨k', hk', _⟩, _⟩ := hel y hy
      have : numOf y.2 = k' := int_num hk'
      have : k' = k := by rw [← this, ey]; simpa using e
      subst this
      exact ⟨y, hy, hk'⟩
    · rintro ⟨y, hy, hk'⟩
      refine ⟨k, hp.mem_iff.mp (List.mem_map.mpr ⟨y, hy, int_num hk'⟩), by simp⟩
  cases hr : List.findIdx? (fun e => (intKind prog w).is k e.2) es.toList with
  | some j =>
    obtain ⟨hj, hpj, _⟩ := List.findIdx?_eq_some_iff_getElem.mp hr
    have hL : step_dedup L k = L := by unfold step_dedup; rw [if_pos (hin.mpr ⟨_, List.getElem_mem hj, hpj⟩)]
    refine wpAny_pure (wpAny_pure ?_)
    exact h s.heap _ (Heap.SameBut.refl a s.heap) (by rw [hL]; exact ⟨o, es, ep, t, ho, hx, hd, hel, hb, hf, hT, hp⟩)
  | none =>
    have hL : step_dedup L k = L ++ [k] := by
      unfold step_dedup
      rw [if_neg]
      intro z
      obtain ⟨e, he, hk'⟩ := hin.mp z
      have := List.findIdx?_eq_none_iff.mp hr e he
      rw [hk'] at this
      cases this
    have q1 := layNew_perm t es ((intKind prog w).hash k) (.int k tk)
    have q2 := layNew_fits t es ((intKind prog w).hash k) (.int k tk)
    have q3 := tab_lay hT es ((intKind prog w).hash k) (.int k tk)
    generalize layNew t es ((intKind prog w).hash k) (.int k tk) = lay at q1 q2 q3 ⊢
    obtain ⟨es1, t1, dm, gv⟩ := lay
    dsimp only at q1 q2 q3 ⊢
    rw [Array.toList_push] at q1
    have he1 : ElemsOf (intKind prog w) es1.toList := (hel.push hkey rfl).perm q1
    have hz1 : es1.size < scanBound := by
      rw [← Array.length_toList, q1.length_eq, List.length_append, Array.length_toList, hsz]; simpa using hroom
    have hp1 : (es1.toList.map fun e => numOf e.2).Perm (step_dedup L k) := by
      rw [hL]
      refine (q1.map _).trans ?_
      rw [List.map_append]
      exact hp.append_right _
    have hgw : ∀ (b : Bool) (s₁ : Shared) (Q' : Unit → Shared → Prop), Q' () s₁ → wpAny (model prog w) A (match b with | true => rule "set.scan.the-table-gave-way" | false => pure ()) Q' E s₁ :=
      fun b s₁ Q' hq => by cases b <;> first | exact wpAny_pure hq | exact wpAny_rule hq
    refine wpAny_bind (hgw _ _ _ ?_)
    split
    · refine wpAny_bind ?_
      rw [hashByValue_scannable 8 rfl]
      refine wpAny_pure (tailX hgw ho hx hd he1 hz1 q2 q3 hp1 fun h' hsb hX' => ?_)
      exact wpAny_pure (h h' _ hsb hX')
    · refine wpAny_bind (wpAny_pure ?_)
      rw [if_pos rfl]
      refine tailX hgw ho hx hd he1 hz1 q2 q3 hp1 fun h' hsb hX' => ?_
      exact wpAny_pure (h h' _ hsb hX')
end
section
variable {prog : Program} {w : World} {A : Around} {R : Result → Shared → Prop} {I : Addr} {fp wr : List Addr} {G : Array GenState → Array GenState → Prop} {n : Nat} {P : Nat → Value → Prop} {St : Nat → Shared → Prop}
theorem updX (W : WalksS prog w A.in1 I fp wr G n P St) (S : Addr) (hSf : S ∉ fp) (val : Nat → Int) (hval : ∀ i v, P i v → ∃ t, v = .int (val i) t) (hb : n + 1 < scanBound) :
    ∀ (k i : Nat) (s : Shared), i + k = n → St i s → SetX prog w s.heap S (firstMet val i) →
      (∀ s', Moved (S :: wr) G s s' → SetX prog w s'.heap S (firstMet val n) → R (.ok (.ret .none)) s') →
      codeAny (model prog w) A (.builtin "set.update.loop" ⟨[.ref S, .ref I], []⟩) R s := by
  have nw : S ∉ wr := fun z => hSf (W.sub _ z)
  have up : ∀ b ∈ wr, b ∈ S :: wr := fun b hb => List.mem_cons_of_mem _ hb
  intro k
  induction k with
  | zero =>
    intro i s hk hst hX hR
    obtain rfl : i = n := hk
    refine codeAny_builtin F.entry_set_update_loop ?_
    rw [Around.under_plainId F.plain_set_update_loop _]
    exact wpAny_bind (m := pyNext (.ref I)) (W.done s _ _ hst fun s' hm => wpAny_pure (hR s' (hm.mono up) (hX.keep fun o e => hm.heap S o nw e)))
  | succ k ih =>
    intro i s hk hst hX hR
    refine codeAny_builtin F.entry_set_update_loop ?_
    rw [Around.under_plainId F.plain_set_update_loop _]
    refine wpAny_bind (m := pyNext (.ref I)) (W.item i s _ _ (by omega) hst fun v s1 hP st1 hm => ?_)
    obtain ⟨t, rfl⟩ := hval i v hP
    refine wpAny_bind (m := holding [Value.int (val i) t] (setAdd S (.int (val i) t))) (wpAny_holding ?_)
    unfold setAdd
    have X1 : SetX prog w s1.heap S (firstMet val i) := hX.keep fun o e => hm.heap S o nw e
    have room : (firstMet val i).length + 1 < scanBound := by have := firstMet_length_le val i; omega
    refine wpAny_holding (wpAny_bind ((intKind prog w).pyHash (k := val i) (intKind_is _ _ _ _) ?_))
    refine addX (s := { s1 with toks := s1.toks + 1 }) X1 room fun h2 b hsb X2 => ?_
    rw [← firstMet_succ] at X2
    have oth : ∀ b o, b ≠ S → s1.heap.get? b = some o → h2.get? b = some o := fun b o hne e => (hsb.2 b hne).trans e
    refine wpAny_pure ⟨plainId_quiet F.plain_set_update_loop _, ih (i + 1) _ (by omega) (W.frame _ s1 _ _ st1 (Nat.le_succ _) fun b hbf o e => oth b o (fun z => hSf (z ▸ hbf)) e) X2 fun s3 m3 X3 => ?_⟩
    exact hR s3 (Moved.trans W.gtrans ((hm.mono up).then_heap (Nat.le_succ _) fun b o hb e => oth b o (fun z => hb (by rw [z]; exact List.mem_cons_self)) e) m3) X3
end
section
variable {prog : Program} {w : World} {A : Around} {E : Value → Shared → Prop} {s : Shared}
abbrev set0 (w : World) : Obj := { cls := .type "set", dict := none, data := .set #[] 0 (.fresh 0 0 (!w.params.followText "set-order")) }
theorem newX (a : Value) {Q₁ : Value → Shared → Prop} (h : Q₁ (.ref s.heap.objs.size) { s with heap := s.heap.push (set0 w) }) : codeAny (model prog w) A (.call (.builtin "set.__new__") ⟨[.type "set", a], []⟩) (wants Q₁ E) s := by
  refine codeAny_of_tree ?_
  show wpAny _ A.in1 (checkBuiltinCall "set.__new__" ⟨[.type "set", a], []⟩ >>= fun _ => again (.builtin "set.__new__" ⟨[.type "set", a], []⟩)) _ _ s
  refine wpAny_bind (wpAny_of_eq (F.newCall_set_1 a) (wpAny_pure ⟨plainId_quiet F.plain_set_new _, codeAny_builtin F.entry_set_new ?_⟩))
  rw [Around.under_plainId F.plain_set_new _]
  unfold Builtin.«set.__new__» Builtin.Frozenset.newClass
  have sub := sub_set_self
  obtain ⟨hp, g, d, tk, os⟩ := s
  dsimp only
  wp_walk
  refine wpAny_askSetting (wpAny_pure ?_)
  dsimp only
  simp only [newObj]
  exact wpAny_bind (wpAny_alloc (wpAny_pure (wpAny_pure h)))
theorem freshX (h : Heap) : SetX prog w (h.push (set0 w)) h.objs.size [] :=
  ⟨_, #[], 0, _, Heap.get?_push_size _ rfl, ⟨rfl, rfl, rfl⟩, rfl, fun e he => by simp at he, by decide, rfl, ⟨fun i j hi => absurd hi (Nat.not_lt_zero _), rfl, rfl⟩, by simp⟩
set_option maxHeartbeats 8000000 in
theorem callX {l : Addr} {items : Array Value} {ns : List Int} {Q : Value → Shared → Prop} (hh : A.handled = none) (hl : s.heap.IsList l items) (hi : IntsAre items.toList ns) (hb : items.size + 1 < scanBound)
    (h : ∀ (h' : Heap) (tk : Nat), SetX prog w h' s.heap.objs.size (firstMet (fun i => ns.getD i 0) items.size) → (∀ b o, b < s.heap.objs.size → s.heap.get? b = some o → h'.get? b = some o) → Q (.ref s.heap.objs.size) { s with heap := h', toks := tk }) :
    wpAny (model prog w) A (call (.type "set") [.ref l]) Q E s := by
  obtain ⟨c, tl, hmro⟩ := F.called_set.mro
  have made := F.called_set.made
  have sub := F.called_set.sub
  have u1 := F.called_set.notType
  have u2 := F.called_set.canCreate
  have u3 := F.typeCall_set_1 (.ref l)
  refine wpAny_call (codeAny_of_tree ?_)
  show wpAny _ _ (callAny (.type "set") _) _ _ _
  refine wpAny_pure ⟨Code.quiet_builtin _ (by decide +kernel), codeAny_builtin F.entry_type_call ?_⟩
  rw [Around.under_plain (weight_type_call_type "set" [.ref l] []) rfl]
  repeat (any_goals (first | assumption | wp_step))
  refine codeAny_mono (newX (.ref l) (E := E) (Q₁ := fun obj s₁ => obj = .ref s.heap.objs.size ∧ s₁ = { s with heap := s.heap.push (set0 w) }) ⟨rfl, rfl⟩) fun r s₁ hr => ?_
  cases r with
  | error e => exact hr
  | ok fl =>
    cases fl with
    | ret obj =>
      obtain ⟨rfl, rfl⟩ := hr
      have gS : (s.heap.push (set0 w)).get? s.heap.objs.size = some (set0 w) := Heap.get?_push_size _ rfl
      have hT : Shared.TypeIs { s with heap := s.heap.push (set0 w) } (.ref s.heap.objs.size) "set" := ⟨_, gS, rfl⟩
      have u4 := F.called_set.init.lookup
      have u5 := F.called_set.init.bind (.ref s.heap.objs.size)
      repeat (any_goals (first | assumption | wp_step))
      refine codeAny_mono (codeAny_call_builtin (R := wants (fun r s₂ => r = .none ∧ ∃ h' tk, s₂ = { s with heap := h', toks := tk } ∧ SetX prog w h' s.heap.objs.size (firstMet (fun i => ns.getD i 0) items.size) ∧
          (∀ b o, b < s.heap.objs.size → s.heap.get? b = some o → h'.get? b = some o)) E) F.called_set.init.plain F.entry_set_init (check_set_init_1 hT ?_)) fun r₂ s₂ hr₂ => ?_
      · obtain ⟨⟨cl, di, da, sl⟩, ol, cl', nl, da'⟩ := hl
        simp only at cl' da'
        subst cl' da'
        have hol : (s.heap.push (set0 w)).get? l = some { cls := .type "list", dict := di, data := .seq items nl, slots := sl } := Heap.get?_push_of_some _ ol
        have v1 := F.sub_list_set
        have v2 := F.sub_list_frozenset
        have v3 : (Value.type "list" == Value.type "dict") = false := by decide
        have hl1 : (s.heap.push (set0 w)).IsList l items := ⟨_, hol, rfl, nl, rfl⟩
        unfold Builtin.«set.__init__» noKeywords Builtin.Frozenset.updateFrom
        generalize hPI : pyIter = PI
        wp_walk
        subst hPI
        refine wpAny_pyIter_list hl1 (wpAny_bind (wpAny_runValue ?_))
        have lS : l < s.heap.objs.size := Heap.lt_size ol
        have z1 : (s.heap.push (set0 w)).objs.size = s.heap.objs.size + 1 := Heap.size_push _ _
        have lI : l ≠ (s.heap.push (set0 w)).objs.size := by rw [z1]; exact Nat.ne_of_lt (Nat.lt_succ_of_lt lS)
        have hSf : s.heap.objs.size ∉ [(s.heap.push (set0 w)).objs.size, l] := by
          rw [z1]
          intro z
          rcases List.mem_cons.mp z with z | z
          · exact absurd z (Nat.ne_of_lt (Nat.lt_succ_self _))
          · exact absurd (List.mem_singleton.mp z) (Nat.ne_of_gt lS)
        have hval : ∀ (i : Nat) (v : Value), items[i]? = some v → ∃ t, v = .int ((fun i => ns.getD i 0) i) t := fun i v hv => IntsAre.int_at hi i v (by rw [Array.getElem?_toList]; exact hv)
        refine updX ((Walks.list (by simp [hh]) _ l lI items).toS) s.heap.objs.size hSf (fun i => ns.getD i 0) hval hb items.size 0 _ (Nat.zero_add _)
          ⟨⟨_, Heap.get?_push_size _ rfl, rfl, rfl⟩, hl1.push _⟩ ((freshX s.heap).keep fun o e => Heap.get?_push_of_some _ e) fun s' hm X' => ?_
        obtain ⟨h', g', d', tk', os'⟩ := s'
        obtain rfl : g' = s.gens := hm.gens
        obtain rfl : d' = s.drawn := hm.drawn
        obtain rfl : os' = s.os := hm.os
        refine wpAny_pure (wpAny_pure ⟨rfl, h', tk', rfl, X', fun b o hb e => hm.heap b o (fun z => ?_) (Heap.get?_push_of_some _ (Heap.get?_push_of_some _ e))⟩)
        rcases List.mem_cons.mp z with z | z
        · exact absurd z (Nat.ne_of_lt hb)
        · have z' := List.mem_singleton.mp z
          rw [z1] at z'
          exact absurd z' (Nat.ne_of_lt (Nat.lt_succ_of_lt hb))
      · cases r₂ with
        | error e => exact hr₂
        | ok fl₂ =>
          cases fl₂ with
          | ret r =>
            obtain ⟨rfl, h', tk, rfl, X', hk'⟩ := hr₂
            repeat (any_goals (first | assumption | wp_step))
            exact h _ _ X' hk'
          | _ => exact hr₂.elim
    | _ => exact hr.elim
end
end L2
set_option Elab.async false
set_option linter.all false
set_option maxRecDepth 100000
set_option maxHeartbeats 4000000
namespace L2
open PySem PySem.Spec PyProof.Rows
section
variable {prog : Program} {w : World} {A : Around} {E : Value → Shared → Prop} {s : Shared}
set_option maxHeartbeats 8000000 in
theorem callXT {l : Addr} {items : Array Value} {ns : List Int} {Q : Value → Shared → Prop} (hh : A.handled = none) (hl : s.heap.IsTuple l items) (hi : IntsAre items.toList ns) (hb : items.size + 1 < scanBound)
    (h : ∀ (h' : Heap) (tk : Nat), SetX prog w h' s.heap.objs.size (firstMet (fun i => ns.getD i 0) items.size) → (∀ b o, b < s.heap.objs.size → s.heap.get? b = some o → h'.get? b = some o) → Q (.ref s.heap.objs.size) { s with heap := h', toks := tk }) :
    wpAny (model prog w) A (call (.type "set") [.ref l]) Q E s := by
  obtain ⟨c, tl, hmro⟩ := F.called_set.mro
  have made := F.called_set.made
  have sub := F.called_set.sub
  have u1 := F.called_set.notType
  have u2 := F.called_set.canCreate
  have u3 := F.typeCall_set_1 (.ref l)
  refine wpAny_call (codeAny_of_tree ?_)
  show wpAny _ _ (callAny (.type "set") _) _ _ _
  refine wpAny_pure ⟨Code.quiet_builtin _ (by decide +kernel), codeAny_builtin F.entry_type_call ?_⟩
  rw [Around.under_plain (weight_type_call_type "set" [.ref l] []) rfl]
  repeat (any_goals (first | assumption | wp_step))
  refine codeAny_mono (newX (.ref l) (E := E) (Q₁ := fun obj s₁ => obj = .ref s.heap.objs.size ∧ s₁ = { s with heap := s.heap.push (set0 w) }) ⟨rfl, rfl⟩) fun r s₁ hr => ?_
  cases r with
  | error e => exact hr
  | ok fl =>
    cases fl with
    | ret obj =>
      obtain ⟨rfl, rfl⟩ := hr
      have gS : (s.heap.push (set0 w)).get? s.heap.objs.size = some (set0 w) := Heap.get?_push_size _ rfl
      have hT : Shared.TypeIs { s with heap := s.heap.push (set0 w) } (.ref s.heap.objs.size) "set" := ⟨_, gS, rfl⟩
      have u4 := F.called_set.init.lookup
      have u5 := F.called_set.init.bind (.ref s.heap.objs.size)
      repeat (any_goals (first | assumption | wp_step))
      refine codeAny_mono (codeAny_call_builtin (R := wants (fun r s₂ => r = .none ∧ ∃ h' tk, s₂ = { s with heap := h', toks := tk } ∧ SetX prog w h' s.heap.objs.size (firstMet (fun i => ns.getD i 0) items.size) ∧
          (∀ b o, b < s.heap.objs.size → s.heap.get? b = some o → h'.get? b = some o)) E) F.called_set.init.plain F.entry_set_init (check_set_init_1 hT ?_)) fun r₂ s₂ hr₂ => ?_
      · obtain ⟨⟨cl, di, da, sl⟩, ol, cl', nl, da'⟩ := hl
        simp only at cl' da'
        subst cl' da'
        have hol : (s.heap.push (set0 w)).get? l = some { cls := .type "tuple", dict := di, data := .seq items nl, slots := sl } := Heap.get?_push_of_some _ ol
        have v1 := F.sub_tuple_set
        have v2 := F.sub_tuple_frozenset
        have v3 : (Value.type "tuple" == Value.type "dict") = false := by decide
        have hl1 : (s.heap.push (set0 w)).IsTuple l items := ⟨_, hol, rfl, nl, rfl⟩
        unfold Builtin.«set.__init__» noKeywords Builtin.Frozenset.updateFrom
        generalize hPI : pyIter = PI
        wp_walk
        subst hPI
        refine wpAny_pyIter_tuple hl1 (wpAny_bind (wpAny_runValue ?_))
        have lS : l < s.heap.objs.size := Heap.lt_size ol
        have z1 : (s.heap.push (set0 w)).objs.size = s.heap.objs.size + 1 := Heap.size_push _ _
        have lI : l ≠ (s.heap.push (set0 w)).objs.size := by rw [z1]; exact Nat.ne_of_lt (Nat.lt_succ_of_lt lS)
        have hSf : s.heap.objs.size ∉ [(s.heap.push (set0 w)).objs.size, l] := by
          rw [z1]
          intro z
          rcases List.mem_cons.mp z with z | z
          · exact absurd z (Nat.ne_of_lt (Nat.lt_succ_self _))
          · exact absurd (List.mem_singleton.mp z) (Nat.ne_of_gt lS)
        have hval : ∀ (i : Nat) (v : Value), items[i]? = some v → ∃ t, v = .int ((fun i => ns.getD i 0) i) t := fun i v hv => IntsAre.int_at hi i v (by rw [Array.getElem?_toList]; exact hv)
        refine updX ((Walks.tuple (by simp [hh]) _ l lI items).toS) s.heap.objs.size hSf (fun i => ns.getD i 0) hval hb items.size 0 _ (Nat.zero_add _)
          ⟨⟨_, Heap.get?_push_size _ rfl, rfl, rfl⟩, hl1.push _⟩ ((freshX s.heap).keep fun o e => Heap.get?_push_of_some _ e) fun s' hm X' => ?_
        obtain ⟨h', g', d', tk', os'⟩ := s'
        obtain rfl : g' = s.gens := hm.gens
        obtain rfl : d' = s.drawn := hm.drawn
        obtain rfl : os' = s.os := hm.os
        refine wpAny_pure (wpAny_pure ⟨rfl, h', tk', rfl, X', fun b o hb e => hm.heap b o (fun z => ?_) (Heap.get?_push_of_some _ (Heap.get?_push_of_some _ e))⟩)
        rcases List.mem_cons.mp z with z | z
        · exact absurd z (Nat.ne_of_lt hb)
        · have z' := List.mem_singleton.mp z
          rw [z1] at z'
          exact absurd z' (Nat.ne_of_lt (Nat.lt_succ_of_lt hb))
      · cases r₂ with
        | error e => exact hr₂
        | ok fl₂ =>
          cases fl₂ with
          | ret r =>
            obtain ⟨rfl, h', tk, rfl, X', hk'⟩ := hr₂
            repeat (any_goals (first | assumption | wp_step))
            exact h _ _ X' hk'
          | _ => exact hr₂.elim
    | _ => exact hr.elim
theorem SetX.kind {h : Heap} {a : Addr} {L : List Int} (x : SetX prog w h a L) : h.SetOf (intKind prog w) a (fun k => decide (k ∈ L)) L.length := by
  obtain ⟨o, es, ep, t, ho, hx, hd, hel, hb, hf, hT, hp⟩ := x
  refine ⟨o, es, ep, t, ho, hx, hd, hel, fun k => ?_, hb, hf, by rw [← hp.length_eq]; simp⟩
  rw [decide_eq_true_eq, ← hp.mem_iff, List.mem_map]
  constructor
  · rintro ⟨e, he, rfl⟩
    obtain ⟨⟨k, hk, _⟩, _⟩ := hel e he
    exact ⟨e, he, by rw [int_num hk]; exact hk⟩
  · rintro ⟨e, he, hk⟩
    exact ⟨e, he, int_num hk⟩
end
section
variable {X : Cx}
def once' (ns : List Int) : List Int := firstMet (fun i => ns.getD i 0) ns.length
theorem once_mem (ns : List Int) (k : Int) : k ∈ once' ns ↔ k ∈ ns := by
  have e := firstMet_any (fun i => ns.getD i 0) ns.length k
  have e2 : (List.range ns.length).map (fun i => ns.getD i 0) = ns := by
    apply List.ext_getElem
    · simp
    · intro i h1 h2
      simp [List.getElem?_eq_getElem h2]
  rw [e2] at e
  have h1 : (once' ns).any (· == k) = true ↔ k ∈ once' ns := by simp
  have h2 : ns.any (· == k) = true ↔ k ∈ ns := by simp
  rw [← h1, ← h2]
  unfold once'
  rw [e]
theorem call_setI (hc : X.calm = true) : CallR X (.type "set") (fun xs H Q => ∃ p ns, xs = [.ref p] ∧ (SqL X.K H p (ns.map V.int) ∨ SqT X.K H p (ns.map V.int)) ∧ ns.length ≤ 900 ∧ ∀ l, H l = none → Q (.ref l) (upd H l (.set (fun k => decide (k ∈ ns)) (once' ns).length))) := by
  intro pins s σ H xs us Q I r h
  obtain ⟨p, ns, rfl, hq, h9, q⟩ := h
  obtain ⟨u, rfl, rx⟩ := vals1 r
  cases rx
  have fin : ∀ (its : List Value), Vals (ns.map V.int) its → ∀ (h' : Heap) (tk : Nat), SetX X.prog X.w h' s.heap.objs.size (firstMet (fun i => ns.getD i 0) its.toArray.size) → (∀ b o, b < s.heap.objs.size → s.heap.get? b = some o → h'.get? b = some o) → EP X pins σ Q (.ref s.heap.objs.size) { s with heap := h', toks := tk } := by
    intro its r' h' tk hX hk
    have hlen := r'.length
    rw [List.length_map] at hlen
    have hX : SetX X.prog X.w h' s.heap.objs.size (once' ns) := by
      have e : its.toArray.size = ns.length := by rw [List.size_toArray, hlen]
      rw [e] at hX
      exact hX
    have k1 : ∀ b o, s.heap.get? b = some o → h'.get? b = some o := fun b o e => hk b o (Heap.lt_size e) e
    have so : ObjOk X.prog X.w (upd H s.heap.objs.size (.set (fun k => decide (k ∈ ns)) (once' ns).length)) h' s.heap.objs.size (.set (fun k => decide (k ∈ ns)) (once' ns).length) := by
      have := hX.kind
      rw [show (fun k => decide (k ∈ once' ns)) = fun k => decide (k ∈ ns) from funext fun k => by rw [decide_eq_decide]; exact once_mem ns k] at this
      exact this
    exact ⟨.ref s.heap.objs.size, _, I.laid (t' := tk) k1 (Nat.le_refl _) so, rfl, q _ (I.hok.fresh (Nat.le_refl _))⟩
  rcases hq with hq | hq
  · obtain ⟨its, r', pl, hz⟩ := I.list hq
    have hlen := r'.length
    rw [List.length_map] at hlen
    exact callX (items := its.toArray) (ns := ns) (I.ok.hd hc) pl.isList (by simpa using vals_intsAre r') (by simp only [List.size_toArray]; show its.length + 1 < 4096; omega) (fin its r')
  · obtain ⟨its, r', pl, hz⟩ := I.tuple hq
    have hlen := r'.length
    rw [List.length_map] at hlen
    exact callXT (items := its.toArray) (ns := ns) (I.ok.hd hc) pl (by simpa using vals_intsAre r') (by simp only [List.size_toArray]; show its.length + 1 < 4096; omega) (fin its r')
theorem op_inSet : OpR X (compareOp .In) (fun x y H Q => ∃ (k : Int) (p : Addr) (S : Int → Bool) (n : Nat), x = .int k ∧ y = .ref p ∧ H p = some (.set S n) ∧ Q (.bl (S k)) H) := by
  intro pins s σ H x y v u Q I rx ry h
  obtain ⟨k, p, S, n, rfl, rfl, hp, q⟩ := h
  obtain ⟨t, rfl⟩ := rx
  cases ry
  have hS : s.heap.SetOf (intKind X.prog X.w) p S n := I.hok p _ hp
  exact wpAny_inSet_of (k := k) (intKind_is _ _ _ _) rfl hS ⟨.bl _, H, I.tok _, rfl, q⟩
end
end L2
set_option Elab.async false
set_option linter.all false
set_option maxRecDepth 100000
set_option maxHeartbeats 1000000
namespace L2
open PySem PySem.Spec PyProof.Rows
def punch (h : Heap) (bad : Addr → Bool) : Heap := { h with objs := h.objs.mapIdx fun i o => if bad i = true then { o with data := .freed } else o }
theorem punch_get (h : Heap) (bad : Addr → Bool) (b : Addr) : (punch h bad).get? b = if bad b = true then none else h.get? b := by
  unfold punch Heap.get?
  simp only [Array.getElem?_mapIdx]
  cases e : h.objs[b]? with
  | none => simp
  | some o =>
    cases hb : bad b with
    | true => simp [hb]
    | false => simp [hb]
theorem ObjOk.here {P : Program} {w : World} {H : Hp} {h : Heap} {a : Addr} {o : HO} (x : ObjOk P w H h a o) : ∃ ob, h.get? a = some ob := by
  cases o with
  | lst xs => obtain ⟨_, _, _, _, e⟩ := x; exact ⟨_, e⟩
  | tup xs => obtain ⟨_, _, _, o, e, _⟩ := x; exact ⟨_, e⟩
  | dK kvs => obtain ⟨_, _, _, _, o, _, _, e, _⟩ := x; exact ⟨_, e⟩
  | dT kvs => obtain ⟨_, _, _, _, o, _, _, e, _⟩ := x; exact ⟨_, e⟩
  | set S n => obtain ⟨o, _, _, _, e, _⟩ := x; exact ⟨_, e⟩
  | ins C dx fs => obtain ⟨_, _, _, e, _⟩ := x; exact ⟨_, e⟩
  | own y => exact x
  | xd fs => obtain ⟨_, ⟨_, _, _, e, _⟩, _⟩ := x; exact ⟨_, e⟩
  | rng lo hi => obtain ⟨_, _, _, e⟩ := x; exact ⟨_, e⟩
  | frz ob u => obtain ⟨e, _⟩ := x; exact ⟨_, e⟩
  | tbl ps => exact ⟨_, (show h.get? a = some _ from x)⟩
  | met f y => exact ⟨_, (show h.get? a = some _ from x)⟩
  | ext φ => obtain ⟨_, e, _⟩ := x; exact e
structure Xc (h0 h : Heap) (H : Hp) (x : Addr) (C : Value) : Prop where
  fresh : h0.get? x = none
  free : H x = none
  obj : ∃ (oe : Obj) (vs : Array Value) (a0 : Value), h.get? x = some oe ∧ oe.cls = C ∧ oe.data = .fields vs ∧ vs[0]? = some a0 ∧
    (vs[1]? = some .none ∨ ∃ (T : Addr) (oT : Obj) (ts : Array Value), vs[1]? = some (.ref T) ∧ T ≠ x ∧ h0.get? T = none ∧ H T = none ∧ h.get? T = some oT ∧ oT.data = .fields ts ∧ ts[3]? = some .none)
structure Xt (h0 h : Heap) (H : Hp) (x : Addr) (C : Value) : Prop where
  fresh : h0.get? x = none
  free : H x = none
  newer : ∀ b, h.get? b = none → h0.get? b = none
  obj : ∃ (oe : Obj) (vs : Array Value) (a0 : Value) (T : Addr) (oT : Obj) (ts : Array Value), h.get? x = some oe ∧ oe.cls = C ∧ oe.data = .fields vs ∧ vs[0]? = some a0 ∧ vs[1]? = some (.ref T) ∧ T ≠ x ∧ h0.get? T = none ∧ H T = none ∧ h.get? T = some oT ∧ oT.data = .fields ts ∧ ts[3]? = some .none
theorem Xt.xc {h0 h : Heap} {H : Hp} {x : Addr} {C : Value} (t : Xt h0 h H x C) : Xc h0 h H x C :=
  let ⟨oe, vs, a0, T, oT, ts, e1, e2, e3, e4, e5, e6, e7, e8, e9, e10, e11⟩ := t.obj
  ⟨t.fresh, t.free, oe, vs, a0, e1, e2, e3, e4, .inr ⟨T, oT, ts, e5, e6, e7, e8, e9, e10, e11⟩⟩
def CXE (P : Program) (w : World) : CXT := fun outer H s E e s' => ∃ (x : Addr) (C : Value) (H' : Hp), e = .ref x ∧ s'.os = s.os ∧ AllBare s'.gens ∧ Un (frs outer) [] H H' s.heap s'.heap ∧ HOk P w H' s'.heap ∧ Xt s.heap s'.heap H' x C ∧ E C none H'
theorem frames_other {h B B' : Heap} : ∀ {l : List Env}, h.FunFrames B l → (∀ L ∈ frs l, B'.get? L = none) → h.FunFrames B' l
  | [], _, _ => trivial
  | env :: r, ⟨hk, ⟨L, o, hf, hn, ho, hd⟩, hr⟩, hB => by
    refine ⟨hk, ⟨L, o, hf, hB L ?_, ho, hd⟩, frames_other hr fun M hM => hB M ?_⟩
    · unfold frs; rw [List.filterMap_cons, hf]; exact List.mem_cons_self
    · unfold frs; rw [List.filterMap_cons, hf]; exact List.mem_cons_of_mem _ hM
section
variable {X : Cx} {pins : List (Addr × Obj)} {σ : St} {H : Hp} {s : Shared} {E : XK} {Ex : Value → Shared → Prop}
theorem leave_fn (I : Inv X pins σ H s) (hst : X.stack = X.env :: X.outer) (hfrm : X.env.frame = some X.env.locals) (hex : X.ex = []) {x : Addr} {C : Value} (xc : Xc X.s₀.heap s.heap H x C) (hE : E C none H) :
    wpAny (model X.prog X.w) X.A (leaving X.env (.ref x)) (fun _ s'' => CXE X.prog X.w X.outer X.H₀ X.s₀ E (.ref x) s'') Ex s := by
  obtain ⟨fresh, free, oe, vs, a0, hx, hcls, hd, h0, hT⟩ := xc
  have hfr := I.ok.frames
  have hst' := I.stack
  have hsf := I.stkFree
  rw [hst] at hfr hst' hsf
  have fs0 : frs (X.env :: X.outer) = X.env.locals :: X.fs := by unfold frs; rw [List.filterMap_cons, hfrm]; rfl
  have noex : ∀ b : Addr, b ∉ X.ex := fun b z => by rw [hex] at z; cases z
  have lnew : ∀ b o, X.s₀.heap.get? b = some o → b ≠ X.env.locals := fun b o e z => by
    have := Heap.lt_size e
    have h2 := I.ok.above
    rw [z] at this
    exact absurd (Nat.lt_of_lt_of_le this h2) (Nat.lt_irrefl _)
  -- what comes of it, for any heap in which all but some objects stay
  have fin : ∀ (bad : Addr → Bool) (h' : Heap), (∀ b o, X.s₀.heap.get? b = some o → b ∉ X.fs → bad b = false) → (∀ b o, H b = some o → bad b = false) → (∀ b, bad b = true → b = x ∨ b ∈ X.env.locals :: X.fs ∨ (X.s₀.heap.get? b = none ∧ H b = none)) →
      Heap.LeftW (punch s.heap bad) (X.env :: X.outer) x C a0 s.heap h' → CXE X.prog X.w X.outer X.H₀ X.s₀ E (.ref x) { s with heap := h' } := by
    intro bad h' b0 b1 b2 ⟨k1, k2, k3, k4⟩
    have stay : ∀ b o, bad b = false → s.heap.get? b = some o → h'.get? b = some o := fun b o hb e => k1 b o (by rw [punch_get, hb]; simpa using e)
    have slotk : ∀ b o, b ∈ X.env.locals :: X.fs → s.heap.get? b = some o → ∃ sl, h'.get? b = some { o with slots := sl } := fun b o hb e => by
      rw [← fs0] at hb
      obtain ⟨_, o', ho', hn⟩ := hst'.mem hb
      rw [e] at ho'
      cases ho'
      exact k4 b o e hn
    have there : ∀ b o, X.s₀.heap.get? b = some o → ∃ o', h'.get? b = some o' := fun b o e => by
      obtain ⟨o', e'⟩ := I.base.there b o e (noex b)
      by_cases hb : b ∈ X.fs
      · obtain ⟨sl, e2⟩ := slotk b _ (List.mem_cons_of_mem _ hb) e'
        exact ⟨_, e2⟩
      · exact ⟨_, stay b o' (b0 b o e hb) e'⟩
    refine ⟨x, C, H, rfl, I.os, I.bare, ⟨?_, ?_, ?_, fun b o e _ => there b o e, I.base.tups, I.base.frzs, I.base.tbls⟩, ?_, ⟨fresh, free, ?_, ?_⟩, hE⟩
    · intro b o e n hb _
      exact stay b o (b0 b o e hb) (I.base.keep b o e n hb (noex b))
    · intro b o e n hb _
      obtain ⟨sl, e1⟩ := I.base.slot b o e n hb (noex b)
      obtain ⟨sl', e2⟩ := slotk b _ (List.mem_cons_of_mem _ hb) e1
      exact ⟨sl', e2⟩
    · intro b o e n _
      exact I.base.free b o e n (noex b)
    · intro a o e
      refine (I.hok a o e).stay (fun b u hb e' => ?_) (fun _ h => h) (fun _ _ h => h)
      rcases hb with rfl | hb
      · exact stay b u (b1 b o e) e'
      · exact stay b u (b1 b _ hb) e'
    · intro b e
      cases q : X.s₀.heap.get? b with
      | none => rfl
      | some o =>
        obtain ⟨o', q'⟩ := there b o q
        have e : h'.get? b = none := e
        rw [e] at q'
        cases q'
    · obtain ⟨oe', vs', T', oT, ts, e1, ⟨e2, e3⟩, e4, e5, e6, e7, e8, e9, e10⟩ := k3
      refine ⟨oe', vs', a0, T', oT, ts, e1, e2, e4, e3, e5, e7, ?_⟩
      have hh : X.s₀.heap.get? T' = none ∧ H T' = none := by
        rw [punch_get] at e6
        cases hb : bad T' with
        | true =>
          rcases b2 T' hb with z | z | z
          · exact absurd z e7
          · exfalso
            rw [← fs0] at z
            obtain ⟨_, o', ho', hn⟩ := k2.mem z
            rw [e8] at ho'
            cases ho'
            exact hn ts e9
          · exact z
        | false =>
          rw [hb] at e6
          have e6 : s.heap.get? T' = none := by simpa using e6
          constructor
          · cases q : X.s₀.heap.get? T' with
            | none => rfl
            | some o =>
              obtain ⟨o', q'⟩ := I.base.there T' o q (noex T')
              rw [e6] at q'
              cases q'
          · cases q : H T' with
            | none => rfl
            | some o =>
              obtain ⟨ob, q'⟩ := (I.hok T' o q).here
              rw [e6] at q'
              cases q'
      exact ⟨hh.1, hh.2, e8, e9, e10⟩
  have Hx : ∀ b o, H b = some o → b ≠ x := fun b o e z => by rw [z, free] at e; cases e
  have Hf : ∀ b o, H b = some o → b ∉ X.env.locals :: X.fs := fun b o e z => by
    rw [← fs0] at z
    rw [hsf b z] at e; cases e
  have Sx : ∀ b o, X.s₀.heap.get? b = some o → b ≠ x := fun b o e z => by rw [z, fresh] at e; cases e
  rcases hT with h1 | ⟨T, oT, ts, h1, hTx, T0, HT, hT, hdT, h3⟩
  · obtain ⟨bad, ebad⟩ : ∃ bad : Addr → Bool, ∀ b, bad b = (decide (b = x) || decide (b ∈ X.env.locals :: X.fs)) := ⟨_, fun _ => rfl⟩
    have f0 : ∀ L ∈ frs (X.env :: X.outer), (punch s.heap bad).get? L = none := fun L hL => by
      rw [fs0] at hL
      rw [punch_get, ebad, decide_eq_true hL, Bool.or_true]; rfl
    subst hcls
    refine wpAny_leaving_firstW (base := punch s.heap bad) hfr (frames_other hst' f0) hfrm hx (fun b o e => ?_) (by rw [punch_get, ebad]; simp) hd h1 h0 fun h' L => fin bad h' (fun b o e hb => ?_) (fun b o e => ?_) (fun b hb => ?_) L
    · rw [punch_get] at e
      split at e
      · cases e
      · exact e
    · rw [ebad, decide_eq_false (Sx b o e), decide_eq_false (fun z => (List.mem_cons.mp z).elim (lnew b o e) hb)]; rfl
    · rw [ebad, decide_eq_false (Hx b o e), decide_eq_false (Hf b o e)]; rfl
    · rw [ebad, Bool.or_eq_true, decide_eq_true_eq, decide_eq_true_eq] at hb
      exact hb.imp id Or.inl
  · obtain ⟨bad, ebad⟩ : ∃ bad : Addr → Bool, ∀ b, bad b = (decide (b = x) || (decide (b ∈ X.env.locals :: X.fs) || decide (b = T))) := ⟨_, fun _ => rfl⟩
    have f0 : ∀ L ∈ frs (X.env :: X.outer), (punch s.heap bad).get? L = none := fun L hL => by
      rw [fs0] at hL
      rw [punch_get, ebad, decide_eq_true hL, Bool.true_or, Bool.or_true]; rfl
    subst hcls
    refine wpAny_leaving_nextW (base := punch s.heap bad) (cls := oe.cls) (a0 := a0) hfr (frames_other hst' f0) hfrm ⟨oe, vs, T, oT, ts, hx, ⟨rfl, h0⟩, hd, h1, by rw [punch_get, ebad]; simp, hTx, hT, hdT, h3⟩ (fun b o e => ?_) (by rw [punch_get, ebad]; simp) fun h' L => fin bad h' (fun b o e hb => ?_) (fun b o e => ?_) (fun b hb => ?_) L
    · rw [punch_get] at e
      split at e
      · cases e
      · exact e
    · rw [ebad, decide_eq_false (Sx b o e), decide_eq_false (fun z => (List.mem_cons.mp z).elim (lnew b o e) hb), decide_eq_false (fun z => by rw [z, T0] at e; cases e)]; rfl
    · rw [ebad, decide_eq_false (Hx b o e), decide_eq_false (Hf b o e), decide_eq_false (fun z => by rw [z, HT] at e; cases e)]; rfl
    · rw [ebad, Bool.or_eq_true, Bool.or_eq_true, decide_eq_true_eq, decide_eq_true_eq, decide_eq_true_eq] at hb
      rcases hb with z | z | z
      · exact .inl z
      · exact .inr (.inl z)
      · exact .inr (.inr ⟨by rw [z]; exact T0, by rw [z]; exact HT⟩)
end
end L2
set_option Elab.async false
set_option linter.all false
set_option maxRecDepth 100000
set_option maxHeartbeats 1000000
namespace L2
open PySem PySem.Spec PyProof.Rows
section
variable {X : Cx} {pins : List (Addr × Obj)} {σ : St} {H : Hp} {s : Shared} {E : XK}
def Catch (X : Cx) (E : XK) : Prop := ∀ (pins : List (Addr × Obj)) (σ : St) (H : Hp) (s : Shared) (x : Addr) (C : Value), Inv X pins σ H s → Xc X.s₀.heap s.heap H x C → E C none H → X.xe (.ref x) s
theorem Xc.since {h0 h1 h : Heap} {x : Addr} {C : Value} (xc : Xc h1 h H x C) (k : ∀ b, h1.get? b = none → h0.get? b = none) : Xc h0 h H x C := by
  obtain ⟨f, fr, oe, vs, a0, e1, e2, e3, e4, hT⟩ := xc
  refine ⟨k _ f, fr, oe, vs, a0, e1, e2, e3, e4, hT.imp id ?_⟩
  rintro ⟨T, oT, ts, q1, q2, q3, q⟩
  exact ⟨T, oT, ts, q1, q2, k _ q3, q⟩
theorem Inv.older (I : Inv X pins σ H s) (hex : X.ex = []) : ∀ b, s.heap.get? b = none → X.s₀.heap.get? b = none := fun b e => by
  cases q : X.s₀.heap.get? b with
  | none => rfl
  | some o =>
    obtain ⟨o', q'⟩ := I.base.there b o q (by rw [hex]; exact List.not_mem_nil)
    rw [e] at q'
    cases q'
structure Since (X : Cx) (pins : List (Addr × Obj)) (h0 : Heap) : Prop where
  old : ∀ b, h0.get? b = none → X.s₀.heap.get? b = none
  pin : ∀ p ∈ X.pn ++ pins, h0.get? p.1 ≠ none
def CatchT (X : Cx) (E : XK) : Prop := ∀ (pins : List (Addr × Obj)) (σ : St) (H : Hp) (s : Shared) (h0 : Heap) (x : Addr) (C : Value), Inv X pins σ H s → Since X pins h0 → Xt h0 s.heap H x C → E C none H → X.xe (.ref x) s
theorem Catch.t (c : Catch X E) : CatchT X E := fun pins σ H s h0 x C I S xt hE => c pins σ H s x C I (xt.xc.since S.old) hE
theorem passE (hex : X.ex = []) (c : CatchT X E) : Passes (CXE X.prog X.w) X E := by
  rintro pins σ H s e s' I ⟨x, C, H', rfl, os, bare, un, hok, xc, hE⟩
  exact c pins σ H' s' s.heap x C (I.call' os un hok bare fun b z => absurd z List.not_mem_nil) ⟨I.older hex, fun p hp z => by have := (I.pin p hp).1; rw [z] at this; cases this⟩ xc hE
end
theorem catch_fn {P : Program} {w : World} {K : PySem.W.Frag} {mg : Str → Option Value} {base : Heap} {N : List Str} {qual : Str} {scope : Scope} {f : Addr} {cd : Value} {A : Around} {outer : List Env} {s : Shared} {H : Hp} {E : XK} :
    Catch (cxOf (CXE P w) P w K mg base N qual scope f cd A outer s H E) E := fun pins σ H' s' x C I xc hE =>
  leave_fn (X := cxOf (CXE P w) P w K mg base N qual scope f cd A outer s H E) I rfl rfl rfl xc hE
section
variable {P : Program} {w : World} {K : PySem.W.Frag} {mg : Str → Option Value} {base : Heap}
theorem Fun.okE {x qual : Str} {st : Stmt} {f : Addr} {fd : FuncData} {N ps : List Str} {k : Nat} {sp : Sp} (F : Fun K x qual st f fd) (S : FnScope N ps (defScope st)) (len : ∀ vs H Q E, sp vs H Q E → vs.length = ps.length)
    (hbody : ∀ (cdv : Value) (A : Around) (outer : List Env) (s : Shared) (H : Hp) (vs : List V) (Q : VK) (E : XK), Room k (A.deeper (envOfC qual (defScope st) s.heap.objs.size f cdv)) → sp vs H Q E →
      Catch (cxOf (CXE P w) P w K mg base N qual (defScope st) f cdv A outer s H E) E →
      ∃ t, PSs (cxOf (CXE P w) P w K mg base N qual (defScope st) f cdv A outer s H E) (defBody st) t ∧ t { nx := fun _ H' => Q .non H', rt := Q } (start N vs) H) : FnOk P w K mg base (CXE P w) (k + 1) f fd ps sp := by
  obtain ⟨oc, od, kV, doc, pm, an, cdv, ct, osl, rfl, lk, hcd⟩ := F.ex
  exact fn_of lk hcd S len fun A outer s H vs Q E hr hsp => hbody cdv A outer s H vs Q E hr hsp catch_fn
end
structure CalleeE (P : Program) (w : World) (K : PySem.W.Frag) (mg : Str → Option Value) (base : Heap) (k : Nat) (x : Str) (ps : List Str) (sp : Sp) : Prop where
  ex : ∃ f fd, FnOk P w K mg base (CXE P w) k f fd ps sp ∧ mg x = some (.ref f) ∧ PySem.W.keepIn K (.ref f) = true ∧ Binds K fd ps []
theorem pe_defE {X : Cx} {k : Nat} {x : Str} {ps : List Str} {sp : Sp} {e : Expr} {es : List Expr} {t : TA} {p pos : Pos} {E : XK} (C : CalleeE X.prog X.w X.K X.mg X.base k x ps sp) (hex : X.ex = []) (hc : CatchT X E) (hr : Room k X.A) (hg : Gl X x) (ha : PA X (e :: es) t)
    (hdb : (x == ("__debug__" : Str)) = false := by decide) (he : starEach (e :: es) X.env = (false, eval e X.env) :: starEach es X.env := by rfl) (hpl : (backTo pos (starEach es X.env)).any (·.1) = false := by rfl) :
    PE X (.Call (.Name x p) (e :: es) [] pos) (tCall sp [] E t) := by
  obtain ⟨f, fd, F, hm, hk, hb⟩ := C.ex
  exact pe_call F hr hg hm hk hb .nil (passE hex hc) ha hdb he hpl
structure ExcC (K : PySem.W.Frag) (mg : Str → Option Value) (x : Str) (C : Addr) : Prop where
  bound : mg x = some (.ref C)
  obj : ∀ h : Heap, K.In h → ∃ bm N nm q bs hdct sn sub ab col dd k0 k1 k2 k3 k5 mN, h.get? C = some (excClassObj nm q C N bs bm hdct sn sub ab col dd k0 k1 k2 k3 k5 "ValueError.__new__") ∧ h.Ns N mN ∧ mN "__init__" = none ∧ OwnTail h [.type "ValueError", .type "Exception", .type "BaseException", .type "object"] bm
def tRaise (C : Addr) (E : XK) (t : TE) : TS := fun _ σ H => t σ H fun _ H1 => E (.ref C) none H1
theorem ps_raise {X : Cx} {x : Str} {C : Addr} {E : XK} {e : Expr} {te : TE} {np cpos pos : Pos} (hC : ExcC X.K X.mg x C) (hex : X.ex = []) (hcalm : X.calm = true) (hc : Catch X E) (hg : Gl X x) (he : PE X e te) (hd : (x == ("__debug__" : Str)) = false := by decide)
    (h1 : starEach [e] X.env = (false, eval e X.env) :: starEach [] X.env := by rfl) (h2 : (backTo cpos (starEach [] X.env)).any (·.1) = false := by rfl) :
    PS X (.Raise (some (.Call (.Name x np) [e] [] cpos)) none pos) (tRaise C E te) := by
  intro pins s σ H D I h
  obtain ⟨tl, N, nm, q, bs, hdct, sn, sub, ab, col, dd, k0, k1, k2, k3, k5, mN, hC0, hN, hni, T⟩ := hC.obj X.base I.mod.kin
  refine wpAny_Raise_call_subT (C := C) (nm := nm) (q := q) (N := N) (bs := bs) (bm := tl) (hdct := hdct) (sn := sn) (sub := sub) (ab := ab) (col := col) (dd := dd) (k0 := k0) (k1 := k1) (k2 := k2) (k3 := k3) (k5 := k5)
    PySem.F.excBase_ValueError (mN := mN) (T.hasType PySem.F.excBase_ValueError.hasBase) (I.ok.hd hcalm) (by rw [h1]; show (false || (backTo cpos (starEach [] X.env)).any (·.1)) = false; rw [h2]; rfl) hni (ld_glob I hg hC.bound ⟨rfl, ?_⟩ hd)
  rw [h1]
  refine Calls.evalArgs_plain ?_
  show wpAny _ _ (spliced ((false, eval e X.env) :: backTo cpos (starEach [] X.env))) _ _ s
  refine Calls.spliced_cons (thn (he pins s σ H _ I h) fun u s1 ⟨v, H1, I1, rv, q1⟩ => Calls.spliced_nil ?_)
  refine ⟨rfl, by show 1 ≤ sizeLine; decide, I1.bk _ _ hC0, hN.keeps I1.bk, T.keeps I1.bk, fun h' x' hm => ?_⟩
  obtain ⟨t, ht, ht0, ht1⟩ := hm.there
  have I2 : Inv X pins σ H1 { s1 with heap := h' } := I1.kept (t' := s1.toks) fun b o e => hm.keeps b o e
  have fr : ∀ b, s1.heap.get? b = none → H1 b = none := fun b e => by
    cases q : H1 b with
    | none => rfl
    | some o =>
      obtain ⟨ob, q'⟩ := (I1.hok b o q).here
      rw [e] at q'
      cases q'
  exact hc pins σ H1 _ x' (.ref C) I2 ⟨I1.older hex _ hm.new, fr _ hm.new, _, _, _, ht, rfl, rfl, rfl, .inl rfl⟩ q1
end L2
set_option Elab.async false
set_option linter.all false
set_option maxRecDepth 100000
set_option maxHeartbeats 1000000
namespace L2
open PySem PySem.Spec PyProof.Rows
section
variable {X : Cx} {pins : List (Addr × Obj)} {σ : St} {H : Hp} {s : Shared}
theorem Inv.flown (I : Inv X pins σ H s) (hst : X.stack = X.env :: X.outer) (hfrm : X.env.frame = some X.env.locals) (hex : X.ex = []) (hfn : ∀ x, X.fn x = true) {h0 h' : Heap} (S : Since X pins h0) {bad : Addr → Bool}
    (b2 : ∀ b, bad b = true → b ∈ X.env.locals :: X.fs ∨ (h0.get? b = none ∧ H b = none ∧ ∃ o vs, s.heap.get? b = some o ∧ o.data = .fields vs))
    (stay : ∀ b o, bad b = false → s.heap.get? b = some o → h'.get? b = some o)
    (slotk : ∀ b o, b ∈ X.env.locals :: X.fs → s.heap.get? b = some o → ∃ sl, h'.get? b = some { o with slots := sl }) : Inv X pins σ H { s with heap := h' } := by
  have noex : ∀ b : Addr, b ∉ X.ex := fun b z => by rw [hex] at z; cases z
  have lnew : ∀ b o, X.s₀.heap.get? b = some o → b ≠ X.env.locals := fun b o e z => by
    have := Heap.lt_size e
    have h2 := I.ok.above
    rw [z] at this
    exact absurd (Nat.lt_of_lt_of_le this h2) (Nat.lt_irrefl _)
  have notB : ∀ b, b ∉ X.env.locals :: X.fs → (h0.get? b ≠ none ∨ H b ≠ none ∨ ∀ o vs, s.heap.get? b = some o → o.data ≠ .fields vs) → bad b = false := fun b hb h => by
    cases z : bad b with
    | false => rfl
    | true =>
      rcases b2 b z with q | ⟨q1, q2, o, vs, q3, q4⟩
      · exact absurd q hb
      · rcases h with h | h | h
        · exact absurd q1 h
        · exact absurd q2 h
        · exact absurd q4 (h o vs q3)
  have b0 : ∀ b o, X.s₀.heap.get? b = some o → b ∉ X.fs → bad b = false := fun b o e hb =>
    notB b (fun z => (List.mem_cons.mp z).elim (lnew b o e) hb) (.inl fun z => by rw [S.old b z] at e; cases e)
  have fs0 : frs X.stack = X.env.locals :: X.fs := by rw [hst]; unfold frs; rw [List.filterMap_cons, hfrm]; rfl
  have Hf : ∀ b o, H b = some o → b ∉ X.env.locals :: X.fs := fun b o e z => by
    rw [← fs0] at z
    rw [I.stkFree b z] at e; cases e
  have b1 : ∀ b o, H b = some o → bad b = false := fun b o e => notB b (Hf b o e) (.inr (.inl (by rw [e]; intro z; cases z)))
  have cfs : ∀ x c, X.env.cells.lookup x = some c → c ∉ X.env.locals :: X.fs := fun x c e z => by
    rcases List.mem_cons.mp z with z | z
    · exact I.cne x c e z
    · obtain ⟨_, o, ho, _⟩ := I.ok.funs.mem z
      exact absurd (Nat.lt_of_lt_of_le (Heap.lt_size ho) (I.ok.cab x c (hfn x) e)) (Nat.lt_irrefl _)
  have cellK : ∀ x c, X.env.cells.lookup x = some c → ∀ v, s.heap.IsCell c v → h'.IsCell c v := fun x c e v ⟨o, ho, hd⟩ =>
    ⟨o, stay c o (notB c (cfs x c e) (.inr (.inr fun o' vs q z => by rw [ho] at q; cases q; rw [hd] at z; cases z))) ho, hd⟩
  refine ⟨I.ok, I.os, I.bare, ⟨?_, ?_, ?_, ?_, I.base.tups, I.base.frzs, I.base.tbls⟩, ?_, ?_, I.free, I.freeC, ?_, ?_, I.len⟩
  · intro b o e n hb _
    exact stay b o (b0 b o e hb) (I.base.keep b o e n hb (noex b))
  · intro b o e n hb _
    obtain ⟨sl, e1⟩ := I.base.slot b o e n hb (noex b)
    obtain ⟨sl', e2⟩ := slotk b _ (List.mem_cons_of_mem _ hb) e1
    exact ⟨sl', e2⟩
  · intro b o e n _
    exact I.base.free b o e n (noex b)
  · intro b o e _
    obtain ⟨o', e'⟩ := I.base.there b o e (noex b)
    by_cases hb : b ∈ X.fs
    · obtain ⟨sl, e2⟩ := slotk b _ (List.mem_cons_of_mem _ hb) e'
      exact ⟨_, e2⟩
    · exact ⟨_, stay b o' (b0 b o e hb) e'⟩
  · obtain ⟨m, ⟨o, es, ep, ho, hd, r⟩, hv⟩ := I.loc
    obtain ⟨sl, e2⟩ := slotk X.env.locals o (List.mem_cons_self ..) ho
    refine ⟨m, ⟨_, es, ep, e2, hd, r⟩, fun i x v h1 h2 h3 => ?_⟩
    obtain ⟨u, ru, hl⟩ := hv i x v h1 h2 h3
    refine ⟨u, ru, hl.imp id ?_⟩
    rintro ⟨hk, c, hc, hcell⟩
    exact ⟨hk, c, hc, cellK x c hc _ hcell⟩
  · intro x c e
    obtain ⟨v, hv⟩ := I.cell x c e
    exact ⟨v, cellK x c e v hv⟩
  · intro p hp
    obtain ⟨p1, p2, p3, p4, p5⟩ := I.pin p hp
    exact ⟨stay p.1 p.2 (notB p.1 (fun z => (List.mem_cons.mp z).elim p3 p4) (.inl (S.pin p hp))) p1, p2, p3, p4, p5⟩
  · intro a o e
    refine (I.hok a o e).stay (fun b u hb e' => ?_) (fun _ h => h) (fun _ _ h => h)
    rcases hb with rfl | hb
    · exact stay b u (b1 b o e) e'
    · exact stay b u (b1 b _ hb) e'
theorem caught {M : Model} {Q : Unit → Shared → Prop} {E Ex : Value → Shared → Prop} (I : Inv X pins σ H s) (hst : X.stack = X.env :: X.outer) (hfrm : X.env.frame = some X.env.locals) (hex : X.ex = []) (hfn : ∀ x, X.fn x = true) {h0 : Heap} (S : Since X pins h0) {x : Addr} {C : Value} (xt : Xt h0 s.heap H x C)
    (k : ∀ s', Inv X pins σ H s' → Xt h0 s'.heap H x C → Q () s') : wpAny M X.A (noteFrame (.ref x) X.env) (fun _ s₂ => wpAny M X.A (setFlight (.ref x) none) Q E s₂) Ex s := by
  obtain ⟨fresh, free, newer, oe, vs, a0, T, oT, ts, hx, hcls, hd, h0', h1, hTx, T0, HT, hT, hdT, h3⟩ := xt
  have hfr := I.ok.frames
  have hst' := I.stack
  rw [hst] at hfr hst'
  have fs0 : frs (X.env :: X.outer) = X.env.locals :: X.fs := by unfold frs; rw [List.filterMap_cons, hfrm]; rfl
  obtain ⟨bad, ebad⟩ : ∃ bad : Addr → Bool, ∀ b, bad b = (decide (b = x) || (decide (b ∈ X.env.locals :: X.fs) || decide (b = T))) := ⟨_, fun _ => rfl⟩
  have f0 : ∀ L ∈ frs (X.env :: X.outer), (punch s.heap bad).get? L = none := fun L hL => by
    rw [fs0] at hL
    rw [punch_get, ebad, decide_eq_true hL, Bool.true_or, Bool.or_true]; rfl
  have b2 : ∀ b, bad b = true → b ∈ X.env.locals :: X.fs ∨ (h0.get? b = none ∧ H b = none ∧ ∃ o vs, s.heap.get? b = some o ∧ o.data = .fields vs) := fun b hb => by
    rw [ebad, Bool.or_eq_true, Bool.or_eq_true, decide_eq_true_eq, decide_eq_true_eq, decide_eq_true_eq] at hb
    rcases hb with z | z | z
    · rw [z]; exact .inr ⟨fresh, free, _, _, hx, hd⟩
    · exact .inl z
    · rw [z]; exact .inr ⟨T0, HT, _, _, hT, hdT⟩
  subst hcls
  refine wpAny_noteFrame_onW (base := punch s.heap bad) (cls := oe.cls) (a0 := a0) hfr (frames_other hst' f0) hfrm ⟨oe, vs, T, oT, ts, hx, ⟨rfl, h0'⟩, hd, h1, by rw [punch_get, ebad]; simp, hTx, hT, hdT, h3⟩ (fun b o e => ?_) (by rw [punch_get, ebad]; simp) fun h₁ ⟨k1, k2, k3, k4⟩ => ?_
  · rw [punch_get] at e
    split at e
    · cases e
    · exact e
  refine wpAny_setFlight_noneW (base := punch s.heap bad) k1 k2 k3 fun h₂ l1 l2 l3 l4 => ?_
  have stay : ∀ b o, bad b = false → s.heap.get? b = some o → h₂.get? b = some o := fun b o hb e => l1 b o (by rw [punch_get, hb]; simpa using e)
  have slotk : ∀ b o, b ∈ X.env.locals :: X.fs → s.heap.get? b = some o → ∃ sl, h₂.get? b = some { o with slots := sl } := fun b o hb e => by
    rw [← fs0] at hb
    obtain ⟨_, o', ho', hn⟩ := hst'.mem hb
    rw [e] at ho'
    cases ho'
    obtain ⟨sl, q⟩ := k4 b o e hn
    exact ⟨sl, l4 b _ q hn⟩
  have there : ∀ b o, s.heap.get? b = some o → b ≠ x → b ≠ T → ∃ o', h₂.get? b = some o' := fun b o e n1 n2 => by
    by_cases hb : b ∈ X.env.locals :: X.fs
    · obtain ⟨sl, q⟩ := slotk b o hb e
      exact ⟨_, q⟩
    · exact ⟨o, stay b o (by rw [ebad, decide_eq_false n1, decide_eq_false hb, decide_eq_false n2]; rfl) e⟩
  refine k { s with heap := h₂ } (I.flown hst hfrm hex hfn S b2 stay slotk) ⟨fresh, free, fun b e => ?_, ?_⟩
  · by_cases n1 : b = x
    · rw [n1]; exact fresh
    · by_cases n2 : b = T
      · rw [n2]; exact T0
      · refine newer b ?_
        cases q : s.heap.get? b with
        | none => rfl
        | some o =>
          obtain ⟨o', q'⟩ := there b o q n1 n2
          have e : h₂.get? b = none := e
          rw [e] at q'
          cases q'
  · obtain ⟨oe', vs', T', oT', ts', e1, ⟨e2, e3⟩, e4, e5, e6, e7, e8, e9, e10⟩ := l3
    refine ⟨oe', vs', a0, T', oT', ts', e1, e2, e4, e3, e5, e7, ?_⟩
    have hh : h0.get? T' = none ∧ H T' = none := by
      rw [punch_get] at e6
      cases hb : bad T' with
      | true =>
        rcases b2 T' hb with z | ⟨z1, z2, _⟩
        · exfalso
          rw [← fs0] at z
          obtain ⟨_, o', ho', hn⟩ := l2.mem z
          rw [e8] at ho'
          cases ho'
          exact hn ts' e9
        · exact ⟨z1, z2⟩
      | false =>
        rw [hb] at e6
        have e6 : s.heap.get? T' = none := by simpa using e6
        refine ⟨newer T' e6, ?_⟩
        cases q : H T' with
        | none => rfl
        | some o =>
          obtain ⟨ob, q'⟩ := (I.hok T' o q).here
          rw [e6] at q'
          cases q'
    exact ⟨hh.1, hh.2, e8, e9, e10⟩
end
end L2
set_option Elab.async false
set_option linter.all false
set_option maxRecDepth 100000
set_option maxHeartbeats 1000000
namespace L2
open PySem PySem.Spec PyProof.Rows
section
variable {X : Cx} {pins : List (Addr × Obj)} {σ : St} {H : Hp} {s : Shared}
theorem call_try {k : Nat} {x : Str} {ps : List Str} {sp : Sp} {e : Expr} {es : List Expr} {t : TA} {p pos : Pos} {E : XK} {W : Value → Shared → Prop} {Q : VK} (C : CalleeE X.prog X.w X.K X.mg X.base k x ps sp) (hex : X.ex = []) (hr : Room k X.A) (hg : Gl X x) (ha : PA X.nox (e :: es) t)
    (I : Inv X pins σ H s) (h : t σ H fun vs H1 => sp vs H1 Q E) (hW : ∀ (H' : Hp) (s' : Shared) (h0 : Heap) (y : Addr) (C : Value), Inv X pins σ H' s' → Since X pins h0 → Xt h0 s'.heap H' y C → E C none H' → W (.ref y) s')
    (hdb : (x == ("__debug__" : Str)) = false := by decide) (he : starEach (e :: es) X.env = (false, eval e X.env) :: starEach es X.env := by rfl) (hpl : (backTo pos (starEach es X.env)).any (·.1) = false := by rfl) :
    wpAny (model X.prog X.w) X.A (eval (.Call (.Name x p) (e :: es) [] pos) X.env) (EP X pins σ Q) W s := by
  obtain ⟨f, fd, F, hm, hk, hb⟩ := C.ex
  refine wpAny_Call_Name_kw (ld_glob I hg hm ?_ hdb)
  refine PySem.W.callWith_K (h₀ := X.base) I.ok.mod.kin hk (wpAny_mono (ha pos pins s σ H _ (I.wish _) h) (fun us s1 ⟨vs, H1, I1', r, q⟩ => ?_) fun _ _ z => False.elim z) he hpl
  have I1 : Inv X pins σ H1 s1 := I1'.unwish
  refine ⟨I1.kIn, ?_⟩
  have q : sp vs H1 Q E := q
  have hl : us.length = ps.length := by rw [← r.length]; exact F.len _ _ _ _ q
  have hbb := hb s1 us I1.kIn (by rw [List.append_nil]; exact hl)
  rw [List.append_nil] at hbb
  refine wpAny_call (codeAny_mono (F.run X.A X.stack s1 H1 ⟨us, []⟩ us vs Q E hr I1.env0 hbb r q) fun r s' hq => ?_)
  cases r with
  | error e =>
    obtain ⟨y, C, H', rfl, os, bare, un, hok, xt, hE⟩ := hq
    exact hW H' s' s1.heap y C (I1.call' os un hok bare fun b z => absurd z List.not_mem_nil) ⟨I1.older hex, fun p hp z => by have := (I1.pin p hp).1; rw [z] at this; cases this⟩ xt hE
  | ok fl =>
    cases fl with
    | ret u => exact I1.after hq
    | next => exact False.elim hq
    | brk => exact False.elim hq
    | cont => exact False.elim hq
theorem flight {M : Model} {A : Around} {Q : Unit → Shared → Prop} {E : Value → Shared → Prop} (I : Inv X pins σ H s) (hst : X.stack = X.env :: X.outer) (hfrm : X.env.frame = some X.env.locals) (hex : X.ex = []) (hfn : ∀ x, X.fn x = true) {h0 : Heap} (S : Since X pins h0) {x : Addr} {C : Value} (xt : Xt h0 s.heap H x C)
    (k : ∀ s', Inv X pins σ H s' → Xt h0 s'.heap H x C → Q () s') : wpAny M A (setFlight (.ref x) none) Q E s := by
  obtain ⟨fresh, free, newer, oe, vs, a0, T, oT, ts, hx, hcls, hd, h0', h1, hTx, T0, HT, hT, hdT, h3⟩ := xt
  have hst' := I.stack
  rw [hst] at hst'
  have fs0 : frs (X.env :: X.outer) = X.env.locals :: X.fs := by unfold frs; rw [List.filterMap_cons, hfrm]; rfl
  obtain ⟨bad, ebad⟩ : ∃ bad : Addr → Bool, ∀ b, bad b = (decide (b = x) || (decide (b ∈ X.env.locals :: X.fs) || decide (b = T))) := ⟨_, fun _ => rfl⟩
  have f0 : ∀ L ∈ frs (X.env :: X.outer), (punch s.heap bad).get? L = none := fun L hL => by
    rw [fs0] at hL
    rw [punch_get, ebad, decide_eq_true hL, Bool.true_or, Bool.or_true]; rfl
  have b2 : ∀ b, bad b = true → b ∈ X.env.locals :: X.fs ∨ (h0.get? b = none ∧ H b = none ∧ ∃ o vs, s.heap.get? b = some o ∧ o.data = .fields vs) := fun b hb => by
    rw [ebad, Bool.or_eq_true, Bool.or_eq_true, decide_eq_true_eq, decide_eq_true_eq, decide_eq_true_eq] at hb
    rcases hb with z | z | z
    · rw [z]; exact .inr ⟨fresh, free, _, _, hx, hd⟩
    · exact .inl z
    · rw [z]; exact .inr ⟨T0, HT, _, _, hT, hdT⟩
  have pst : (punch s.heap bad).StaysIn s.heap := fun b o e => by
    rw [punch_get] at e
    split at e
    · cases e
    · exact e
  subst hcls
  refine wpAny_setFlight_noneW (base := punch s.heap bad) (cls := oe.cls) (a0 := a0) (fl := .none) pst (frames_other hst' f0) ⟨oe, vs, T, oT, ts, hx, ⟨rfl, h0'⟩, hd, h1, by rw [punch_get, ebad]; simp, hTx, hT, hdT, h3⟩ fun h₂ l1 l2 l3 l4 => ?_
  have stay : ∀ b o, bad b = false → s.heap.get? b = some o → h₂.get? b = some o := fun b o hb e => l1 b o (by rw [punch_get, hb]; simpa using e)
  have slotk : ∀ b o, b ∈ X.env.locals :: X.fs → s.heap.get? b = some o → ∃ sl, h₂.get? b = some { o with slots := sl } := fun b o hb e => by
    rw [← fs0] at hb
    obtain ⟨_, o', ho', hn⟩ := hst'.mem hb
    rw [e] at ho'
    cases ho'
    exact ⟨o.slots, l4 b _ e hn⟩
  have there : ∀ b o, s.heap.get? b = some o → b ≠ x → b ≠ T → ∃ o', h₂.get? b = some o' := fun b o e n1 n2 => by
    by_cases hb : b ∈ X.env.locals :: X.fs
    · obtain ⟨sl, q⟩ := slotk b o hb e
      exact ⟨_, q⟩
    · exact ⟨o, stay b o (by rw [ebad, decide_eq_false n1, decide_eq_false hb, decide_eq_false n2]; rfl) e⟩
  refine k { s with heap := h₂ } (I.flown hst hfrm hex hfn S b2 stay slotk) ⟨fresh, free, fun b e => ?_, ?_⟩
  · by_cases n1 : b = x
    · rw [n1]; exact fresh
    · by_cases n2 : b = T
      · rw [n2]; exact T0
      · refine newer b ?_
        cases q : s.heap.get? b with
        | none => rfl
        | some o =>
          obtain ⟨o', q'⟩ := there b o q n1 n2
          have e : h₂.get? b = none := e
          rw [e] at q'
          cases q'
  · obtain ⟨oe', vs', T', oT', ts', e1, ⟨e2, e3⟩, e4, e5, e6, e7, e8, e9, e10⟩ := l3
    refine ⟨oe', vs', a0, T', oT', ts', e1, e2, e4, e3, e5, e7, ?_⟩
    have hh : h0.get? T' = none ∧ H T' = none := by
      rw [punch_get] at e6
      cases hb : bad T' with
      | true =>
        rcases b2 T' hb with z | ⟨z1, z2, _⟩
        · exfalso
          rw [← fs0] at z
          obtain ⟨_, o', ho', hn⟩ := l2.mem z
          rw [e8] at ho'
          cases ho'
          exact hn ts' e9
        · exact ⟨z1, z2⟩
      | false =>
        rw [hb] at e6
        have e6 : s.heap.get? T' = none := by simpa using e6
        refine ⟨newer T' e6, ?_⟩
        cases q : H T' with
        | none => rfl
        | some o =>
          obtain ⟨ob, q'⟩ := (I.hok T' o q).here
          rw [e6] at q'
          cases q'
    exact ⟨hh.1, hh.2, e8, e9, e10⟩
def ExcO (x : Addr) (C : Value) : HO := .ext fun h => ∃ o, h.get? x = some o ∧ o.cls = C
theorem Inv.track (I : Inv X pins σ H s) (hst : X.stack = X.env :: X.outer) (hfrm : X.env.frame = some X.env.locals) (hex : X.ex = []) {h0 : Heap} (S : Since X pins h0) {x : Addr} {C : Value} (xt : Xt h0 s.heap H x C) : Inv X pins σ (upd H x (ExcO x C)) s := by
  obtain ⟨fresh, free, newer, oe, vs, a0, T, oT, ts, hx, hcls, hd, _⟩ := xt
  have fs0 : frs X.stack = X.env.locals :: X.fs := by rw [hst]; unfold frs; rw [List.filterMap_cons, hfrm]; rfl
  have hfr : x ∉ X.env.locals :: X.fs := fun z => by
    rw [← fs0] at z
    obtain ⟨_, o', ho', hn⟩ := I.stack.mem z
    rw [hx] at ho'
    cases ho'
    exact hn vs hd
  have s0 : ∀ b o, X.s₀.heap.get? b = some o → b ≠ x := fun b o e z => by rw [z, S.old x fresh] at e; cases e
  refine ⟨I.ok, I.os, I.bare, ⟨I.base.keep, I.base.slot, fun b o e n hb => ?_, I.base.there, fun b xs e => ?_, fun b o u e => ?_, fun b ps e => ?_⟩, I.loc, I.cell, ?_, fun y c e => ?_, fun p hp => ?_, fun a o e => ?_, I.len⟩
  · rw [upd_ne (s0 b o e)]; exact I.base.free b o e n hb
  · have := I.base.tups b xs e
    rw [upd_ne (ne_of_none this free)]; exact this
  · have := I.base.frzs b o u e
    rw [upd_ne (ne_of_none this free)]; exact this
  · obtain ⟨more, q⟩ := I.base.tbls b ps e
    exact ⟨more, by rw [upd_ne (ne_of_none q free)]; exact q⟩
  · have hn : X.env.locals ≠ x := fun z => hfr (by rw [← z]; exact List.mem_cons_self ..)
    rw [upd_ne hn]; exact I.free
  · have hc : c ≠ x := fun z => by
      obtain ⟨v, o, ho, hd'⟩ := I.cell y c e
      rw [z, hx] at ho
      cases ho
      rw [hd] at hd'
      cases hd'
    rw [upd_ne hc]; exact I.freeC y c e
  · obtain ⟨p1, p2, p3⟩ := I.pin p hp
    have : p.1 ≠ x := fun z => S.pin p hp (by rw [z]; exact fresh)
    exact ⟨p1, by rw [upd_ne this]; exact p2, p3⟩
  · by_cases z : a = x
    · subst z
      rw [upd_same] at e
      cases e
      exact ⟨⟨oe, hx, hcls⟩, ⟨oe, hx⟩, fun h1 h2 ⟨o, q1, q2⟩ kk => ⟨o, kk o q1, q2⟩⟩
    · rw [upd_ne z] at e
      refine (I.hok a o e).stay (fun b u _ q => q) (fun b q => ?_) (fun b xs q => ?_)
      · rw [upd_ne (ne_of_none q free)]; exact q
      · rw [upd_ne (ne_of_none q free)]; exact q
end
end L2
set_option Elab.async false
set_option linter.all false
set_option maxRecDepth 100000
set_option maxHeartbeats 1000000
namespace L2
open PySem PySem.Spec PyProof.Rows
section
variable {M : Model} {A : Around} {E : Value → Shared → Prop}
variable {nm q nm' q' : Str} {C N D N' : Addr} {bs bm bs' bm' : List Value} {hdct hdct' : Bool} {sn sn' : List Str} {sub sub' : List Value} {ab ab' : Bool} {col col' : Option Bool} {dd dd' : Option Addr} {k0 k1 k2 k3 k5 l0 l1 l2 l3 l5 : Option Value} {newId newId' : String}
theorem matches_under {h : Heap} {g : Array GenState} {d : Drawn} {t : Nat} {os : OsState} {e : Addr} {oe : Obj} {Q : Bool → Shared → Prop}
    (hC : h.get? C = some (excClassObj nm q C N bs bm hdct sn sub ab col dd k0 k1 k2 k3 k5 newId)) (hD : h.get? D = some (excClassObj nm' q' D N' bs' bm' hdct' sn' sub' ab' col' dd' l0 l1 l2 l3 l5 newId')) (he : h.get? e = some oe) (hcls : oe.cls = .ref C)
    (hin : (Value.ref C :: bm).contains (.ref D) = true) (hbase : bm'.contains (.type "BaseException") = true) (hq : Q true ⟨h, g, d, t, os⟩) : wpAny M A (excMatches (.ref e) (.ref D)) Q E ⟨h, g, d, t, os⟩ := by
  have hcB : (Value.ref D :: bm').contains (.type "BaseException") = true := by rw [List.contains_cons, hbase, Bool.or_true]
  have f := tc_notTuple
  unfold excMatches
  repeat (first | (with_reducible refine wpAny_loadPart_at he ?_; rw [hcls]) | with_reducible refine wpAny_loadPart_at hD ?_ | (with_reducible refine wpAny_isSubtype_exc hD ?_; rw [hcB]) | (with_reducible refine wpAny_isSubtype_exc hC ?_; rw [hin]) | wp_step)
  exact hq
end
section
variable {X : Cx} {pins : List (Addr × Obj)} {σ : St} {H : Hp} {s : Shared}
theorem name_goes {M : Model} {A : Around} {E : Value → Shared → Prop} {i : Nat} {n : Str} {pos : Pos} {Q : Unit → Shared → Prop} (I : Inv X pins σ H s) (hN : X.N.Nodup) (hi : X.N[i]? = some n) (hk : X.env.scope.names.lookup n = some .local)
    (h : ∀ s', Inv X pins (σ.set i none) H s' → Q () s') : wpAny M A (do bindName X.env n .none; unbindBehindTheSuite X.env n pos) Q E s := by
  have hcls : (X.env.scope.kind == .class || (X.env.scope.kind == .module && X.env.locals != X.env.globals)) = false := by rw [I.ok.kind]; rfl
  have hiσ : i < σ.length := by rw [I.len]; exact (List.getElem?_eq_some_iff.mp hi).1
  refine wpAny_bind (wpAny_bindName (store_ok I hN hi (.inl hk) (show RelV .non Value.none from rfl) (fun s1 I1 => ?_) (.inr hk)))
  unfold unbindBehindTheSuite
  refine wpAny_onRaise ?_
  obtain ⟨m, hn, hl⟩ := id I1.loc
  obtain ⟨u0, ru0, hu0⟩ := hl i n .non hi (by rw [List.getElem?_set_self hiσ]) (.inl hk)
  cases ru0
  have hm : m n = some Value.none := by
    rcases hu0 with ⟨_, z⟩ | ⟨z, _⟩
    · exact z
    · exfalso
      have hk' : X.env.kindOf n = some .local := hk
      rw [hk'] at z
      rcases z with z | z <;> cases z
  refine wpAny_unbindName_local hk hn hm hcls fun h' u hn' hs => ?_
  have neL : ∀ b o, X.s₀.heap.get? b = some o → b ≠ X.env.locals := fun b o e => Nat.ne_of_lt (Nat.lt_of_lt_of_le (Heap.lt_size e) I.ok.above)
  refine h _ ⟨I1.ok, I1.os, I1.bare, ⟨fun b o e n hb hx => (hs.2 b (neL b o e)).trans (I1.base.keep b o e n hb hx), fun b o e n hb hx => ?_, I1.base.free, fun b o e hx => ?_, I1.base.tups, I1.base.frzs, I1.base.tbls⟩, ⟨_, hn', fun j y v' e1 e2 e3 => ?_⟩, fun y c e => ?_, I1.free, I1.freeC, fun p hp => ?_, fun a ob e => ?_, by rw [List.length_set]; exact I.len⟩
  · obtain ⟨sl, e1⟩ := I1.base.slot b o e n hb hx
    exact ⟨sl, (hs.2 b (neL b o e)).trans e1⟩
  · obtain ⟨o', e1⟩ := I1.base.there b o e hx
    exact ⟨o', (hs.2 b (neL b o e)).trans e1⟩
  · by_cases hj : j = i
    · subst hj
      rw [List.getElem?_set_self hiσ] at e2
      cases e2
    · rw [List.getElem?_set_ne (Ne.symm hj)] at e2
      obtain ⟨u', r', q⟩ := hl j y v' e1 (by rw [List.getElem?_set_ne (Ne.symm hj)]; exact e2) e3
      refine ⟨u', r', ?_⟩
      rcases q with ⟨k, e⟩ | ⟨k, c, e, z⟩
      · refine .inl ⟨k, ?_⟩
        have : y ≠ n := fun e => hj (nodup_ix hN e1 (e ▸ hi))
        simp [this, e]
      · exact .inr ⟨k, c, e, z.sameBut hs (I1.cne y c e)⟩
  · obtain ⟨w', z⟩ := I1.cell y c e
    exact ⟨w', z.sameBut hs (I1.cne y c e)⟩
  · obtain ⟨e, n, ne, nf, d⟩ := I1.pin p hp
    exact ⟨(hs.2 p.1 ne).trans e, n, ne, nf, d⟩
  · refine (I1.hok a ob e).stay (fun c w' hc q => (hs.2 c ?_).trans q) (fun _ q => q) fun _ _ q => q
    rintro rfl
    rcases hc with rfl | hc
    · rw [I1.free] at e; cases e
    · rw [I1.free] at hc; cases hc
abbrev Cx.held (X : Cx) (x : Addr) : Cx := { X with A := X.A.mark (some (.ref x)), calm := false, xe := fun _ _ => False }
theorem Inv.held (I : Inv X pins σ H s) (x : Addr) : Inv (X.held x) pins σ H s :=
  ⟨⟨I.ok.mod, I.ok.kind, I.ok.glob, I.ok.blt, I.ok.above, I.ok.inj, I.ok.has, I.ok.cab, (fun z => nomatch z), I.ok.frames, I.ok.stk, I.ok.exf, I.ok.bs, I.ok.bsz, I.ok.noex, I.ok.exfs, I.ok.funs, I.ok.frf⟩, I.os, I.bare, I.base, I.loc, I.cell, I.free, I.freeC, I.pin, I.hok, I.len⟩
theorem Inv.unheld {x : Addr} (ok : X.Ok) (I : Inv (X.held x) pins σ H s) : Inv X pins σ H s := ⟨ok, I.os, I.bare, I.base, I.loc, I.cell, I.free, I.freeC, I.pin, I.hok, I.len⟩
def UnderK (K : PySem.W.Frag) (C D : Addr) : Prop := ∀ h : Heap, K.In h → ∃ bm N nm q bs hdct sn sub ab col dd k0 k1 k2 k3 k5 newId, h.get? C = some (excClassObj nm q C N bs bm hdct sn sub ab col dd k0 k1 k2 k3 k5 newId) ∧ (Value.ref C :: bm).contains (.ref D) = true
def tTryAs (K : PySem.W.Frag) (Dc : Addr) (i : Nat) (sp : Sp) (t : TA) (ts : TS) : TS := fun D σ H => t σ H fun vs H1 => sp vs H1 (fun _ H2 => D.nx σ H2)
  fun C _ H2 => ∃ Ca, C = .ref Ca ∧ UnderK K Ca Dc ∧ ∀ x, H2 x = none → ts { nx := fun σ' H' => D.nx (σ'.set i none) H', rt := fun _ _ => False } (σ.set i (some (.ref x))) (upd H2 x (ExcO x C))
theorem ps_tryAs {k i : Nat} {x dn n : Str} {Dc : Addr} {ps : List Str} {sp : Sp} {e : Expr} {es : List Expr} {t : TA} {ts : TS} {b₀ : Stmt} {suite : List Stmt} {p cpos epos np hpos pos : Pos} (hD : ExcC X.K X.mg dn Dc) (hgD : Gl X dn) (C : CalleeE X.prog X.w X.K X.mg X.base k x ps sp) (hst : X.stack = X.env :: X.outer) (hfrm : X.env.frame = some X.env.locals) (hex : X.ex = []) (hfn : ∀ x, X.fn x = true)
    (hr : Room k X.A) (hg : Gl X x) (ha : PA X.nox (e :: es) t) (hN : X.N.Nodup) (hi : X.N[i]? = some n) (hk : X.env.scope.names.lookup n = some .local) (hs : ∀ y, PSs (X.held y) (b₀ :: suite) ts) (hdb : (x == ("__debug__" : Str)) = false := by decide) (hdd : (dn == ("__debug__" : Str)) = false := by decide)
    (he : starEach (e :: es) X.env = (false, eval e X.env) :: starEach es X.env := by rfl) (hpl : (backTo cpos (starEach es X.env)).any (·.1) = false := by rfl) (hsw : swapsWith (.Call (.Name x p) (e :: es) [] cpos) none epos.line X.env = pure false := by rfl) :
    PS X (.Try [.Expr (.Call (.Name x p) (e :: es) [] cpos) epos] [.ExceptHandler (some (.Name dn np)) (some n) (b₀ :: suite) hpos] [] [] pos) (tTryAs X.K Dc i sp t ts) := by
  intro pins s σ H D I h
  refine wpAny_Try_except (wpAny_execs_cons (wpAny_Expr_any (wpAny_mono (call_try (E := fun C _ H2 => ∃ Ca, C = .ref Ca ∧ UnderK X.K Ca Dc ∧ ∀ x, H2 x = none → ts { nx := fun σ' H' => D.nx (σ'.set i none) H', rt := fun _ _ => False } (σ.set i (some (.ref x))) (upd H2 x (ExcO x C))) C hex hr hg ha I h (fun H' s' h0 y Cy I' S xt hE => ?_) hdb he hpl) (fun v s1 ⟨z, H1, I1, r1, q1⟩ => ?_) fun _ _ z => z) I.quiet hsw))
  · -- it raised
    obtain ⟨Ca, rfl, U, hE⟩ := hE
    refine caught I' hst hfrm hex hfn S xt fun s3 I3 xt3 => ?_
    refine wpAny_handleBy_cons (codeAny_handlers_test (ld_glob (X := X.held y) (I3.held y) hgD hD.bound ?_ hdd)) (by intro q; cases q)
    obtain ⟨bm, N, nm, q, bs, hdct, sn, sub, ab, col, dd, k0, k1, k2, k3, k5, newId, hC, hin⟩ := U s3.heap I3.kIn
    obtain ⟨bm', N', nm', q', bs', hdct', sn', sub', ab', col', dd', l0, l1, l2, l3, l5, mN, hDo, _, _, T⟩ := hD.obj s3.heap I3.kIn
    obtain ⟨oe, vs, a0, _, _, _, hx, hcls, _⟩ := id xt3.obj
    have hbase : bm'.contains (.type "BaseException") = true := T.hasType PySem.F.excBase_ValueError.hasBase
    have fin : codeAny (model X.prog X.w) (X.A.mark (some (.ref y))) (.handlers (.ref y) [.ExceptHandler none (some n) (b₀ :: suite) hpos] X.env) (fun r s₂ => match r with
        | .ok f => wpAny (model X.prog X.w) X.A (do bindName X.env n .none; unbindBehindTheSuite X.env n hpos) (fun _ s₃ => SP X pins D f s₃) X.xe s₂
        | .error x => cameBackBy (model X.prog X.w) X.A X.env X.xe x s₂) s3 := by
      refine codeAny_handlers_suite_as (flight (A := X.A.mark _) I3 hst hfrm hex hfn S xt3 fun s4 I4 xt4 => ?_)
      refine store_ok (I4.track hst hfrm hex S xt4) hN hi (.inl hk) (show RelV (.ref y) (.ref y) from rfl) (fun s5 I5 => ?_) (.inr hk)
      refine wpAny_mono (hs y pins s5 _ _ _ (I5.held y) (hE y xt.free)) (fun f s6 q => ?_) fun _ _ z => False.elim z
      cases f with
      | next =>
        obtain ⟨σ', H'', I6, q⟩ := q
        exact name_goes (I6.unheld I.ok) hN hi hk fun s7 I7 => ⟨_, _, I7, q⟩
      | ret v => obtain ⟨_, _, _, _, _, q⟩ := q; exact False.elim q
      | brk => obtain ⟨_, _, _, q⟩ := q; exact False.elim q
      | cont => obtain ⟨_, _, _, q⟩ := q; exact False.elim q
    obtain ⟨hh, g, d, tk, os⟩ := s3
    exact matches_under hC hDo hx hcls hin hbase fin
  · -- it came back
    exact wpAny_execs_nil (wpAny_execs_nil ⟨σ, H1, I1, q1⟩)
end
end L2
set_option Elab.async false
set_option linter.all false
set_option maxRecDepth 100000
set_option maxHeartbeats 1000000
namespace L2
open PySem PySem.Spec PyProof.Rows PySem.W PySem.Builtin PySem.Builtin.ObjectAttr PySem.Builtin.Getset_descriptor
section
variable {prog : Program} {w : World} {A : Around} {E : Value → Shared → Prop} {s : Shared} {K : PySem.W.Frag} {x D : Addr} {ox : Obj}
theorem looks_cls {M : Model} {h : Heap} (hx : h.get? x = some ox) (hc : ox.cls = .ref D) : Looks M h (typeOf (.ref x)) (.ref D) := hc ▸ (Looks.ld hx).andThen .now
theorem class_getE {R : Result → Shared → Prop} {tp : Value} (X : K.In s.heap) (hx : s.heap.get? x = some ox) (hc : ox.cls = .ref D) (hm : mroIn K D (.type "object") = some true)
    (h : R (.ok (.ret (.ref D))) s) : codeAny (model prog w) A (.call (.builtin "getset_descriptor.__get__") ⟨[.builtin "object.__class__", .ref x, tp], []⟩) R s := by
  obtain ⟨hh, g, dr, t, os⟩ := s
  have L0 := looks_cls (M := model prog w) hx hc
  have L1 := looks_mroIn (M := model prog w) X hm
  refine codeAny_call_builtin KF.slot_gs.plain KF.entry_gs (KF.slot_gs.check _ _ _ _ _ _ _ _ KF.type_class (KF.args_gs _ _ _) ?_)
  unfold Builtin.«getset_descriptor.__get__» descrGet
  rw [dga_obj]
  refine wpAny_bind (wpAny_pure ?_)
  unfold descrGetter descrCheckInstance descrNameAndClass isInstance
  simp only [KF.owner_class]
  repeat lk
  refine ⟨Code.quiet_builtin _ (by decide +kernel), codeAny_builtin KF.entry_class ?_⟩
  unfold Builtin.«object.__class__» shownTypeOf
  repeat lk
  exact h
theorem cls_entry {tk : Tok} {Q : Fin → Shared → Prop} (X : K.In s.heap) (hx : s.heap.get? x = some ox) (hc : ox.cls = .ref D) (hm : mroIn K D (.type "object") = some true) (hcl : findIn K (.ref D) "__class__" = some (some (.builtin "object.__class__")))
    (hq : Q (.done (.ret (.ref D))) s) : wpAny (model prog w) A (Builtin.«object.__getattribute__» ⟨[.ref x, .str "__class__" tk], []⟩) Q E s := by
  obtain ⟨h, g, d, t, os⟩ := s
  have L1 := looks_findIn (M := model prog w) X hcl
  have f5 := F.typeOf_object_class
  have f6 := F.slot_gs_get.lookup
  have f7 := F.slot_gs_set.lookup
  repeat (any_goals (first | assumption | (with_reducible refine wpAny_loadPart_at hx ?_; rw [hc]) | with_reducible refine L1.at ?_ | wp_step))
  refine class_getE (s := ⟨h, g, d, t, os⟩) X hx hc hm ?_
  exact wpAny_pure hq
theorem check_gaE {M : Model} {nameV : Value} {Q : Unit → Shared → Prop} (X : K.In s.heap) (hx : s.heap.get? x = some ox) (hc : ox.cls = .ref D) (hmB : mroIn K D (.type "BaseException") = some true) (hq : Q () s) :
    wpAny M A (checkBuiltinCall "BaseException.__getattribute__" ⟨[.ref x, nameV], []⟩) Q E s := by
  obtain ⟨h, g, d, t, os⟩ := s
  have hk : builtinKind "BaseException.__getattribute__" = some .slot := by decide +kernel
  have hsplit : splitId "BaseException.__getattribute__" = some ("BaseException", "__getattribute__") := by decide +kernel
  have L1 := looks_mroIn (M := M) X hmB
  have ha := F.args_bexc_ga (.ref x) nameV
  simp only [checkBuiltinCall, hk, hsplit]
  refine wpAny_bind ?_
  · unfold isInstance
    repeat (first | (with_reducible refine wpAny_loadPart_at hx ?_; rw [hc]) | with_reducible refine L1.at ?_ | wp_step)
    exact hq
theorem cls_by {tk : Tok} {fill : Bool} {Q : Value → Shared → Prop} (X : K.In s.heap) (hx : s.heap.get? x = some ox) (hc : ox.cls = .ref D) (hm : mroIn K D (.type "object") = some true) (hmB : mroIn K D (.type "BaseException") = some true) (hcl : findIn K (.ref D) "__class__" = some (some (.builtin "object.__class__")))
    (hga : findIn K (.ref D) "__getattribute__" = some (some (.builtin "BaseException.__getattribute__"))) (hgn : findIn K (.ref D) "__getattr__" = some none) (hq : Q (.ref D) s) :
    wpAny (model prog w) A (getAttrBy (.ref x) (.str "__class__" tk) fill false) Q E s := by
  obtain ⟨h, g, d, t, os⟩ := s
  have f3 := PySem.F.attr_ValueError.ga.bind (.ref x)
  have hx2 : (Value.builtin "BaseException.__getattribute__" == Value.builtin "object.__getattribute__") = false := by decide +kernel
  have hx1 : (onTheHeap (Value.ref D) && Value.builtin "BaseException.__getattribute__" == Value.builtin "object.__getattribute__") = false := by rw [hx2]; rfl
  have L1 := looks_findIn (M := model prog w) X hga
  have L2 := looks_findIn (M := model prog w) X hgn
  repeat (any_goals (first | assumption | (with_reducible refine wpAny_loadPart_at hx ?_; rw [hc]) | with_reducible refine L1.at ?_ | with_reducible refine L2.at ?_ | wp_step))
  refine codeAny_call_builtin PySem.F.attr_ValueError.ga.plain F.entry_bexc_ga (check_gaE (s := ⟨h, g, d, t, os⟩) X hx hc hmB (cls_entry (s := ⟨h, g, d, t, os⟩) X hx hc hm hcl ?_))
  repeat (any_goals (first | assumption | wp_step))
theorem cls_attr {Q : Option Value → Shared → Prop} (X : K.In s.heap) (hx : s.heap.get? x = some ox) (hc : ox.cls = .ref D) (hm : mroIn K D (.type "object") = some true) (hmB : mroIn K D (.type "BaseException") = some true) (hcl : findIn K (.ref D) "__class__" = some (some (.builtin "object.__class__")))
    (hga : findIn K (.ref D) "__getattribute__" = some (some (.builtin "BaseException.__getattribute__"))) (hgn : findIn K (.ref D) "__getattr__" = some none) (hq : Q (some (.ref D)) { s with toks := s.toks + 1 }) :
    wpAny (model prog w) A (getAttr? (.ref x) "__class__") Q E s := by
  obtain ⟨h, g, d, t, os⟩ := s
  unfold getAttr? getAttrBy?
  refine wpAny_bind (wpAny_mkText (wpAny_bind (wpAny_attempt (cls_by (s := ⟨h, g, d, t + 1, os⟩) X hx hc hm hmB hcl hga hgn ?_))))
  exact wpAny_pure hq
end
end L2
set_option Elab.async false
set_option linter.all false
set_option maxRecDepth 100000
set_option maxHeartbeats 1000000
namespace L2
open PySem PySem.Spec PyProof.Rows
structure ExcT (K : PySem.W.Frag) (D : Addr) : Prop where
  cl : (PySem.W.clsIn K D).isSome = true
  obj : PySem.W.mroIn K D (.type "object") = some true
  bas : PySem.W.mroIn K D (.type "BaseException") = some true
  get : PySem.W.findIn K (.ref D) "__class__" = some (some (.builtin "object.__class__"))
  gat : PySem.W.findIn K (.ref D) "__getattribute__" = some (some (.builtin "BaseException.__getattribute__"))
  gno : PySem.W.findIn K (.ref D) "__getattr__" = some none
theorem kitx_exc {K : PySem.W.Frag} {x D : Addr} (T : ExcT K D) : PySem.W.KitX K (.ref x) (.ref D) (fun h => ∃ o, h.get? x = some o ∧ o.cls = .ref D) where
  ty := fun _ _ _ ⟨o, hx, hc⟩ => looks_cls hx hc
  it := fun _ _ X _ => by
    obtain ⟨cd, hcd⟩ := Option.isSome_iff_exists.mp T.cl
    unfold PySem.W.clsIn at hcd
    split at hcd
    · rename_i ho
      intro A' Q' E' s' k q
      unfold isType loadHead
      exact wpAny_bind (wpAny_loadPart (k _ _ (X _ _ ho)) (wpAny_pure q))
    · cases hcd
  ne := fun h tp dd its n sl X htp => by
    obtain ⟨cd, hcd⟩ := Option.isSome_iff_exists.mp T.cl
    refine Bool.eq_false_iff.mpr fun q => ?_
    have e : D = tp := Value.ref.inj (beq_iff_eq.mp q)
    subst e
    unfold PySem.W.clsIn at hcd
    split at hcd
    · rename_i ho
      have z := (X _ _ ho).symm.trans htp
      cases z
    · cases hcd
  ca := fun X ⟨o, hx, hc⟩ k => cls_attr X hx hc T.obj T.bas T.get T.gat T.gno k
def clsV : V → Option Value
  | .ref C => some (.ref C)
  | .ty T => some (.type T)
  | _ => none
theorem clsV_rel {c : V} {u v : Value} (h : clsV c = some u) (r : RelV c v) : v = u := by
  cases c with
  | ref C => cases h; exact r
  | ty T => cases h; exact r
  | _ => cases h
theorem clsVs_rel : ∀ {cs : List V} {us vs : List Value}, cs.mapM clsV = some us → Vals cs vs → vs = us
  | [], us, _, h, .nil => by
    have : some [] = some us := by simpa using h
    cases this; rfl
  | c :: cs, us, _, h, .cons r t => by
    rw [List.mapM_cons] at h
    cases e : clsV c with
    | none => rw [e] at h; cases h
    | some u =>
      cases e2 : cs.mapM clsV with
      | none => rw [e, e2] at h; cases h
      | some us' =>
        rw [e, e2] at h
        have h : some (u :: us') = some us := h
        cases h
        rw [clsV_rel e r, clsVs_rel e2 t]
section
variable {X : Cx}
inductive Got (X : Cx) (H : Hp) : V → Value → Prop where
  | no : Got X H .non (.type "NoneType")
  | yes {x D : Addr} (e : H x = some (ExcO x (.ref D))) (t : ExcT X.K D) : Got X H (.ref x) (.ref D)
theorem call_isiE : CallR X (.builtin "isinstance") (fun xs H Q => ∃ (x c : V) (t u : Value) (b : Bool), xs = [x, c] ∧ Got X H x t ∧ clsV c = some u ∧ PySem.W.kitOne X.K t u = some b ∧ Q (.bl b) H) := by
  intro pins s σ H xs us Q I r h
  obtain ⟨x, c, t, u, b, rfl, g, hc, e, q⟩ := h
  obtain ⟨u1, u2, rfl, r1, r2⟩ := Vals.two r
  have := clsV_rel hc r2
  subst this
  cases g with
  | no => exact isinst_ok I r1 .non e fun tk => ⟨.bl b, H, I.tok tk, rfl, q⟩
  | @yes x D ex T =>
    cases r1
    obtain ⟨⟨o, ho, hcl⟩, _⟩ := (show ObjOk X.prog X.w H s.heap x (ExcO x (.ref D)) from I.hok x _ ex)
    exact PySem.W.kia_one (kitx_exc T) I.kIn ⟨o, ho, hcl⟩ e (fun z => nomatch z) fun tk => ⟨.bl b, H, I.tok tk, rfl, q⟩
theorem call_isiET : CallR X (.builtin "isinstance") (fun xs H Q => ∃ (x : V) (p : Addr) (cs : List V) (t : Value) (us : List Value) (b : Bool), xs = [x, .ref p] ∧ H p = some (.tup cs) ∧ Got X H x t ∧ cs.mapM clsV = some us ∧ PySem.W.kitAny X.K t us = some b ∧ Q (.bl b) H) := by
  intro pins s σ H xs us Q I r h
  obtain ⟨x, p, cs, t, ws, b, rfl, hp, g, hc, e, q⟩ := h
  obtain ⟨u1, u2, rfl, r1, r2⟩ := Vals.two r
  cases r2
  obtain ⟨_, its, rv, ⟨⟨c, dd, dt, sl⟩, h1, h2, n, h3⟩⟩ := (show ObjOk X.prog X.w H s.heap p (.tup cs) from I.hok p _ hp)
  have ei := clsVs_rel hc rv
  subst ei
  replace h2 : c = .type "tuple" := h2
  replace h3 : dt = .seq its.toArray n := h3
  subst h2 h3
  cases g with
  | no => exact isinstT_ok I r1 .non h1 e fun tk => ⟨.bl b, H, I.tok tk, rfl, q⟩
  | @yes x D ex T =>
    cases r1
    obtain ⟨⟨o, ho, hcl⟩, _⟩ := (show ObjOk X.prog X.w H s.heap x (ExcO x (.ref D)) from I.hok x _ ex)
    exact PySem.W.kia_tup (kitx_exc T) I.kIn ⟨o, ho, hcl⟩ h1 e (fun z => nomatch z) fun tk => ⟨.bl b, H, I.tok tk, rfl, q⟩
end
theorem exc_obj {K : PySem.W.Frag} {C : Addr} {bmB : List Value} {newId : String} (q : PySem.W.excIn K C bmB newId = true) :
    ∀ h : Heap, K.In h → ∃ bm N nm q bs hdct sn sub ab col dd k0 k1 k2 k3 k5 mN, h.get? C = some (excClassObj nm q C N bs bm hdct sn sub ab col dd k0 k1 k2 k3 k5 newId) ∧ h.Ns N mN ∧ mN "__init__" = none ∧ OwnTail h bmB bm ∧ (∀ v : Value, PySem.W.mroIn K C v = some true → (Value.ref C :: bm).contains v = true) := by
  intro h X
  unfold PySem.W.excIn at q
  split at q
  · rename_i dd cd sl ho
    split at q
    · rename_i C' bm k0 k1 k2 k3 n k5 hm hs
      simp only [Bool.and_eq_true, beq_iff_eq, Bool.not_eq_true'] at q
      obtain ⟨⟨⟨⟨⟨rfl, rfl⟩, hdel⟩, ht⟩, hok⟩, hni⟩ := q
      have hmr : ∀ v : Value, PySem.W.mroIn K C' v = some true → (Value.ref C' :: bm).contains v = true := fun v hv => by
        unfold PySem.W.mroIn PySem.W.clsIn at hv
        rw [ho] at hv
        simp only [Option.bind_some] at hv
        split at hv
        · cases hv
        · rw [hm] at hv
          exact Option.some.inj hv
      obtain ⟨nm, bs, mro, ns, qn, hd, sn, sub, ab, col, del⟩ := cd
      dsimp only at hm hdel hok hni
      subst hm hdel
      have hsl : sl = #[k0, k1, k2, k3, some (.builtin n), k5] := by
        obtain ⟨l⟩ := sl
        simp only at hs
        rw [hs]
      subst hsl
      exact ⟨bm, ns, nm, qn, bs, hd, sn, sub, ab, col, dd, k0, k1, k2, k3, k5, _, X _ _ ho, .of_isNs (PySem.W.isNs_of_in X hok), PySem.W.nsMap_none_of_in X hok hni, PySem.W.tail_of_in X ht, hmr⟩
    · cases q
  · cases q
abbrev bmVE : List Value := [.type "ValueError", .type "Exception", .type "BaseException", .type "object"]
theorem excC_mk {K : PySem.W.Frag} {mg : Str → Option Value} {x : Str} {C : Addr} (b : mg x = some (.ref C)) (q : PySem.W.excIn K C bmVE "ValueError.__new__" = true) : ExcC K mg x C :=
  ⟨b, fun h X => let ⟨bm, N, nm, q, bs, hdct, sn, sub, ab, col, dd, k0, k1, k2, k3, k5, mN, a1, a2, a3, a4, _⟩ := exc_obj q h X; ⟨bm, N, nm, q, bs, hdct, sn, sub, ab, col, dd, k0, k1, k2, k3, k5, mN, a1, a2, a3, a4⟩⟩
theorem underK_mk {K : PySem.W.Frag} {C D : Addr} (q : PySem.W.excIn K C bmVE "ValueError.__new__" = true) (m : PySem.W.mroIn K C (.ref D) = some true) : UnderK K C D := fun h X =>
  let ⟨bm, N, nm, q, bs, hdct, sn, sub, ab, col, dd, k0, k1, k2, k3, k5, mN, a1, _, _, _, a5⟩ := exc_obj q h X
  ⟨bm, N, nm, q, bs, hdct, sn, sub, ab, col, dd, k0, k1, k2, k3, k5, _, a1, a5 _ m⟩
end L2
set_option Elab.async false
set_option linter.all false
set_option maxRecDepth 100000
set_option maxHeartbeats 4000000
namespace Hue
open PySem L2
def top (i : Nat) : Stmt := PySem.Challenge.pw_huedties_k04_some_ties_and_places.main.body.getD i (.Pass ⟨0, 0, 0, 0⟩)
abbrev sTape : Stmt := top 22
abbrev sDraw : Stmt := top 23
abbrev sPairs : Stmt := top 24
abbrev sWeb : Stmt := top 25
theorem b_abs : bootBuiltins "abs" = some (.builtin "abs") := by decide +kernel
theorem b_min : bootBuiltins "min" = some (.builtin "min") := by decide +kernel
theorem b_max : bootBuiltins "max" = some (.builtin "max") := by decide +kernel
theorem b_len : bootBuiltins "len" = some (.builtin "len") := by decide +kernel
theorem b_all : bootBuiltins "all" = some (.builtin "all") := by decide +kernel
theorem b_isi : bootBuiltins "isinstance" = some (.builtin "isinstance") := by decide +kernel
theorem b_int : bootBuiltins "int" = some (.type "int") := by decide +kernel
theorem b_list : bootBuiltins "list" = some (.type "list") := by decide +kernel
theorem b_tuple : bootBuiltins "tuple" = some (.type "tuple") := by decide +kernel
theorem b_str : bootBuiltins "str" = some (.type "str") := by decide +kernel
theorem b_bool : bootBuiltins "bool" = some (.type "bool") := by decide +kernel
theorem b_range : bootBuiltins "range" = some (.type "range") := by decide +kernel
theorem ps_via {X : Cx} {st : Stmt} {t : TS} (t' : TS) (h : PS X st t) (imp : ∀ D σ H, t' D σ H → t D σ H) : PS X st t' := fun pins s σ H D I hw => h pins s σ H D I (imp D σ H hw)
theorem b01 (b : Bool) : -(2 ^ 64) < (if b = true then (1 : Int) else 0) ∧ (if b = true then (1 : Int) else 0) < 2 ^ 64 := by cases b <;> decide
def Ext (t : Addr) (H H' : Hp) : Prop := ∀ b o, b ≠ t → H b = some o → H' b = some o
theorem Ext.refl (t : Addr) (H : Hp) : Ext t H H := fun _ _ _ h => h
theorem Ext.trans {t : Addr} {H H1 H2 : Hp} (a : Ext t H H1) (b : Ext t H1 H2) : Ext t H H2 := fun c o n h => b c o n (a c o n h)
theorem Ext.new {t p : Addr} {H H1 : Hp} {o : HO} (a : Ext t H H1) (n : H1 p = none) : Ext t H (upd H1 p o) := fun c u ne h => by
  have h1 := a c u ne h
  rw [upd_ne (ne_of_none h1 n)]; exact h1
theorem Ext.free {t p : Addr} {H H1 : Hp} (a : Ext t H H1) (n : H1 p = none) (ne : p ≠ t) : H p = none := by
  cases q : H p with
  | none => rfl
  | some o => rw [a p o ne q] at n; cases n
def Tape (H : Hp) (t : Addr) : Prop := ∃ d e : Int, H t = some (.lst [.int d, .int e]) ∧ 0 ≤ d ∧ 0 ≤ e ∧ e < 2147483647
theorem Tape.some {H : Hp} {t : Addr} (h : Tape H t) : ∃ o, H t = Option.some o := let ⟨_, _, h, _⟩ := h; ⟨_, h⟩
theorem Tape.keep {H H' : Hp} {t : Addr} (h : Tape H t) (k : ∀ o, H t = Option.some o → H' t = Option.some o) : Tape H' t := let ⟨d, e, h, r⟩ := h; ⟨d, e, k _ h, r⟩
theorem Tape.new {H : Hp} {t p : Addr} {o : HO} (h : Tape H t) (n : H p = none) : Tape (upd H p o) t := h.keep fun u q => by rw [upd_ne (ne_of_none q n)]; exact q
theorem Tape.ne {H : Hp} {t p : Addr} (h : Tape H t) (n : H p = none) : p ≠ t := by
  obtain ⟨o, e⟩ := h.some
  exact (ne_of_none e n).symm
def spTape (K : PySem.W.Frag) : Sp := fun vs H Q _ => ∃ (a : Addr) (ns : List Int) (k : Int), vs = [.ref a, .int k] ∧ SqL K H a (ns.map V.int) ∧ 0 ≤ k ∧ ns.length ≤ 63 ∧
  ∀ (t : Addr) (H' : Hp), H t = none → Tape H' t → Same H H' → Q (.ref t) H'
def spDraw : Sp := fun vs H Q _ => ∃ (t : Addr) (m : Int), vs = [.ref t, .int m] ∧ Tape H t ∧ 0 < m ∧ m < 1073741824 ∧
  ∀ (r : Int) (H' : Hp), 0 ≤ r → r < m → Tape H' t → Ext t H H' → Q (.int r) H'
structure Txt (K : PySem.W.Frag) (mg : Str → Option Value) : Prop where
  len : mg "len" = none
  abs : mg "abs" = none
  int : mg "int" = none
  min : mg "min" = none
  max : mg "max" = none
  range : mg "range" = none
  tuple : mg "tuple" = none
  list : mg "list" = none
  enum : mg "enumerate" = none
  zip : mg "zip" = none
  isi : mg "isinstance" = none
  all : mg "all" = none
  str : mg "str" = none
  bool : mg "bool" = none
section
variable {P : Program} {w : World} {K : PySem.W.Frag} {mg : Str → Option Value} {base : Heap}
theorem scTape : FnScope ["_law_script", "_law_k", "_law_cell", "_law_digits"] ["_law_script", "_law_k"] (defScope sTape) := ⟨rfl, rfl, rfl, by decide +kernel, rfl, by decide +kernel, by decide +kernel⟩
theorem ok_tape {f : Addr} {fd : FuncData} (F : Fun K "_law_tape" "_law_tape" sTape f fd) (T : Txt K mg) : FnOk P w K mg base CX0 1 f fd ["_law_script", "_law_k"] (spTape K) := by
  refine F.ok scTape (fun vs H Q E h => ?_) (fun cdv A outer s H vs Q E hr h => ?_)
  · obtain ⟨a, ns, k, rfl, _⟩ := h; rfl
  · obtain ⟨a, ns, k, rfl, hS, hk, hn, q⟩ := h
    refine ⟨_, pss_cons (ps_set (i := 2) scTape.nd rfl (Or.inl rfl) pe_int)
      (pss_cons (ps_if (pt_cmpR op_lt (pv 1) (pe_callB call_len_seq (by rfl) T.len b_len (pa_cons (pv 0) pa_nil)) (nomark _))
        (pss_one (ps_set (i := 2) scTape.nd rfl (Or.inl rfl) (pe_ix ix_list (pv 0) (pv 1) (fun _ _ => rfl)))) pss_nil)
      (pss_cons (ps_set (i := 3) scTape.nd rfl (Or.inl rfl) (pe_op op_mul (pe_callB call_abs (by rfl) T.abs b_abs (pa_cons (pv 2) pa_nil))
        (pe_callTy call_int1 (by rfl) T.int b_int (pa_cons (pe_cmpR op_ge (pe_callB call_abs (by rfl) T.abs b_abs (pa_cons (pv 2) pa_nil)) (pe_op op_pow pe_int pe_int) (nomark _)) pa_nil))))
      (pss_one (ps_ret (pe_lst (pa_cons (pv 3) (pa_cons (pe_op op_mod (pe_op op_mul (pe_op op_mod (pe_op op_add (pe_op op_add (pv 2) (pe_op op_mul pe_int (pv 1))) pe_int) pe_int) pe_int) pe_int) pa_nil))))))), ?_⟩
    have rest : ∀ c : Int, ∀ b : Bool, ∀ p, H p = none → Q (.ref p) (upd H p (.lst [.int ((if c < 0 then -c else c) * (if b then 1 else 0)), .int ((c + 7919 * k + 1) % 2147483647 * 48271 % 2147483647)])) := by
      intro c b p hp
      refine q p _ hp ⟨_, _, upd_same, ?_, ?_, ?_⟩ fun x o e => ?_
      · split <;> split <;> omega
      · omega
      · omega
      · rw [upd_ne (ne_of_none e hp)]; exact e
    refine ⟨_, rfl, _, rfl, a, _, rfl, .inl hS, _, _, rfl, rfl, _, rfl, ?_⟩
    refine ite2 (fun hlt => ?_) (fun hlt => ?_)
    · have hlt' : k < ((ns.map V.int).length : Nat) := of_decide_eq_true hlt
      rw [List.length_map] at hlt'
      have hg : (ns.map V.int)[k.toNat]? = some (V.int (ns.getD k.toNat 0)) := by
        rw [List.getElem?_map]
        have : k.toNat < ns.length := by omega
        simp [List.getD, this]
      refine ⟨_, rfl, _, rfl, a, _, _, _, rfl, rfl, hS, (by have := atI_nat hg; rwa [Int.toNat_of_nonneg hk] at this), ?_⟩
      refine ⟨_, rfl, _, rfl, _, rfl, _, rfl, _, _, rfl, rfl, ⟨by decide, by decide, by decide⟩, _, _, rfl, rfl, .inr ⟨_, rfl, ?_⟩⟩
      refine ⟨_, _, rfl, rfl, .inr (b01 _), ?_⟩
      refine ⟨_, rfl, _, rfl, _, rfl, _, _, rfl, rfl, .inl ⟨by decide, by decide⟩, _, _, rfl, rfl, _, _, rfl, rfl, _, _, rfl, rfl, (by show (0 : Int) < 2147483647; decide), _, _, rfl, rfl, .inr ⟨by decide, by decide⟩, _, _, rfl, rfl, (by show (0 : Int) < 2147483647; decide), ?_⟩
      exact ⟨by show 2 ≤ sizeLine; decide, fun p hp => rest _ _ p hp⟩
    · refine ⟨_, rfl, _, rfl, _, rfl, _, rfl, _, _, rfl, rfl, ⟨by decide, by decide, by decide⟩, _, _, rfl, rfl, .inr ⟨_, rfl, ?_⟩⟩
      refine ⟨_, _, rfl, rfl, .inr (b01 _), ?_⟩
      refine ⟨_, rfl, _, rfl, _, rfl, _, _, rfl, rfl, .inl ⟨by decide, by decide⟩, _, _, rfl, rfl, _, _, rfl, rfl, _, _, rfl, rfl, (by show (0 : Int) < 2147483647; decide), _, _, rfl, rfl, .inr ⟨by decide, by decide⟩, _, _, rfl, rfl, (by show (0 : Int) < 2147483647; decide), ?_⟩
      exact ⟨by show 2 ≤ sizeLine; decide, fun p hp => rest _ _ p hp⟩
theorem scDraw : FnScope ["_law_tape_here", "_law_many", "_law_found", "_law_once"] ["_law_tape_here", "_law_many"] (defScope sDraw) := ⟨rfl, rfl, rfl, by decide +kernel, rfl, by decide +kernel, by decide +kernel⟩
theorem ok_draw {f : Addr} {fd : FuncData} (F : Fun K "_law_draw" "_law_draw" sDraw f fd) (T : Txt K mg) : FnOk P w K mg base CX0 1 f fd ["_law_tape_here", "_law_many"] spDraw := by
  refine F.ok scDraw (fun vs H Q E h => ?_) (fun cdv A outer s H vs Q E hr h => ?_)
  · obtain ⟨t, m, rfl, _⟩ := h; rfl
  · obtain ⟨t, m, rfl, ⟨d, e, ht, hd, he0, he1⟩, hm, hm2, q⟩ := h
    refine ⟨_, pss_cons (ps_if (pt_cmpR op_gt (pe_ix ix_list (pv 0) pe_int (fun _ _ => rfl)) pe_int (nomark _))
        (pss_cons (ps_set (i := 2) scDraw.nd rfl (Or.inl rfl) (pe_op op_mod (pe_ix ix_list (pv 0) pe_int (fun _ _ => rfl)) (pv 1)))
        (pss_cons (ps_asg (pe_op op_fdiv (pe_ix ix_list (pv 0) pe_int (fun _ _ => rfl)) (pv 1)) (pg_sub (pv 0) pe_int set_list))
        (pss_one (ps_ret (pv 2))))) pss_nil)
      (pss_cons (ps_asg (pe_op op_mod (pe_op op_add (pe_op op_mul (pe_ix ix_list (pv 0) pe_int (fun _ _ => rfl)) pe_int) pe_int) pe_int) (pg_sub (pv 0) pe_int set_list))
      (pss_cons (ps_set (i := 3) scDraw.nd rfl (Or.inl rfl) (pe_op op_mod (pe_op op_mul (pe_ix ix_list (pv 0) pe_int (fun _ _ => rfl)) (pe_op op_add (pe_op op_mod (pe_ix ix_list (pv 0) pe_int (fun _ _ => rfl)) pe_int) pe_int)) pe_int))
      (pss_one (ps_ret (pe_op op_mod (pe_op op_mod (pe_op op_mul (pv 3) (pe_op op_add (pe_op op_mod (pv 3) pe_int) pe_int)) pe_int) (pv 1)))))), ?_⟩
    have fin : ∀ (r d' e' : Int), 0 ≤ r → r < m → 0 ≤ d' → 0 ≤ e' → e' < 2147483647 → Q (.int r) (upd H t (.lst [.int d', .int e'])) := fun r d' e' h1 h2 h3 h4 h5 =>
      q r _ h1 h2 ⟨d', e', upd_same, h3, h4, h5⟩ fun b o hb z => by rw [upd_ne hb]; exact z
    refine ⟨_, rfl, t, _, _, _, rfl, rfl, SqL.of ht, (rfl : atI [V.int d, V.int e] 0 = some (.int d)), _, _, rfl, rfl, _, rfl, ?_⟩
    refine ite2 (fun hlt => ?_) (fun hlt => ?_)
    · refine ⟨_, rfl, t, _, _, _, rfl, rfl, SqL.of ht, (rfl : atI [V.int d, V.int e] 0 = some (.int d)), _, rfl, _, _, rfl, rfl, hm, ?_⟩
      refine ⟨_, rfl, t, _, _, _, rfl, rfl, SqL.of ht, (rfl : atI [V.int d, V.int e] 0 = some (.int d)), _, rfl, _, _, rfl, rfl, ⟨hm, hm2⟩, ?_⟩
      refine ⟨_, rfl, t, _, 0, 0, rfl, rfl, ht, rfl, _, rfl, ?_⟩
      exact fin _ _ _ (Int.emod_nonneg _ (by omega)) (Int.emod_lt_of_pos _ hm) (Int.ediv_nonneg hd (by omega)) he0 he1
    · refine ⟨_, rfl, t, _, _, _, rfl, rfl, SqL.of ht, (rfl : atI [V.int d, V.int e] 1 = some (.int e)), _, _, rfl, rfl, .inr ⟨by decide, by decide⟩, _, _, rfl, rfl, _, _, rfl, rfl, (by show (0 : Int) < 2147483647; decide), ?_⟩
      refine ⟨_, rfl, t, _, 1, 1, rfl, rfl, ht, rfl, ?_⟩
      have h5 : (0 : Int) ≤ (e * 48271 + 12345) % 2147483647 := by omega
      have h6 : (e * 48271 + 12345) % 2147483647 < 2147483647 := by omega
      have ht2 : (upd H t (.lst ([V.int d, V.int e].set 1 (.int ((e * 48271 + 12345) % 2147483647))))) t = some (.lst [.int d, .int ((e * 48271 + 12345) % 2147483647)]) := upd_same
      refine ⟨_, rfl, t, _, _, _, rfl, rfl, SqL.of ht2, (rfl : atI [V.int d, V.int ((e * 48271 + 12345) % 2147483647)] 1 = some (.int ((e * 48271 + 12345) % 2147483647))), _, rfl, t, _, _, _, rfl, rfl, SqL.of ht2, (rfl : atI [V.int d, V.int ((e * 48271 + 12345) % 2147483647)] 1 = some (.int ((e * 48271 + 12345) % 2147483647))), _, _, rfl, rfl, (by show (0 : Int) < 1009; decide), _, _, rfl, rfl, _, _, rfl, rfl, .inl ⟨by omega, by omega⟩, _, _, rfl, rfl, (by show (0 : Int) < 2147483629; decide), ?_⟩
      have hz0 : ∃ z, ((e * 48271 + 12345) % 2147483647) * (((e * 48271 + 12345) % 2147483647) % 1009 + 3) % 2147483629 = z := ⟨_, rfl⟩
      obtain ⟨z, hz⟩ := hz0
      have hz1 : 0 ≤ z := by rw [← hz]; exact Int.emod_nonneg _ (by decide)
      have hz2 : z < 2147483629 := by rw [← hz]; exact Int.emod_lt_of_pos _ (by decide)
      refine ⟨_, rfl, _, rfl, _, _, rfl, rfl, (by show (0 : Int) < 997; decide), _, _, rfl, rfl, _, _, rfl, rfl, .inl (by rw [hz]; omega), _, _, rfl, rfl, (by show (0 : Int) < 998244353; decide), _, rfl, _, _, rfl, rfl, hm, ?_⟩
      exact fin _ _ _ (Int.emod_nonneg _ (by omega)) (Int.emod_lt_of_pos _ hm) hd h5 h6
end
end Hue
set_option Elab.async false
set_option linter.all false
set_option maxRecDepth 100000
set_option maxHeartbeats 4000000
namespace Hue
open PySem L2
structure Callee (P : Program) (w : World) (K : PySem.W.Frag) (mg : Str → Option Value) (base : Heap) (k : Nat) (x : Str) (ps : List Str) (sp : Sp) : Prop where
  ex : ∃ f fd, FnOk P w K mg base CX0 k f fd ps sp ∧ mg x = some (.ref f) ∧ PySem.W.keepIn K (.ref f) = true ∧ Binds K fd ps []
theorem pe_def {X : Cx} {k : Nat} {x : Str} {ps : List Str} {sp : Sp} {e : Expr} {es : List Expr} {t : TA} {p pos : Pos} (C : Callee X.prog X.w X.K X.mg X.base k x ps sp) (hr : Room k X.A) (hg : Gl X x) (ha : PA X (e :: es) t)
    (hdb : (x == ("__debug__" : Str)) = false := by decide) (he : starEach (e :: es) X.env = (false, eval e X.env) :: starEach es X.env := by rfl) (hpl : (backTo pos (starEach es X.env)).any (·.1) = false := by rfl) :
    PE X (.Call (.Name x p) (e :: es) [] pos) (tCall sp [] E0 t) := by
  obtain ⟨f, fd, F, hm, hk, hb⟩ := C.ex
  exact pe_call F hr hg hm hk hb .nil pass0 ha hdb he hpl
def tTo (S S' : St → Hp → Prop) : TS := fun D σ H => S σ H ∧ ∀ σ' H', S' σ' H' → D.nx σ' H'
def KeepT (H H' : Hp) : Prop := ∀ b xs, H b = some (.tup xs) → H' b = some (.tup xs)
theorem KeepT.refl (H : Hp) : KeepT H H := fun _ _ h => h
theorem KeepT.trans {H H1 H2 : Hp} (a : KeepT H H1) (b : KeepT H1 H2) : KeepT H H2 := fun c xs h => b c xs (a c xs h)
theorem KeepT.new {H : Hp} {p : Addr} {o : HO} (n : H p = none) : KeepT H (upd H p o) := fun c xs h => by rw [upd_ne (ne_of_none h n)]; exact h
theorem KeepT.lst {H : Hp} {l : Addr} {xs : List V} {o : HO} (n : H l = some (.lst xs)) : KeepT H (upd H l o) := fun c ys h => by rw [upd_ne (ne_of h n (by intro z; cases z))]; exact h
theorem Ext.keepT {t : Addr} {H H' : Hp} (a : Ext t H H') (T : Tape H t) : KeepT H H' := fun b xs h => by
  obtain ⟨d, e, ht, _⟩ := T
  exact a b _ (ne_of h ht (by intro z; cases z)) h
theorem Ext.own {t l : Addr} {H0 H : Hp} {o : HO} (a : Ext t H0 H) (n : H0 l = none) : Ext t H0 (upd H l o) := fun b u ne h => by
  rw [upd_ne (ne_of_none h n)]; exact a b u ne h
theorem Tape.upd {t l : Addr} {H : Hp} {o : HO} (h : Tape H t) (ne : t ≠ l) : Tape (upd H l o) t := h.keep fun u q => by rw [upd_ne ne]; exact q
def PairAt (H : Hp) (m : Int) (v : V) : Prop := ∃ q i j, v = .ref q ∧ H q = some (.tup [.int i, .int j]) ∧ 0 ≤ i ∧ i < m ∧ 0 ≤ j ∧ j < m ∧ i ≠ j
def Pairs (H : Hp) (m : Int) (vs : List V) : Prop := ∀ v ∈ vs, PairAt H m v
theorem PairAt.mono {H H' : Hp} {m : Int} {v : V} (h : PairAt H m v) (k : KeepT H H') : PairAt H' m v := let ⟨q, i, j, e, h, r⟩ := h; ⟨q, i, j, e, k _ _ h, r⟩
theorem Pairs.mono {H H' : Hp} {m : Int} {vs : List V} (h : Pairs H m vs) (k : KeepT H H') : Pairs H' m vs := fun v hv => (h v hv).mono k
theorem Pairs.nil {H : Hp} {m : Int} : Pairs H m [] := fun _ h => nomatch h
theorem Pairs.app {H : Hp} {m : Int} {xs ys : List V} (a : Pairs H m xs) (b : Pairs H m ys) : Pairs H m (xs ++ ys) := fun v hv => (List.mem_append.mp hv).elim (a v) (b v)
theorem Pairs.one {H : Hp} {m : Int} {v : V} (a : PairAt H m v) : Pairs H m [v] := fun u hu => by rw [List.mem_singleton.mp hu]; exact a
theorem pairAt_new {H : Hp} {m i j : Int} {p : Addr} (h1 : 0 ≤ i) (h2 : i < m) (h3 : 0 ≤ j) (h4 : j < m) (h5 : i ≠ j) : PairAt (upd H p (.tup [.int i, .int j])) m (.ref p) := ⟨p, i, j, rfl, upd_same, h1, h2, h3, h4, h5⟩
structure FS (t : Addr) (H0 H : Hp) (l : Addr) (ps : List V) (m : Int) : Prop where
  tape : Tape H t
  ext : Ext t H0 H
  fr : H0 l = none
  ne : t ≠ l
  at' : H l = some (.lst ps)
  prs : Pairs H m ps
section
variable {t l : Addr} {H0 H H' : Hp} {ps : List V} {m : Int}
theorem FS.draw (h : FS t H0 H l ps m) (T : Tape H' t) (e : Ext t H H') : FS t H0 H' l ps m := ⟨T, h.ext.trans e, h.fr, h.ne, e _ _ h.ne.symm h.at', h.prs.mono (e.keepT h.tape)⟩
theorem FS.new {p : Addr} {o : HO} (h : FS t H0 H l ps m) (n : H p = none) : FS t H0 (upd H p o) l ps m :=
  ⟨h.tape.new n, h.ext.new n, h.fr, h.ne, by rw [upd_ne (ne_of_none h.at' n)]; exact h.at', h.prs.mono (.new n)⟩
theorem FS.set {qs : List V} (h : FS t H0 H l ps m) (q : Pairs H m qs) : FS t H0 (upd H l (.lst qs)) l qs m :=
  ⟨h.tape.upd h.ne, h.ext.own h.fr, h.fr, h.ne, upd_same, q.mono (.lst h.at')⟩
theorem FS.lay {p : Addr} {qs : List V} (T : Tape H t) (e : Ext t H0 H) (T0 : Tape H0 t) (n : H p = none) (q : Pairs H m qs) : FS t H0 (upd H p (.lst qs)) p qs m :=
  ⟨T.new n, e.new n, e.free n (T.ne n), (T.ne n).symm, upd_same, q.mono (.new n)⟩
end
theorem FS.oth {t l D : Addr} {H0 H : Hp} {ps xs : List V} {m : Int} {o : HO} (h : FS t H0 H l ps m) (hD : H D = some (.lst xs)) (n0 : H0 D = none) (hne : l ≠ D) (tne : t ≠ D) : FS t H0 (upd H D o) l ps m :=
  ⟨h.tape.upd tne, h.ext.own n0, h.fr, h.ne, by rw [upd_ne hne]; exact h.at', h.prs.mono (.lst hD)⟩
theorem FS.none {t l : Addr} {H0 H : Hp} {m m' : Int} (h : FS t H0 H l [] m) : FS t H0 H l [] m' := ⟨h.tape, h.ext, h.fr, h.ne, h.at', .nil⟩
theorem mod2 {x m : Int} (h0 : 0 ≤ x) (h1 : x < 2 * m) : x % m = if x < m then x else x - m := by
  split
  · exact Int.emod_eq_of_lt h0 (by assumption)
  · have e : x = (x - m) + m * 1 := by omega
    have : x % m = (x - m) % m := by
      conv => lhs; rw [e]
      rw [Int.add_mul_emod_self_left]
    rw [this]
    exact Int.emod_eq_of_lt (by omega) (by omega)
theorem nd_km : ((["_law_k"] : List Str) ++ (["_law_many"] : List Str)).Nodup := by decide +kernel
theorem nd_k : ((["_law_k"] : List Str) ++ ([] : List Str)).Nodup := by decide +kernel
theorem nd_jk : ((["_law_j"] : List Str) ++ (["_law_k"] : List Str)).Nodup := by decide +kernel
theorem nd_jkt : ((["_law_j"] : List Str) ++ (["_law_k", "_law_tape_here"] : List Str)).Nodup := by decide +kernel
theorem eqI {a b : Int} (h : decide (V.int a = V.int b) = true) : a = b := by
  have := of_decide_eq_true h
  injection this
theorem neI {a b : Int} (h : ¬ decide (V.int a = V.int b) = true) : a ≠ b := fun e => h (by rw [e]; simp)
theorem sl3 {n : Nat} (h : n ≤ 1000) : n ≤ sizeLine := Nat.le_of_lt (small1000 h)
theorem compT {i : Nat} {te : TE} {D : Addr} {x : V} {σ' : St} {ys : List V} {N : List V → Hp → Prop} {H : Hp} (h : te (σ'.set i (some x)) H fun v H4 => H4 D = some (.lst ys) ∧ ys.length < sizeLine ∧ N (ys ++ [v]) (upd H4 D (.lst (ys ++ [v])))) :
    CompTurn (gName i) (fun _ H Q => Q true H) te D σ' ys N x H := by
  unfold CompTurn gName
  simp only [if_true]
  exact h
def spPairs : Sp := fun vs H Q _ => ∃ (t : Addr) (g : Bool), vs = [.ref t, .bl g] ∧ Tape H t ∧
  ∀ (p l : Addr) (m : Int) (ps : List V) (H' : Hp), H p = none → H' p = some (.tup [.int m, .ref l]) → FS t H H' l ps m → ps.length ≤ 60 → 0 ≤ m → m ≤ 12 → Q (.ref p) H'
section
variable {P : Program} {w : World} {K : PySem.W.Frag} {mg : Str → Option Value} {base : Heap}
abbrev CDraw (P : Program) (w : World) (K : PySem.W.Frag) (mg : Str → Option Value) (base : Heap) : Prop := Callee P w K mg base 1 "_law_draw" ["_law_tape_here", "_law_many"] spDraw
theorem scPairs : FnScope ["_law_tape_here", "_law_great", "_law_way", "_law_many", "_law_found", "_law_turn", "_law_one", "_law_k", "_law_sides"] ["_law_tape_here", "_law_great"] (defScope sPairs) := ⟨rfl, rfl, rfl, by decide +kernel, rfl, by decide +kernel, by decide +kernel⟩
def PSt (t : Addr) (g : Bool) (H0 : Hp) (j : Int) (σ : St) (H : Hp) : Prop := ∃ (way m : Int) (l : Addr) (ps : List V) (o5 o6 o7 o8 : Option V),
  σ = [some (.ref t), some (.bl g), some (.int way), some (.int m), some (.ref l), o5, o6, o7, o8] ∧ FS t H0 H l ps m ∧ ps.length ≤ 60 ∧ 0 ≤ m ∧ m ≤ 12 ∧ 0 ≤ way ∧ way < 8 ∧ (j ≤ way → ps = [])
theorem ok_pairs {f : Addr} {fd : FuncData} (F : Fun K "_law_pairs_by" "_law_pairs_by" sPairs f fd) (T : Txt K mg) (CD : CDraw P w K mg base) : FnOk P w K mg base CX0 2 f fd ["_law_tape_here", "_law_great"] spPairs := by
  refine F.ok scPairs (fun vs H Q E h => ?_) (fun cdv A outer s H vs Q E hr h => ?_)
  · obtain ⟨t, g, rfl, _⟩ := h; rfl
  · obtain ⟨t, g, rfl, T0, q⟩ := h
    refine ⟨_, pss_cons (ps_set (i := 2) scPairs.nd rfl (Or.inl rfl) (pe_def CD hr (by rfl) (pa_cons (pv 0) (pa_cons pe_int pa_nil))))
      (pss_cons (ps_set (i := 3) scPairs.nd rfl (Or.inr rfl) (pe_ix ix_list (pe_lst (pa_cons (pe_def CD hr (by rfl) (pa_cons (pv 0) (pa_cons pe_int pa_nil))) (pa_cons (pe_op op_add pe_int (pe_def CD hr (by rfl) (pa_cons (pv 0) (pa_cons pe_int pa_nil)))) pa_nil)))
        (pe_callTy call_int1 (by rfl) T.int b_int (pa_cons (pv 1) pa_nil)) (fun _ _ => rfl)))
      (pss_cons (ps_set (i := 4) scPairs.nd rfl (Or.inl rfl) (pe_lst pa_nil))
      (pss_cons (ps_via (tTo (PSt t g H 0) (PSt t g H 3)) (ps_if (pw_and (pt_cmpR op_lt (pv 2) pe_int (nomark _)) (pw_and1 (pt_cmpR op_gt (pv 3) pe_int (nomark _)))).pt
          (pss_one (ps_for PassesOwn.never rfl (pi_range1 (by rfl) T.range (pa_cons (pe_def CD hr (by rfl) (pa_cons (pv 0) (pa_cons (pe_op op_add (pe_op op_mul pe_int (pv 3)) pe_int) pa_nil))) pa_nil)) (pg_name (i := 5) scPairs.nd rfl (Or.inl rfl))
            (pss_cons (ps_set (i := 6) scPairs.nd rfl (Or.inl rfl) (pe_def CD hr (by rfl) (pa_cons (pv 0) (pa_cons (pv 3) pa_nil))))
            (pss_one (ps_expr (pe_bm PySem.F.plainAttrs_list PySem.F.slot_list_append PySem.F.type_list_append mt_append (pv 4) (pa_cons (pe_tup (pa_cons (pv 6) (pa_cons (pe_op op_mod (pe_op op_add (pe_op op_add (pv 6) pe_int) (pe_def CD hr (by rfl) (pa_cons (pv 0) (pa_cons (pe_op op_sub (pv 3) pe_int) pa_nil)))) (pv 3)) pa_nil))) pa_nil))))))) pss_nil) ?i1)
      (pss_cons (ps_via (tTo (PSt t g H 3) (PSt t g H 4)) (ps_if (pw_and (pt_cmpR op_eq (pv 2) pe_int (nomark _)) (pw_and1 (pt_cmpR op_gt (pv 3) pe_int (nomark _)))).pt
          (pss_one (ps_set (i := 4) scPairs.nd rfl (Or.inl rfl) (pe_op op_cat (pe_comp ["_law_k"] ["_law_many"] [3] (pi_range1 (by rfl) T.range (pa_cons (pv 3) pa_nil)) (fun _ _ _ _ _ => pg_name (i := 0) nd_km rfl (Or.inl rfl)) (fun _ _ _ _ _ => pifs_nil)
              (fun _ _ _ _ _ => pe_tup (pa_cons (pv 0) (pa_cons (pe_op op_mod (pe_op op_add (pv 0) pe_int) (pv 1)) pa_nil))))
            (pe_lst (pa_cons (pe_tup (pa_cons pe_int (pa_cons (pe_op op_add (pe_def CD hr (by rfl) (pa_cons (pv 0) (pa_cons (pe_op op_sub (pv 3) pe_int) pa_nil))) pe_int) pa_nil))) pa_nil))))) pss_nil) ?i2)
      (pss_cons (ps_via (tTo (PSt t g H 4) (PSt t g H 5)) (ps_if (pw_and (pt_cmpR op_eq (pv 2) pe_int (nomark _)) (pw_and1 (pt_cmpR op_gt (pv 3) pe_int (nomark _)))).pt
          (pss_one (ps_setComp (i := 4) ["_law_k"] [] [] scPairs.nd rfl rfl (pi_range2 (by rfl) T.range (pa_cons pe_int (pa_cons (pv 3) pa_nil))) (fun _ _ _ _ _ => pg_name (i := 0) nd_k rfl (Or.inl rfl)) (fun _ _ _ _ _ => pifs_nil)
              (fun _ _ _ _ _ => pe_tup (pa_cons pe_int (pa_cons (pv 0) pa_nil))))) pss_nil) ?i3)
      (pss_cons (ps_via (tTo (PSt t g H 5) (PSt t g H 6)) (ps_if (pt_cmpR op_eq (pv 2) pe_int (nomark _))
          (pss_cons (ps_set (i := 3) scPairs.nd rfl (Or.inr rfl) (pe_callB (call_min2 rfl) (by rfl) T.min b_min (pa_cons (pv 3) (pa_cons (pe_op op_add pe_int (pe_callTy call_int1 (by rfl) T.int b_int (pa_cons (pv 1) pa_nil))) pa_nil))))
          (pss_one (ps_for PassesOwn.never rfl (pi_range1 (by rfl) T.range (pa_cons (pv 3) pa_nil)) (pg_name (i := 7) scPairs.nd rfl (Or.inr rfl))
            (pss_one (ps_expr (pe_bm PySem.F.plainAttrs_list PySem.F.slot_list_extend PySem.F.type_list_extend mt_extend (pv 4) (pa_cons (pe_comp ["_law_j"] ["_law_k"] [7] (pi_range1 (by rfl) T.range (pa_cons (pv 7) pa_nil)) (fun _ _ _ _ _ => pg_name (i := 0) nd_jk rfl (Or.inl rfl)) (fun _ _ _ _ _ => pifs_nil)
              (fun _ _ _ _ _ => pe_tup (pa_cons (pv 0) (pa_cons (pv 1) pa_nil)))) pa_nil))))))) pss_nil) ?i4)
      (pss_cons (ps_via (tTo (PSt t g H 6) (PSt t g H 7)) (ps_if (pt_cmpR op_eq (pv 2) pe_int (nomark _))
          (pss_cons (ps_set (i := 8) scPairs.nd rfl (Or.inl rfl) (pe_op op_add pe_int (pe_op op_fdiv (pv 3) pe_int)))
          (pss_one (ps_for PassesOwn.never rfl (pi_range1 (by rfl) T.range (pa_cons (pv 8) pa_nil)) (pg_name (i := 7) scPairs.nd rfl (Or.inr rfl))
            (pss_one (ps_expr (pe_bm PySem.F.plainAttrs_list PySem.F.slot_list_extend PySem.F.type_list_extend mt_extend (pv 4) (pa_cons (pe_comp ["_law_j"] ["_law_k", "_law_tape_here"] [7, 0] (pi_range2 (by rfl) T.range (pa_cons (pv 8) (pa_cons (pv 3) pa_nil))) (fun _ _ _ _ _ => pg_name (i := 0) nd_jkt rfl (Or.inl rfl))
              (fun _ _ _ _ _ => pifs_one (pt_cmpR op_gt (pe_def CD hr (by rfl) (pa_cons (pv 2) (pa_cons pe_int pa_nil))) pe_int (nomark _)))
              (fun _ _ _ _ _ => pe_tup (pa_cons (pv 1) (pa_cons (pv 0) pa_nil)))) pa_nil))))))) pss_nil) ?i5)
      (pss_cons (ps_via (tTo (PSt t g H 7) (PSt t g H 8)) (ps_if (pt_cmpR op_eq (pv 2) pe_int (nomark _))
          (pss_cons (ps_set (i := 3) scPairs.nd rfl (Or.inr rfl) (pe_op op_add pe_int (pe_op op_fdiv (pv 3) pe_int)))
          (pss_one (ps_for PassesOwn.never rfl (pi_range1 (by rfl) T.range (pa_cons pe_int pa_nil)) (pg_name (i := 7) scPairs.nd rfl (Or.inr rfl))
            (pss_one (ps_expr (pe_bm PySem.F.plainAttrs_list PySem.F.slot_list_extend PySem.F.type_list_extend mt_extend (pv 4) (pa_cons (pe_op op_rep (pe_lst (pa_cons (pe_tup (pa_cons (pv 7) (pa_cons (pe_op op_mod (pe_op op_add (pv 7) pe_int) pe_int) pa_nil))) pa_nil))
              (pe_op op_add pe_int (pe_def CD hr (by rfl) (pa_cons (pv 0) (pa_cons pe_int pa_nil))))) pa_nil))))))) pss_nil) ?i6)
      (pss_one (ps_ret (pe_tup (pa_cons (pv 3) (pa_cons (pv 4) pa_nil))))))))))))), ?_⟩
    case i1 =>
      rintro D σ Hx ⟨⟨way, m, l, ps, o5, o6, o7, o8, rfl, fs, hl, hm0, hm1, hw0, hw1, hj⟩, kn⟩
      obtain rfl : ps = [] := hj hw0
      have out : D.nx [some (.ref t), some (.bl g), some (.int way), some (.int m), some (.ref l), o5, o6, o7, o8] Hx := kn _ _ ⟨way, m, l, [], _, _, _, _, rfl, fs, hl, hm0, hm1, hw0, hw1, fun _ => rfl⟩
      refine ⟨_, rfl, _, _, rfl, rfl, _, rfl, ?_⟩
      refine ite2 (fun h1 => ?_) (fun h1 => iteF out)
      have h1 := of_decide_eq_true h1
      refine ⟨_, rfl, _, _, rfl, rfl, _, rfl, ?_⟩
      refine ite2 (fun h2 => ?_) (fun h2 => out)
      have h2 := of_decide_eq_true h2
      refine ⟨_, rfl, _, rfl, _, _, rfl, rfl, .inl ⟨by decide, by decide⟩, _, _, rfl, rfl, t, _, rfl, fs.tape, by omega, by omega, fun r H1 hr0 hr1 T1 E1 => ?_⟩
      refine ⟨r, rfl, by omega, by omega, for_range (lo := 0) (n := r.toNat) (fun i σ H2 => ∃ (ps' : List V) (o5 o6 : Option V), σ = [some (.ref t), some (.bl g), some (.int way), some (.int m), some (.ref l), o5, o6, o7, o8] ∧ FS t H H2 l ps' m ∧ ps'.length ≤ i)
        ⟨[], o5, o6, rfl, fs.draw T1 E1, Nat.le_refl _⟩ ?_ ?_⟩
      · rintro i σ H2 hi ⟨ps', o5', o6', rfl, fs', hl'⟩
        refine ⟨_, rfl, _, rfl, t, _, rfl, fs'.tape, by omega, by omega, fun a H3 ha0 ha1 T3 E3 => ?_⟩
        have fs3 := fs'.draw T3 E3
        refine ⟨_, rfl, .inl ⟨rfl, _, SqL.of fs3.at'⟩, _, rfl, _, rfl, _, _, rfl, rfl, _, rfl, _, rfl, _, _, rfl, rfl, t, _, rfl, fs3.tape, by omega, by omega, fun b H4 hb0 hb1 T4 E4 => ?_⟩
        have fs4 := fs3.draw T4 E4
        refine ⟨_, _, rfl, rfl, _, rfl, _, _, rfl, rfl, (show (0 : Int) < m by omega), by show 2 ≤ sizeLine; decide, fun p hp => ?_⟩
        have fs5 := fs4.new (o := .tup [.int a, .int ((a + 1 + b) % m)]) hp
        have e := mod2 (x := a + 1 + b) (m := m) (by omega) (by omega)
        have pr : PairAt (upd H4 p (.tup [.int a, .int ((a + 1 + b) % m)])) m (.ref p) := pairAt_new ha0 ha1 (by rw [e]; split <;> omega) (by rw [e]; split <;> omega) (by rw [e]; split <;> omega)
        refine ⟨l, ps', _, rfl, rfl, fs5.at', small1000 (by omega), ?_⟩
        exact ⟨ps' ++ [.ref p], _, _, rfl, fs5.set (fs5.prs.app (.one pr)), by rw [List.length_append, List.length_singleton]; omega⟩
      · rintro σ H2 ⟨ps', o5', o6', rfl, fs', hl'⟩
        exact kn _ _ ⟨way, m, l, ps', _, _, _, _, rfl, fs', by omega, hm0, hm1, hw0, hw1, fun h => absurd h (by omega)⟩
    case i2 =>
      rintro D σ Hx ⟨⟨way, m, l, ps, o5, o6, o7, o8, rfl, fs, hl, hm0, hm1, hw0, hw1, hj⟩, kn⟩
      have out : ¬ way = 3 ∨ ps = [] → D.nx [some (.ref t), some (.bl g), some (.int way), some (.int m), some (.ref l), o5, o6, o7, o8] Hx := fun hn => kn _ _ ⟨way, m, l, ps, _, _, _, _, rfl, fs, hl, hm0, hm1, hw0, hw1, fun h => by
        rcases hn with hn | hn
        · exact hj (by omega)
        · exact hn⟩
      refine ⟨_, rfl, rfl, _, rfl, ?_⟩
      refine ite2 (fun h1 => ?_) (fun h1 => iteF (out (.inl (neI h1))))
      have h1 := eqI h1
      refine ⟨_, rfl, _, _, rfl, rfl, _, rfl, ?_⟩
      refine ite2 (fun h2 => ?_) (fun h2 => out (.inr (hj (by omega))))
      have h2 := of_decide_eq_true h2
      refine ⟨_, rfl, m, rfl, by omega, by omega, fun Dl hD => comp_range (lo := 0) (n := m.toNat) (fun i ys H2 => FS t H H2 Dl ys m ∧ ys.length ≤ i) ⟨FS.lay fs.tape fs.ext T0 hD .nil, Nat.le_refl _⟩ ?_ ?_⟩
      · rintro i ys H2 hi ⟨fs', hl'⟩
        refine compT ?_
        refine ⟨_, rfl, _, rfl, _, _, rfl, rfl, _, rfl, _, _, rfl, rfl, (show (0 : Int) < m by omega), by show 2 ≤ sizeLine; decide, fun p hp => ?_⟩
        have fs5 := fs'.new (o := .tup [.int (0 + (i : Int)), .int ((0 + (i : Int) + 1) % m)]) hp
        have e := mod2 (x := 0 + (i : Int) + 1) (m := m) (by omega) (by omega)
        have pr : PairAt (upd H2 p (.tup [.int (0 + (i : Int)), .int ((0 + (i : Int) + 1) % m)])) m (.ref p) := pairAt_new (by omega) (by omega) (by rw [e]; split <;> omega) (by rw [e]; split <;> omega) (by rw [e]; split <;> omega)
        exact ⟨fs5.at', small1000 (by omega), fs5.set (fs5.prs.app (.one pr)), by rw [List.length_append, List.length_singleton]; omega⟩
      · rintro ys H2 ⟨fs', hl'⟩
        refine ⟨_, rfl, _, rfl, _, _, rfl, rfl, t, _, rfl, fs'.tape, by omega, by omega, fun b H4 hb0 hb1 T4 E4 => ?_⟩
        have fs4 := fs'.draw T4 E4
        refine ⟨_, _, rfl, rfl, by show 2 ≤ sizeLine; decide, fun p hp => ?_⟩
        have fs5 := fs4.new (o := .tup [.int 0, .int (b + 1)]) hp
        have pr : PairAt (upd H4 p (.tup [.int 0, .int (b + 1)])) m (.ref p) := pairAt_new (by omega) (by omega) (by omega) (by omega) (by omega)
        refine ⟨by show 1 ≤ sizeLine; decide, fun l2 hl2 => ?_⟩
        have fs6 := fs5.new (o := .lst [.ref p]) hl2
        refine ⟨Dl, l2, ys, [.ref p], rfl, rfl, fs6.at', upd_same, sl3 (by show ys.length + 1 ≤ 1000; omega), fun q2 hq2 => ?_⟩
        refine kn _ _ ⟨way, m, q2, ys ++ [.ref p], _, _, _, _, rfl, FS.lay fs6.tape fs6.ext T0 hq2 (fs6.prs.app (.one (pr.mono (.new hl2)))), by rw [List.length_append, List.length_singleton]; omega, hm0, hm1, hw0, hw1, fun h => absurd h (by omega)⟩
    case i3 =>
      rintro D σ Hx ⟨⟨way, m, l, ps, o5, o6, o7, o8, rfl, fs, hl, hm0, hm1, hw0, hw1, hj⟩, kn⟩
      have out : ¬ way = 4 ∨ ps = [] → D.nx [some (.ref t), some (.bl g), some (.int way), some (.int m), some (.ref l), o5, o6, o7, o8] Hx := fun hn => kn _ _ ⟨way, m, l, ps, _, _, _, _, rfl, fs, hl, hm0, hm1, hw0, hw1, fun h => by
        rcases hn with hn | hn
        · exact hj (by omega)
        · exact hn⟩
      refine ⟨_, rfl, rfl, _, rfl, ?_⟩
      refine ite2 (fun h1 => ?_) (fun h1 => iteF (out (.inl (neI h1))))
      have h1 := eqI h1
      refine ⟨_, rfl, _, _, rfl, rfl, _, rfl, ?_⟩
      refine ite2 (fun h2 => ?_) (fun h2 => out (.inr (hj (by omega))))
      have h2 := of_decide_eq_true h2
      refine ⟨_, rfl, 1, m, rfl, ⟨by decide, by decide, by omega, by omega⟩, fun Dl hD => comp_range (lo := 1) (n := (m - 1).toNat) (fun i ys H2 => FS t H H2 Dl ys m ∧ ys.length ≤ i) ⟨FS.lay fs.tape fs.ext T0 hD .nil, Nat.le_refl _⟩ ?_ ?_⟩
      · rintro i ys H2 hi ⟨fs', hl'⟩
        refine compT ?_
        refine ⟨_, rfl, by show 2 ≤ sizeLine; decide, fun p hp => ?_⟩
        have fs5 := fs'.new (o := .tup [.int 0, .int (1 + (i : Int))]) hp
        have pr : PairAt (upd H2 p (.tup [.int 0, .int (1 + (i : Int))])) m (.ref p) := pairAt_new (by omega) (by omega) (by omega) (by omega) (by omega)
        exact ⟨fs5.at', small1000 (by omega), fs5.set (fs5.prs.app (.one pr)), by rw [List.length_append, List.length_singleton]; omega⟩
      · rintro ys H2 ⟨fs', hl'⟩
        exact kn _ _ ⟨way, m, Dl, ys, _, _, _, _, rfl, fs', by omega, hm0, hm1, hw0, hw1, fun h => absurd h (by omega)⟩
    case i4 =>
      rintro D σ Hx ⟨⟨way, m, l, ps, o5, o6, o7, o8, rfl, fs, hl, hm0, hm1, hw0, hw1, hj⟩, kn⟩
      refine ⟨_, rfl, rfl, _, rfl, ?_⟩
      refine ite2 (fun h1 => ?_) (fun h1 => kn _ _ ⟨way, m, l, ps, _, _, _, _, rfl, fs, hl, hm0, hm1, hw0, hw1, fun h => hj (by have := neI h1; omega)⟩)
      have h1 := eqI h1
      obtain rfl : ps = [] := hj (by omega)
      refine ⟨_, rfl, _, rfl, .inr ⟨g, rfl, _, _, rfl, rfl, m, _, rfl, ?_⟩⟩
      obtain ⟨m', em, hm'0, hm'1⟩ : ∃ m' : Int, (if (5 + if g = true then (1 : Int) else 0) < m then (5 + if g = true then (1 : Int) else 0) else m) = m' ∧ 0 ≤ m' ∧ m' ≤ 6 := ⟨_, rfl, by split <;> (try split) <;> omega, by split <;> (try split) <;> omega⟩
      rw [em]
      refine ⟨_, rfl, m', rfl, by omega, by omega, for_range (lo := 0) (n := m'.toNat) (fun i σ H2 => ∃ (ps' : List V) (o7 : Option V), σ = [some (.ref t), some (.bl g), some (.int way), some (.int m'), some (.ref l), o5, o6, o7, o8] ∧ FS t H H2 l ps' m' ∧ ps'.length ≤ 6 * i)
        ⟨[], o7, rfl, fs.none, Nat.zero_le _⟩ ?_ ?_⟩
      · rintro i σ H2 hi ⟨ps', o7', rfl, fs', hl'⟩
        refine ⟨_, rfl, .inl ⟨rfl, _, SqL.of fs'.at'⟩, _, rfl, 0 + (i : Int), rfl, by omega, by omega, fun Dl hD => comp_range (lo := 0) (n := (0 + (i : Int)).toNat) (fun k ys H3 => FS t H H3 l ps' m' ∧ FS t H H3 Dl ys m' ∧ ys.length ≤ k ∧ l ≠ Dl)
          ⟨fs'.new hD, FS.lay fs'.tape fs'.ext T0 hD .nil, Nat.le_refl _, ne_of_none fs'.at' hD⟩ ?_ ?_⟩
        · rintro k ys H3 hk ⟨fl, fd', hly, hne⟩
          refine compT ?_
          refine ⟨_, rfl, _, rfl, by show 2 ≤ sizeLine; decide, fun p hp => ?_⟩
          have f5 := fd'.new (o := .tup [.int (0 + (k : Int)), .int (0 + (i : Int))]) hp
          have g5 := fl.new (o := .tup [.int (0 + (k : Int)), .int (0 + (i : Int))]) hp
          have pr : PairAt (upd H3 p (.tup [.int (0 + (k : Int)), .int (0 + (i : Int))])) m' (.ref p) := pairAt_new (by omega) (by omega) (by omega) (by omega) (by omega)
          exact ⟨f5.at', small1000 (by omega), g5.oth f5.at' f5.fr hne f5.ne, f5.set (f5.prs.app (.one pr)), by rw [List.length_append, List.length_singleton]; omega, hne⟩
        · rintro ys H3 ⟨fl, fd', hly, hne⟩
          refine ⟨l, Dl, ps', ys, rfl, rfl, fl.at', fd'.at', sl3 (by omega), ?_⟩
          exact ⟨ps' ++ ys, _, rfl, fl.set (fl.prs.app fd'.prs), by rw [List.length_append]; omega⟩
      · rintro σ H2 ⟨ps', o7', rfl, fs', hl'⟩
        exact kn _ _ ⟨way, m', l, ps', _, _, _, _, rfl, fs', by omega, hm'0, by omega, hw0, hw1, fun h => absurd h (by omega)⟩
    case i5 =>
      rintro D σ Hx ⟨⟨way, m, l, ps, o5, o6, o7, o8, rfl, fs, hl, hm0, hm1, hw0, hw1, hj⟩, kn⟩
      refine ⟨_, rfl, rfl, _, rfl, ?_⟩
      refine ite2 (fun h1 => ?_) (fun h1 => kn _ _ ⟨way, m, l, ps, _, _, _, _, rfl, fs, hl, hm0, hm1, hw0, hw1, fun h => hj (by have := neI h1; omega)⟩)
      have h1 := eqI h1
      obtain rfl : ps = [] := hj (by omega)
      refine ⟨_, rfl, _, _, rfl, rfl, ⟨by decide, by decide⟩, _, _, rfl, rfl, ?_⟩
      obtain ⟨sd, es, hs0, hs1⟩ : ∃ sd : Int, 1 + m / 2 = sd ∧ 1 ≤ sd ∧ sd ≤ 7 := ⟨_, rfl, by omega, by omega⟩
      refine ⟨_, rfl, sd, congrArg (fun z => [V.int z]) es, by omega, by omega, for_range (lo := 0) (n := sd.toNat) (fun i σ H2 => ∃ (ps' : List V) (o7 : Option V), σ = [some (.ref t), some (.bl g), some (.int way), some (.int m), some (.ref l), o5, o6, o7, some (.int sd)] ∧ FS t H H2 l ps' m ∧ ps'.length ≤ 5 * i)
        ⟨[], o7, by rw [← es]; rfl, fs, Nat.zero_le _⟩ ?_ ?_⟩
      · rintro i σ H2 hi ⟨ps', o7', rfl, fs', hl'⟩
        refine ⟨_, rfl, .inl ⟨rfl, _, SqL.of fs'.at'⟩, _, rfl, _, rfl, sd, m, rfl, ⟨by omega, by omega, by omega, by omega⟩, fun Dl hD => comp_range (lo := sd) (n := (m - sd).toNat) (fun k ys H3 => FS t H H3 l ps' m ∧ FS t H H3 Dl ys m ∧ ys.length ≤ k ∧ l ≠ Dl)
          ⟨fs'.new hD, FS.lay fs'.tape fs'.ext T0 hD .nil, Nat.le_refl _, ne_of_none fs'.at' hD⟩ ?_ ?_⟩
        · rintro k ys H3 hk ⟨fl, fd', hly, hne⟩
          refine ⟨_, rfl, t, 3, rfl, fd'.tape, by decide, by decide, fun r H4 hr0 hr1 T4 E4 => ?_⟩
          have fl4 := fl.draw T4 E4
          have fd4 := fd'.draw T4 E4
          refine ⟨_, _, rfl, rfl, _, rfl, ?_⟩
          refine ite2 (fun _ => ?_) (fun _ => ⟨fl4, fd4, by omega, hne⟩)
          refine ⟨_, rfl, _, rfl, by show 2 ≤ sizeLine; decide, fun p hp => ?_⟩
          have f5 := fd4.new (o := .tup [.int (0 + (i : Int)), .int (sd + (k : Int))]) hp
          have g5 := fl4.new (o := .tup [.int (0 + (i : Int)), .int (sd + (k : Int))]) hp
          have pr : PairAt (upd H4 p (.tup [.int (0 + (i : Int)), .int (sd + (k : Int))])) m (.ref p) := pairAt_new (by omega) (by omega) (by omega) (by omega) (by omega)
          exact ⟨f5.at', small1000 (by omega), g5.oth f5.at' f5.fr hne f5.ne, f5.set (f5.prs.app (.one pr)), by rw [List.length_append, List.length_singleton]; omega, hne⟩
        · rintro ys H3 ⟨fl, fd', hly, hne⟩
          refine ⟨l, Dl, ps', ys, rfl, rfl, fl.at', fd'.at', sl3 (by omega), ?_⟩
          exact ⟨ps' ++ ys, _, rfl, fl.set (fl.prs.app fd'.prs), by rw [List.length_append]; omega⟩
      · rintro σ H2 ⟨ps', o7', rfl, fs', hl'⟩
        exact kn _ _ ⟨way, m, l, ps', _, _, _, _, rfl, fs', by omega, hm0, hm1, hw0, hw1, fun h => absurd h (by omega)⟩
    case i6 =>
      rintro D σ Hx ⟨⟨way, m, l, ps, o5, o6, o7, o8, rfl, fs, hl, hm0, hm1, hw0, hw1, hj⟩, kn⟩
      refine ⟨_, rfl, rfl, _, rfl, ?_⟩
      refine ite2 (fun h1 => ?_) (fun h1 => kn _ _ ⟨way, m, l, ps, _, _, _, _, rfl, fs, hl, hm0, hm1, hw0, hw1, fun h => hj (by omega)⟩)
      have h1 := eqI h1
      obtain rfl : ps = [] := hj (by omega)
      refine ⟨_, rfl, _, _, rfl, rfl, ⟨by decide, by decide⟩, _, _, rfl, rfl, ?_⟩
      obtain ⟨m', em, hm'0, hm'1⟩ : ∃ m' : Int, 3 + m / 3 = m' ∧ 3 ≤ m' ∧ m' ≤ 12 := ⟨_, rfl, by omega, by omega⟩
      refine ⟨3, rfl, by decide, by decide, for_range (lo := 0) (n := 3) (fun i σ H2 => ∃ (ps' : List V) (o7 : Option V), σ = [some (.ref t), some (.bl g), some (.int way), some (.int m'), some (.ref l), o5, o6, o7, o8] ∧ FS t H H2 l ps' m' ∧ ps'.length ≤ 3 * i)
        ⟨[], o7, by rw [← em]; rfl, fs.none, Nat.zero_le _⟩ ?_ ?_⟩
      · rintro i σ H2 hi ⟨ps', o7', rfl, fs', hl'⟩
        refine ⟨_, rfl, .inl ⟨rfl, _, SqL.of fs'.at'⟩, _, rfl, _, rfl, _, _, rfl, rfl, _, _, rfl, rfl, (by show (0 : Int) < 3; decide), by show 2 ≤ sizeLine; decide, fun p hp => ?_⟩
        have f5 := fs'.new (o := .tup [.int (0 + (i : Int)), .int ((0 + (i : Int) + 1) % 3)]) hp
        have pr : PairAt (upd H2 p (.tup [.int (0 + (i : Int)), .int ((0 + (i : Int) + 1) % 3)])) m' (.ref p) := pairAt_new (by omega) (by omega) (by omega) (by omega) (by omega)
        refine ⟨by show 1 ≤ sizeLine; decide, fun l2 hl2 => ?_⟩
        have f6 := f5.new (o := .lst [.ref p]) hl2
        refine ⟨_, rfl, t, 3, rfl, f6.tape, by decide, by decide, fun b H4 hb0 hb1 T4 E4 => ?_⟩
        have f7 := f6.draw T4 E4
        have hl2' : H4 l2 = some (.lst [.ref p]) := E4 _ _ (f5.tape.ne hl2) upd_same
        have pr7 : PairAt H4 m' (.ref p) := (pr.mono (.new hl2)).mono (E4.keepT f6.tape)
        refine ⟨_, _, rfl, rfl, l2, 1 + b, [.ref p], rfl, rfl, hl2', by omega, by omega, sl3 (by show 1 * (1 + b).toNat ≤ 1000; omega), fun q2 hq2 => ?_⟩
        have f8 := f7.new (o := .lst (List.replicate (1 + b).toNat [V.ref p]).flatten) hq2
        have hlen : (List.replicate (1 + b).toNat [V.ref p]).flatten.length = (1 + b).toNat := by rw [len_rep]; simp
        refine ⟨l, q2, ps', _, rfl, rfl, f8.at', upd_same, sl3 (by rw [hlen]; omega), ?_⟩
        refine ⟨_, _, rfl, f8.set (f8.prs.app fun v hv => ?_), by rw [List.length_append, hlen]; omega⟩
        obtain ⟨x, hx, hvx⟩ := List.mem_flatten.mp hv
        have ex := List.eq_of_mem_replicate hx
        subst ex
        rw [List.mem_singleton.mp hvx]
        exact pr7.mono (.new hq2)
      · rintro σ H2 ⟨ps', o7', rfl, fs', hl'⟩
        exact kn _ _ ⟨way, m', l, ps', _, _, _, _, rfl, fs', by omega, by omega, hm'1, hw0, hw1, fun h => absurd h (by omega)⟩
    -- the whole
    refine ⟨_, rfl, t, 8, rfl, T0, by decide, by decide, fun way H1 hw0 hw1 T1 E1 => ?_⟩
    refine ⟨_, rfl, t, 7, rfl, T1, by decide, by decide, fun a H2 ha0 ha1 T2 E2 => ?_⟩
    refine ⟨_, rfl, t, 6, rfl, T2, by decide, by decide, fun b H3 hb0 hb1 T3 E3 => ?_⟩
    refine ⟨_, _, rfl, rfl, by show 2 ≤ sizeLine; decide, fun p hp => ?_⟩
    have E4 : Ext t H (upd H3 p (.lst [.int a, .int (7 + b)])) := ((E1.trans E2).trans E3).new hp
    have T4 : Tape (upd H3 p (.lst [.int a, .int (7 + b)])) t := T3.new hp
    refine ⟨_, rfl, .inr ⟨g, rfl, ?_⟩⟩
    obtain ⟨m, hm, hm0, hm1⟩ : ∃ m : Int, atI [V.int a, V.int (7 + b)] (if g = true then 1 else 0) = some (.int m) ∧ 0 ≤ m ∧ m ≤ 12 := by
      cases g
      · exact ⟨a, rfl, by omega, by omega⟩
      · exact ⟨7 + b, rfl, by omega, by omega⟩
    refine ⟨p, _, _, _, rfl, rfl, SqL.of upd_same, hm, ?_⟩
    refine ⟨by show 0 ≤ sizeLine; decide, fun l hl => ?_⟩
    refine ⟨⟨way, m, l, [], none, none, none, none, rfl, FS.lay T4 E4 T0 hl .nil, Nat.zero_le _, hm0, hm1, hw0, hw1, fun _ => rfl⟩, fun _ _ h => ⟨h, fun _ _ h => ⟨h, fun _ _ h => ⟨h, fun _ _ h => ⟨h, fun _ _ h => ⟨h, ?_⟩⟩⟩⟩⟩⟩
    rintro σ H5 ⟨way, m, l, ps, o5, o6, o7, o8, rfl, fs, hl, hm0, hm1, _, _, _⟩
    refine ⟨_, rfl, _, rfl, by show 2 ≤ sizeLine; decide, fun p5 hp5 => ?_⟩
    exact q p5 l m ps _ (fs.ext.free hp5 (fs.tape.ne hp5)) upd_same (fs.new hp5) hl hm0 hm1
end
end Hue
set_option Elab.async false
set_option linter.all false
set_option maxRecDepth 100000
set_option maxHeartbeats 4000000
namespace Hue
open PySem L2
section
variable {X : Cx} {K : PySem.W.Frag}
theorem ix_listK (hK : X.K = K) : IxR X (rIxL K) := hK ▸ ix_list
theorem ix_tupK (hK : X.K = K) : IxR X (rIxT K) := hK ▸ ix_tup
theorem call_lenK (hK : X.K = K) : CallR X (.builtin "len") (fun xs H Q => ∃ p ys, xs = [.ref p] ∧ (SqL K H p ys ∨ SqT K H p ys) ∧ Q (.int ys.length) H) := hK ▸ call_len_seq
theorem op_inK (hK : X.K = K) : OpR X (compareOp .In) (rIn K false) := hK ▸ op_in_seq
end
structure GS (t : Addr) (H0 H : Hp) (l : Addr) (vs : List V) : Prop where
  tape : Tape H t
  ext : Ext t H0 H
  fr : H0 l = none
  ne : t ≠ l
  at' : H l = some (.lst vs)
section
variable {t l : Addr} {H0 H H' : Hp} {ps : List V}
theorem GS.draw (h : GS t H0 H l ps) (T : Tape H' t) (e : Ext t H H') : GS t H0 H' l ps := ⟨T, h.ext.trans e, h.fr, h.ne, e _ _ h.ne.symm h.at'⟩
theorem GS.new {p : Addr} {o : HO} (h : GS t H0 H l ps) (n : H p = none) : GS t H0 (upd H p o) l ps :=
  ⟨h.tape.new n, h.ext.new n, h.fr, h.ne, by rw [upd_ne (ne_of_none h.at' n)]; exact h.at'⟩
theorem GS.set {qs : List V} (h : GS t H0 H l ps) : GS t H0 (upd H l (.lst qs)) l qs := ⟨h.tape.upd h.ne, h.ext.own h.fr, h.fr, h.ne, upd_same⟩
theorem GS.oth {D : Addr} {xs : List V} {o : HO} (h : GS t H0 H l ps) (n0 : H0 D = none) (hne : l ≠ D) (tne : t ≠ D) : GS t H0 (upd H D o) l ps :=
  ⟨h.tape.upd tne, h.ext.own n0, h.fr, h.ne, by rw [upd_ne hne]; exact h.at'⟩
theorem GS.lay {p : Addr} {qs : List V} (T : Tape H t) (e : Ext t H0 H) (n : H p = none) : GS t H0 (upd H p (.lst qs)) p qs := ⟨T.new n, e.new n, e.free n (T.ne n), (T.ne n).symm, upd_same⟩
theorem FS.up {H1 : Hp} {m : Int} (h : FS t H H' l ps m) (e : Ext t H0 H) : FS t H0 H' l ps m := ⟨h.tape, e.trans h.ext, e.free h.fr h.ne.symm, h.ne, h.at', h.prs⟩
end
def TieAt (H : Hp) (m : Int) (v : V) : Prop := ∃ q i j, v = .ref q ∧ H q = some (.tup [.int i, .int j]) ∧ 0 ≤ i ∧ i < j ∧ j < m
def Ties (H : Hp) (m : Int) (vs : List V) : Prop := ∀ v ∈ vs, TieAt H m v
theorem TieAt.mono {H H' : Hp} {m : Int} {v : V} (h : TieAt H m v) (k : KeepT H H') : TieAt H' m v := let ⟨q, i, j, e, h, r⟩ := h; ⟨q, i, j, e, k _ _ h, r⟩
theorem Ties.mono {H H' : Hp} {m : Int} {vs : List V} (h : Ties H m vs) (k : KeepT H H') : Ties H' m vs := fun v hv => (h v hv).mono k
def WebAt (H : Hp) (w : Addr) (m : Int) (vs : List V) : Prop := ∃ ts, H w = some (.tup [.int m, .ref ts]) ∧ H ts = some (.tup vs) ∧ Ties H m vs ∧ vs.length ≤ 63 ∧ 0 ≤ m ∧ m ≤ 12
theorem WebAt.mono {H H' : Hp} {w : Addr} {m : Int} {vs : List V} (h : WebAt H w m vs) (k : KeepT H H') : WebAt H' w m vs := let ⟨ts, a, b, c, r⟩ := h; ⟨ts, k _ _ a, k _ _ b, c.mono k, r⟩
def spWeb : Sp := fun vs H Q _ => ∃ (t : Addr) (g : Bool), vs = [.ref t, .bl g] ∧ Tape H t ∧ ∀ (w : Addr) (m : Int) (vs : List V) (H' : Hp), WebAt H' w m vs → Tape H' t → Ext t H H' → Q (.ref w) H'
theorem nd_tpt : ((["_law_turn"] : List Str) ++ (["_law_pairs", "_law_tape_here"] : List Str)).Nodup := by decide +kernel
section
variable {P : Program} {w : World} {K : PySem.W.Frag} {mg : Str → Option Value} {base : Heap}
abbrev CPairs (P : Program) (w : World) (K : PySem.W.Frag) (mg : Str → Option Value) (base : Heap) : Prop := Callee P w K mg base 2 "_law_pairs_by" ["_law_tape_here", "_law_great"] spPairs
theorem scWeb : FnScope ["_law_tape_here", "_law_great", "_law_many", "_law_pairs", "_law_ties", "_law_one", "_law_other"] ["_law_tape_here", "_law_great"] (defScope sWeb) := ⟨rfl, rfl, rfl, by decide +kernel, rfl, by decide +kernel, by decide +kernel⟩
def WSt (t : Addr) (g : Bool) (H0 : Hp) (B : Nat) (σ : St) (H : Hp) : Prop := ∃ (m : Int) (l : Addr) (ps : List V), σ = [some (.ref t), some (.bl g), some (.int m), some (.ref l), none, none, none] ∧ FS t H0 H l ps m ∧ ps.length ≤ B ∧ 0 ≤ m ∧ m ≤ 12
theorem ok_web {f : Addr} {fd : FuncData} (F : Fun K "_law_web" "_law_web" sWeb f fd) (T : Txt K mg) (CD : CDraw P w K mg base) (CP : CPairs P w K mg base) : FnOk P w K mg base CX0 3 f fd ["_law_tape_here", "_law_great"] spWeb := by
  refine F.ok scWeb (fun vs H Q E h => ?_) (fun cdv A outer s H vs Q E hr h => ?_)
  · obtain ⟨t, g, rfl, _⟩ := h; rfl
  · obtain ⟨t, g, rfl, T0, q⟩ := h
    have hr1 : Room 1 _ := hr.mono (by decide)
    have hu := hr.units0
    refine ⟨_, pss_cons (ps_asg (pe_def CP hr (by rfl) (pa_cons (pv 0) (pa_cons (pv 1) pa_nil))) (pg_tup rfl (pgs_cons (pg_name (i := 2) scWeb.nd rfl (Or.inl rfl)) (pgs_cons (pg_name (i := 3) scWeb.nd rfl (Or.inr rfl)) pgs_nil))))
      (pss_cons (ps_via (tTo (WSt t g H 60) (WSt t g H 60)) (ps_if (pt_cmpR (op_eqL hu) (pv 3) (pe_lst pa_nil) (nomark _))
          (pss_one (ps_asg (pe_def CP hr (by rfl) (pa_cons (pv 0) (pa_cons (pv 1) pa_nil))) (pg_tup rfl (pgs_cons (pg_name (i := 2) scWeb.nd rfl (Or.inl rfl)) (pgs_cons (pg_name (i := 3) scWeb.nd rfl (Or.inr rfl)) pgs_nil))))) pss_nil) ?i1)
      (pss_cons (ps_via (tTo (WSt t g H 60) (WSt t g H 63)) (ps_if (pw_and (pt_cmpR (op_neL hu) (pv 3) (pe_lst pa_nil) (nomark _)) (pw_and1 (pt_cmpR op_eq (pe_def CD hr1 (by rfl) (pa_cons (pv 0) (pa_cons pe_int pa_nil))) pe_int (nomark _)))).pt
          (pss_one (ps_set (i := 3) scWeb.nd rfl (Or.inr rfl) (pe_op op_cat (pv 3) (pe_comp ["_law_turn"] ["_law_pairs", "_law_tape_here"] [3, 0] (pi_range1 (by rfl) T.range (pa_cons (pe_op op_add pe_int (pe_def CD hr1 (by rfl) (pa_cons (pv 0) (pa_cons pe_int pa_nil)))) pa_nil)) (fun _ _ _ _ _ => pg_name (i := 0) nd_tpt rfl (Or.inl rfl)) (fun _ _ _ _ _ => pifs_nil)
              (fun _ _ _ _ _ => pe_ix (ix_listK (K := K) rfl) (pv 1) (pe_def CD hr1 (by rfl) (pa_cons (pv 2) (pa_cons (pe_callB (call_lenK (K := K) rfl) (by rfl) T.len b_len (pa_cons (pv 1) pa_nil)) pa_nil))) (fun _ _ => rfl)))))) pss_nil) ?i2)
      (pss_cons (ps_set (i := 4) scWeb.nd rfl (Or.inl rfl) (pe_lst pa_nil))
      (pss_cons (ps_for PassesOwn.never rfl (pi_list (pv 3)) (pg_tup rfl (pgs_cons (pg_name (i := 5) scWeb.nd rfl (Or.inl rfl)) (pgs_cons (pg_name (i := 6) scWeb.nd rfl (Or.inl rfl)) pgs_nil)))
          (pss_one (ps_expr (pe_bm PySem.F.plainAttrs_list PySem.F.slot_list_insert PySem.F.type_list_insert mt_insert (pv 4) (pa_cons (pe_def CD hr1 (by rfl) (pa_cons (pv 0) (pa_cons (pe_op op_add (pe_callB call_len_seq (by rfl) T.len b_len (pa_cons (pv 4) pa_nil)) pe_int) pa_nil)))
            (pa_cons (pe_tup (pa_cons (pe_callB (call_min2 rfl) (by rfl) T.min b_min (pa_cons (pv 5) (pa_cons (pv 6) pa_nil))) (pa_cons (pe_callB (call_max2 rfl) (by rfl) T.max b_max (pa_cons (pv 5) (pa_cons (pv 6) pa_nil))) pa_nil))) pa_nil))))))
      (pss_one (ps_ret (pe_tup (pa_cons (pv 2) (pa_cons (pe_callTy call_tuple_of (by rfl) T.tuple b_tuple (pa_cons (pv 4) pa_nil)) pa_nil))))))))), ?_⟩
    case i1 =>
      rintro D σ Hx ⟨⟨m, l, ps, rfl, fs, hl, hm0, hm1⟩, kn⟩
      refine ⟨_, rfl, by show 0 ≤ sizeLine; decide, fun p hp => ?_⟩
      have f1 := fs.new (o := .lst []) hp
      refine ⟨l, p, ps, [], rfl, rfl, SqL.of f1.at', SqL.of upd_same, .inr (.inr rfl), _, rfl, ?_⟩
      refine ite2 (fun _ => ?_) (fun _ => kn _ _ ⟨m, l, ps, rfl, f1, hl, hm0, hm1⟩)
      refine ⟨_, rfl, _, rfl, t, g, rfl, f1.tape, fun p2 l2 m2 ps2 H2 hp2 hH2 fs2 hl2 h0 h1 => ?_⟩
      refine ⟨p2, _, rfl, SqT.of hH2, rfl, _, _, rfl, _, _, rfl, rfl, ?_⟩
      exact kn _ _ ⟨m2, l2, ps2, rfl, FS.up (H1 := H) fs2 f1.ext, hl2, h0, h1⟩
    case i2 =>
      rintro D σ Hx ⟨⟨m, l, ps, rfl, fs, hl, hm0, hm1⟩, kn⟩
      refine ⟨_, rfl, by show 0 ≤ sizeLine; decide, fun p hp => ?_⟩
      have f1 := fs.new (o := .lst []) hp
      refine ⟨l, p, ps, [], rfl, rfl, SqL.of f1.at', SqL.of upd_same, .inr (.inr rfl), _, rfl, ?_⟩
      refine ite2 (fun hne => ?_) (fun _ => iteF (kn _ _ ⟨m, l, ps, rfl, f1, by omega, hm0, hm1⟩))
      have hps : 0 < ps.length := by
        cases ps with
        | nil => exact absurd hne (by decide)
        | cons _ _ => simp
      refine ⟨_, rfl, t, 4, rfl, f1.tape, by decide, by decide, fun r H2 hr0 hr1' T2 E2 => ?_⟩
      have f2 := f1.draw T2 E2
      refine ⟨rfl, _, rfl, ?_⟩
      refine ite2 (fun _ => ?_) (fun _ => kn _ _ ⟨m, l, ps, rfl, f2, by omega, hm0, hm1⟩)
      refine ⟨_, rfl, _, rfl, t, 3, rfl, f2.tape, by decide, by decide, fun b H3 hb0 hb1 T3 E3 => ?_⟩
      have f3 := f2.draw T3 E3
      refine ⟨_, _, rfl, rfl, 1 + b, rfl, by omega, by omega, fun Dl hD => comp_range (lo := 0) (n := (1 + b).toNat) (fun k ys H4 => FS t H H4 l ps m ∧ FS t H H4 Dl ys m ∧ ys.length ≤ k ∧ l ≠ Dl)
        ⟨f3.new hD, FS.lay f3.tape f3.ext T0 hD .nil, Nat.le_refl _, ne_of_none f3.at' hD⟩ ?_ ?_⟩
      · rintro k ys H4 hk ⟨fl, fd', hly, hne⟩
        refine compT ?_
        refine ⟨_, rfl, _, rfl, _, rfl, l, ps, rfl, .inl (SqL.of fl.at'), t, _, rfl, fl.tape, by omega, by omega, fun c H5 hc0 hc1 T5 E5 => ?_⟩
        have fl5 := fl.draw T5 E5
        have fd5 := fd'.draw T5 E5
        have hget : ps[c.toNat]? = some (ps[c.toNat]'(by omega)) := by simp
        refine ⟨l, ps, c, _, rfl, rfl, SqL.of fl5.at', (by have := atI_nat hget; rwa [Int.toNat_of_nonneg hc0] at this), ?_⟩
        exact ⟨fd5.at', small1000 (by omega), fl5.oth fd5.at' fd5.fr hne fd5.ne, fd5.set (fd5.prs.app (.one (fl5.prs _ (List.getElem_mem _)))), by rw [List.length_append, List.length_singleton]; omega, hne⟩
      · rintro ys H4 ⟨fl, fd', hly, hne⟩
        refine ⟨l, Dl, ps, ys, rfl, rfl, fl.at', fd'.at', sl3 (by omega), fun q2 hq2 => ?_⟩
        exact kn _ _ ⟨m, q2, ps ++ ys, rfl, FS.lay fl.tape fl.ext T0 hq2 (fl.prs.app fd'.prs), by rw [List.length_append]; omega, hm0, hm1⟩
    -- the whole
    refine ⟨_, rfl, _, rfl, t, g, rfl, T0, fun p2 l2 m2 ps2 H2 hp2 hH2 fs2 hl2 h0 h1 => ?_⟩
    refine ⟨p2, _, rfl, SqT.of hH2, rfl, _, _, rfl, _, _, rfl, rfl, ?_⟩
    refine ⟨⟨m2, l2, ps2, rfl, fs2, hl2, h0, h1⟩, fun _ _ h => ⟨h, ?_⟩⟩
    rintro σ H3 ⟨m, l, ps, rfl, fs, hl, hm0, hm1⟩
    refine ⟨by show 0 ≤ sizeLine; decide, fun d hd => ?_⟩
    have f4 := fs.new (o := .lst []) hd
    refine ⟨_, rfl, l, rfl, ⟨_, SqL.of f4.at'⟩, for_list (K := K) (a := l) (xs := ps) (fun i σ H4 => ∃ (vs : List V) (o5 o6 : Option V), σ = [some (.ref t), some (.bl g), some (.int m), some (.ref l), some (.ref d), o5, o6] ∧ FS t H H4 l ps m ∧ GS t H H4 d vs ∧ Ties H4 m vs ∧ vs.length = i)
      ⟨[], none, none, rfl, f4, GS.lay fs.tape fs.ext hd, (fun _ h => nomatch h), rfl⟩ (fun i σ H4 _ ⟨_, _, _, _, f, _⟩ => SqL.of f.at') ?_ ?_⟩
    · rintro i x σ H4 hx ⟨vs, o5, o6, rfl, fl, gs, ts, hvl⟩
      have hil : i < ps.length := (List.getElem?_eq_some_iff.mp hx).1
      obtain ⟨qa, a, b, rfl, hqa, ha0, ha1, hb0, hb1, hab⟩ := fl.prs x (List.mem_of_getElem? hx)
      have hne : l ≠ d := ne_of_none fs.at' hd
      refine ⟨qa, _, rfl, SqT.of hqa, rfl, _, _, rfl, _, _, rfl, rfl, ?_⟩
      refine ⟨_, rfl, .inl ⟨rfl, _, SqL.of gs.at'⟩, _, rfl, _, rfl, d, vs, rfl, .inl (SqL.of gs.at'), _, _, rfl, rfl, t, _, rfl, gs.tape, by omega, by omega, fun c H5 hc0 hc1 T5 E5 => ?_⟩
      have fl5 := fl.draw T5 E5
      have gs5 := gs.draw T5 E5
      have ts5 := ts.mono (E5.keepT gs.tape)
      refine ⟨_, rfl, _, rfl, a, b, rfl, _, rfl, _, rfl, a, b, rfl, by show 2 ≤ sizeLine; decide, fun p hp => ?_⟩
      have gs6 := gs5.new (o := .tup [.int (if b < a then b else a), .int (if b > a then b else a)]) hp
      have fl6 := fl5.new (o := .tup [.int (if b < a then b else a), .int (if b > a then b else a)]) hp
      have tn : TieAt (upd H5 p (.tup [.int (if b < a then b else a), .int (if b > a then b else a)])) m (.ref p) := ⟨p, _, _, rfl, upd_same, by split <;> omega, by split <;> split <;> omega, by split <;> omega⟩
      refine ⟨d, vs, c, _, rfl, rfl, gs6.at', hc0, by omega, small1000 (by omega), ?_⟩
      refine ⟨vs.take c.toNat ++ .ref p :: vs.drop c.toNat, _, _, rfl, fl6.oth gs6.at' gs6.fr hne gs6.ne, gs6.set, fun v hv => ?_, ?_⟩
      · refine TieAt.mono ?_ (.lst gs6.at')
        rcases List.mem_append.mp hv with hv | hv
        · exact (ts5 v (List.mem_of_mem_take hv)).mono (.new hp)
        · rcases List.mem_cons.mp hv with rfl | hv
          · exact tn
          · exact (ts5 v (List.mem_of_mem_drop hv)).mono (.new hp)
      · rw [List.length_append, List.length_cons, List.length_take, List.length_drop]; omega
    · rintro σ H4 ⟨vs, o5, o6, rfl, fl, gs, ts, hvl⟩
      refine ⟨_, rfl, _, rfl, d, vs, rfl, .inl ⟨SqL.of gs.at', fun l3 hl3 => ?_⟩⟩
      refine ⟨by show 2 ≤ sizeLine; decide, fun p3 hp3 => ?_⟩
      have g3 := (gs.new (o := .tup vs) hl3).new (o := .tup [.int m, .ref l3]) hp3
      refine q p3 m vs _ ⟨l3, upd_same, ?_, (ts.mono (.new hl3)).mono (.new hp3), by omega, hm0, hm1⟩ g3.tape g3.ext
      rw [upd_ne (ne_of_none (upd_same (H := H4) (a := l3) (o := .tup vs)) hp3)]
      exact upd_same
end
end Hue
set_option Elab.async false
set_option linter.all false
set_option maxRecDepth 100000
set_option maxHeartbeats 1500000
namespace Hue
open PySem L2
theorem keepN {H : Hp} {b p : Addr} {o u : HO} (h : H b = some o) (n : H p = none) : (upd H p u) b = some o := by rw [upd_ne (ne_of_none h n)]; exact h
theorem keepO {H : Hp} {b p : Addr} {o u : HO} (h : H b = some o) (n : b ≠ p) : (upd H p u) b = some o := by rw [upd_ne n]; exact h
def ktn (t c : String) : Option Bool := if (Value.type t == Value.type c) = true then some true else if PySem.W.kitMeta c = true then (fastBuiltinMro t).map (·.contains (.type c)) else none
theorem kit_n {K : PySem.W.Frag} (t c : String) : PySem.W.kitOne K (.type t) (.type c) = ktn t c := rfl
theorem kt_ll : ktn "list" "list" = some true := by decide +kernel
theorem kt_lt : ktn "list" "tuple" = some false := by decide +kernel
theorem kt_il : ktn "int" "list" = some false := by decide +kernel
theorem kt_it : ktn "int" "tuple" = some false := by decide +kernel
theorem kt_is : ktn "int" "str" = some false := by decide +kernel
theorem kt_ii : ktn "int" "int" = some true := by decide +kernel
theorem kt_ib : ktn "int" "bool" = some false := by decide +kernel
theorem kt_tl : ktn "tuple" "list" = some false := by decide +kernel
theorem kt_tt : ktn "tuple" "tuple" = some true := by decide +kernel
theorem any_lst {K : PySem.W.Frag} : PySem.W.kitAny K (.type "list") (["list", "tuple"].map Value.type) = some true := by
  show (match PySem.W.kitOne K (.type "list") (.type "list") with | some true => some true | some false => PySem.W.kitAny K (.type "list") [.type "tuple"] | none => none) = some true
  rw [kit_n, kt_ll]
theorem any_two_f {K : PySem.W.Frag} {t : String} (h1 : ktn t "list" = some false) (h2 : ktn t "tuple" = some false) : PySem.W.kitAny K (.type t) (["list", "tuple"].map Value.type) = some false := by
  show (match PySem.W.kitOne K (.type t) (.type "list") with | some true => some true | some false => (match PySem.W.kitOne K (.type t) (.type "tuple") with | some true => some true | some false => some false | none => none) | none => none) = some false
  rw [kit_n, h1]
  show (match PySem.W.kitOne K (.type t) (.type "tuple") with | some true => some true | some false => some false | none => none) = some false
  rw [kit_n, h2]
theorem pss_no {X : Cx} {sts : List Stmt} : PSs X sts (fun _ _ _ => False) := fun _ _ _ _ _ _ h => h.elim
theorem pg_tupK {X : Cx} {K : PySem.W.Frag} {es : List Expr} {k : Nat} {t : TGs} {n : Nat} {pos : Pos} (hK : X.K = K) (hc : X.calm = true) (h : PGs X es t)
    (hn : (assignEach es X.env).length = n := by rfl) (hst : (assignEach es X.env).findIdx? (·.1) = none := by rfl) : PG X (.Tuple es k pos) (gTup K n t) := hK ▸ pg_tup hc h hn hst
theorem bl_t {Q : VK} {c : Prop} [Decidable c] {H : Hp} (h : c) (q : Q (.bl true) H) : Q (.bl (decide c)) H := by rw [decide_eq_true h]; exact q
theorem iteD {c A B : Prop} [Decidable c] (h : c) (a : A) : if decide c = true then A else B := by rw [if_pos (decide_eq_true h)]; exact a
theorem iteND {c A B : Prop} [Decidable c] (h : ¬ c) (a : B) : if decide c = true then A else B := by rw [if_neg (by rw [decide_eq_true_eq]; exact h)]; exact a
def Atom (v : V) : Prop := v = .non ∨ ∃ n : Int, v = .int n
def Sm : Nat → Hp → V → V → Prop
  | 0, _, x, y => x = y ∧ Atom x
  | n + 1, H, x, y => ∃ a b xs ys, x = .ref a ∧ y = .ref b ∧ H a = some (.lst xs) ∧ H b = some (.lst ys) ∧ xs.length = ys.length ∧ xs.length ≤ 900 ∧ ∀ (i : Nat) u v, xs[i]? = some u → ys[i]? = some v → Sm n H u v
theorem Sm.mono {H H' : Hp} (s : Same H H') : ∀ (n : Nat) {x y : V}, Sm n H x y → Sm n H' x y
  | 0, _, _, h => h
  | n + 1, _, _, ⟨a, b, xs, ys, e1, e2, h1, h2, l1, l2, q⟩ => ⟨a, b, xs, ys, e1, e2, s _ _ h1, s _ _ h2, l1, l2, fun i u v hu hv => (q i u v hu hv).mono s n⟩
theorem same_new {H H' : Hp} {p : Addr} {o : HO} (s : Same H H') (n : H' p = none) : Same H (upd H' p o) := fun b u e => keepN (s b u e) n
theorem same_own {H H' : Hp} {p : Addr} {o : HO} (s : Same H H') (n : H p = none) : Same H (upd H' p o) := fun b u e => keepO (s b u e) (ne_of_none e n)
end Hue
set_option Elab.async false
set_option linter.all false
set_option maxRecDepth 100000
set_option maxHeartbeats 1500000
namespace Hue
open PySem L2
def WebE (H : Hp) (w : Addr) (m : Int) (es : List (Int × Int)) : Prop := ∃ (ta : Addr) (ts : List V), H w = some (.tup [.int m, .ref ta]) ∧ H ta = some (.tup ts) ∧ ts.length = es.length ∧
  (∀ (k : Nat) v, ts[k]? = some v → ∃ q e, v = .ref q ∧ es[k]? = some e ∧ H q = some (.tup [.int e.1, .int e.2])) ∧ (∀ e ∈ es, 0 ≤ e.1 ∧ e.1 < e.2 ∧ e.2 < m) ∧ es.length ≤ 63 ∧ 0 ≤ m ∧ m ≤ 12
theorem WebE.mono {H H' : Hp} {w : Addr} {m : Int} {es : List (Int × Int)} (h : WebE H w m es) (k : KeepT H H') : WebE H' w m es :=
  let ⟨ta, ts, a, b, c, d, r⟩ := h
  ⟨ta, ts, k _ _ a, k _ _ b, c, fun i v hv => let ⟨q, e, e1, e2, e3⟩ := d i v hv; ⟨q, e, e1, e2, k _ _ e3⟩, r⟩
theorem ties_pure {H : Hp} {m : Int} : ∀ (ts : List V), Ties H m ts → ∃ es : List (Int × Int), ts.length = es.length ∧ (∀ (k : Nat) v, ts[k]? = some v → ∃ q e, v = .ref q ∧ es[k]? = some e ∧ H q = some (.tup [.int e.1, .int e.2])) ∧ (∀ e ∈ es, 0 ≤ e.1 ∧ e.1 < e.2 ∧ e.2 < m)
  | [], _ => ⟨[], rfl, fun k v h => by simp at h, fun _ h => nomatch h⟩
  | v :: ts, h => by
    obtain ⟨es, h1, h2, h3⟩ := ties_pure ts (fun u hu => h u (List.mem_cons_of_mem _ hu))
    obtain ⟨q, i, j, e1, e2, e3⟩ := h v (List.mem_cons_self ..)
    refine ⟨(i, j) :: es, by simp [h1], fun k u hu => ?_, fun e he => ?_⟩
    · cases k with
      | zero =>
        simp at hu
        subst hu
        exact ⟨q, (i, j), e1, rfl, e2⟩
      | succ k => exact h2 k u (by simpa using hu)
    · rcases List.mem_cons.mp he with rfl | he
      · exact e3
      · exact h3 e he
theorem WebAt.pure {H : Hp} {w : Addr} {m : Int} {ts : List V} (h : WebAt H w m ts) : ∃ es, WebE H w m es ∧ es.length = ts.length := by
  obtain ⟨ta, a, b, c, d, r⟩ := h
  obtain ⟨es, h1, h2, h3⟩ := ties_pure ts c
  exact ⟨es, ⟨ta, ts, a, b, h1, h2, h3, by omega, r⟩, h1.symm⟩
theorem sameKT {H H' : Hp} (s : Same H H') : KeepT H H' := fun b xs h => s b _ h
def SeqA (H : Hp) (a : Addr) (row : List V) : Prop := H a = some (.lst row) ∨ H a = some (.tup row)
theorem SeqA.same {H H' : Hp} {a : Addr} {row : List V} (h : SeqA H a row) (s : Same H H') : SeqA H' a row := h.imp (s _ _) (s _ _)
theorem pi_or {X : Cx} {tg l : Expr} {w1 w2 : TI} (h1 : PI X tg l w1) (h2 : PI X tg l w2) : PI X tg l (fun σ H R => w1 σ H R ∨ w2 σ H R) := fun pins s σ H R I h => h.elim (h1 pins s σ H R I) (h2 pins s σ H R I)
end Hue
set_option Elab.async false
set_option linter.all false
set_option maxRecDepth 100000
set_option maxHeartbeats 1500000
namespace Hue
open PySem L2
def kdD : PyData → String
  | .none => "NoneType"
  | .bool _ => "bool"
  | .int _ => "int"
  | .str _ => "str"
  | .list _ => "list"
  | .tuple _ => "tuple"
  | .dict _ => "dict"
theorem Dat.ty {K : PySem.W.Frag} {H : Hp} : ∀ {x : V} {d : PyData}, Dat H x d → TyOf K H x (.type (kdD d))
  | _, .none, h => by unfold Dat at h; subst h; exact .non
  | _, .bool b, h => by unfold Dat at h; subst h; exact .bl b
  | _, .int i, h => by unfold Dat at h; subst h; exact .int i
  | _, .str x, h => by unfold Dat at h; subst h; exact .str x
  | _, .list _, h => by unfold Dat at h; obtain ⟨a, xs, rfl, h1, _⟩ := h; exact .lst h1
  | _, .tuple _, h => by unfold Dat at h; obtain ⟨a, xs, rfl, h1, _⟩ := h; exact .tup h1
  | _, .dict _, h => by unfold Dat at h; exact h.elim
def isTupD : PyData → Bool
  | .tuple _ => true
  | _ => false
def isIntD : PyData → Bool
  | .int _ | .bool _ => true
  | _ => false
def isBlD : PyData → Bool
  | .bool _ => true
  | _ => false
def numD : PyData → Bool
  | .int _ => true
  | _ => false
theorem kt_tup {K : PySem.W.Frag} {d : PyData} {H : Hp} {x : V} (h : Dat H x d) : PySem.W.kitOne K (.type (kdD d)) (.type "tuple") = some (isTupD d) := by
  rw [kit_n]
  cases d with
  | dict _ => unfold Dat at h; exact h.elim
  | _ => simp only [kdD, isTupD]; decide +kernel
theorem kt_int {K : PySem.W.Frag} {d : PyData} {H : Hp} {x : V} (h : Dat H x d) : PySem.W.kitOne K (.type (kdD d)) (.type "int") = some (isIntD d) := by
  rw [kit_n]
  cases d with
  | dict _ => unfold Dat at h; exact h.elim
  | _ => simp only [kdD, isIntD]; decide +kernel
theorem kt_bl {K : PySem.W.Frag} {d : PyData} {H : Hp} {x : V} (h : Dat H x d) : PySem.W.kitOne K (.type (kdD d)) (.type "bool") = some (isBlD d) := by
  rw [kit_n]
  cases d with
  | dict _ => unfold Dat at h; exact h.elim
  | _ => simp only [kdD, isBlD]; decide +kernel
theorem num_eq (d : PyData) : (isIntD d && !isBlD d) = numD d := by cases d <;> rfl
def tieD (m : Int) : PyData → Bool
  | .tuple [.int a, .int b] => decide (0 ≤ a) && decide (a < b) && decide (b < m)
  | _ => false
def webD : PyData → Bool
  | .tuple [.int m, .tuple ts] => decide (0 ≤ m) && ts.all (tieD m)
  | _ => false
theorem dat_tup {H : Hp} {x : V} {d : PyData} (h : Dat H x d) (e : isTupD d = true) : ∃ ds a xs, d = .tuple ds ∧ x = .ref a ∧ H a = some (.tup xs) ∧ DatAll H xs ds := by
  cases d with
  | tuple ds => unfold Dat at h; obtain ⟨a, xs, e1, h1, h2⟩ := h; exact ⟨ds, a, xs, rfl, e1, h1, h2⟩
  | _ => cases e
theorem dat_int {H : Hp} {x : V} {d : PyData} (h : Dat H x d) (e : numD d = true) : ∃ i, d = .int i ∧ x = .int i := by
  cases d with
  | int i => unfold Dat at h; exact ⟨i, rfl, h⟩
  | _ => cases e
theorem two_of {H : Hp} {xs : List V} {ds : List PyData} (h : DatAll H xs ds) (e : xs.length = 2) : ∃ x y dx dy, xs = [x, y] ∧ ds = [dx, dy] ∧ Dat H x dx ∧ Dat H y dy := by
  have l := h.length
  match xs, ds, e, l with
  | [x, y], [dx, dy], _, _ =>
    unfold DatAll at h
    obtain ⟨h1, h⟩ := h
    unfold DatAll at h
    exact ⟨x, y, dx, dy, rfl, rfl, h1, h.1⟩
def spNum : Sp := fun vs H Q _ => ∃ x d, vs = [x] ∧ Dat H x d ∧ Q (.bl (numD d)) H
def pairD : PyData → Bool
  | .tuple ds => ds.length == 2
  | _ => false
def spPair : Sp := fun vs H Q _ => ∃ x d, vs = [x] ∧ Dat H x d ∧ Q (.bl (pairD d)) H
def spTie : Sp := fun vs H Q _ => ∃ m x d, vs = [.int m, x] ∧ Dat H x d ∧ Q (.bl (tieD m d)) H
abbrev sNum : Stmt := top 12
abbrev sPair : Stmt := top 13
abbrev sTie : Stmt := top 15
abbrev sIsWeb : Stmt := top 16
theorem nd_tm : ((["tie"] : List Str) ++ (["many"] : List Str)).Nodup := by decide +kernel
section
variable {P : Program} {w : World} {K : PySem.W.Frag} {mg : Str → Option Value} {base : Heap}
theorem scNum : FnScope ["thing"] ["thing"] (defScope sNum) := ⟨rfl, rfl, rfl, by decide +kernel, rfl, by decide +kernel, by decide +kernel⟩
theorem ok_num {f : Addr} {fd : FuncData} (F : Fun K "is_number" "is_number" sNum f fd) (T : Txt K mg) : FnOk P w K mg base CX0 1 f fd ["thing"] spNum := by
  refine F.ok scNum (fun vs H Q E h => ?_) (fun cdv A outer s H vs Q E hr h => ?_)
  · obtain ⟨_, _, rfl, _⟩ := h; rfl
  · obtain ⟨x, d, rfl, hd, q⟩ := h
    refine ⟨_, pss_one (ps_ret (pe_and (pe_callB call_isi1 (by rfl) T.isi b_isi (pa_cons (pv 0) (pa_cons (pe_bltn (v := .ty "int") (by rfl) T.int b_int rfl) pa_nil)))
      (pe_one (pe_not (pe_callB call_isi1 (by rfl) T.isi b_isi (pa_cons (pv 0) (pa_cons (pe_bltn (v := .ty "bool") (by rfl) T.bool b_bool rfl) pa_nil))))))), ?_⟩
    have e := num_eq d
    refine ⟨_, rfl, _, "int", _, _, rfl, Dat.ty hd, kt_int hd, _, rfl, ite2 (fun z => ?_) (fun z => ?_)⟩
    · refine ⟨_, rfl, _, "bool", _, _, rfl, Dat.ty hd, kt_bl hd, _, rfl, ?_⟩
      rw [z, Bool.true_and] at e
      show Q (.bl (!isBlD d)) H
      rw [e]; exact q
    · rw [show isIntD d = false by simpa using z, Bool.false_and] at e
      show Q (.bl false) H
      rw [e]; exact q
theorem scPair : FnScope ["thing"] ["thing"] (defScope sPair) := ⟨rfl, rfl, rfl, by decide +kernel, rfl, by decide +kernel, by decide +kernel⟩
theorem ok_pair {f : Addr} {fd : FuncData} (F : Fun K "is_pair" "is_pair" sPair f fd) (T : Txt K mg) : FnOk P w K mg base CX0 1 f fd ["thing"] spPair := by
  refine F.ok scPair (fun vs H Q E h => ?_) (fun cdv A outer s H vs Q E hr h => ?_)
  · obtain ⟨_, _, rfl, _⟩ := h; rfl
  · obtain ⟨x, d, rfl, hd, q⟩ := h
    refine ⟨_, pss_one (ps_ret (pe_and (pe_callB call_isi1 (by rfl) T.isi b_isi (pa_cons (pv 0) (pa_cons (pe_bltn (v := .ty "tuple") (by rfl) T.tuple b_tuple rfl) pa_nil)))
      (pe_one (pe_cmpR op_eq (pe_callB call_len_seq (by rfl) T.len b_len (pa_cons (pv 0) pa_nil)) pe_int (nomark _))))), ?_⟩
    refine ⟨_, rfl, _, "tuple", _, _, rfl, Dat.ty hd, kt_tup hd, _, rfl, ite2 (fun z => ?_) (fun z => ?_)⟩
    · obtain ⟨ds, a, xs, rfl, rfl, ha, hA⟩ := dat_tup hd z
      refine ⟨_, rfl, a, xs, rfl, .inr (SqT.of ha), rfl, ?_⟩
      have e : decide (V.int (xs.length : Nat) = V.int 2) = pairD (.tuple ds) := by
        show _ = (ds.length == 2)
        rw [hA.length, dec_int]
        rw [Bool.eq_iff_iff]
        simp
        omega
      rw [e]; exact q
    · have e : pairD d = false := by
        cases d with
        | tuple ds => exact absurd rfl z
        | _ => rfl
      rw [e] at q; exact q
theorem scTie : FnScope ["many", "thing", "one", "other"] ["many", "thing"] (defScope sTie) := ⟨rfl, rfl, rfl, by decide +kernel, rfl, by decide +kernel, by decide +kernel⟩
theorem ok_tie {f : Addr} {fd : FuncData} (F : Fun K "is_tie" "is_tie" sTie f fd) (CP : Callee P w K mg base 1 "is_pair" ["thing"] spPair) (CN : Callee P w K mg base 1 "is_number" ["thing"] spNum) : FnOk P w K mg base CX0 2 f fd ["many", "thing"] spTie := by
  refine F.ok scTie (fun vs H Q E h => ?_) (fun cdv A outer s H vs Q E hr h => ?_)
  · obtain ⟨_, _, _, rfl, _⟩ := h; rfl
  · obtain ⟨m, x, d, rfl, hd, q⟩ := h
    refine ⟨_, pss_cons (ps_if (pt_not (pt_val (pe_def CP hr (by rfl) (pa_cons (pv 1) pa_nil)))) (pss_one (ps_ret pe_bl)) pss_nil)
      (pss_cons (ps_asg (pv 1) (pg_tup (n := 2) rfl (pgs_cons (pg_name (i := 2) scTie.nd rfl (Or.inl rfl)) (pgs_cons (pg_name (i := 3) scTie.nd rfl (Or.inl rfl)) pgs_nil))))
      (pss_one (ps_ret (pe_and (pe_def CN hr (by rfl) (pa_cons (pv 2) pa_nil)) (pe_and (pe_def CN hr (by rfl) (pa_cons (pv 3) pa_nil)) (pe_one (pe_chain3 op_le op_lt op_lt pe_int (pv 2) (pv 3) (pv 0)))))))), ?_⟩
    refine ⟨_, rfl, x, d, rfl, hd, _, rfl, ?_⟩
    cases z : pairD d with
    | false =>
      refine iteT ?_
      have e : tieD m d = false := by
        unfold tieD
        split
        · cases z
        · rfl
      rw [e] at q; exact q
    | true =>
      refine iteF ?_
      obtain ⟨ds, a, xs, rfl, rfl, ha, hA⟩ := dat_tup hd (by cases d <;> first | rfl | cases z)
      have l2 : ds.length = 2 := by simpa [pairD] using z
      obtain ⟨u, v, du, dv, rfl, rfl, hu, hv⟩ := two_of hA (hA.length.trans l2)
      refine ⟨_, rfl, a, _, rfl, SqT.of ha, rfl, _, _, rfl, _, _, rfl, rfl, ?_⟩
      refine ⟨_, rfl, u, du, rfl, hu, _, rfl, ?_⟩
      cases z1 : numD du with
      | false =>
        refine iteF ?_
        have e : tieD m (.tuple [du, dv]) = false := by
          unfold tieD
          split
          · rename_i e1; cases e1; cases z1
          · rfl
        rw [e] at q; exact q
      | true =>
        obtain ⟨i, rfl, rfl⟩ := dat_int hu z1
        refine iteT ⟨_, rfl, v, dv, rfl, hv, _, rfl, ?_⟩
        cases z2 : numD dv with
        | false =>
          refine iteF ?_
          have e : tieD m (.tuple [.int i, dv]) = false := by
            unfold tieD
            split
            · rename_i e1; cases e1; cases z2
            · rfl
          rw [e] at q; exact q
        | true =>
          obtain ⟨j, rfl, rfl⟩ := dat_int hv z2
          have e : tieD m (.tuple [.int i, .int j]) = (decide (0 ≤ i) && decide (i < j) && decide (j < m)) := rfl
          rw [e] at q
          refine iteT ⟨_, rfl, _, _, rfl, rfl, _, rfl, ?_⟩
          by_cases c1 : 0 ≤ i
          · rw [decide_eq_true c1, Bool.true_and] at q
            refine iteD c1 ⟨_, rfl, _, _, rfl, rfl, _, rfl, ?_⟩
            by_cases c2 : i < j
            · rw [decide_eq_true c2, Bool.true_and] at q
              exact iteD c2 ⟨_, rfl, _, _, rfl, rfl, q⟩
            · rw [decide_eq_false c2, Bool.false_and] at q
              exact iteND c2 q
          · rw [decide_eq_false c1, Bool.false_and, Bool.false_and] at q
            exact iteND c1 q
theorem scIsWeb : FnScope ["thing", "many", "ties"] ["thing"] (defScope sIsWeb) := ⟨rfl, rfl, rfl, by decide +kernel, rfl, by decide +kernel, by decide +kernel⟩
end
theorem len_le_bulk : ∀ ts : List PyData, ts.length ≤ PyData.bulkAll ts
  | [] => Nat.zero_le _
  | t :: ts => by simp only [PyData.bulkAll, List.length_cons]; have := len_le_bulk ts; omega
theorem mem_bulk : ∀ {ds : List PyData} {t : PyData}, t ∈ ds → t.bulk ≤ PyData.bulkAll ds
  | d :: ds, t, h => by
    simp only [PyData.bulkAll]
    rcases List.mem_cons.mp h with rfl | h
    · omega
    · have := mem_bulk h; omega
theorem big_line {n : Nat} (h : n ≤ 100000) : n < sizeLine := Nat.lt_of_le_of_lt h (by decide)
def spIsWeb2 : Sp := fun vs H Q _ => ∃ x d, vs = [x] ∧ Dat H x d ∧ d.bulk ≤ 100000 ∧ ∀ H', Same H H' → Q (.bl (webD d)) H'
section
variable {P : Program} {w : World} {K : PySem.W.Frag} {mg : Str → Option Value} {base : Heap}
theorem webD_nopair {d : PyData} (h : pairD d = false) : webD d = false := by
  unfold webD
  split
  · cases h
  · rfl
theorem webD_nonum {du dv : PyData} (h : numD du = false) : webD (.tuple [du, dv]) = false := by
  unfold webD
  split
  · rename_i e; cases e; cases h
  · rfl
theorem webD_notup {du dv : PyData} (h : isTupD dv = false) : webD (.tuple [du, dv]) = false := by
  unfold webD
  split
  · rename_i e; cases e; cases h
  · rfl
theorem ok_isWeb {f : Addr} {fd : FuncData} (F : Fun K "is_web" "is_web" sIsWeb f fd) (T : Txt K mg) (CP : Callee P w K mg base 1 "is_pair" ["thing"] spPair) (CN : Callee P w K mg base 1 "is_number" ["thing"] spNum) (CT : Callee P w K mg base 2 "is_tie" ["many", "thing"] spTie) : FnOk P w K mg base CX0 3 f fd ["thing"] spIsWeb2 := by
  refine F.ok scIsWeb (fun vs H Q E h => ?_) (fun cdv A outer s H vs Q E hr h => ?_)
  · obtain ⟨_, _, rfl, _⟩ := h; rfl
  · obtain ⟨x, d, rfl, hd, hbk, q⟩ := h
    have hr1 : Room 1 _ := hr.mono (by decide)
    refine ⟨_, pss_cons (ps_if (pt_not (pt_val (pe_def CP hr1 (by rfl) (pa_cons (pv 0) pa_nil)))) (pss_one (ps_ret pe_bl)) pss_nil)
      (pss_cons (ps_asg (pv 0) (pg_tup (n := 2) rfl (pgs_cons (pg_name (i := 1) scIsWeb.nd rfl (Or.inr rfl)) (pgs_cons (pg_name (i := 2) scIsWeb.nd rfl (Or.inl rfl)) pgs_nil))))
      (pss_cons (ps_if (pw_or (pt_not (pt_val (pe_def CN hr1 (by rfl) (pa_cons (pv 1) pa_nil)))) (pw_or (pt_cmpR op_lt (pv 1) pe_int (nomark _)) (pw_or1 (pt_not (pt_val (pe_callB call_isi1 (by rfl) T.isi b_isi (pa_cons (pv 2) (pa_cons (pe_bltn (v := .ty "tuple") (by rfl) T.tuple b_tuple rfl) pa_nil)))))))).pt (pss_one (ps_ret pe_bl)) pss_nil)
      (pss_one (ps_ret (pe_callB (call_allB rfl) (by rfl) T.all b_all (pa_cons (pe_comp ["tie"] ["many"] [1] (pi_tup (pv 2)) (fun _ _ _ _ _ => pg_name (i := 0) nd_tm rfl (Or.inl rfl)) (fun _ _ _ _ _ => pifs_nil)
        (fun _ _ _ _ _ => pe_def CT hr (by rfl) (pa_cons (pv 1) (pa_cons (pv 0) pa_nil)))) pa_nil)))))), ?_⟩
    refine ⟨_, rfl, x, d, rfl, hd, _, rfl, ?_⟩
    cases z : pairD d with
    | false => refine iteT ?_; rw [webD_nopair z] at q; exact q H (Same.refl _)
    | true =>
      refine iteF ?_
      obtain ⟨ds, a, xs, rfl, rfl, ha, hA⟩ := dat_tup hd (by cases d <;> first | rfl | cases z)
      have l2 : ds.length = 2 := by simpa [pairD] using z
      obtain ⟨u, v, du, dv, rfl, rfl, hu, hv⟩ := two_of hA (hA.length.trans l2)
      refine ⟨_, rfl, a, _, rfl, SqT.of ha, rfl, _, _, rfl, _, _, rfl, rfl, ?_⟩
      refine ⟨_, rfl, u, du, rfl, hu, _, rfl, ?_⟩
      cases z1 : numD du with
      | false => refine iteT (iteT ?_); rw [webD_nonum z1] at q; exact q H (Same.refl _)
      | true =>
        obtain ⟨m, rfl, rfl⟩ := dat_int hu z1
        refine iteF ⟨_, rfl, _, _, rfl, rfl, _, rfl, ?_⟩
        by_cases c1 : m < 0
        · refine iteD c1 (iteT ?_)
          have e : webD (.tuple [.int m, dv]) = false := by
            unfold webD
            split
            · rename_i e; cases e; rw [decide_eq_false (by omega)]; rfl
            · rfl
          rw [e] at q; exact q H (Same.refl _)
        · refine iteND c1 ⟨_, rfl, _, "tuple", _, _, rfl, Dat.ty hv, kt_tup hv, _, rfl, ?_⟩
          cases z2 : isTupD dv with
          | false => refine iteT ?_; rw [webD_notup z2] at q; exact q H (Same.refl _)
          | true =>
            refine iteF ?_
            obtain ⟨ts, b, ys, rfl, rfl, hb, hB⟩ := dat_tup hv z2
            have hlen : ts.length ≤ 100000 := by
              have h1 := len_le_bulk ts
              have h2 := mem_bulk (ds := [.int m, .tuple ts]) (t := .tuple ts) (by simp)
              simp only [PyData.bulk] at h2 hbk
              omega
            have e : webD (.tuple [.int m, .tuple ts]) = ts.all (tieD m) := by
              show (decide (0 ≤ m) && ts.all (tieD m)) = _
              rw [decide_eq_true (by omega), Bool.true_and]
            rw [e] at q
            refine ⟨_, rfl, b, rfl, ⟨_, SqT.of hb⟩, fun D hD => comp_tup (K := K) (a := b) (xs := ys) (fun i zs H2 => Same H H2 ∧ H2 D = some (.lst zs) ∧ zs = ((ts.take i).map (tieD m)).map V.bl) ⟨same_new (Same.refl _) hD, upd_same, rfl⟩ (fun i zs H2 _ h => SqT.of (h.1 _ _ hb)) ?_ ?_⟩
            · rintro i y zs H2 hy ⟨s2, d2, rfl⟩
              obtain ⟨dt, hdt, hyd⟩ := hB.get hy
              have hi : i < ts.length := (List.getElem?_eq_some_iff.mp hdt).1
              refine compT (i := 0) ⟨_, rfl, _, rfl, m, y, dt, rfl, Dat.mono s2 y dt hyd, d2, big_line (by simp only [List.length_map, List.length_take]; omega), same_own s2 hD, upd_same, ?_⟩
              rw [List.take_add_one, hdt]; simp
            · rintro zs H2 ⟨s2, d2, rfl⟩
              rw [hB.length, List.take_length] at d2
              refine ⟨D, ts.map (tieD m), rfl, SqL.of d2, ?_⟩
              rw [List.all_map]
              exact q H2 s2
end
theorem web_dat {H : Hp} {m : Int} : ∀ (ts : List V), Ties H m ts → ∃ ds, DatAll H ts ds ∧ ds.all (tieD m) = true ∧ PyData.bulkAll ds ≤ 3 * ts.length
  | [], _ => ⟨[], by unfold DatAll; trivial, rfl, by simp [PyData.bulkAll]⟩
  | v :: ts, h => by
    obtain ⟨ds, h1, h2, h3⟩ := web_dat ts (fun u hu => h u (List.mem_cons_of_mem _ hu))
    obtain ⟨q, i, j, rfl, hq, i0, i1, i2⟩ := h v (List.mem_cons_self ..)
    refine ⟨.tuple [.int i, .int j] :: ds, ?_, ?_, ?_⟩
    · unfold DatAll
      refine ⟨?_, h1⟩
      unfold Dat
      refine ⟨q, _, rfl, hq, ?_⟩
      unfold DatAll
      refine ⟨by unfold Dat; rfl, ?_⟩
      unfold DatAll
      refine ⟨by unfold Dat; rfl, ?_⟩
      unfold DatAll; trivial
    · rw [List.all_cons, h2, Bool.and_true]
      show (decide (0 ≤ i) && decide (i < j) && decide (j < m)) = true
      rw [decide_eq_true i0, decide_eq_true i1, decide_eq_true i2]; rfl
    · simp only [PyData.bulkAll, PyData.bulk, List.length_cons]
      omega
theorem webAt_dat {H : Hp} {w : Addr} {m : Int} {ts : List V} (h : WebAt H w m ts) : ∃ d, Dat H (.ref w) d ∧ webD d = true ∧ d.bulk ≤ 100000 := by
  obtain ⟨ta, hw, hta, hts, h63, m0, m1⟩ := h
  obtain ⟨ds, h1, h2, h3⟩ := web_dat ts hts
  refine ⟨.tuple [.int m, .tuple ds], ?_, ?_, ?_⟩
  · unfold Dat
    refine ⟨w, _, rfl, hw, ?_⟩
    unfold DatAll
    refine ⟨by unfold Dat; rfl, ?_⟩
    unfold DatAll
    refine ⟨?_, by unfold DatAll; trivial⟩
    unfold Dat
    exact ⟨ta, ts, rfl, hta, h1⟩
  · show (decide (0 ≤ m) && ds.all (tieD m)) = true
    rw [decide_eq_true m0, h2]; rfl
  · simp only [PyData.bulk, PyData.bulkAll]
    omega
theorem web_data {H : Hp} {w : Addr} {m : Int} {es : List (Int × Int)} (W : WebE H w m es) : ∃ d, Dat H (.ref w) d ∧ Fit d := by
  obtain ⟨ta, ts, hw, ht, htl, he, hb, h63, h0, h12⟩ := W
  have d1 : ∀ v ∈ ts, DN 1 2 H v := fun v hv => by
    obtain ⟨k, hk⟩ := List.getElem?_of_mem hv
    obtain ⟨q, e, rfl, ee, hq⟩ := he k v hk
    obtain ⟨b0, b1, b2⟩ := hb e (List.mem_of_getElem? ee)
    refine DN.tup (k := 0) (b := 0) (n := 2) hq (fun x hx => ?_) (Nat.le_refl _)
    simp only [List.mem_cons, List.not_mem_nil, or_false] at hx
    rcases hx with rfl | rfl
    · exact .int (small_log (by omega) (by omega))
    · exact .int (small_log (by omega) (by omega))
  have d2 : DN 2 189 H (.ref ta) := DN.tup (k := 1) (b := 2) (n := 63) ht d1 (by omega)
  have d3 : DN 3 380 H (.ref w) := DN.tup (k := 2) (b := 189) (n := 2) hw (fun x hx => by
    simp only [List.mem_cons, List.not_mem_nil, or_false] at hx
    rcases hx with rfl | rfl
    · exact .int (small_log (by omega) (by omega))
    · exact d2) (Nat.le_refl _)
  obtain ⟨d, hd, z⟩ := d3
  exact ⟨d, hd, z.fit (by decide) (by decide)⟩
end Hue
set_option Elab.async false
set_option linter.all false
set_option maxRecDepth 100000
set_option maxHeartbeats 1500000
namespace Hue
open PySem L2
def natV (n : Nat) : V := .int (n : Int)
abbrev sHasT : Stmt := top 17
abbrev sChkT : Stmt := top 18
abbrev sOnly : Stmt := top 19
abbrev sWithin : Stmt := top 20
def spNumI : Sp := fun vs H Q _ => ∃ n : Int, vs = [.int n] ∧ Q (.bl true) H
def InP (m p : Int) : Prop := 0 ≤ p ∧ p < m
instance (m p : Int) : Decidable (InP m p) := inferInstanceAs (Decidable (_ ∧ _))
def spHasT : Sp := fun vs H Q _ => ∃ (w : Addr) (m : Int) (es : List (Int × Int)) (p : Int), vs = [.ref w, .int p] ∧ WebE H w m es ∧ Q (.bl (decide (InP es.length p))) H
def spChkT (C : Addr) : Sp := fun vs H Q E => ∃ (w : Addr) (m : Int) (es : List (Int × Int)) (p : Int), vs = [.ref w, .int p] ∧ WebE H w m es ∧ (InP es.length p → Q .non H) ∧ (¬ InP es.length p → E (.ref C) none H)
def spOnlyE (T : Addr) : Sp := fun vs H Q E => ∃ (w b : Addr) (m : Int) (es : List (Int × Int)) (ts : List Int), vs = [.ref w, .ref b] ∧ WebE H w m es ∧ H b = some (.lst (ts.map V.int)) ∧ (∃ t ∈ ts, ¬ InP es.length t) ∧ E (.ref T) none H
def spChkT0 : Sp := fun vs H Q _ => ∃ (w : Addr) (m : Int) (es : List (Int × Int)) (p : Int), vs = [.ref w, .int p] ∧ WebE H w m es ∧ InP es.length p ∧ Q .non H
def pick (es : List (Int × Int)) (t : Int) : Int × Int := es.getD t.toNat (0, 0)
def spOnly0 : Sp := fun vs H Q _ => ∃ (w b : Addr) (m : Int) (es : List (Int × Int)) (ts : List Int), vs = [.ref w, .ref b] ∧ WebE H w m es ∧ SeqA H b (ts.map V.int) ∧ ts.length ≤ 63 ∧ (∀ t ∈ ts, InP es.length t) ∧ ∀ r H', Same H H' → WebE H' r m (ts.map (pick es)) → Q (.ref r) H'
def inB (ps : List Int) (e : Int × Int) : Bool := decide (e.1 ∈ ps) && decide (e.2 ∈ ps)
def witL (es : List (Int × Int)) (ps : List Int) : Nat → List Nat
  | 0 => []
  | n + 1 => witL es ps n ++ (match es[n]? with | some e => if inB ps e = true then [n] else [] | none => [])
theorem witL_len (es : List (Int × Int)) (ps : List Int) : ∀ n, (witL es ps n).length ≤ n
  | 0 => Nat.le_refl _
  | n + 1 => by
    have := witL_len es ps n
    rw [witL, List.length_append]
    split
    · split <;> simp <;> omega
    · simp; omega
def spWithin : Sp := fun vs H Q _ => ∃ (w b : Addr) (m : Int) (es : List (Int × Int)) (ps : List Int), vs = [.ref w, .ref b] ∧ WebE H w m es ∧ SeqA H b (ps.map V.int) ∧ ps.length ≤ 63 ∧ ∀ l H', H l = none → Same H H' → H' l = some (.lst ((witL es ps es.length).map natV)) → Q (.ref l) H'
theorem int_at {ts : List Int} {i : Nat} {x : V} (hx : (ts.map V.int)[i]? = some x) : ∃ t, ts[i]? = some t ∧ V.int t = x := by
  rw [List.getElem?_map] at hx
  cases e : ts[i]? with
  | none => rw [e] at hx; cases hx
  | some t => rw [e] at hx; exact ⟨t, rfl, by simpa using hx⟩
theorem SeqA.or {K : PySem.W.Frag} {H : Hp} {a : Addr} {row : List V} (h : SeqA H a row) : SqL K H a row ∨ SqT K H a row := h.imp SqL.of SqT.of
theorem pick_web {H : Hp} {w ta r tu : Addr} {m : Int} {es : List (Int × Int)} {us : List V} {ts : List Int} (hl : us.length = es.length)
    (he : ∀ (k : Nat) v, us[k]? = some v → ∃ q e, v = .ref q ∧ es[k]? = some e ∧ H q = some (.tup [.int e.1, .int e.2])) (hb : ∀ e ∈ es, 0 ≤ e.1 ∧ e.1 < e.2 ∧ e.2 < m) (h0 : 0 ≤ m) (h12 : m ≤ 12)
    (h63 : ts.length ≤ 63) (hin : ∀ t ∈ ts, InP es.length t) (hr : H r = some (.tup [.int m, .ref tu])) (ht : H tu = some (.tup (ts.map fun t => us.getD t.toNat .non))) : WebE H r m (ts.map (pick es)) := by
  have ee : ∀ t ∈ ts, es[t.toNat]? = some (pick es t) := fun t h => by
    have z := hin t h
    have : t.toNat < es.length := by have := z.1; have := z.2; omega
    unfold pick
    rw [List.getD_eq_getElem?_getD, List.getElem?_eq_getElem this]; rfl
  refine ⟨tu, _, hr, ht, by simp, fun k v hv => ?_, fun e h => ?_, by simpa using h63, h0, h12⟩
  · rw [List.getElem?_map] at hv
    cases et : ts[k]? with
    | none => rw [et] at hv; cases hv
    | some t =>
      rw [et] at hv
      have hm := List.mem_of_getElem? et
      have z := hin t hm
      have hk : t.toNat < us.length := by have := z.1; have := z.2; omega
      have eu : us[t.toNat]? = some (us.getD t.toNat .non) := by rw [List.getD_eq_getElem?_getD, List.getElem?_eq_getElem hk]; rfl
      obtain ⟨q, e, e1, e2, e3⟩ := he _ _ eu
      have : e = pick es t := by
        have := ee t hm
        rw [e2] at this
        exact Option.some.inj this
      refine ⟨q, pick es t, ?_, by rw [List.getElem?_map, et]; rfl, this ▸ e3⟩
      have hv' : us.getD t.toNat .non = v := by simpa using hv
      rw [← hv', e1]
  · obtain ⟨t, htm, rfl⟩ := List.mem_map.mp h
    exact hb _ (List.mem_of_getElem? (ee t htm))
theorem nd_tiw : ((["tie"] : List Str) ++ (["web"] : List Str)).Nodup := by decide +kernel
theorem nd_wi : ((["tie", "one", "other"] : List Str) ++ (["among"] : List Str)).Nodup := by decide +kernel
section
variable {P : Program} {w : World} {K : PySem.W.Frag} {mg : Str → Option Value} {base : Heap}
theorem ok_numI {f : Addr} {fd : FuncData} (F : Fun K "is_number" "is_number" sNum f fd) (T : Txt K mg) : FnOk P w K mg base CX0 1 f fd ["thing"] spNumI := by
  refine F.ok scNum (fun vs H Q E h => ?_) (fun cdv A outer s H vs Q E hr h => ?_)
  · obtain ⟨_, rfl, _⟩ := h; rfl
  · obtain ⟨n, rfl, q⟩ := h
    refine ⟨_, pss_one (ps_ret (pe_and (pe_callB call_isi1 (by rfl) T.isi b_isi (pa_cons (pv 0) (pa_cons (pe_bltn (v := .ty "int") (by rfl) T.int b_int rfl) pa_nil)))
      (pe_one (pe_not (pe_callB call_isi1 (by rfl) T.isi b_isi (pa_cons (pv 0) (pa_cons (pe_bltn (v := .ty "bool") (by rfl) T.bool b_bool rfl) pa_nil))))))), ?_⟩
    exact ⟨_, rfl, _, "int", _, _, rfl, .int n, (kit_n _ _).trans kt_ii, _, rfl, iteT ⟨_, rfl, _, "bool", _, _, rfl, .int n, (kit_n _ _).trans kt_ib, _, rfl, q⟩⟩
theorem scHasT : FnScope ["web", "tie"] ["web", "tie"] (defScope sHasT) := ⟨rfl, rfl, rfl, by decide +kernel, rfl, by decide +kernel, by decide +kernel⟩
theorem ok_hasT {f : Addr} {fd : FuncData} (F : Fun K "has_tie" "has_tie" sHasT f fd) (T : Txt K mg) (CN : Callee P w K mg base 1 "is_number" ["thing"] spNumI) : FnOk P w K mg base CX0 2 f fd ["web", "tie"] spHasT := by
  refine F.ok scHasT (fun vs H Q E h => ?_) (fun cdv A outer s H vs Q E hr h => ?_)
  · obtain ⟨_, _, _, _, rfl, _⟩ := h; rfl
  · obtain ⟨w0, m, es, p, rfl, ⟨ta, ts, hw, ht, htl, _⟩, q⟩ := h
    refine ⟨_, pss_one (ps_ret (pe_and (pe_def CN hr (by rfl) (pa_cons (pv 1) pa_nil)) (pe_one (pe_chain op_le op_lt pe_int (pv 1) (pe_callB call_len_seq (by rfl) T.len b_len (pa_cons (pe_ix ix_tup (pv 0) pe_int (fun _ _ => rfl)) pa_nil)))))), ?_⟩
    refine ⟨_, rfl, p, rfl, _, rfl, iteT ⟨_, rfl, _, _, rfl, rfl, _, rfl, ite2 (fun z => ⟨_, rfl, w0, _, _, _, rfl, rfl, SqT.of hw, (rfl : atI [V.int m, V.ref ta] 1 = some (.ref ta)), ta, ts, rfl, .inr (SqT.of ht), _, _, rfl, rfl, ?_⟩) (fun z => ?_)⟩⟩
    · have z' : 0 ≤ p := by simpa using z
      show Q (.bl (decide (p < (ts.length : Int)))) H
      rw [htl, show decide (p < (es.length : Int)) = decide (InP es.length p) by unfold InP; simp [z']]
      exact q
    · have z' : ¬ 0 ≤ p := by simpa using z
      rw [show decide (InP es.length p) = false by unfold InP; simp [z']] at q
      simpa [z'] using q
theorem scChkT : FnScope ["web", "tie"] ["web", "tie"] (defScope sChkT) := ⟨rfl, rfl, rfl, by decide +kernel, rfl, by decide +kernel, by decide +kernel⟩
theorem ok_chkT {f : Addr} {fd : FuncData} {C : Addr} (hC : ExcC K mg "NoTie" C) (F : Fun K "check_tie" "check_tie" sChkT f fd) (CN : Callee P w K mg base 2 "has_tie" ["web", "tie"] spHasT) : FnOk P w K mg base (CXE P w) 3 f fd ["web", "tie"] (spChkT C) := by
  refine F.okE scChkT (fun vs H Q E h => ?_) (fun cdv A outer s H vs Q E hr h hc => ?_)
  · obtain ⟨_, _, _, _, rfl, _⟩ := h; rfl
  · obtain ⟨w0, m, es, p, rfl, W, q1, q2⟩ := h
    refine ⟨_, pss_one (ps_if (pt_not (pt_val (pe_def CN hr (by rfl) (pa_cons (pv 0) (pa_cons (pv 1) pa_nil))))) (pss_one (ps_raise hC rfl rfl hc (by rfl) pe_str)) pss_nil), ?_⟩
    refine ⟨_, rfl, _, rfl, w0, m, es, p, rfl, W, _, rfl, ?_⟩
    by_cases z : InP es.length p
    · rw [decide_eq_true z]; exact iteF (q1 z)
    · rw [decide_eq_false z]; exact iteT (q2 z)
theorem ok_chkT0 {f : Addr} {fd : FuncData} (F : Fun K "check_tie" "check_tie" sChkT f fd) (CN : Callee P w K mg base 2 "has_tie" ["web", "tie"] spHasT) : FnOk P w K mg base CX0 3 f fd ["web", "tie"] spChkT0 := by
  refine F.ok scChkT (fun vs H Q E h => ?_) (fun cdv A outer s H vs Q E hr h => ?_)
  · obtain ⟨_, _, _, _, rfl, _⟩ := h; rfl
  · obtain ⟨w0, m, es, p, rfl, W, z, q⟩ := h
    refine ⟨_, pss_one (ps_if (pt_not (pt_val (pe_def CN hr (by rfl) (pa_cons (pv 0) (pa_cons (pv 1) pa_nil))))) pss_no pss_nil), ?_⟩
    refine ⟨_, rfl, _, rfl, w0, m, es, p, rfl, W, _, rfl, ?_⟩
    rw [decide_eq_true z]; exact iteF q
theorem scOnly : FnScope ["web", "ties", "tie"] ["web", "ties"] (defScope sOnly) := ⟨rfl, rfl, rfl, by decide +kernel, rfl, by decide +kernel, by decide +kernel⟩
theorem ok_onlyE {f : Addr} {fd : FuncData} {Tc : Addr} (F : Fun K "only" "only" sOnly f fd) (CC : CalleeE P w K mg base 3 "check_tie" ["web", "tie"] (spChkT Tc)) : FnOk P w K mg base (CXE P w) 4 f fd ["web", "ties"] (spOnlyE Tc) := by
  refine F.okE scOnly (fun vs H Q E h => ?_) (fun cdv A outer s H vs Q E hr h hc => ?_)
  · obtain ⟨_, _, _, _, _, rfl, _⟩ := h; rfl
  · obtain ⟨w0, b, m, es, ts, rfl, W, hb, ⟨t0, ht0, hno⟩, q⟩ := h
    refine ⟨_, pss_cons (ps_for PassesOwn.leaving rfl (pi_list (pv 1)) (pg_name (i := 2) scOnly.nd rfl (Or.inl rfl)) (pss_one (ps_expr (pe_defE CC rfl hc.t hr (by rfl) (pa_cons (pv 0) (pa_cons (pv 2) pa_nil)))))) pss_no, ?_⟩
    refine ⟨_, rfl, b, rfl, ⟨_, SqL.of hb⟩, for_list (K := K) (a := b) (xs := ts.map V.int) (fun i σ H2 => ∃ o2 : Option V, σ = [some (.ref w0), some (.ref b), o2] ∧ H2 = H ∧ ∀ t ∈ ts.take i, InP es.length t) ⟨_, rfl, rfl, by simp⟩ (fun i σ H2 _ h => by obtain ⟨_, _, rfl, _⟩ := h; exact SqL.of hb) ?_ ?_⟩
    · rintro i x σ H2 hx ⟨o2, rfl, rfl, hall⟩
      obtain ⟨t, ht, rfl⟩ : ∃ t, ts[i]? = some t ∧ V.int t = x := by
        rw [List.getElem?_map] at hx
        cases e : ts[i]? with
        | none => rw [e] at hx; cases hx
        | some t => rw [e] at hx; exact ⟨t, rfl, by simpa using hx⟩
      refine ⟨_, rfl, _, rfl, w0, m, es, t, rfl, W, fun hin => ⟨_, rfl, rfl, fun t' ht' => ?_⟩, fun _ => q⟩
      rw [List.take_add_one, ht] at ht'
      rcases List.mem_append.mp ht' with z | z
      · exact hall t' z
      · have : t' = t := by simpa using z
        rw [this]; exact hin
    · rintro σ H2 ⟨o2, rfl, rfl, hall⟩
      rw [List.length_map, List.take_length] at hall
      exact absurd (hall t0 ht0) hno
theorem ok_only0 {f : Addr} {fd : FuncData} (F : Fun K "only" "only" sOnly f fd) (T : Txt K mg) (CC : Callee P w K mg base 3 "check_tie" ["web", "tie"] spChkT0) : FnOk P w K mg base CX0 4 f fd ["web", "ties"] spOnly0 := by
  refine F.ok scOnly (fun vs H Q E h => ?_) (fun cdv A outer s H vs Q E hr h => ?_)
  · obtain ⟨_, _, _, _, _, rfl, _⟩ := h; rfl
  · obtain ⟨w0, b, m, es, ts, rfl, W, hb, h63, hin, q⟩ := h
    refine ⟨_, pss_cons (ps_for PassesOwn.never rfl (pi_or (pi_list (pv 1)) (pi_tup (pv 1))) (pg_name (i := 2) scOnly.nd rfl (Or.inl rfl)) (pss_one (ps_expr (pe_def CC hr (by rfl) (pa_cons (pv 0) (pa_cons (pv 2) pa_nil))))))
      (pss_one (ps_ret (pe_tup (pa_cons (pe_ix ix_tup (pv 0) pe_int (fun _ _ => rfl)) (pa_cons (pe_callTy call_tuple_of (by rfl) T.tuple b_tuple (pa_cons (pe_comp ["tie"] ["web"] [0] (pi_or (pi_list (pv 1)) (pi_tup (pv 1))) (fun _ _ _ _ _ => pg_name (i := 0) nd_tiw rfl (Or.inl rfl)) (fun _ _ _ _ _ => pifs_nil)
        (fun _ _ _ _ _ => pe_ix (ix_tupK (K := K) rfl) (pe_ix (ix_tupK (K := K) rfl) (pv 1) pe_int (fun _ _ => rfl)) (pv 0) (fun _ _ => rfl))) pa_nil)) pa_nil))))), ?_⟩
    obtain ⟨ta, us, hw, ht0, htl, he, hbd, h61, hm0, hm12⟩ := id W
    have fin : ∀ (H3 : Hp) (D : Addr), Same H H3 → H3 D = some (.lst (ts.map fun t => us.getD t.toNat .non)) → ∃ (p : Addr) (ys : List V), [V.ref D] = [.ref p] ∧ ((SqL K H3 p ys ∧ ∀ l, H3 l = none → (fun (v : V) (H4 : Hp) => 2 ≤ sizeLine ∧ ∀ r, H4 r = none → Q (.ref r) (upd H4 r (.tup [.int m, v]))) (.ref l) (upd H3 l (.tup ys))) ∨ (SqT K H3 p ys ∧ (fun (v : V) (H4 : Hp) => 2 ≤ sizeLine ∧ ∀ r, H4 r = none → Q (.ref r) (upd H4 r (.tup [.int m, v]))) (.ref p) H3)) := fun H3 D s3 d3 =>
      ⟨D, _, rfl, .inl ⟨SqL.of d3, fun l hl => ⟨by decide, fun r hr => by
        have s4 := same_new (o := .tup (ts.map fun t => us.getD t.toNat .non)) s3 hl
        have s5 := same_new (o := .tup [.int m, .ref l]) s4 hr
        exact q r _ s5 (pick_web (w := w0) (ta := ta) (tu := l) htl (fun k v hv => let ⟨qq, e, a1, a2, a3⟩ := he k v hv; ⟨qq, e, a1, a2, s5 _ _ a3⟩) hbd hm0 hm12 h63 hin upd_same (keepN upd_same hr))⟩⟩⟩
    rcases hb with hb | hb
    · refine .inl ⟨_, rfl, b, rfl, ⟨_, SqL.of hb⟩, for_list (K := K) (a := b) (xs := ts.map V.int) (fun i σ H2 => ∃ o2 : Option V, σ = [some (.ref w0), some (.ref b), o2] ∧ H2 = H) ⟨_, rfl, rfl⟩ (fun i σ H2 _ h => by obtain ⟨_, _, rfl⟩ := h; exact SqL.of hb) ?_ ?_⟩
      · rintro i x σ H2 hx ⟨o2, rfl, rfl⟩
        obtain ⟨t, ht, rfl⟩ := int_at hx
        exact ⟨_, rfl, _, rfl, w0, m, es, t, rfl, W, hin t (List.mem_of_getElem? ht), _, rfl, rfl⟩
      · rintro σ H2 ⟨o2, rfl, rfl⟩
        refine ⟨_, rfl, w0, _, _, _, rfl, rfl, SqT.of hw, (rfl : atI [V.int m, V.ref ta] 0 = some (.int m)), ?_⟩
        refine .inl ⟨_, rfl, b, rfl, ⟨_, SqL.of hb⟩, fun D hD => comp_list (K := K) (a := b) (xs := ts.map V.int) (fun i ys H3 => Same H2 H3 ∧ H3 D = some (.lst ys) ∧ ys = (ts.take i).map fun t => us.getD t.toNat .non) ⟨same_new (Same.refl _) hD, upd_same, rfl⟩ (fun i ys H3 _ h => SqL.of (h.1 _ _ hb)) ?_ ?_⟩
        · rintro i x ys H3 hx ⟨s3, d3, rfl⟩
          obtain ⟨t, ht, rfl⟩ := int_at hx
          have z := hin t (List.mem_of_getElem? ht)
          have hi : i < ts.length := (List.getElem?_eq_some_iff.mp ht).1
          have hk : t.toNat < us.length := by have := z.1; have := z.2; omega
          have et : us[t.toNat]? = some (us.getD t.toNat .non) := by rw [List.getD_eq_getElem?_getD, List.getElem?_eq_getElem hk]; rfl
          have at' : atI us t = some (us.getD t.toNat .non) := by
            have := atI_nat et
            rwa [Int.toNat_of_nonneg z.1] at this
          refine compT (i := 0) ⟨_, rfl, w0, _, _, _, rfl, rfl, SqT.of (s3 _ _ hw), (rfl : atI [V.int m, V.ref ta] 1 = some (.ref ta)), _, rfl, ta, us, _, _, rfl, rfl, SqT.of (s3 _ _ ht0), at', d3, small1000 (by simp only [List.length_map, List.length_take]; omega), same_own s3 hD, upd_same, ?_⟩
          rw [List.take_add_one, ht, List.map_append]; rfl
        · rintro ys H3 ⟨s3, d3, rfl⟩
          rw [List.length_map, List.take_length] at d3
          exact fin H3 D s3 d3
    · refine .inr ⟨_, rfl, b, rfl, ⟨_, SqT.of hb⟩, for_tup (K := K) (a := b) (xs := ts.map V.int) (fun i σ H2 => ∃ o2 : Option V, σ = [some (.ref w0), some (.ref b), o2] ∧ H2 = H) ⟨_, rfl, rfl⟩ (fun i σ H2 _ h => by obtain ⟨_, _, rfl⟩ := h; exact SqT.of hb) ?_ ?_⟩
      · rintro i x σ H2 hx ⟨o2, rfl, rfl⟩
        obtain ⟨t, ht, rfl⟩ := int_at hx
        exact ⟨_, rfl, _, rfl, w0, m, es, t, rfl, W, hin t (List.mem_of_getElem? ht), _, rfl, rfl⟩
      · rintro σ H2 ⟨o2, rfl, rfl⟩
        refine ⟨_, rfl, w0, _, _, _, rfl, rfl, SqT.of hw, (rfl : atI [V.int m, V.ref ta] 0 = some (.int m)), ?_⟩
        refine .inr ⟨_, rfl, b, rfl, ⟨_, SqT.of hb⟩, fun D hD => comp_tup (K := K) (a := b) (xs := ts.map V.int) (fun i ys H3 => Same H2 H3 ∧ H3 D = some (.lst ys) ∧ ys = (ts.take i).map fun t => us.getD t.toNat .non) ⟨same_new (Same.refl _) hD, upd_same, rfl⟩ (fun i ys H3 _ h => SqT.of (h.1 _ _ hb)) ?_ ?_⟩
        · rintro i x ys H3 hx ⟨s3, d3, rfl⟩
          obtain ⟨t, ht, rfl⟩ := int_at hx
          have z := hin t (List.mem_of_getElem? ht)
          have hi : i < ts.length := (List.getElem?_eq_some_iff.mp ht).1
          have hk : t.toNat < us.length := by have := z.1; have := z.2; omega
          have et : us[t.toNat]? = some (us.getD t.toNat .non) := by rw [List.getD_eq_getElem?_getD, List.getElem?_eq_getElem hk]; rfl
          have at' : atI us t = some (us.getD t.toNat .non) := by
            have := atI_nat et
            rwa [Int.toNat_of_nonneg z.1] at this
          refine compT (i := 0) ⟨_, rfl, w0, _, _, _, rfl, rfl, SqT.of (s3 _ _ hw), (rfl : atI [V.int m, V.ref ta] 1 = some (.ref ta)), _, rfl, ta, us, _, _, rfl, rfl, SqT.of (s3 _ _ ht0), at', d3, small1000 (by simp only [List.length_map, List.length_take]; omega), same_own s3 hD, upd_same, ?_⟩
          rw [List.take_add_one, ht, List.map_append]; rfl
        · rintro ys H3 ⟨s3, d3, rfl⟩
          rw [List.length_map, List.take_length] at d3
          exact fin H3 D s3 d3
theorem scWithin : FnScope ["web", "places", "among"] ["web", "places"] (defScope sWithin) := ⟨rfl, rfl, rfl, by decide +kernel, rfl, by decide +kernel, by decide +kernel⟩
theorem ok_within {f : Addr} {fd : FuncData} (F : Fun K "within" "within" sWithin f fd) (T : Txt K mg) (zs : mg "set" = none) : FnOk P w K mg base CX0 1 f fd ["web", "places"] spWithin := by
  refine F.ok scWithin (fun vs H Q E h => ?_) (fun cdv A outer s H vs Q E hr h => ?_)
  · obtain ⟨_, _, _, _, _, rfl, _⟩ := h; rfl
  · obtain ⟨w0, b, m, es, ps, rfl, W, hb, h63, q⟩ := h
    refine ⟨_, pss_cons (ps_set (i := 2) scWithin.nd rfl (Or.inr rfl) (pe_callTy (call_setI rfl) (by rfl) zs b_set (pa_cons (pv 1) pa_nil)))
      (pss_one (ps_ret (pe_comp ["tie", "one", "other"] ["among"] [2] (pi_enum (by rfl) T.enum (pa_cons (pe_ix ix_tup (pv 0) pe_int (fun _ _ => rfl)) pa_nil)) (fun _ _ _ _ _ => pg_tupK (K := K) (n := 2) rfl rfl (pgs_cons (pg_name (i := 0) nd_wi rfl (Or.inl rfl)) (pgs_cons (pg_tupK (K := K) (n := 2) rfl rfl (pgs_cons (pg_name (i := 1) nd_wi rfl (Or.inl rfl)) (pgs_cons (pg_name (i := 2) nd_wi rfl (Or.inl rfl)) pgs_nil))) pgs_nil)))
        (fun _ _ _ _ _ => pifs_one (pw_and (pt_cmpR op_inSet (pv 1) (pv 3) (by with_unfolding_all rfl)) (pw_and1 (pt_cmpR op_inSet (pv 2) (pv 3) (by with_unfolding_all rfl)))).pt) (fun _ _ _ _ _ => pv 0)))), ?_⟩
    obtain ⟨ta, us, hw, ht0, htl, he, hbd, h61, hm0, hm12⟩ := id W
    refine ⟨_, rfl, b, ps, rfl, hb.or, by omega, fun G hG => ?_⟩
    have s1 : Same H (upd H G (.set (fun k => decide (k ∈ ps)) (once' ps).length)) := same_new (Same.refl _) hG
    have g1 : (upd H G (.set (fun k => decide (k ∈ ps)) (once' ps).length)) G = some (.set (fun k => decide (k ∈ ps)) (once' ps).length) := upd_same
    generalize (upd H G (.set (fun k => decide (k ∈ ps)) (once' ps).length)) = H1 at s1 g1
    refine ⟨_, rfl, w0, _, _, _, rfl, rfl, SqT.of (s1 _ _ hw), (rfl : atI [V.int m, V.ref ta] 1 = some (.ref ta)), ta, rfl, .inr ⟨⟨_, SqT.of (s1 _ _ ht0)⟩, fun D hD => ?_⟩⟩
    refine comp_enumT (K := K) (a := ta) (xs := us) (fun i ys H2 => Same H1 H2 ∧ H2 D = some (.lst ys) ∧ ys = (witL es ps i).map natV) ⟨same_new (Same.refl _) hD, upd_same, rfl⟩ (fun i ys H2 _ h => SqT.of (h.1 _ _ (s1 _ _ ht0))) ?_ ?_
    · rintro i x ys H2 pp hx ⟨s2, d2, rfl⟩ hpp
      obtain ⟨qv, e, rfl, ee, hq⟩ := he i x hx
      have hi : i < us.length := (List.getElem?_eq_some_iff.mp hx).1
      have s3 := same_new (o := .tup [.int (i : Int), .ref qv]) s2 hpp
      have e1 : witL es ps (i + 1) = witL es ps i ++ (if inB ps e = true then [i] else []) := by rw [witL, ee]
      have fl : ((witL es ps i).map natV).length < sizeLine := small1000 (by rw [List.length_map]; have := witL_len es ps i; omega)
      refine ⟨pp, _, rfl, SqT.of upd_same, rfl, _, _, rfl, _, _, rfl, qv, _, rfl, SqT.of (s3 _ _ (s1 _ _ hq)), rfl, _, _, rfl, _, _, rfl, rfl, rfl, ?_⟩
      have no : inB ps e = false → Same H1 (upd H2 pp (.tup [.int (i : Int), .ref qv])) ∧ (upd H2 pp (.tup [.int (i : Int), .ref qv])) D = some (.lst ((witL es ps i).map natV)) ∧ (witL es ps i).map natV = (witL es ps (i + 1)).map natV := fun z => ⟨s3, keepN d2 hpp, by rw [e1, z]; simp⟩
      refine ⟨_, rfl, _, rfl, e.1, G, _, _, rfl, rfl, s3 _ _ g1, _, rfl, ?_⟩
      by_cases z1 : e.1 ∈ ps
      · refine iteD z1 ⟨_, rfl, _, rfl, e.2, G, _, _, rfl, rfl, s3 _ _ g1, _, rfl, ?_⟩
        by_cases z2 : e.2 ∈ ps
        · refine iteD z2 ⟨_, rfl, keepN d2 hpp, fl, same_own s3 hD, upd_same, ?_⟩
          rw [e1, if_pos (by unfold inB; simp [z1, z2]), List.map_append]; rfl
        · exact iteND z2 (no (by unfold inB; simp [z2]))
      · exact iteND z1 (iteF (no (by unfold inB; simp [z1])))
    · rintro ys H2 ⟨s2, d2, rfl⟩
      rw [htl] at d2
      exact q D H2 (s1.free hD) (s1.trans s2) d2
end
end Hue
set_option Elab.async false
set_option linter.all false
set_option maxRecDepth 100000
set_option maxHeartbeats 1500000
namespace Hue
open PySem L2
abbrev sSame : Stmt := top 26
abbrev sSome : Stmt := top 27
theorem nd_oo : ((["_law_one", "_law_other"] : List Str) ++ ([] : List Str)).Nodup := by decide +kernel
abbrev Rel2 := Hp → V → V → Prop
def RI : Rel2 := fun _ x y => ∃ n : Int, x = .int n ∧ y = .int n
def Rls (R : Rel2) : Rel2 := fun H x y => ∃ (a b : Addr) (xs ys : List V), x = .ref a ∧ y = .ref b ∧ H a = some (.lst xs) ∧ H b = some (.lst ys) ∧ xs.length = ys.length ∧ xs.length ≤ 900 ∧ ∀ (i : Nat) u v, xs[i]? = some u → ys[i]? = some v → R H u v
def Rtp (R : Rel2) : Rel2 := fun H x y => ∃ (a b : Addr) (xs ys : List V), x = .ref a ∧ y = .ref b ∧ H a = some (.tup xs) ∧ H b = some (.tup ys) ∧ xs.length = ys.length ∧ xs.length ≤ 900 ∧ ∀ (i : Nat) u v, xs[i]? = some u → ys[i]? = some v → R H u v
def Kept (R : Rel2) : Prop := ∀ H H' x y, Same H H' → R H x y → R H' x y
theorem kept_RI : Kept RI := fun _ _ _ _ _ h => h
theorem kept_Rls {R : Rel2} (h : Kept R) : Kept (Rls R) := fun H H' x y s ⟨a, b, xs, ys, e1, e2, h1, h2, l1, l2, q⟩ => ⟨a, b, xs, ys, e1, e2, s _ _ h1, s _ _ h2, l1, l2, fun i u v hu hv => h _ _ _ _ s (q i u v hu hv)⟩
theorem kept_Rtp {R : Rel2} (h : Kept R) : Kept (Rtp R) := fun H H' x y s ⟨a, b, xs, ys, e1, e2, h1, h2, l1, l2, q⟩ => ⟨a, b, xs, ys, e1, e2, s _ _ h1, s _ _ h2, l1, l2, fun i u v hu hv => h _ _ _ _ s (q i u v hu hv)⟩
def Al : Nat → Rel2
  | 0 => RI
  | n + 1 => fun H x y => RI H x y ∨ Rls (Al n) H x y ∨ Rtp (Al n) H x y
theorem kept_Al : ∀ n, Kept (Al n)
  | 0 => kept_RI
  | n + 1 => fun H H' x y s h => h.imp id fun h => h.imp (kept_Rls (kept_Al n) H H' x y s) (kept_Rtp (kept_Al n) H H' x y s)
def spSameR (R : Rel2) : Sp := fun vs H Q _ => ∃ x y, vs = [x, y] ∧ R H x y ∧ ∀ H', Same H H' → Q (.bl true) H'
theorem any_tup {K : PySem.W.Frag} : PySem.W.kitAny K (.type "tuple") (["list", "tuple"].map Value.type) = some true := by
  show (match PySem.W.kitOne K (.type "tuple") (.type "list") with | some true => some true | some false => (match PySem.W.kitOne K (.type "tuple") (.type "tuple") with | some true => some true | some false => some false | none => none) | none => none) = some true
  rw [kit_n, kt_tl]
  show (match PySem.W.kitOne K (.type "tuple") (.type "tuple") with | some true => some true | some false => some false | none => none) = some true
  rw [kit_n, kt_tt]
theorem rIn_al {H : Hp} {n : Nat} {i : Int} : Al n H (.int i) (.int i) := by
  cases n with
  | zero => exact ⟨i, rfl, rfl⟩
  | succ n => exact .inl ⟨i, rfl, rfl⟩
theorem web_al {H : Hp} {a b : Addr} {m : Int} {es : List (Int × Int)} (A : WebE H a m es) (B : WebE H b m es) : Al 3 H (.ref a) (.ref b) := by
  obtain ⟨t1, u1, h1, h2, h3, h4, _, h63, _⟩ := A
  obtain ⟨t2, u2, g1, g2, g3, g4, _⟩ := B
  refine .inr (.inr ⟨a, b, _, _, rfl, rfl, h1, g1, rfl, by show 2 ≤ 900; decide, fun i u v hu hv => ?_⟩)
  match i with
  | 0 =>
    cases hu
    cases hv
    exact rIn_al
  | 1 =>
    cases hu
    cases hv
    refine .inr (.inr ⟨t1, t2, _, _, rfl, rfl, h2, g2, by omega, by omega, fun i u v hu hv => ?_⟩)
    obtain ⟨q, e, rfl, ee, hq⟩ := h4 i u hu
    obtain ⟨q', e', rfl, ee', hq'⟩ := g4 i v hv
    rw [ee] at ee'
    cases ee'
    refine .inr (.inr ⟨q, q', _, _, rfl, rfl, hq, hq', rfl, by show 2 ≤ 900; decide, fun i u v hu hv => ?_⟩)
    rw [hu] at hv
    cases hv
    have := List.mem_of_getElem? hu
    simp only [List.mem_cons, List.not_mem_nil, or_false] at this
    rcases this with rfl | rfl
    · exact rIn_al
    · exact rIn_al
  | i + 2 => simp at hu
theorem ints_al {H : Hp} {a b : Addr} {ns : List Nat} (ha : H a = some (.lst (ns.map natV))) (hb : H b = some (.lst (ns.map natV))) (h9 : ns.length ≤ 900) : Al 3 H (.ref a) (.ref b) :=
  .inr (.inl ⟨a, b, _, _, rfl, rfl, ha, hb, rfl, by simpa using h9, fun i u v hu hv => by
    rw [hu] at hv
    cases hv
    obtain ⟨n, _, rfl⟩ := List.mem_map.mp (List.mem_of_getElem? hu)
    exact rIn_al⟩)
def spSome : Sp := fun vs H Q _ => ∃ (t : Addr) (n : Nat), vs = [.ref t, .int n] ∧ Tape H t ∧ n ≤ 63 ∧ ∀ l (ns : List Int) H', GS t H H' l (ns.map V.int) → ns.length ≤ n → (∀ k ∈ ns, InP n k) → Q (.ref l) H'
section
variable {P : Program} {w : World} {K : PySem.W.Frag} {mg : Str → Option Value} {base : Heap}
theorem scSame : FnScope ["_law_found", "_law_due"] ["_law_found", "_law_due"] (defScope sSame) := ⟨rfl, rfl, rfl, by decide +kernel, rfl, by decide +kernel, by decide +kernel⟩
theorem ok_sameI {f : Addr} {fd : FuncData} (F : Fun K "_law_same" "_law_same" sSame f fd) (T : Txt K mg) : FnOk P w K mg base CX0 1 f fd ["_law_found", "_law_due"] (spSameR RI) := by
  refine F.ok scSame (fun vs H Q E h => ?_) (fun cdv A outer s H vs Q E hr h => ?_)
  · obtain ⟨x, y, rfl, _⟩ := h; rfl
  · obtain ⟨x, y, rfl, ⟨n, rfl, rfl⟩, q⟩ := h
    · refine ⟨_, pss_cons (ps_if (pt_cmp (pc_isN (pv 1))) pss_no pss_nil)
        (pss_cons (ps_if (pt_val (pe_callB call_isiT (by rfl) T.isi b_isi (pa_cons (pv 1) (pa_cons (pe_tup (pa_cons (pe_bltn (v := .ty "list") (by rfl) T.list b_list rfl) (pa_cons (pe_bltn (v := .ty "tuple") (by rfl) T.tuple b_tuple rfl) pa_nil))) pa_nil)))) pss_no pss_nil)
        (pss_cons (ps_if (pt_val (pe_callB call_isi1 (by rfl) T.isi b_isi (pa_cons (pv 1) (pa_cons (pe_bltn (v := .ty "bool") (by rfl) T.bool b_bool rfl) pa_nil)))) pss_no pss_nil)
        (pss_cons (ps_if (pt_val (pe_callB call_isi1 (by rfl) T.isi b_isi (pa_cons (pv 1) (pa_cons (pe_bltn (v := .ty "str") (by rfl) T.str b_str rfl) pa_nil)))) pss_no pss_nil)
        (pss_one (ps_ret (pe_and (pe_callB call_isi1 (by rfl) T.isi b_isi (pa_cons (pv 0) (pa_cons (pe_bltn (v := .ty "int") (by rfl) T.int b_int rfl) pa_nil)))
          (pe_and (pe_not (pe_callB call_isi1 (by rfl) T.isi b_isi (pa_cons (pv 0) (pa_cons (pe_bltn (v := .ty "bool") (by rfl) T.bool b_bool rfl) pa_nil)))) (pe_one (pe_cmpR op_eq (pv 0) (pv 1) (nomark _)))))))))), ?_⟩
      refine ⟨_, rfl, _, rfl, iteND (fun z => nomatch z) ?_⟩
      refine ⟨_, rfl, by show 2 ≤ sizeLine; decide, fun p hp => ⟨_, p, ["list", "tuple"], _, false, rfl, upd_same, .int n, any_two_f kt_il kt_it, _, rfl, iteF ?_⟩⟩
      refine ⟨_, rfl, _, "bool", _, _, rfl, .int n, (kit_n _ _).trans kt_ib, _, rfl, iteF ?_⟩
      refine ⟨_, rfl, _, "str", _, _, rfl, .int n, (kit_n _ _).trans kt_is, _, rfl, iteF ?_⟩
      refine ⟨_, rfl, _, "int", _, _, rfl, .int n, (kit_n _ _).trans kt_ii, _, rfl, iteT ?_⟩
      refine ⟨_, rfl, _, "bool", _, _, rfl, .int n, (kit_n _ _).trans kt_ib, _, rfl, _, rfl, iteT ?_⟩
      exact ⟨_, rfl, _, rfl, rfl, bl_t rfl (q _ (same_new (Same.refl _) hp))⟩
theorem ok_sameM {d : Nat} {R : Rel2} (hR : Kept R) {f : Addr} {fd : FuncData} (F : Fun K "_law_same" "_law_same" sSame f fd) (T : Txt K mg) (CS : Callee P w K mg base (d + 1) "_law_same" ["_law_found", "_law_due"] (spSameR R)) : FnOk P w K mg base CX0 (d + 2) f fd ["_law_found", "_law_due"] (spSameR fun H x y => RI H x y ∨ Rls R H x y ∨ Rtp R H x y) := by
  refine F.ok scSame (fun vs H Q E h => ?_) (fun cdv A outer s H vs Q E hr h => ?_)
  · obtain ⟨x, y, rfl, _⟩ := h; rfl
  · obtain ⟨x, y, rfl, ⟨n, rfl, rfl⟩ | ⟨a, b, xs, ys, rfl, rfl, ha, hb, hl, h9, hi⟩ | ⟨a, b, xs, ys, rfl, rfl, ha, hb, hl, h9, hi⟩, q⟩ := h
    · refine ⟨_, pss_cons (ps_if (pt_cmp (pc_isN (pv 1))) pss_no pss_nil)
        (pss_cons (ps_if (pt_val (pe_callB call_isiT (by rfl) T.isi b_isi (pa_cons (pv 1) (pa_cons (pe_tup (pa_cons (pe_bltn (v := .ty "list") (by rfl) T.list b_list rfl) (pa_cons (pe_bltn (v := .ty "tuple") (by rfl) T.tuple b_tuple rfl) pa_nil))) pa_nil)))) pss_no pss_nil)
        (pss_cons (ps_if (pt_val (pe_callB call_isi1 (by rfl) T.isi b_isi (pa_cons (pv 1) (pa_cons (pe_bltn (v := .ty "bool") (by rfl) T.bool b_bool rfl) pa_nil)))) pss_no pss_nil)
        (pss_cons (ps_if (pt_val (pe_callB call_isi1 (by rfl) T.isi b_isi (pa_cons (pv 1) (pa_cons (pe_bltn (v := .ty "str") (by rfl) T.str b_str rfl) pa_nil)))) pss_no pss_nil)
        (pss_one (ps_ret (pe_and (pe_callB call_isi1 (by rfl) T.isi b_isi (pa_cons (pv 0) (pa_cons (pe_bltn (v := .ty "int") (by rfl) T.int b_int rfl) pa_nil)))
          (pe_and (pe_not (pe_callB call_isi1 (by rfl) T.isi b_isi (pa_cons (pv 0) (pa_cons (pe_bltn (v := .ty "bool") (by rfl) T.bool b_bool rfl) pa_nil)))) (pe_one (pe_cmpR op_eq (pv 0) (pv 1) (nomark _)))))))))), ?_⟩
      refine ⟨_, rfl, _, rfl, iteND (fun z => nomatch z) ?_⟩
      refine ⟨_, rfl, by show 2 ≤ sizeLine; decide, fun p hp => ⟨_, p, ["list", "tuple"], _, false, rfl, upd_same, .int n, any_two_f kt_il kt_it, _, rfl, iteF ?_⟩⟩
      refine ⟨_, rfl, _, "bool", _, _, rfl, .int n, (kit_n _ _).trans kt_ib, _, rfl, iteF ?_⟩
      refine ⟨_, rfl, _, "str", _, _, rfl, .int n, (kit_n _ _).trans kt_is, _, rfl, iteF ?_⟩
      refine ⟨_, rfl, _, "int", _, _, rfl, .int n, (kit_n _ _).trans kt_ii, _, rfl, iteT ?_⟩
      refine ⟨_, rfl, _, "bool", _, _, rfl, .int n, (kit_n _ _).trans kt_ib, _, rfl, _, rfl, iteT ?_⟩
      exact ⟨_, rfl, _, rfl, rfl, bl_t rfl (q _ (same_new (Same.refl _) hp))⟩
    · refine ⟨_, pss_cons (ps_if (pt_cmp (pc_isN (pv 1))) pss_no pss_nil)
        (pss_cons (ps_if (pt_val (pe_callB call_isiT (by rfl) T.isi b_isi (pa_cons (pv 1) (pa_cons (pe_tup (pa_cons (pe_bltn (v := .ty "list") (by rfl) T.list b_list rfl) (pa_cons (pe_bltn (v := .ty "tuple") (by rfl) T.tuple b_tuple rfl) pa_nil))) pa_nil))))
          (pss_cons (ps_if (pw_or (pt_cmpR op_ne (pe_callB call_isi1 (by rfl) T.isi b_isi (pa_cons (pv 0) (pa_cons (pe_bltn (v := .ty "list") (by rfl) T.list b_list rfl) pa_nil))) (pe_callB call_isi1 (by rfl) T.isi b_isi (pa_cons (pv 1) (pa_cons (pe_bltn (v := .ty "list") (by rfl) T.list b_list rfl) pa_nil))) (nomark _))
              (pw_or1 (pt_cmpR op_ne (pe_callB call_isi1 (by rfl) T.isi b_isi (pa_cons (pv 0) (pa_cons (pe_bltn (v := .ty "tuple") (by rfl) T.tuple b_tuple rfl) pa_nil))) (pe_callB call_isi1 (by rfl) T.isi b_isi (pa_cons (pv 1) (pa_cons (pe_bltn (v := .ty "tuple") (by rfl) T.tuple b_tuple rfl) pa_nil))) (nomark _)))).pt pss_no pss_nil)
          (pss_one (ps_ret (pe_and (pe_cmpR op_eq (pe_callB call_len_seq (by rfl) T.len b_len (pa_cons (pv 0) pa_nil)) (pe_callB call_len_seq (by rfl) T.len b_len (pa_cons (pv 1) pa_nil)) (nomark _))
            (pe_one (pe_callB (call_allB rfl) (by rfl) T.all b_all (pa_cons (pe_comp ["_law_one", "_law_other"] [] [] (pi_zip (by rfl) T.zip (pa_cons (pv 0) (pa_cons (pv 1) pa_nil)))
              (fun _ _ _ _ _ => pg_tupK (K := K) (n := 2) rfl rfl (pgs_cons (pg_name (i := 0) nd_oo rfl (Or.inl rfl)) (pgs_cons (pg_name (i := 1) nd_oo rfl (Or.inl rfl)) pgs_nil)))
              (fun _ _ _ _ _ => pifs_nil) (fun _ _ _ _ _ => pe_def CS hr (by rfl) (pa_cons (pv 0) (pa_cons (pv 1) pa_nil)))) pa_nil))))))) pss_nil)
        pss_no), ?_⟩
      refine ⟨_, rfl, _, rfl, iteND (fun z => nomatch z) ?_⟩
      refine ⟨_, rfl, by show 2 ≤ sizeLine; decide, fun p hp => ⟨_, p, ["list", "tuple"], _, true, rfl, upd_same, .lst (keepN hb hp), any_lst, _, rfl, iteT ?_⟩⟩
      refine ⟨_, rfl, _, "list", _, _, rfl, .lst (keepN ha hp), (kit_n _ _).trans kt_ll, _, rfl, _, "list", _, _, rfl, .lst (keepN hb hp), (kit_n _ _).trans kt_ll, rfl, _, rfl, iteNS rfl ?_⟩
      refine ⟨_, rfl, _, "tuple", _, _, rfl, .lst (keepN ha hp), (kit_n _ _).trans kt_lt, _, rfl, _, "tuple", _, _, rfl, .lst (keepN hb hp), (kit_n _ _).trans kt_lt, rfl, _, rfl, iteNS rfl ?_⟩
      refine ⟨_, rfl, a, xs, rfl, .inl (SqL.of (keepN ha hp)), _, rfl, b, ys, rfl, .inl (SqL.of (keepN hb hp)), rfl, _, rfl, iteD (by rw [hl]) ?_⟩
      refine ⟨_, rfl, _, rfl, a, b, rfl, ⟨_, SqL.of (keepN ha hp)⟩, ⟨_, SqL.of (keepN hb hp)⟩, fun D hD => ?_⟩
      have s0 : Same H (upd H p (.tup [.ty "list", .ty "tuple"])) := same_new (Same.refl _) hp
      have nD : H D = none := s0.free hD
      refine comp_zip (K := K) (a := a) (b := b) (xs := xs) (zs := ys) hl (fun i zs H2 => Same H H2 ∧ H2 D = some (.lst zs) ∧ zs = (List.replicate i true).map V.bl)
        ⟨same_new s0 hD, upd_same, rfl⟩ (fun i zs H2 _ h => ⟨SqL.of (h.1 _ _ ha), SqL.of (h.1 _ _ hb)⟩) ?_ ?_
      · rintro i x z zs H2 pp hx hz ⟨s2, d2, rfl⟩ hpp
        have hil : i < xs.length := (List.getElem?_eq_some_iff.mp hx).1
        have s3 : Same H (upd H2 pp (.tup [x, z])) := same_new s2 hpp
        refine ⟨pp, _, rfl, SqT.of upd_same, rfl, _, _, rfl, _, _, rfl, rfl, ?_⟩
        refine iteT ⟨_, rfl, _, rfl, x, z, rfl, hR _ _ _ _ s3 (hi i x z hx hz), fun H4 s4 => ⟨s4 _ _ (keepN d2 hpp), small1000 (by simp; omega), ?_⟩⟩
        refine ⟨same_own (s3.trans s4) nD, upd_same, ?_⟩
        rw [List.replicate_succ', List.map_append]; rfl
      · rintro zs H2 ⟨s2, d2, rfl⟩
        refine ⟨D, List.replicate xs.length true, rfl, SqL.of d2, ?_⟩
        rw [show (List.replicate xs.length true).all id = true by simp]
        exact q _ s2
    · refine ⟨_, pss_cons (ps_if (pt_cmp (pc_isN (pv 1))) pss_no pss_nil)
        (pss_cons (ps_if (pt_val (pe_callB call_isiT (by rfl) T.isi b_isi (pa_cons (pv 1) (pa_cons (pe_tup (pa_cons (pe_bltn (v := .ty "list") (by rfl) T.list b_list rfl) (pa_cons (pe_bltn (v := .ty "tuple") (by rfl) T.tuple b_tuple rfl) pa_nil))) pa_nil))))
          (pss_cons (ps_if (pw_or (pt_cmpR op_ne (pe_callB call_isi1 (by rfl) T.isi b_isi (pa_cons (pv 0) (pa_cons (pe_bltn (v := .ty "list") (by rfl) T.list b_list rfl) pa_nil))) (pe_callB call_isi1 (by rfl) T.isi b_isi (pa_cons (pv 1) (pa_cons (pe_bltn (v := .ty "list") (by rfl) T.list b_list rfl) pa_nil))) (nomark _))
              (pw_or1 (pt_cmpR op_ne (pe_callB call_isi1 (by rfl) T.isi b_isi (pa_cons (pv 0) (pa_cons (pe_bltn (v := .ty "tuple") (by rfl) T.tuple b_tuple rfl) pa_nil))) (pe_callB call_isi1 (by rfl) T.isi b_isi (pa_cons (pv 1) (pa_cons (pe_bltn (v := .ty "tuple") (by rfl) T.tuple b_tuple rfl) pa_nil))) (nomark _)))).pt pss_no pss_nil)
          (pss_one (ps_ret (pe_and (pe_cmpR op_eq (pe_callB call_len_seq (by rfl) T.len b_len (pa_cons (pv 0) pa_nil)) (pe_callB call_len_seq (by rfl) T.len b_len (pa_cons (pv 1) pa_nil)) (nomark _))
            (pe_one (pe_callB (call_allB rfl) (by rfl) T.all b_all (pa_cons (pe_comp ["_law_one", "_law_other"] [] [] (pi_zipT (by rfl) T.zip (pa_cons (pv 0) (pa_cons (pv 1) pa_nil)))
              (fun _ _ _ _ _ => pg_tupK (K := K) (n := 2) rfl rfl (pgs_cons (pg_name (i := 0) nd_oo rfl (Or.inl rfl)) (pgs_cons (pg_name (i := 1) nd_oo rfl (Or.inl rfl)) pgs_nil)))
              (fun _ _ _ _ _ => pifs_nil) (fun _ _ _ _ _ => pe_def CS hr (by rfl) (pa_cons (pv 0) (pa_cons (pv 1) pa_nil)))) pa_nil))))))) pss_nil)
        pss_no), ?_⟩
      refine ⟨_, rfl, _, rfl, iteND (fun z => nomatch z) ?_⟩
      refine ⟨_, rfl, by show 2 ≤ sizeLine; decide, fun p hp => ⟨_, p, ["list", "tuple"], _, true, rfl, upd_same, .tup (keepN hb hp), any_tup, _, rfl, iteT ?_⟩⟩
      refine ⟨_, rfl, _, "list", _, _, rfl, .tup (keepN ha hp), (kit_n _ _).trans kt_tl, _, rfl, _, "list", _, _, rfl, .tup (keepN hb hp), (kit_n _ _).trans kt_tl, rfl, _, rfl, iteNS rfl ?_⟩
      refine ⟨_, rfl, _, "tuple", _, _, rfl, .tup (keepN ha hp), (kit_n _ _).trans kt_tt, _, rfl, _, "tuple", _, _, rfl, .tup (keepN hb hp), (kit_n _ _).trans kt_tt, rfl, _, rfl, iteNS rfl ?_⟩
      refine ⟨_, rfl, a, xs, rfl, .inr (SqT.of (keepN ha hp)), _, rfl, b, ys, rfl, .inr (SqT.of (keepN hb hp)), rfl, _, rfl, iteD (by rw [hl]) ?_⟩
      refine ⟨_, rfl, _, rfl, a, b, rfl, ⟨_, SqT.of (keepN ha hp)⟩, ⟨_, SqT.of (keepN hb hp)⟩, fun D hD => ?_⟩
      have s0 : Same H (upd H p (.tup [.ty "list", .ty "tuple"])) := same_new (Same.refl _) hp
      have nD : H D = none := s0.free hD
      refine comp_zipT (K := K) (a := a) (b := b) (xs := xs) (zs := ys) hl (fun i zs H2 => Same H H2 ∧ H2 D = some (.lst zs) ∧ zs = (List.replicate i true).map V.bl)
        ⟨same_new s0 hD, upd_same, rfl⟩ (fun i zs H2 _ h => ⟨SqT.of (h.1 _ _ ha), SqT.of (h.1 _ _ hb)⟩) ?_ ?_
      · rintro i x z zs H2 pp hx hz ⟨s2, d2, rfl⟩ hpp
        have hil : i < xs.length := (List.getElem?_eq_some_iff.mp hx).1
        have s3 : Same H (upd H2 pp (.tup [x, z])) := same_new s2 hpp
        refine ⟨pp, _, rfl, SqT.of upd_same, rfl, _, _, rfl, _, _, rfl, rfl, ?_⟩
        refine iteT ⟨_, rfl, _, rfl, x, z, rfl, hR _ _ _ _ s3 (hi i x z hx hz), fun H4 s4 => ⟨s4 _ _ (keepN d2 hpp), small1000 (by simp; omega), ?_⟩⟩
        refine ⟨same_own (s3.trans s4) nD, upd_same, ?_⟩
        rw [List.replicate_succ', List.map_append]; rfl
      · rintro zs H2 ⟨s2, d2, rfl⟩
        refine ⟨D, List.replicate xs.length true, rfl, SqL.of d2, ?_⟩
        rw [show (List.replicate xs.length true).all id = true by simp]
        exact q _ s2
theorem ok_sameA : ∀ (n : Nat) {f : Addr} {fd : FuncData} (F : Fun K "_law_same" "_law_same" sSame f fd) (T : Txt K mg) (hm : mg "_law_same" = some (.ref f)) (hk : PySem.W.keepIn K (.ref f) = true) (hb : Binds K fd ["_law_found", "_law_due"] []), FnOk P w K mg base CX0 (n + 1) f fd ["_law_found", "_law_due"] (spSameR (Al n))
  | 0, _, _, F, T, _, _, _ => ok_sameI F T
  | n + 1, _, _, F, T, hm, hk, hb => ok_sameM (kept_Al n) F T ⟨_, _, ok_sameA n F T hm hk hb, hm, hk, hb⟩
end
end Hue
set_option Elab.async false
set_option linter.all false
set_option maxRecDepth 100000
set_option maxHeartbeats 1500000
namespace Hue
open PySem L2
abbrev sRefused : Stmt := top 28
theorem idx_ok {r : Int} {n : Nat} (h0 : 0 ≤ r) (h1 : r < n) : seqIndex? r n = some r.toNat := by
  exact PySem.StrLaws.seqIndex_nonneg h0 h1
theorem rng_ints (n : Nat) : rngV 0 n = ((List.range n).map fun (i : Nat) => (i : Int)).map V.int := by
  unfold rngV
  rw [List.map_map]
  refine List.map_congr_left fun i _ => ?_
  simp
theorem erase_mapI : ∀ (ls : List Int) (k : Nat), (ls.map V.int).eraseIdx k = (ls.eraseIdx k).map V.int
  | [], k => by simp
  | x :: ls, 0 => by simp
  | x :: ls, k + 1 => by simp [erase_mapI ls k]
structure Ers (K : PySem.W.Frag) (mg : Str → Option Value) (cH cT cP c1 c2 c3 c4 c5 c6 c7 : Addr) : Prop where
  h : ExcC K mg "HueError" cH
  t : ExcC K mg "NoTie" cT
  b0 : mg "NoPlace" = some (.ref cP)
  b1 : mg "NoRow" = some (.ref c1)
  b2 : mg "NoFan" = some (.ref c2)
  b3 : mg "TooFew" = some (.ref c3)
  b4 : mg "NoStep" = some (.ref c4)
  b5 : mg "NotTwoSides" = some (.ref c5)
  b6 : mg "ShortList" = some (.ref c6)
  b7 : mg "BadRow" = some (.ref c7)
  ve : mg "ValueError" = none
  ut : UnderK K cT cH
  et : ExcT K cT
  tt : PySem.W.kitOne K (.ref cT) (.ref cT) = some true
  tv : PySem.W.kitOne K (.ref cT) (.type "ValueError") = some true
  to : PySem.W.kitAny K (.ref cT) [.ref cP, .ref c1, .ref c2, .ref c3, .ref c4, .ref c5, .ref c6, .ref c7] = some false
theorem b_ve : bootBuiltins "ValueError" = some (.type "ValueError") := by decide +kernel
def spRefused : Sp := fun vs H Q _ => ∃ (w b : Addr) (m : Int) (es : List (Int × Int)) (ts : List Int), vs = [.ref w, .ref b] ∧ WebE H w m es ∧ H b = some (.lst (ts.map V.int)) ∧ (∃ t ∈ ts, ¬ InP es.length t) ∧ ∀ H', Same H H' → Q (.bl true) H'
section
variable {P : Program} {w : World} {K : PySem.W.Frag} {mg : Str → Option Value} {base : Heap}
theorem scSome : FnScope ["_law_tape_here", "_law_many", "_law_left", "_law_found", "_law_turn"] ["_law_tape_here", "_law_many"] (defScope sSome) := ⟨rfl, rfl, rfl, by decide +kernel, rfl, by decide +kernel, by decide +kernel⟩
theorem ok_some {f : Addr} {fd : FuncData} (F : Fun K "_law_some" "_law_some" sSome f fd) (T : Txt K mg) (CD : CDraw P w K mg base) : FnOk P w K mg base CX0 2 f fd ["_law_tape_here", "_law_many"] spSome := by
  refine F.ok scSome (fun vs H Q E h => ?_) (fun cdv A outer s H vs Q E hr h => ?_)
  · obtain ⟨_, _, rfl, _⟩ := h; rfl
  · obtain ⟨t, n, rfl, Tp, h63, q⟩ := h
    refine ⟨_, pss_cons (ps_set (i := 2) scSome.nd rfl (Or.inl rfl) (pe_callTy (call_listRng rfl) (by rfl) T.list b_list (pa_cons (pe_callTy call_rng1 (by rfl) T.range b_range (pa_cons (pv 1) pa_nil)) pa_nil)))
      (pss_cons (ps_set (i := 3) scSome.nd rfl (Or.inl rfl) (pe_lst pa_nil))
      (pss_cons (ps_for PassesOwn.never rfl (pi_range1 (by rfl) T.range (pa_cons (pe_def CD hr (by rfl) (pa_cons (pv 0) (pa_cons (pe_op op_add (pv 1) pe_int) pa_nil))) pa_nil)) (pg_name (i := 4) scSome.nd rfl (Or.inl rfl))
        (pss_one (ps_expr (pe_bm PySem.F.plainAttrs_list PySem.F.slot_list_append PySem.F.type_list_append mt_append (pv 3) (pa_cons
          (pe_bm PySem.F.plainAttrs_list PySem.F.slot_list_pop PySem.F.type_list_pop mt_popAt (pv 2) (pa_cons (pe_def CD hr (by rfl) (pa_cons (pv 0) (pa_cons (pe_callB call_len_seq (by rfl) T.len b_len (pa_cons (pv 2) pa_nil)) pa_nil))) pa_nil)) pa_nil)))))
      (pss_one (ps_ret (pv 3))))), ?_⟩
    refine ⟨_, rfl, _, rfl, fun p hp => ⟨p, 0, _, rfl, upd_same, by decide, by decide, by omega, by omega, by omega, fun L hL => ?_⟩⟩
    refine ⟨by show 0 ≤ sizeLine; decide, fun D hD => ?_⟩
    have en : ((n : Int) - 0).toNat = n := by omega
    have T1 : Tape (upd H p (.rng 0 (n : Int))) t := Tp.new hp
    have T2 := T1.new (o := .lst (rngV 0 ((n : Int) - 0).toNat)) hL
    have T3 := T2.new (o := .lst []) hD
    have x1 : Ext t H (upd H p (.rng 0 (n : Int))) := (Ext.refl t H).new hp
    have x2 := x1.new (o := .lst (rngV 0 ((n : Int) - 0).toNat)) hL
    have x3 := x2.new (o := .lst []) hD
    have Lt : L ≠ t := T1.ne hL
    have Dt : D ≠ t := T2.ne hD
    have nL : H L = none := x1.free hL Lt
    have nD : H D = none := x2.free hD Dt
    have LD : L ≠ D := ne_of_none upd_same hD
    have gL : (upd (upd (upd H p (.rng 0 (n : Int))) L (.lst (rngV 0 ((n : Int) - 0).toNat))) D (.lst [])) L = some (.lst (((List.range n).map fun (i : Nat) => (i : Int)).map V.int)) := keepN (by rw [upd_same, en, rng_ints]) hD
    have gD : (upd (upd (upd H p (.rng 0 (n : Int))) L (.lst (rngV 0 ((n : Int) - 0).toNat))) D (.lst [])) D = some (.lst (([] : List Int).map V.int)) := upd_same
    generalize (upd (upd (upd H p (.rng 0 (n : Int))) L (.lst (rngV 0 ((n : Int) - 0).toNat))) D (.lst [])) = H3 at T3 x3 gL gD
    refine ⟨_, rfl, _, rfl, _, _, rfl, rfl, t, _, rfl, T3, by omega, by omega, fun r H4 r0 r1 T4 x4 => ?_⟩
    refine ⟨r, rfl, by omega, by omega, for_range (lo := 0) (n := r.toNat) (fun i σ H5 => ∃ (o4 : Option V) (ls ns : List Int), σ = [some (.ref t), some (.int n), some (.ref L), some (.ref D), o4] ∧ Tape H5 t ∧ Ext t H H5 ∧ H5 L = some (.lst (ls.map V.int)) ∧ H5 D = some (.lst (ns.map V.int)) ∧ ls.length + i = n ∧ ns.length = i ∧ (∀ k ∈ ls, InP n k) ∧ (∀ k ∈ ns, InP n k))
      ⟨none, _, _, rfl, T4, x3.trans x4, x4 _ _ Lt gL, x4 _ _ Dt gD, by simp, rfl, fun k hk => ?_, fun k hk => by cases hk⟩ ?_ ?_⟩
    · obtain ⟨i, hi, rfl⟩ := List.mem_map.mp hk
      have := List.mem_range.mp hi
      unfold InP; omega
    · rintro i σ H5 hi ⟨o4, ls, ns, rfl, T5, x5, hL5, hD5, el, en2, bl, bn⟩
      have hpos : 0 < ls.length := by omega
      refine ⟨_, rfl, .inl ⟨rfl, _, SqL.of hD5⟩, _, rfl, .inl ⟨rfl, _, SqL.of hL5⟩, _, rfl, _, rfl, L, _, rfl, .inl (SqL.of hL5), ?_⟩
      refine ⟨t, _, rfl, T5, by rw [List.length_map]; omega, by rw [List.length_map]; omega, fun r' H6 r0' r1' T6 x6 => ?_⟩
      rw [List.length_map] at r1'
      have hL6 := x6 _ _ Lt hL5
      have hD6 := x6 _ _ Dt hD5
      have hr : r'.toNat < ls.length := by omega
      refine ⟨L, _, r', r'.toNat, .int (ls[r'.toNat]'hr), rfl, rfl, hL6, by omega, by omega, idx_ok r0' (by rw [List.length_map]; exact r1'), by rw [List.getElem?_map, List.getElem?_eq_getElem hr]; rfl, ?_⟩
      refine ⟨D, _, _, rfl, rfl, keepO hD6 LD.symm, small1000 (by rw [List.length_map]; omega), _, ls.eraseIdx r'.toNat, ns ++ [ls[r'.toNat]'hr], rfl, (T6.upd Lt.symm).upd Dt.symm, ((x5.trans x6).own nL).own nD, ?_, ?_, ?_, ?_, fun x hx => bl x (List.mem_of_mem_eraseIdx hx), fun x hx => ?_⟩
      · rw [upd_ne LD, upd_same, erase_mapI]
      · rw [upd_same, List.map_append]; rfl
      · rw [List.length_eraseIdx_of_lt hr]; omega
      · rw [List.length_append, en2]; rfl
      · rcases List.mem_append.mp hx with hx | hx
        · exact bn x hx
        · rw [List.mem_singleton.mp hx]; exact bl _ (List.getElem_mem hr)
    · rintro σ H5 ⟨o4, ls, ns, rfl, T5, x5, hL5, hD5, el, en2, bl, bn⟩
      exact ⟨_, rfl, q D ns H5 ⟨T5, x5, nD, Dt.symm, hD5⟩ (by omega) bn⟩
theorem scRefused : FnScope ["_law_web_here", "_law_ties", "_law_caught", "error"] ["_law_web_here", "_law_ties"] (defScope sRefused) := ⟨rfl, rfl, rfl, by decide +kernel, rfl, by decide +kernel, by decide +kernel⟩
theorem ok_refused {f : Addr} {fd : FuncData} {cH cT cP c1 c2 c3 c4 c5 c6 c7 : Addr} (F : Fun K "_law_is_refused" "_law_is_refused" sRefused f fd) (T : Txt K mg) (R0 : Ers K mg cH cT cP c1 c2 c3 c4 c5 c6 c7) (CO : CalleeE P w K mg base 4 "only" ["web", "ties"] (spOnlyE cT)) : FnOk P w K mg base CX0 5 f fd ["_law_web_here", "_law_ties"] spRefused := by
  refine F.ok scRefused (fun vs H Q E h => ?_) (fun cdv A outer s H vs Q E hr h => ?_)
  · obtain ⟨_, _, _, _, _, rfl, _⟩ := h; rfl
  · obtain ⟨w0, b, m, es, ts, rfl, W, hb, hno, q⟩ := h
    refine ⟨_, pss_cons (ps_set (i := 2) scRefused.nd rfl (Or.inl rfl) pe_non)
      (pss_cons (ps_tryAs R0.h (by rfl) CO rfl rfl rfl (fun _ => rfl) hr (by rfl) (pa_cons (pv 0) (pa_cons (pv 1) pa_nil)) (i := 3) scRefused.nd rfl rfl (fun _ => pss_one (ps_set (i := 2) scRefused.nd rfl (Or.inl rfl) (pv 3))))
      (pss_cons (ps_if (pt_val (pe_callB call_isiET (by rfl) T.isi b_isi (pa_cons (pv 2) (pa_cons (pe_tup (pa_cons (pe_glob (v := .ref cP) (by rfl) R0.b0 rfl) (pa_cons (pe_glob (v := .ref c1) (by rfl) R0.b1 rfl) (pa_cons (pe_glob (v := .ref c2) (by rfl) R0.b2 rfl) (pa_cons (pe_glob (v := .ref c3) (by rfl) R0.b3 rfl) (pa_cons (pe_glob (v := .ref c4) (by rfl) R0.b4 rfl) (pa_cons (pe_glob (v := .ref c5) (by rfl) R0.b5 rfl) (pa_cons (pe_glob (v := .ref c6) (by rfl) R0.b6 rfl) (pa_cons (pe_glob (v := .ref c7) (by rfl) R0.b7 rfl) pa_nil))))))))) pa_nil)))) pss_no pss_nil)
      (pss_one (ps_ret (pe_and (pe_callB call_isiE (by rfl) T.isi b_isi (pa_cons (pv 2) (pa_cons (pe_glob (v := .ref cT) (by rfl) R0.t.bound rfl) pa_nil))) (pe_one (pe_callB call_isiE (by rfl) T.isi b_isi (pa_cons (pv 2) (pa_cons (pe_bltn (v := .ty "ValueError") (by rfl) R0.ve b_ve rfl) pa_nil))))))))), ?_⟩
    refine ⟨_, rfl, _, rfl, w0, b, m, es, ts, rfl, W, hb, hno, cT, rfl, R0.ut, fun x hx => ?_⟩
    have e1 : (upd H x (ExcO x (.ref cT))) x = some (ExcO x (.ref cT)) := upd_same
    have s2 : Same H (upd H x (ExcO x (.ref cT))) := same_new (Same.refl _) hx
    refine ⟨_, rfl, ?_⟩
    refine ⟨_, rfl, by show 8 ≤ sizeLine; decide, fun p hp => ?_⟩
    have e3 := keepN (u := .tup [.ref cP, .ref c1, .ref c2, .ref c3, .ref c4, .ref c5, .ref c6, .ref c7]) e1 hp
    have s4 := same_new (o := .tup [.ref cP, .ref c1, .ref c2, .ref c3, .ref c4, .ref c5, .ref c6, .ref c7]) s2 hp
    refine ⟨.ref x, p, _, _, _, _, rfl, upd_same, .yes e3 R0.et, rfl, R0.to, _, rfl, iteF ?_⟩
    refine ⟨_, rfl, .ref x, .ref cT, _, _, _, rfl, .yes e3 R0.et, rfl, R0.tt, _, rfl, iteT ?_⟩
    exact ⟨_, rfl, .ref x, .ty "ValueError", _, _, _, rfl, .yes e3 R0.et, rfl, R0.tv, q _ s4⟩
end
end Hue
set_option Elab.async false
set_option linter.all false
set_option maxRecDepth 100000
set_option maxHeartbeats 1500000
namespace Hue
open PySem L2
abbrev sOnlyR : Stmt := top 29
theorem WebE.at {H : Hp} {w : Addr} {m : Int} {es : List (Int × Int)} (h : WebE H w m es) : ∃ vs, WebAt H w m vs := by
  obtain ⟨ta, ts, a, b, c, d, e, f, g, i⟩ := h
  refine ⟨ts, ta, a, b, fun v hv => ?_, by omega, g, i⟩
  obtain ⟨k, hk⟩ := List.getElem?_of_mem hv
  obtain ⟨q, e', rfl, ee, hq⟩ := d k v hk
  exact ⟨q, e'.1, e'.2, rfl, hq, e _ (List.mem_of_getElem? ee)⟩
theorem web_is {H : Hp} {w : Addr} {m : Int} {es : List (Int × Int)} (h : WebE H w m es) : ∃ d, Dat H (.ref w) d ∧ webD d = true ∧ d.bulk ≤ 100000 := let ⟨_, a⟩ := h.at; webAt_dat a
theorem eqVs_ints (ns : List Int) : eqVs (ns.map V.int) (ns.map V.int) = true := by
  unfold eqVs
  rw [Bool.and_eq_true]
  refine ⟨by simp, ?_⟩
  rw [List.all_eq_true]
  intro p hp
  obtain ⟨i, hi, e⟩ := List.mem_iff_getElem.mp hp
  rw [List.getElem_zip] at e
  rw [← e]
  simp [eqV]
theorem ints_flat (ts : List Int) : (ts.map V.int).all flatV = true := by
  rw [List.all_map, List.all_eq_true]
  intro _ _
  rfl
theorem cut_ints (ns : List Int) (lo hi : Option Int) : ∃ ms : List Int, cutV (ns.map V.int) lo hi = ms.map V.int ∧ ms.length ≤ ns.length := by
  refine ⟨(ns.drop (HT.sIx (ns.map V.int).length 0 lo)).take (HT.sIx (ns.map V.int).length (ns.map V.int).length hi - HT.sIx (ns.map V.int).length 0 lo), ?_, ?_⟩
  · rw [List.map_take, List.map_drop]; rfl
  · rw [List.length_take, List.length_drop]; omega
def spOnlyR : Sp := fun vs H Q _ => ∃ (t w : Addr) (m : Int) (es : List (Int × Int)), vs = [.ref t, .ref w] ∧ Tape H t ∧ WebE H w m es ∧ ∀ H', Tape H' t → Ext t H H' → Q (.bl true) H'
theorem nd_tw : ((["_law_tie"] : List Str) ++ (["_law_web_here"] : List Str)).Nodup := by decide +kernel
theorem ext_same {t : Addr} {H H' H'' : Hp} (e : Ext t H H') (s : Same H' H'') : Ext t H H'' := fun b o n h => s b o (e b o n h)
theorem Tape.same {t : Addr} {H H' : Hp} (T : Tape H t) (s : Same H H') : Tape H' t := T.keep fun o h => s _ _ h
section
variable {P : Program} {w : World} {K : PySem.W.Frag} {mg : Str → Option Value} {base : Heap}
theorem scOnlyR : FnScope ["_law_tape_here", "_law_web_here", "_law_some_here", "_law_due", "_law_handed", "_law_found", "_law_odd", "_law_at"] ["_law_tape_here", "_law_web_here"] (defScope sOnlyR) := ⟨rfl, rfl, rfl, by decide +kernel, rfl, by decide +kernel, by decide +kernel⟩
theorem ok_onlyR {f : Addr} {fd : FuncData} (F : Fun K "_law_only_right" "_law_only_right" sOnlyR f fd) (T : Txt K mg) (CD : CDraw P w K mg base) (CSm : Callee P w K mg base 2 "_law_some" ["_law_tape_here", "_law_many"] spSome)
    (CO : Callee P w K mg base 4 "only" ["web", "ties"] spOnly0) (CS : Callee P w K mg base 4 "_law_same" ["_law_found", "_law_due"] (spSameR (Al 3))) (CW : Callee P w K mg base 3 "is_web" ["thing"] spIsWeb2) (CR : Callee P w K mg base 5 "_law_is_refused" ["_law_web_here", "_law_ties"] spRefused) :
    FnOk P w K mg base CX0 6 f fd ["_law_tape_here", "_law_web_here"] spOnlyR := by
  refine F.ok scOnlyR (fun vs H Q E h => ?_) (fun cdv A outer s H vs Q E hr h => ?_)
  · obtain ⟨_, _, _, _, rfl, _⟩ := h; rfl
  · obtain ⟨t, w0, m, es, rfl, Tp, W, q⟩ := h
    have hr1 : Room 1 _ := hr.mono (by decide)
    have hr2 : Room 2 _ := hr.mono (by decide)
    have hr3 : Room 3 _ := hr.mono (by decide)
    have hr4 : Room 4 _ := hr.mono (by decide)
    have hu := hr.units0
    refine ⟨_, pss_cons (ps_set (i := 2) scOnlyR.nd rfl (Or.inl rfl) (pe_def CSm hr2 (by rfl) (pa_cons (pv 0) (pa_cons (pe_callB call_len_seq (by rfl) T.len b_len (pa_cons (pe_ix ix_tup (pv 1) pe_int (fun _ _ => rfl)) pa_nil)) pa_nil))))
      (pss_cons (ps_set (i := 3) scOnlyR.nd rfl (Or.inl rfl) (pe_tup (pa_cons (pe_ix ix_tup (pv 1) pe_int (fun _ _ => rfl)) (pa_cons (pe_callTy call_tuple_of (by rfl) T.tuple b_tuple (pa_cons (pe_comp ["_law_tie"] ["_law_web_here"] [1] (pi_list (pv 2)) (fun _ _ _ _ _ => pg_name (i := 0) nd_tw rfl (Or.inl rfl)) (fun _ _ _ _ _ => pifs_nil)
        (fun _ _ _ _ _ => pe_ix (ix_tupK (K := K) rfl) (pe_ix (ix_tupK (K := K) rfl) (pv 1) pe_int (fun _ _ => rfl)) (pv 0) (fun _ _ => rfl))) pa_nil)) pa_nil))))
      (pss_cons (ps_for PassesOwn.never rfl (pi_tup (pe_tup (pa_cons (pv 2) (pa_cons (pe_callTy call_tuple_of (by rfl) T.tuple b_tuple (pa_cons (pv 2) pa_nil)) pa_nil)))) (pg_name (i := 4) scOnlyR.nd rfl (Or.inl rfl))
        (pss_cons (ps_set (i := 5) scOnlyR.nd rfl (Or.inl rfl) (pe_def CO hr4 (by rfl) (pa_cons (pv 1) (pa_cons (pv 4) pa_nil))))
        (pss_one (ps_if (pw_or (pt_not (pt_val (pe_def CS hr4 (by rfl) (pa_cons (pv 5) (pa_cons (pv 3) pa_nil))))) (pw_or (pt_not (pt_val (pe_def CW hr3 (by rfl) (pa_cons (pv 5) pa_nil)))) (pw_or1 (pt_cmpR (op_neL hu) (pe_callTy call_list_of (by rfl) T.list b_list (pa_cons (pv 4) pa_nil)) (pv 2) (nomark _))))).pt pss_no pss_nil))))
      (@pss_cons _ _ _ _ _ (ps_set (i := 6) scOnlyR.nd rfl (Or.inl rfl) (pe_ix ix_list (pe_lst (pa_cons (pe_callB call_len_seq (by rfl) T.len b_len (pa_cons (pe_ix ix_tup (pv 1) pe_int (fun _ _ => rfl)) pa_nil)) (pa_cons (pe_un un_neg pe_int) (pa_cons (pe_op op_add (pe_callB call_len_seq (by rfl) T.len b_len (pa_cons (pe_ix ix_tup (pv 1) pe_int (fun _ _ => rfl)) pa_nil)) pe_int)
          (pa_cons (pe_op op_pow pe_int pe_int) (pa_cons (pe_op op_sub (pe_un un_neg (pe_callB call_len_seq (by rfl) T.len b_len (pa_cons (pe_ix ix_tup (pv 1) pe_int (fun _ _ => rfl)) pa_nil))) pe_int) pa_nil)))))) (pe_def CD hr1 (by rfl) (pa_cons (pv 0) (pa_cons pe_int pa_nil))) (fun _ _ => rfl)))
      (pss_cons (ps_set (i := 7) scOnlyR.nd rfl (Or.inl rfl) (pe_def CD hr1 (by rfl) (pa_cons (pv 0) (pa_cons (pe_op op_add (pe_callB call_len_seq (by rfl) T.len b_len (pa_cons (pv 2) pa_nil)) pe_int) pa_nil))))
      (pss_one (ps_ret (pe_def CR hr (by rfl) (pa_cons (pv 1) (pa_cons (pe_op op_cat (pe_op op_cat (pe_slice sl_list (pv 2) po_none (po_some (pv 7))) (pe_lst (pa_cons (pv 6) pa_nil))) (pe_slice sl_list (pv 2) (po_some (pv 7)) po_none)) pa_nil))))))))), ?_⟩
    obtain ⟨ta, us, hw, ht0, htl, he, hbd, h61, hm0, hm12⟩ := id W
    refine ⟨_, rfl, _, rfl, w0, _, _, _, rfl, rfl, SqT.of hw, (rfl : atI [V.int m, V.ref ta] 1 = some (.ref ta)), ta, us, rfl, .inr (SqT.of ht0), t, us.length, rfl, Tp, by omega, fun l ns H1 G1 hl hn => ?_⟩
    have W1 := W.mono (G1.ext.keepT Tp)
    have T1 := G1.tape
    have x1 := G1.ext
    have l1 := G1.at'
    have lt := G1.ne.symm
    rw [htl] at hl hn
    clear G1
    obtain ⟨ta1, us1, hw1, ht1, htl1, he1, hbd1, h61, hm0, hm12⟩ := id W1
    refine ⟨_, rfl, w0, _, _, _, rfl, rfl, SqT.of hw1, (rfl : atI [V.int m, V.ref ta1] 0 = some (.int m)), _, rfl, l, rfl, ⟨_, SqL.of l1⟩, fun D hD => comp_list (K := K) (a := l) (xs := ns.map V.int) (fun i ys H3 => Same H1 H3 ∧ H3 D = some (.lst ys) ∧ ys = (ns.take i).map fun t => us1.getD t.toNat .non) ⟨same_new (Same.refl _) hD, upd_same, rfl⟩ (fun i ys H3 _ h => SqL.of (h.1 _ _ l1)) ?_ ?_⟩
    · rintro i x ys H3 hx ⟨s3, d3, rfl⟩
      obtain ⟨tt, ht, rfl⟩ := int_at hx
      have z := hn tt (List.mem_of_getElem? ht)
      have hi : i < ns.length := (List.getElem?_eq_some_iff.mp ht).1
      have hk : tt.toNat < us1.length := by have := z.1; have := z.2; omega
      have et : us1[tt.toNat]? = some (us1.getD tt.toNat .non) := by rw [List.getD_eq_getElem?_getD, List.getElem?_eq_getElem hk]; rfl
      have at' : atI us1 tt = some (us1.getD tt.toNat .non) := by
        have := atI_nat et
        rwa [Int.toNat_of_nonneg z.1] at this
      refine compT (i := 0) ⟨_, rfl, w0, _, _, _, rfl, rfl, SqT.of (s3 _ _ hw1), (rfl : atI [V.int m, V.ref ta1] 1 = some (.ref ta1)), _, rfl, ta1, us1, _, _, rfl, rfl, SqT.of (s3 _ _ ht1), at', d3, small1000 (by simp only [List.length_map, List.length_take]; omega), same_own s3 hD, upd_same, ?_⟩
      rw [List.take_add_one, ht, List.map_append]; rfl
    · rintro ys H3 ⟨s3, d3, rfl⟩
      rw [List.length_map, List.take_length] at d3
      refine ⟨D, _, rfl, .inl ⟨SqL.of d3, fun tu htu => ⟨by show 2 ≤ sizeLine; decide, fun du hdu => ?_⟩⟩⟩
      have s4 := same_new (o := .tup (ns.map fun t => us1.getD t.toNat .non)) s3 htu
      have s5 := same_new (o := .tup [.int m, .ref tu]) s4 hdu
      have Wd : WebE (upd (upd H3 tu (.tup (ns.map fun t => us1.getD t.toNat .non))) du (.tup [.int m, .ref tu])) du m (ns.map (pick es)) := pick_web (w := w0) (ta := ta1) (tu := tu) htl1 (fun k v hv => let ⟨qq, e, a1, a2, a3⟩ := he1 k v hv; ⟨qq, e, a1, a2, s5 _ _ a3⟩) hbd1 hm0 hm12 (by omega) hn upd_same (keepN upd_same hdu)
      generalize (upd (upd H3 tu (.tup (ns.map fun t => us1.getD t.toNat .non))) du (.tup [.int m, .ref tu])) = H5 at s5 Wd
      have l5 := s5 _ _ l1
      refine ⟨_, rfl, _, rfl, l, _, rfl, .inl ⟨SqL.of l5, fun tp htp => ⟨by show 2 ≤ sizeLine; decide, fun ft hft => ?_⟩⟩⟩
      have s6 := same_new (o := .tup [.ref l, .ref tp]) (same_new (o := .tup (ns.map V.int)) (Same.refl H5) htp) hft
      have f6 : (upd (upd H5 tp (.tup (ns.map V.int))) ft (.tup [.ref l, .ref tp])) ft = some (.tup [.ref l, .ref tp]) := upd_same
      have p6 : (upd (upd H5 tp (.tup (ns.map V.int))) ft (.tup [.ref l, .ref tp])) tp = some (.tup (ns.map V.int)) := keepN upd_same hft
      generalize (upd (upd H5 tp (.tup (ns.map V.int))) ft (.tup [.ref l, .ref tp])) = H6 at s6 f6 p6
      have l6 := s6 _ _ l5
      have W6 := W1.mono (sameKT (s5.trans s6))
      have D6 := Wd.mono (sameKT s6)
      refine ⟨ft, rfl, ⟨_, SqT.of f6⟩, for_tup (K := K) (a := ft) (xs := [.ref l, .ref tp]) (fun i σ H7 => ∃ (o4 o5 : Option V), σ = [some (.ref t), some (.ref w0), some (.ref l), some (.ref du), o4, o5, none, none] ∧ Same H6 H7) ⟨none, none, rfl, Same.refl _⟩ (fun i σ H7 _ h => by obtain ⟨_, _, _, s7⟩ := h; exact SqT.of (s7 _ _ f6)) ?_ ?_⟩
      · rintro i x σ H7 hx ⟨o4, o5, rfl, s7⟩
        obtain ⟨ha, rfl, sa⟩ : ∃ ha, x = .ref ha ∧ SeqA H6 ha (ns.map V.int) := by
          have := List.mem_of_getElem? hx
          simp only [List.mem_cons, List.not_mem_nil, or_false] at this
          rcases this with rfl | rfl
          · exact ⟨l, rfl, .inl l6⟩
          · exact ⟨tp, rfl, .inr p6⟩
        refine ⟨_, rfl, _, rfl, w0, ha, m, es, ns, rfl, W6.mono (sameKT s7), sa.same s7, by omega, hn, fun r H8 s8 Wr => ?_⟩
        have s68 := s7.trans s8
        refine ⟨_, rfl, _, rfl, _, _, rfl, web_al Wr (D6.mono (sameKT s68)), fun H9 s9 => ⟨_, rfl, iteF ?_⟩⟩
        obtain ⟨d, hd, hwd, hbk⟩ := web_is (Wr.mono (sameKT s9))
        refine ⟨_, rfl, _, d, rfl, hd, hbk, fun HA sA => ?_⟩
        rw [hwd]
        refine ⟨_, rfl, iteF ?_⟩
        have s6A := (s68.trans s9).trans sA
        refine ⟨_, rfl, ha, _, rfl, (sa.same s6A).or, fun nl hnl => ?_⟩
        refine ⟨_, rfl, nl, l, _, _, rfl, rfl, SqL.of upd_same, SqL.of (keepN (s6A _ _ l6) hnl), .inl ⟨ints_flat ns, ints_flat ns⟩, _, rfl, ?_⟩
        show if (!eqVs (ns.map V.int) (ns.map V.int)) = true then _ else _
        rw [eqVs_ints]
        exact iteF ⟨_, _, rfl, same_new s6A hnl⟩
      · rintro σ H7 ⟨o4, o5, rfl, s7⟩
        have s17 := (s5.trans s6).trans s7
        have W7 := W6.mono (sameKT s7)
        have T7 := T1.same s17
        have x7 := ext_same x1 s17
        have l7 := s7 _ _ l6
        clear Wd D6
        obtain ⟨tb, vs, hw7, ht7, htl7, _⟩ := id W7
        refine ⟨_, rfl, w0, _, _, _, rfl, rfl, SqT.of hw7, (rfl : atI [V.int m, V.ref tb] 1 = some (.ref tb)), tb, vs, rfl, .inr (SqT.of ht7), ?_⟩
        refine ⟨1, rfl, ?_⟩
        refine ⟨_, rfl, w0, _, _, _, rfl, rfl, SqT.of hw7, (rfl : atI [V.int m, V.ref tb] 1 = some (.ref tb)), tb, vs, rfl, .inr (SqT.of ht7), _, _, rfl, rfl, ?_⟩
        refine ⟨_, _, rfl, rfl, ⟨by decide, by decide, by decide⟩, ?_⟩
        refine ⟨_, rfl, w0, _, _, _, rfl, rfl, SqT.of hw7, (rfl : atI [V.int m, V.ref tb] 1 = some (.ref tb)), tb, vs, rfl, .inr (SqT.of ht7), _, rfl, _, _, rfl, rfl, by show 5 ≤ sizeLine; decide, fun O hO => ?_⟩
        rw [htl7]
        have big : ¬ InP es.length (10 ^ (20 : Int).toNat) := fun z => by
          have := z.2
          have e : (10 : Int) ^ (20 : Int).toNat = 100000000000000000000 := by decide
          rw [e] at this
          omega
        have odd : ∀ k ∈ ([(es.length : Int), -1, (es.length : Int) + 5, 10 ^ (20 : Int).toNat, -(es.length : Int) - 1] : List Int), ¬ InP es.length k := fun k hk => by
          simp only [List.mem_cons, List.not_mem_nil, or_false] at hk
          rcases hk with rfl | rfl | rfl | rfl | rfl
          · unfold InP; omega
          · unfold InP; omega
          · unfold InP; omega
          · exact big
          · unfold InP; omega
        have len5 : ([(es.length : Int), -1, (es.length : Int) + 5, 10 ^ (20 : Int).toNat, -(es.length : Int) - 1] : List Int).length = 5 := rfl
        have s8 : Same H7 (upd H7 O (.lst [.int (es.length : Int), .int (-1), .int ((es.length : Int) + 5), .int (10 ^ (20 : Int).toNat), .int (-(es.length : Int) - 1)])) := same_new (Same.refl _) hO
        have o8 : (upd H7 O (.lst [.int (es.length : Int), .int (-1), .int ((es.length : Int) + 5), .int (10 ^ (20 : Int).toNat), .int (-(es.length : Int) - 1)])) O = some (.lst (([(es.length : Int), -1, (es.length : Int) + 5, 10 ^ (20 : Int).toNat, -(es.length : Int) - 1] : List Int).map V.int)) := upd_same
        generalize (upd H7 O (.lst [.int (es.length : Int), .int (-1), .int ((es.length : Int) + 5), .int (10 ^ (20 : Int).toNat), .int (-(es.length : Int) - 1)])) = H8 at s8 o8
        generalize ([(es.length : Int), -1, (es.length : Int) + 5, 10 ^ (20 : Int).toNat, -(es.length : Int) - 1] : List Int) = os at o8 odd len5
        have T8 := T7.same s8
        have x8 := ext_same x7 s8
        have Ot : O ≠ t := T7.ne hO
        refine ⟨_, rfl, t, 5, rfl, T8, by decide, by decide, fun j H9 j0 j1 T9 x9 => ?_⟩
        have hj : j.toNat < os.length := by omega
        have aj : atI (os.map V.int) j = some (.int (os[j.toNat]'hj)) := by
          have := atI_nat (xs := os.map V.int) (j := j.toNat) (v := .int (os[j.toNat]'hj)) (by rw [List.getElem?_map, List.getElem?_eq_getElem hj]; rfl)
          rwa [Int.toNat_of_nonneg j0] at this
        have oj := odd _ (List.getElem_mem hj)
        generalize os[j.toNat]'hj = od at aj oj
        refine ⟨O, _, _, _, rfl, rfl, SqL.of (x9 _ _ Ot o8), aj, ?_⟩
        have l9 := x9 _ _ lt (s8 _ _ l7)
        refine ⟨_, rfl, _, rfl, l, _, rfl, .inl (SqL.of l9), _, _, rfl, rfl, t, _, rfl, T9, by omega, by rw [List.length_map]; omega, fun a HA a0 a1 TA xA => ?_⟩
        have lA := xA _ _ lt l9
        have WA := (W7.mono (sameKT s8)).mono ((x9.trans xA).keepT T8)
        have x0A := (x8.trans x9).trans xA
        refine ⟨_, rfl, _, rfl, _, rfl, a, rfl, l, _, rfl, SqL.of lA, fun p1 hp1 => ?_⟩
        obtain ⟨m1, e1, hl1⟩ := cut_ints ns none (some a)
        rw [e1]
        have sB := same_new (o := .lst (m1.map V.int)) (Same.refl HA) hp1
        refine ⟨_, rfl, by show 1 ≤ sizeLine; decide, fun p2 hp2 => ?_⟩
        have sC := same_new (o := .lst [.int od]) sB hp2
        refine ⟨p1, p2, _, _, rfl, rfl, keepN upd_same hp2, upd_same, Nat.le_of_lt (small1000 (by rw [List.length_map]; show _ + 1 ≤ _; omega)), fun p3 hp3 => ?_⟩
        have sD := same_new (o := .lst (m1.map V.int ++ [.int od])) sC hp3
        have d3 : (upd (upd (upd HA p1 (.lst (m1.map V.int))) p2 (.lst [.int od])) p3 (.lst (m1.map V.int ++ [.int od]))) p3 = some (.lst (m1.map V.int ++ [.int od])) := upd_same
        generalize (upd (upd (upd HA p1 (.lst (m1.map V.int))) p2 (.lst [.int od])) p3 (.lst (m1.map V.int ++ [.int od]))) = HD at sD d3
        refine ⟨_, rfl, _, rfl, a, rfl, l, _, rfl, SqL.of (sD _ _ lA), fun p4 hp4 => ?_⟩
        obtain ⟨m2, e2, hl2⟩ := cut_ints ns (some a) none
        rw [e2]
        have sE := same_new (o := .lst (m2.map V.int)) sD hp4
        refine ⟨p3, p4, _, _, rfl, rfl, keepN d3 hp4, upd_same, Nat.le_of_lt (small1000 (by rw [List.length_append, List.length_map, List.length_map]; show _ + 1 + _ ≤ _; omega)), fun p5 hp5 => ?_⟩
        have sF := same_new (o := .lst (m1.map V.int ++ [.int od] ++ m2.map V.int)) sE hp5
        refine ⟨w0, p5, m, es, m1 ++ [od] ++ m2, rfl, WA.mono (sameKT sF), by rw [upd_same, List.map_append, List.map_append]; rfl, ⟨od, by simp, oj⟩, fun HZ sZ => ?_⟩
        exact q HZ (TA.same (sF.trans sZ)) (ext_same x0A (sF.trans sZ))
end
end Hue
set_option Elab.async false
set_option linter.all false
set_option maxRecDepth 100000
set_option maxHeartbeats 1500000
namespace Hue
open PySem L2
abbrev sWithR : Stmt := top 30
abbrev sLaw : Stmt := top 31
theorem nd_tpw : ((["_law_tie"] : List Str) ++ (["_law_places", "_law_web_here"] : List Str)).Nodup := by decide +kernel
theorem inV_ints (k : Int) (ns : List Int) : inV (.int k) (ns.map V.int) = decide (k ∈ ns) := by
  unfold inV
  rw [Bool.eq_iff_iff, List.any_eq_true, decide_eq_true_eq]
  constructor
  · rintro ⟨y, hy, e⟩
    obtain ⟨n, hn, rfl⟩ := List.mem_map.mp hy
    have : n = k := by simpa [eqV] using e
    rw [← this]; exact hn
  · intro h
    exact ⟨.int k, List.mem_map.mpr ⟨k, h, rfl⟩, by simp [eqV]⟩
def PlcL (H : Hp) (v : V) : Prop := ∃ (l : Addr) (ns : List Int), v = .ref l ∧ H l = some (.lst (ns.map V.int)) ∧ ns.length ≤ 63
def spLaw (K : PySem.W.Frag) : Sp := fun vs H Q _ => ∃ (a : Addr) (ns : List Int), vs = [.ref a] ∧ SqL K H a (ns.map V.int) ∧ ns.length ≤ 63 ∧ ∀ H', Q (.bl true) H'
theorem same_ext {H H2 H3 H4 : Hp} {t : Addr} (s : Same H H2) (n : H2 t = none) (s3 : Same H2 H3) (E : Ext t H3 H4) : Same H H4 := fun b o h => E b o (ne_of_none (s b o h) n) (s3 b o (s b o h))
theorem hid_ext {t : Addr} {H H' : Hp} (e : Ext t H H') : ∀ b u, hid (some t) H b = some u → hid (some t) H' b = some u := fun b u h => by
  unfold hid at h ⊢
  split at h
  · cases h
  · rename_i n
    rw [if_neg n]
    exact e b u (fun z => n (by rw [z])) h
theorem hidT {t p : Addr} {H : Hp} {xs : List V} (T : Tape H t) (h : H p = some (.tup xs)) : hid (some t) H p = some (.tup xs) := by
  refine hid_at (fun e => ?_) h
  cases e
  obtain ⟨d, e, h1, _⟩ := T
  rw [h] at h1; cases h1
section
variable {P : Program} {w : World} {K : PySem.W.Frag} {mg : Str → Option Value} {base : Heap}
theorem scWithR : FnScope ["_law_tape_here", "_law_web_here", "_law_places", "_law_due", "_law_handed", "_law_found"] ["_law_tape_here", "_law_web_here"] (defScope sWithR) := ⟨rfl, rfl, rfl, by decide +kernel, rfl, by decide +kernel, by decide +kernel⟩
theorem ok_withR {f : Addr} {fd : FuncData} (F : Fun K "_law_within_right" "_law_within_right" sWithR f fd) (T : Txt K mg) (CSm : Callee P w K mg base 2 "_law_some" ["_law_tape_here", "_law_many"] spSome)
    (CW : Callee P w K mg base 1 "within" ["web", "places"] spWithin) (CS : Callee P w K mg base 4 "_law_same" ["_law_found", "_law_due"] (spSameR (Al 3))) :
    FnOk P w K mg base CX0 5 f fd ["_law_tape_here", "_law_web_here"] spOnlyR := by
  refine F.ok scWithR (fun vs H Q E h => ?_) (fun cdv A outer s H vs Q E hr h => ?_)
  · obtain ⟨_, _, _, _, rfl, _⟩ := h; rfl
  · obtain ⟨t, w0, m, es, rfl, Tp, W, q⟩ := h
    have hr1 : Room 1 _ := hr.mono (by decide)
    have hr2 : Room 2 _ := hr.mono (by decide)
    have hu := hr.units0
    refine ⟨_, pss_cons (ps_for PassesOwn.never rfl (pi_tup (pe_tup (pa_cons (pe_def CSm hr2 (by rfl) (pa_cons (pv 0) (pa_cons (pe_ix ix_tup (pv 1) pe_int (fun _ _ => rfl)) pa_nil))) (pa_cons (pe_callTy (call_listRng rfl) (by rfl) T.list b_list (pa_cons (pe_callTy call_rng1 (by rfl) T.range b_range (pa_cons (pe_ix ix_tup (pv 1) pe_int (fun _ _ => rfl)) pa_nil)) pa_nil)) (pa_cons (pe_lst pa_nil)
          (pa_cons (pe_def CSm hr2 (by rfl) (pa_cons (pv 0) (pa_cons (pe_ix ix_tup (pv 1) pe_int (fun _ _ => rfl)) pa_nil))) pa_nil)))))) (pg_name (i := 2) scWithR.nd rfl (Or.inr rfl))
        (pss_cons (ps_setComp (i := 3) ["_law_tie"] ["_law_places", "_law_web_here"] [2, 1] scWithR.nd rfl rfl (pi_range1 (by rfl) T.range (pa_cons (pe_callB call_len_seq (by rfl) T.len b_len (pa_cons (pe_ix ix_tup (pv 1) pe_int (fun _ _ => rfl)) pa_nil)) pa_nil)) (fun _ _ _ _ _ => pg_name (i := 0) nd_tpw rfl (Or.inl rfl))
          (fun _ _ _ _ _ => pifs_one (pw_and (pt_cmpR (op_inK (K := K) rfl) (pe_ix (ix_tupK (K := K) rfl) (pe_ix (ix_tupK (K := K) rfl) (pe_ix (ix_tupK (K := K) rfl) (pv 2) pe_int (fun _ _ => rfl)) (pv 0) (fun _ _ => rfl)) pe_int (fun _ _ => rfl)) (pv 1) (by with_unfolding_all rfl))
            (pw_and1 (pt_cmpR (op_inK (K := K) rfl) (pe_ix (ix_tupK (K := K) rfl) (pe_ix (ix_tupK (K := K) rfl) (pe_ix (ix_tupK (K := K) rfl) (pv 2) pe_int (fun _ _ => rfl)) (pv 0) (fun _ _ => rfl)) pe_int (fun _ _ => rfl)) (pv 1) (by with_unfolding_all rfl)))).pt) (fun _ _ _ _ _ => pv 0))
        (pss_one (ps_for PassesOwn.never rfl (pi_tup (pe_tup (pa_cons (pv 2) (pa_cons (pe_callTy call_tuple_of (by rfl) T.tuple b_tuple (pa_cons (pv 2) pa_nil)) pa_nil)))) (pg_name (i := 4) scWithR.nd rfl (Or.inl rfl))
          (pss_cons (ps_set (i := 5) scWithR.nd rfl (Or.inl rfl) (pe_def CW hr1 (by rfl) (pa_cons (pv 1) (pa_cons (pv 4) pa_nil))))
          (pss_cons (ps_if (pw_or (pt_not (pt_val (pe_def CS hr (by rfl) (pa_cons (pv 5) (pa_cons (pv 3) pa_nil))))) (pw_or1 (pt_cmpR (op_neL hu) (pe_callTy call_list_of (by rfl) T.list b_list (pa_cons (pv 4) pa_nil)) (pv 2) (nomark _)))).pt pss_no pss_nil)
          (pss_one (ps_expr (pe_bm PySem.F.plainAttrs_list PySem.F.slot_list_append PySem.F.type_list_append mt_append (pv 5) (pa_cons (pe_un un_neg pe_int) pa_nil))))))))))
      (pss_one (ps_ret pe_bl)), ?_⟩
    obtain ⟨n, rfl⟩ : ∃ n : Nat, m = n := ⟨m.toNat, by have := W.choose_spec.choose_spec.2.2.2.2.2.2.1; omega⟩
    obtain ⟨ta, us, hw, ht0, htl, he, hbd, h61, hm0, hm12⟩ := id W
    refine ⟨_, rfl, _, rfl, w0, _, _, _, rfl, rfl, SqT.of hw, (rfl : atI [V.int (n : Int), V.ref ta] 0 = some (.int (n : Int))), t, n, rfl, Tp, by omega, fun l1 n1 H1 G1 hl1 _ => ?_⟩
    have W1 := W.mono (G1.ext.keepT Tp)
    obtain ⟨ta1, us1, hw1, _⟩ := id W1
    refine ⟨_, rfl, w0, _, _, _, rfl, rfl, SqT.of hw1, (rfl : atI [V.int (n : Int), V.ref ta1] 0 = some (.int (n : Int))), _, rfl, fun p hp => ⟨p, 0, _, rfl, upd_same, by decide, by decide, by omega, by omega, by omega, fun l2 hl2 => ?_⟩⟩
    refine ⟨by show 0 ≤ sizeLine; decide, fun l3 hl3 => ?_⟩
    have en : ((n : Int) - 0).toNat = n := by omega
    have s4 : Same H1 (upd (upd (upd H1 p (.rng 0 (n : Int))) l2 (.lst (rngV 0 ((n : Int) - 0).toNat))) l3 (.lst [])) := same_new (same_new (same_new (Same.refl _) hp) hl2) hl3
    have k2 : (upd (upd (upd H1 p (.rng 0 (n : Int))) l2 (.lst (rngV 0 ((n : Int) - 0).toNat))) l3 (.lst [])) l2 = some (.lst (((List.range n).map fun (i : Nat) => (i : Int)).map V.int)) := keepN (by rw [upd_same, en, rng_ints]) hl3
    have k3 : (upd (upd (upd H1 p (.rng 0 (n : Int))) l2 (.lst (rngV 0 ((n : Int) - 0).toNat))) l3 (.lst [])) l3 = some (.lst (([] : List Int).map V.int)) := upd_same
    have T4 : Tape (upd (upd (upd H1 p (.rng 0 (n : Int))) l2 (.lst (rngV 0 ((n : Int) - 0).toNat))) l3 (.lst [])) t := G1.tape.same s4
    have l2t : l2 ≠ t := (G1.tape.new (o := .rng 0 (n : Int)) hp).ne hl2
    have l3t : l3 ≠ t := ((G1.tape.new (o := .rng 0 (n : Int)) hp).new (o := .lst (rngV 0 ((n : Int) - 0).toNat)) hl2).ne hl3
    generalize (upd (upd (upd H1 p (.rng 0 (n : Int))) l2 (.lst (rngV 0 ((n : Int) - 0).toNat))) l3 (.lst [])) = H4 at s4 k2 k3 T4
    have W4 := W1.mono (sameKT s4)
    obtain ⟨ta4, us4, hw4, _⟩ := id W4
    refine ⟨_, rfl, _, rfl, w0, _, _, _, rfl, rfl, SqT.of hw4, (rfl : atI [V.int (n : Int), V.ref ta4] 0 = some (.int (n : Int))), t, n, rfl, T4, by omega, fun l5 n5 H5 G5 hl5 _ => ?_⟩
    refine ⟨by show 4 ≤ sizeLine; decide, fun ft hft => ?_⟩
    have x5 : Ext t H H5 := (ext_same G1.ext s4).trans G5.ext
    have W5 := W4.mono (G5.ext.keepT T4)
    have all5 : ∀ v ∈ ([V.ref l1, .ref l2, .ref l3, .ref l5] : List V), PlcL H5 v := fun v hv => by
      simp only [List.mem_cons, List.not_mem_nil, or_false] at hv
      rcases hv with rfl | rfl | rfl | rfl
      · exact ⟨l1, n1, rfl, G5.ext _ _ G1.ne.symm (s4 _ _ G1.at'), by omega⟩
      · exact ⟨l2, _, rfl, G5.ext _ _ l2t k2, by simp; omega⟩
      · exact ⟨l3, _, rfl, G5.ext _ _ l3t k3, by simp⟩
      · exact ⟨l5, n5, rfl, G5.at', by omega⟩
    have s6 : Same H5 (upd H5 ft (.tup [.ref l1, .ref l2, .ref l3, .ref l5])) := same_new (Same.refl _) hft
    have f6 : (upd H5 ft (.tup [.ref l1, .ref l2, .ref l3, .ref l5])) ft = some (.tup [.ref l1, .ref l2, .ref l3, .ref l5]) := upd_same
    generalize (upd H5 ft (.tup [.ref l1, .ref l2, .ref l3, .ref l5])) = H6 at s6 f6
    have W6 := W5.mono (sameKT s6)
    refine ⟨ft, rfl, ⟨_, SqT.of f6⟩, for_tup (K := K) (a := ft) (xs := [.ref l1, .ref l2, .ref l3, .ref l5]) (fun i σ H7 => ∃ (o2 o3 o4 o5 : Option V), σ = [some (.ref t), some (.ref w0), o2, o3, o4, o5] ∧ Same H6 H7) ⟨none, none, none, none, rfl, Same.refl _⟩ (fun i σ H7 _ h => by obtain ⟨_, _, _, _, _, s7⟩ := h; exact SqT.of (s7 _ _ f6)) ?_ ?_⟩
    · rintro i x σ H7 hx ⟨o2, o3, o4, o5, rfl, s7⟩
      obtain ⟨l, ns, rfl, hl5', h63⟩ := all5 x (List.mem_of_getElem? hx)
      have hl7 := s7 _ _ (s6 _ _ hl5')
      have W7 := W6.mono (sameKT s7)
      obtain ⟨tb, vs, hw7, ht7, htl7, he7, _⟩ := id W7
      refine ⟨_, rfl, w0, _, _, _, rfl, rfl, SqT.of hw7, (rfl : atI [V.int (n : Int), V.ref tb] 1 = some (.ref tb)), tb, vs, rfl, .inr (SqT.of ht7), vs.length, rfl, by omega, by omega, fun D hD => comp_range (lo := 0) (n := ((vs.length : Nat) : Int).toNat) (fun k ys H8 => Same H7 H8 ∧ H8 D = some (.lst ys) ∧ ys = (witL es ns k).map natV) ⟨same_new (Same.refl _) hD, upd_same, rfl⟩ ?_ ?_⟩
      · rintro k ys H8 hk ⟨s8, d8, rfl⟩
        have hk' : k < vs.length := by simpa using hk
        obtain ⟨qv, e, ev, ee, hq⟩ := he7 k _ (List.getElem?_eq_getElem hk')
        have hw8 := s8 _ _ hw7
        have ht8 := s8 _ _ ht7
        have hq8 := s8 _ _ hq
        have hl8 := s8 _ _ hl7
        have ak : atI vs (0 + (k : Int)) = some (.ref qv) := by
          rw [Int.zero_add]
          exact atI_nat (by rw [List.getElem?_eq_getElem hk', ev])
        have e1 : witL es ns (k + 1) = witL es ns k ++ (if inB ns e = true then [k] else []) := by rw [witL, ee]
        have fl : ((witL es ns k).map natV).length < sizeLine := small1000 (by rw [List.length_map]; have := witL_len es ns k; omega)
        have no : inB ns e = false → Same H7 H8 ∧ H8 D = some (.lst ((witL es ns k).map natV)) ∧ (witL es ns k).map natV = (witL es ns (k + 1)).map natV := fun z => ⟨s8, d8, by rw [e1, z]; simp⟩
        refine ⟨_, rfl, w0, _, _, _, rfl, rfl, SqT.of hw8, (rfl : atI [V.int (n : Int), V.ref tb] 1 = some (.ref tb)), _, rfl, tb, vs, _, _, rfl, rfl, SqT.of ht8, ak, qv, _, _, _, rfl, rfl, SqT.of hq8, (rfl : atI [V.int e.1, V.int e.2] 0 = some (.int e.1)), _, rfl, l, _, rfl, .inl (SqL.of hl8), rfl, ints_flat ns, _, rfl, ?_⟩
        show if inV (.int e.1) (ns.map V.int) = true then _ else _
        rw [inV_ints]
        by_cases z1 : e.1 ∈ ns
        · refine iteD z1 ⟨_, rfl, w0, _, _, _, rfl, rfl, SqT.of hw8, (rfl : atI [V.int (n : Int), V.ref tb] 1 = some (.ref tb)), _, rfl, tb, vs, _, _, rfl, rfl, SqT.of ht8, ak, qv, _, _, _, rfl, rfl, SqT.of hq8, (rfl : atI [V.int e.1, V.int e.2] 1 = some (.int e.2)), _, rfl, l, _, rfl, .inl (SqL.of hl8), rfl, ints_flat ns, _, rfl, ?_⟩
          show if inV (.int e.2) (ns.map V.int) = true then _ else _
          rw [inV_ints]
          by_cases z2 : e.2 ∈ ns
          · refine iteD z2 ⟨_, rfl, d8, fl, same_own s8 hD, upd_same, ?_⟩
            rw [e1, if_pos (by unfold inB; simp [z1, z2]), List.map_append, Int.zero_add]; rfl
          · exact iteND z2 (no (by unfold inB; simp [z2]))
        · exact iteND z1 (iteF (no (by unfold inB; simp [z1])))
      · rintro ys H8 ⟨s8, d8, rfl⟩
        have ev : ((vs.length : Nat) : Int).toNat = es.length := by omega
        rw [ev] at d8
        have hl8 := s8 _ _ hl7
        refine ⟨_, rfl, _, rfl, l, _, rfl, .inl ⟨SqL.of hl8, fun tp htp => ⟨by show 2 ≤ sizeLine; decide, fun gt hgt => ?_⟩⟩⟩
        have s9 := same_new (o := .tup [.ref l, .ref tp]) (same_new (o := .tup (ns.map V.int)) (Same.refl H8) htp) hgt
        have g9 : (upd (upd H8 tp (.tup (ns.map V.int))) gt (.tup [.ref l, .ref tp])) gt = some (.tup [.ref l, .ref tp]) := upd_same
        have p9 : (upd (upd H8 tp (.tup (ns.map V.int))) gt (.tup [.ref l, .ref tp])) tp = some (.tup (ns.map V.int)) := keepN upd_same hgt
        generalize (upd (upd H8 tp (.tup (ns.map V.int))) gt (.tup [.ref l, .ref tp])) = H9 at s9 g9 p9
        have s69 := (s7.trans s8).trans s9
        have W9 := W6.mono (sameKT s69)
        have l9 := s9 _ _ hl8
        have d9 := s9 _ _ d8
        refine ⟨gt, rfl, ⟨_, SqT.of g9⟩, for_tup (K := K) (a := gt) (xs := [.ref l, .ref tp]) (fun i σ HA => ∃ (o4 o5 : Option V), σ = [some (.ref t), some (.ref w0), some (.ref l), some (.ref D), o4, o5] ∧ Same H9 HA) ⟨o4, o5, rfl, Same.refl _⟩ (fun i σ HA _ h => by obtain ⟨_, _, _, sA⟩ := h; exact SqT.of (sA _ _ g9)) ?_ ?_⟩
        · rintro i' x' σ HA hx' ⟨o4', o5', rfl, sA⟩
          obtain ⟨ha, rfl, sa⟩ : ∃ ha, x' = .ref ha ∧ SeqA H9 ha (ns.map V.int) := by
            have := List.mem_of_getElem? hx'
            simp only [List.mem_cons, List.not_mem_nil, or_false] at this
            rcases this with rfl | rfl
            · exact ⟨l, rfl, .inl l9⟩
            · exact ⟨tp, rfl, .inr p9⟩
          refine ⟨_, rfl, _, rfl, w0, ha, _, es, ns, rfl, W9.mono (sameKT sA), sa.same sA, h63, fun r HB nr sB rB => ?_⟩
          have s9B := sA.trans sB
          refine ⟨_, rfl, _, rfl, _, _, rfl, ints_al rB (s9B _ _ d9) (by have := witL_len es ns es.length; omega), fun HC sC => ⟨_, rfl, iteF ?_⟩⟩
          have s9C := s9B.trans sC
          refine ⟨_, rfl, ha, _, rfl, (sa.same s9C).or, fun nl hnl => ?_⟩
          refine ⟨_, rfl, nl, l, _, _, rfl, rfl, SqL.of upd_same, SqL.of (keepN (s9C _ _ l9) hnl), .inl ⟨ints_flat ns, ints_flat ns⟩, _, rfl, ?_⟩
          show if (!eqVs (ns.map V.int) (ns.map V.int)) = true then _ else _
          rw [eqVs_ints]
          have rC := keepN (u := .lst (ns.map V.int)) (sC _ _ rB) hnl
          refine iteF ⟨_, rfl, .inl ⟨rfl, _, SqL.of rC⟩, 1, rfl, r, _, _, rfl, rfl, rC, small1000 (by rw [List.length_map]; have := witL_len es ns es.length; omega), _, _, rfl, same_own (same_new s9C hnl) (sA.free nr)⟩
        · rintro σ HA ⟨o4', o5', rfl, sA⟩
          exact ⟨_, _, _, _, rfl, (s69).trans sA⟩
    · rintro σ H7 ⟨o2, o3, o4, o5, rfl, s7⟩
      have s57 := s6.trans s7
      exact q H7 (G5.tape.same s57) (ext_same x5 s57)
theorem scLaw : FnScope ["_law_script", "_law_k", "_law_tape_here", "_law_web_here", "_law_kept"] ["_law_script"] (defScope sLaw) := ⟨rfl, rfl, rfl, by decide +kernel, rfl, by decide +kernel, by decide +kernel⟩
theorem ok_law {f : Addr} {fd : FuncData} (F : Fun K "law" "law" sLaw f fd) (T : Txt K mg) (CT : Callee P w K mg base 1 "_law_tape" ["_law_script", "_law_k"] (spTape K)) (CD : CDraw P w K mg base) (CW : Callee P w K mg base 3 "_law_web" ["_law_tape_here", "_law_great"] spWeb)
    (CO : Callee P w K mg base 6 "_law_only_right" ["_law_tape_here", "_law_web_here"] spOnlyR) (CI : Callee P w K mg base 5 "_law_within_right" ["_law_tape_here", "_law_web_here"] spOnlyR) : FnOk P w K mg base CX0 7 f fd ["_law_script"] (spLaw K) := by
  refine F.ok scLaw (fun vs H Q E h => ?_) (fun cdv A outer s H vs Q E hr h => ?_)
  · obtain ⟨a, ns, rfl, _⟩ := h; rfl
  · obtain ⟨a, ns, rfl, hS, hlen, k⟩ := h
    have hr1 : Room 1 _ := hr.mono (by decide)
    have hr3 : Room 3 _ := hr.mono (by decide)
    have hr5 : Room 5 _ := hr.mono (by decide)
    have hu : (A.deeper (PyProof.Rows.envOfC "law" (defScope sLaw) s.heap.objs.size f cdv)).units + 100 < cLine := by have := hr.un; omega
    refine ⟨_, pss_cons (ps_for PassesOwn.never rfl (pi_range1 (by rfl) T.range (pa_cons (pe_op op_add pe_int (pe_callB (call_min2 rfl) (by rfl) T.min b_min (pa_cons pe_int (pa_cons (pe_callB call_len_seq (by rfl) T.len b_len (pa_cons (pv 0) pa_nil)) pa_nil)))) pa_nil)) (pg_name (i := 1) scLaw.nd rfl (Or.inl rfl))
        (pss_cons (ps_set (i := 2) scLaw.nd rfl (Or.inl rfl) (pe_def CT hr1 (by rfl) (pa_cons (pv 0) (pa_cons (pv 1) pa_nil))))
        (pss_cons (ps_set (i := 3) scLaw.nd rfl (Or.inl rfl) (pe_def CW hr3 (by rfl) (pa_cons (pv 2) (pa_cons (pe_cmpR op_eq (pe_def CD hr1 (by rfl) (pa_cons (pv 2) (pa_cons pe_int pa_nil))) pe_int (nomark _)) pa_nil))))
        (pss_cons (ps_set (i := 4) scLaw.nd rfl (Or.inl rfl) (pe_callTy (call_strD hr.gd hu) (by rfl) T.str b_str (pa_cons (pv 3) pa_nil)))
        (pss_one (ps_if (pw_or (pt_not (pt_val (pe_def CO hr (by rfl) (pa_cons (pv 2) (pa_cons (pv 3) pa_nil))))) (pw_or (pt_not (pt_val (pe_def CI hr5 (by rfl) (pa_cons (pv 2) (pa_cons (pv 3) pa_nil))))) (pw_or1 (pt_cmpR op_ne (pe_callTy (call_strD hr.gd hu) (by rfl) T.str b_str (pa_cons (pv 3) pa_nil)) (pv 4) (nomark _))))).pt pss_no pss_nil))))))
      (pss_one (ps_ret pe_bl)), ?_⟩
    refine ⟨_, rfl, a, _, rfl, .inl hS, 12, _, rfl, _, _, rfl, rfl, _, rfl, by split <;> omega, by split <;> omega, for_range (lo := 0) (fun i σ H2 => ∃ o1 o2 o3 o4 : Option V, σ = [some (.ref a), o1, o2, o3, o4] ∧ Same H H2)
      ⟨none, none, none, none, rfl, Same.refl _⟩ ?_ ?_⟩
    · rintro i σ H2 hi ⟨o1, o2, o3, o4, rfl, s2⟩
      refine ⟨_, rfl, _, rfl, a, ns, 0 + (i : Int), rfl, s2.seq hS, by omega, hlen, fun t H3 ht T3 s3 => ?_⟩
      refine ⟨_, rfl, _, rfl, t, 8, rfl, T3, by decide, by decide, fun r H4 _ _ T4 E4 => ⟨rfl, t, _, rfl, T4, fun wb m ts H5 W5 T5 E5 => ?_⟩⟩
      obtain ⟨es, We, _⟩ := W5.pure
      have kt : KeepT H5 (hid (some t) H5) := fun b xs h => hidT T5 h
      obtain ⟨d, hd, hf⟩ := web_data (We.mono kt)
      refine ⟨_, rfl, _, d, rfl, Dat.mono hid_le _ d hd, hf, ?_⟩
      refine ⟨_, rfl, _, rfl, t, wb, m, es, rfl, T5, We, fun H6 T6 x6 => ⟨_, rfl, iteF ?_⟩⟩
      refine ⟨_, rfl, _, rfl, t, wb, m, es, rfl, T6, We.mono (x6.keepT T5), fun H7 T7 x7 => ⟨_, rfl, iteF ?_⟩⟩
      have x57 := x6.trans x7
      refine ⟨_, rfl, _, d, rfl, Dat.mono (fun b u h => hid_le b u (hid_ext x57 b u h)) _ d hd, hf, _, rfl, rfl, _, rfl, iteNS rfl ?_⟩
      exact ⟨_, _, _, _, rfl, same_ext s2 ht s3 ((E4.trans E5).trans x57)⟩
    · rintro σ H2 ⟨o1, o2, o3, o4, rfl, s2⟩
      exact k H2
end
end Hue
set_option Elab.async false
set_option linter.all false
set_option maxRecDepth 100000
namespace Hue
open PySem L2
theorem all_mk {l : PySem.W.OpenLaw} {w : World} {K : PySem.W.Frag} {h : Heap} {mg : Str → Option Value} {fa f12 f13 f15 f16 f17 f18 f19 f20 f22 f23 f24 f25 f26 f27 f28 f29 f30 f31 : Addr} (X : K.In h) (G : h.Ns mainGlobals mg) (hfa : mg "law" = some (.ref fa))
    {od12 an12 od13 an13 od15 an15 od16 an16 od17 an17 od18 an18 od19 an19 od20 an20 od22 an22 od23 an23 od24 an24 od25 an25 od26 an26 od27 an27 od28 an28 od29 an29 od30 an30 od31 an31 : Option Addr} {sl12 sl13 sl15 sl16 sl17 sl18 sl19 sl20 sl22 sl23 sl24 sl25 sl26 sl27 sl28 sl29 sl30 sl31 : Array (Option Value)}
    {oc12 kV12 dc12 pm12 cd12 ct12 oc13 kV13 dc13 pm13 cd13 ct13 oc15 kV15 dc15 pm15 cd15 ct15 oc16 kV16 dc16 pm16 cd16 ct16 oc17 kV17 dc17 pm17 cd17 ct17 oc18 kV18 dc18 pm18 cd18 ct18 oc19 kV19 dc19 pm19 cd19 ct19 oc20 kV20 dc20 pm20 cd20 ct20 oc22 kV22 dc22 pm22 cd22 ct22 oc23 kV23 dc23 pm23 cd23 ct23 oc24 kV24 dc24 pm24 cd24 ct24 oc25 kV25 dc25 pm25 cd25 ct25 oc26 kV26 dc26 pm26 cd26 ct26 oc27 kV27 dc27 pm27 cd27 ct27 oc28 kV28 dc28 pm28 cd28 ct28 oc29 kV29 dc29 pm29 cd29 ct29 oc30 kV30 dc30 pm30 cd30 ct30 oc31 kV31 dc31 pm31 cd31 ct31 : Value}
    (a12 : PySem.W.nsIn K mainGlobals "is_number" = some (some (.ref f12))) (l12 : K.lookup f12 = some ⟨oc12, od12, .func (PySem.W.fnOf "is_number" "is_number" (defArgs sNum) (defBody sNum) (defScope sNum) .none kV12 dc12 pm12 an12 cd12 ct12), sl12⟩) (c12 : PySem.W.codeIn K cd12 "is_number" = true) (k12 : PySem.W.keepIn K (.ref f12) = true)
    (a13 : PySem.W.nsIn K mainGlobals "is_pair" = some (some (.ref f13))) (l13 : K.lookup f13 = some ⟨oc13, od13, .func (PySem.W.fnOf "is_pair" "is_pair" (defArgs sPair) (defBody sPair) (defScope sPair) .none kV13 dc13 pm13 an13 cd13 ct13), sl13⟩) (c13 : PySem.W.codeIn K cd13 "is_pair" = true) (k13 : PySem.W.keepIn K (.ref f13) = true)
    (a15 : PySem.W.nsIn K mainGlobals "is_tie" = some (some (.ref f15))) (l15 : K.lookup f15 = some ⟨oc15, od15, .func (PySem.W.fnOf "is_tie" "is_tie" (defArgs sTie) (defBody sTie) (defScope sTie) .none kV15 dc15 pm15 an15 cd15 ct15), sl15⟩) (c15 : PySem.W.codeIn K cd15 "is_tie" = true) (k15 : PySem.W.keepIn K (.ref f15) = true)
    (a16 : PySem.W.nsIn K mainGlobals "is_web" = some (some (.ref f16))) (l16 : K.lookup f16 = some ⟨oc16, od16, .func (PySem.W.fnOf "is_web" "is_web" (defArgs sIsWeb) (defBody sIsWeb) (defScope sIsWeb) .none kV16 dc16 pm16 an16 cd16 ct16), sl16⟩) (c16 : PySem.W.codeIn K cd16 "is_web" = true) (k16 : PySem.W.keepIn K (.ref f16) = true)
    (a17 : PySem.W.nsIn K mainGlobals "has_tie" = some (some (.ref f17))) (l17 : K.lookup f17 = some ⟨oc17, od17, .func (PySem.W.fnOf "has_tie" "has_tie" (defArgs sHasT) (defBody sHasT) (defScope sHasT) .none kV17 dc17 pm17 an17 cd17 ct17), sl17⟩) (c17 : PySem.W.codeIn K cd17 "has_tie" = true) (k17 : PySem.W.keepIn K (.ref f17) = true)
    (a18 : PySem.W.nsIn K mainGlobals "check_tie" = some (some (.ref f18))) (l18 : K.lookup f18 = some ⟨oc18, od18, .func (PySem.W.fnOf "check_tie" "check_tie" (defArgs sChkT) (defBody sChkT) (defScope sChkT) .none kV18 dc18 pm18 an18 cd18 ct18), sl18⟩) (c18 : PySem.W.codeIn K cd18 "check_tie" = true) (k18 : PySem.W.keepIn K (.ref f18) = true)
    (a19 : PySem.W.nsIn K mainGlobals "only" = some (some (.ref f19))) (l19 : K.lookup f19 = some ⟨oc19, od19, .func (PySem.W.fnOf "only" "only" (defArgs sOnly) (defBody sOnly) (defScope sOnly) .none kV19 dc19 pm19 an19 cd19 ct19), sl19⟩) (c19 : PySem.W.codeIn K cd19 "only" = true) (k19 : PySem.W.keepIn K (.ref f19) = true)
    (a20 : PySem.W.nsIn K mainGlobals "within" = some (some (.ref f20))) (l20 : K.lookup f20 = some ⟨oc20, od20, .func (PySem.W.fnOf "within" "within" (defArgs sWithin) (defBody sWithin) (defScope sWithin) .none kV20 dc20 pm20 an20 cd20 ct20), sl20⟩) (c20 : PySem.W.codeIn K cd20 "within" = true) (k20 : PySem.W.keepIn K (.ref f20) = true)
    (a22 : PySem.W.nsIn K mainGlobals "_law_tape" = some (some (.ref f22))) (l22 : K.lookup f22 = some ⟨oc22, od22, .func (PySem.W.fnOf "_law_tape" "_law_tape" (defArgs sTape) (defBody sTape) (defScope sTape) .none kV22 dc22 pm22 an22 cd22 ct22), sl22⟩) (c22 : PySem.W.codeIn K cd22 "_law_tape" = true) (k22 : PySem.W.keepIn K (.ref f22) = true)
    (a23 : PySem.W.nsIn K mainGlobals "_law_draw" = some (some (.ref f23))) (l23 : K.lookup f23 = some ⟨oc23, od23, .func (PySem.W.fnOf "_law_draw" "_law_draw" (defArgs sDraw) (defBody sDraw) (defScope sDraw) .none kV23 dc23 pm23 an23 cd23 ct23), sl23⟩) (c23 : PySem.W.codeIn K cd23 "_law_draw" = true) (k23 : PySem.W.keepIn K (.ref f23) = true)
    (a24 : PySem.W.nsIn K mainGlobals "_law_pairs_by" = some (some (.ref f24))) (l24 : K.lookup f24 = some ⟨oc24, od24, .func (PySem.W.fnOf "_law_pairs_by" "_law_pairs_by" (defArgs sPairs) (defBody sPairs) (defScope sPairs) .none kV24 dc24 pm24 an24 cd24 ct24), sl24⟩) (c24 : PySem.W.codeIn K cd24 "_law_pairs_by" = true) (k24 : PySem.W.keepIn K (.ref f24) = true)
    (a25 : PySem.W.nsIn K mainGlobals "_law_web" = some (some (.ref f25))) (l25 : K.lookup f25 = some ⟨oc25, od25, .func (PySem.W.fnOf "_law_web" "_law_web" (defArgs sWeb) (defBody sWeb) (defScope sWeb) .none kV25 dc25 pm25 an25 cd25 ct25), sl25⟩) (c25 : PySem.W.codeIn K cd25 "_law_web" = true) (k25 : PySem.W.keepIn K (.ref f25) = true)
    (a26 : PySem.W.nsIn K mainGlobals "_law_same" = some (some (.ref f26))) (l26 : K.lookup f26 = some ⟨oc26, od26, .func (PySem.W.fnOf "_law_same" "_law_same" (defArgs sSame) (defBody sSame) (defScope sSame) .none kV26 dc26 pm26 an26 cd26 ct26), sl26⟩) (c26 : PySem.W.codeIn K cd26 "_law_same" = true) (k26 : PySem.W.keepIn K (.ref f26) = true)
    (a27 : PySem.W.nsIn K mainGlobals "_law_some" = some (some (.ref f27))) (l27 : K.lookup f27 = some ⟨oc27, od27, .func (PySem.W.fnOf "_law_some" "_law_some" (defArgs sSome) (defBody sSome) (defScope sSome) .none kV27 dc27 pm27 an27 cd27 ct27), sl27⟩) (c27 : PySem.W.codeIn K cd27 "_law_some" = true) (k27 : PySem.W.keepIn K (.ref f27) = true)
    (a28 : PySem.W.nsIn K mainGlobals "_law_is_refused" = some (some (.ref f28))) (l28 : K.lookup f28 = some ⟨oc28, od28, .func (PySem.W.fnOf "_law_is_refused" "_law_is_refused" (defArgs sRefused) (defBody sRefused) (defScope sRefused) .none kV28 dc28 pm28 an28 cd28 ct28), sl28⟩) (c28 : PySem.W.codeIn K cd28 "_law_is_refused" = true) (k28 : PySem.W.keepIn K (.ref f28) = true)
    (a29 : PySem.W.nsIn K mainGlobals "_law_only_right" = some (some (.ref f29))) (l29 : K.lookup f29 = some ⟨oc29, od29, .func (PySem.W.fnOf "_law_only_right" "_law_only_right" (defArgs sOnlyR) (defBody sOnlyR) (defScope sOnlyR) .none kV29 dc29 pm29 an29 cd29 ct29), sl29⟩) (c29 : PySem.W.codeIn K cd29 "_law_only_right" = true) (k29 : PySem.W.keepIn K (.ref f29) = true)
    (a30 : PySem.W.nsIn K mainGlobals "_law_within_right" = some (some (.ref f30))) (l30 : K.lookup f30 = some ⟨oc30, od30, .func (PySem.W.fnOf "_law_within_right" "_law_within_right" (defArgs sWithR) (defBody sWithR) (defScope sWithR) .none kV30 dc30 pm30 an30 cd30 ct30), sl30⟩) (c30 : PySem.W.codeIn K cd30 "_law_within_right" = true) (k30 : PySem.W.keepIn K (.ref f30) = true)
    (a31 : PySem.W.nsIn K mainGlobals "law" = some (some (.ref f31))) (l31 : K.lookup f31 = some ⟨oc31, od31, .func (PySem.W.fnOf "law" "law" (defArgs sLaw) (defBody sLaw) (defScope sLaw) .none kV31 dc31 pm31 an31 cd31 ct31), sl31⟩) (c31 : PySem.W.codeIn K cd31 "law" = true) (k31 : PySem.W.keepIn K (.ref f31) = true)
    (z1 : PySem.W.nsIn K mainGlobals "len" = some none)
    (z2 : PySem.W.nsIn K mainGlobals "abs" = some none)
    (z3 : PySem.W.nsIn K mainGlobals "int" = some none)
    (z4 : PySem.W.nsIn K mainGlobals "min" = some none)
    (z5 : PySem.W.nsIn K mainGlobals "max" = some none)
    (z6 : PySem.W.nsIn K mainGlobals "range" = some none)
    (z7 : PySem.W.nsIn K mainGlobals "tuple" = some none)
    (z8 : PySem.W.nsIn K mainGlobals "list" = some none)
    (z9 : PySem.W.nsIn K mainGlobals "enumerate" = some none)
    (z10 : PySem.W.nsIn K mainGlobals "zip" = some none)
    (z11 : PySem.W.nsIn K mainGlobals "isinstance" = some none)
    (z12 : PySem.W.nsIn K mainGlobals "all" = some none)
    (z13 : PySem.W.nsIn K mainGlobals "str" = some none)
    (z14 : PySem.W.nsIn K mainGlobals "bool" = some none)
    (y1 : PySem.W.nsIn K mainGlobals "set" = some none)
    (y2 : PySem.W.nsIn K mainGlobals "ValueError" = some none)
    {cH cT cP c1 c2 c3 c4 c5 c6 c7 : Addr}
    (gcH : PySem.W.nsIn K mainGlobals "HueError" = some (some (.ref cH)))
    (gcT : PySem.W.nsIn K mainGlobals "NoTie" = some (some (.ref cT)))
    (gcP : PySem.W.nsIn K mainGlobals "NoPlace" = some (some (.ref cP)))
    (gc1 : PySem.W.nsIn K mainGlobals "NoRow" = some (some (.ref c1)))
    (gc2 : PySem.W.nsIn K mainGlobals "NoFan" = some (some (.ref c2)))
    (gc3 : PySem.W.nsIn K mainGlobals "TooFew" = some (some (.ref c3)))
    (gc4 : PySem.W.nsIn K mainGlobals "NoStep" = some (some (.ref c4)))
    (gc5 : PySem.W.nsIn K mainGlobals "NotTwoSides" = some (some (.ref c5)))
    (gc6 : PySem.W.nsIn K mainGlobals "ShortList" = some (some (.ref c6)))
    (gc7 : PySem.W.nsIn K mainGlobals "BadRow" = some (some (.ref c7)))
    (qcH : PySem.W.excIn K cH bmVE "ValueError.__new__" = true)
    (qcT : PySem.W.excIn K cT bmVE "ValueError.__new__" = true)
    (mcT : PySem.W.mroIn K cT (.ref cH) = some true)
    (xcT0 : (PySem.W.clsIn K cT).isSome = true)
    (xcT1 : PySem.W.mroIn K cT (.type "object") = some true)
    (xcT2 : PySem.W.mroIn K cT (.type "BaseException") = some true)
    (xcT3 : PySem.W.findIn K (.ref cT) "__class__" = some (some (.builtin "object.__class__")))
    (xcT4 : PySem.W.findIn K (.ref cT) "__getattribute__" = some (some (.builtin "BaseException.__getattribute__")))
    (xcT5 : PySem.W.findIn K (.ref cT) "__getattr__" = some none)
    (w0 : PySem.W.kitOne K (.ref cT) (.ref cT) = some true)
    (w1 : PySem.W.kitOne K (.ref cT) (.type "ValueError") = some true)
    (w2 : PySem.W.kitAny K (.ref cT) [.ref cP, .ref c1, .ref c2, .ref c3, .ref c4, .ref c5, .ref c6, .ref c7] = some false)
    : ∃ fd : FuncData, (∀ (s : Shared) (v : Value), BindsTo s fd ⟨[v], []⟩ [("_law_script", v)]) ∧ ∀ base : Heap, K.In base → base.Ns mainGlobals mg → FnOk l.prog w K mg base CX0 7 fa fd ["_law_script"] (spLaw K) := by
  have e := hfa.symm.trans (PySem.W.mg_of X G a31)
  cases e
  have T : Txt K mg := ⟨PySem.W.mg_none_of X G z1, PySem.W.mg_none_of X G z2, PySem.W.mg_none_of X G z3, PySem.W.mg_none_of X G z4, PySem.W.mg_none_of X G z5, PySem.W.mg_none_of X G z6, PySem.W.mg_none_of X G z7, PySem.W.mg_none_of X G z8, PySem.W.mg_none_of X G z9, PySem.W.mg_none_of X G z10, PySem.W.mg_none_of X G z11, PySem.W.mg_none_of X G z12, PySem.W.mg_none_of X G z13, PySem.W.mg_none_of X G z14⟩
  have zset : mg "set" = none := PySem.W.mg_none_of X G y1
  have zv : mg "ValueError" = none := PySem.W.mg_none_of X G y2
  have R0 : Ers K mg cH cT cP c1 c2 c3 c4 c5 c6 c7 := ⟨excC_mk (PySem.W.mg_of X G gcH) qcH, excC_mk (PySem.W.mg_of X G gcT) qcT, PySem.W.mg_of X G gcP, PySem.W.mg_of X G gc1, PySem.W.mg_of X G gc2, PySem.W.mg_of X G gc3, PySem.W.mg_of X G gc4, PySem.W.mg_of X G gc5, PySem.W.mg_of X G gc6, PySem.W.mg_of X G gc7, zv, underK_mk qcT mcT, ⟨xcT0, xcT1, xcT2, xcT3, xcT4, xcT5⟩, w0, w1, w2⟩
  have F12 := fun_mk (st := sNum) l12 c12 k12
  have F13 := fun_mk (st := sPair) l13 c13 k13
  have F15 := fun_mk (st := sTie) l15 c15 k15
  have F16 := fun_mk (st := sIsWeb) l16 c16 k16
  have F17 := fun_mk (st := sHasT) l17 c17 k17
  have F18 := fun_mk (st := sChkT) l18 c18 k18
  have F19 := fun_mk (st := sOnly) l19 c19 k19
  have F20 := fun_mk (st := sWithin) l20 c20 k20
  have F22 := fun_mk (st := sTape) l22 c22 k22
  have F23 := fun_mk (st := sDraw) l23 c23 k23
  have F24 := fun_mk (st := sPairs) l24 c24 k24
  have F25 := fun_mk (st := sWeb) l25 c25 k25
  have F26 := fun_mk (st := sSame) l26 c26 k26
  have F27 := fun_mk (st := sSome) l27 c27 k27
  have F28 := fun_mk (st := sRefused) l28 c28 k28
  have F29 := fun_mk (st := sOnlyR) l29 c29 k29
  have F30 := fun_mk (st := sWithR) l30 c30 k30
  have F31 := fun_mk (st := sLaw) l31 c31 k31
  have b12 := F12.binds (ps := ["thing"]) fun _ _ _ _ _ _ us hl => match us, hl with | [_], _ => rfl
  have b13 := F13.binds (ps := ["thing"]) fun _ _ _ _ _ _ us hl => match us, hl with | [_], _ => rfl
  have b15 := F15.binds (ps := ["many", "thing"]) fun _ _ _ _ _ _ us hl => match us, hl with | [_, _], _ => rfl
  have b16 := F16.binds (ps := ["thing"]) fun _ _ _ _ _ _ us hl => match us, hl with | [_], _ => rfl
  have b17 := F17.binds (ps := ["web", "tie"]) fun _ _ _ _ _ _ us hl => match us, hl with | [_, _], _ => rfl
  have b18 := F18.binds (ps := ["web", "tie"]) fun _ _ _ _ _ _ us hl => match us, hl with | [_, _], _ => rfl
  have b19 := F19.binds (ps := ["web", "ties"]) fun _ _ _ _ _ _ us hl => match us, hl with | [_, _], _ => rfl
  have b20 := F20.binds (ps := ["web", "places"]) fun _ _ _ _ _ _ us hl => match us, hl with | [_, _], _ => rfl
  have b22 := F22.binds (ps := ["_law_script", "_law_k"]) fun _ _ _ _ _ _ us hl => match us, hl with | [_, _], _ => rfl
  have b23 := F23.binds (ps := ["_law_tape_here", "_law_many"]) fun _ _ _ _ _ _ us hl => match us, hl with | [_, _], _ => rfl
  have b24 := F24.binds (ps := ["_law_tape_here", "_law_great"]) fun _ _ _ _ _ _ us hl => match us, hl with | [_, _], _ => rfl
  have b25 := F25.binds (ps := ["_law_tape_here", "_law_great"]) fun _ _ _ _ _ _ us hl => match us, hl with | [_, _], _ => rfl
  have b26 := F26.binds (ps := ["_law_found", "_law_due"]) fun _ _ _ _ _ _ us hl => match us, hl with | [_, _], _ => rfl
  have b27 := F27.binds (ps := ["_law_tape_here", "_law_many"]) fun _ _ _ _ _ _ us hl => match us, hl with | [_, _], _ => rfl
  have b28 := F28.binds (ps := ["_law_web_here", "_law_ties"]) fun _ _ _ _ _ _ us hl => match us, hl with | [_, _], _ => rfl
  have b29 := F29.binds (ps := ["_law_tape_here", "_law_web_here"]) fun _ _ _ _ _ _ us hl => match us, hl with | [_, _], _ => rfl
  have b30 := F30.binds (ps := ["_law_tape_here", "_law_web_here"]) fun _ _ _ _ _ _ us hl => match us, hl with | [_, _], _ => rfl
  refine ⟨PySem.W.fnOf "law" "law" (defArgs sLaw) (defBody sLaw) (defScope sLaw) .none kV31 dc31 pm31 an31 cd31 ct31, fun s v => .of_eq rfl, fun base _ _ => ?_⟩
  have CT : Callee l.prog w K mg base 1 "_law_tape" ["_law_script", "_law_k"] (spTape K) := ⟨_, _, ok_tape F22 T, PySem.W.mg_of X G a22, k22, b22⟩
  have CD : Callee l.prog w K mg base 1 "_law_draw" ["_law_tape_here", "_law_many"] spDraw := ⟨_, _, ok_draw F23 T, PySem.W.mg_of X G a23, k23, b23⟩
  have CPr : Callee l.prog w K mg base 2 "_law_pairs_by" ["_law_tape_here", "_law_great"] spPairs := ⟨_, _, ok_pairs F24 T CD, PySem.W.mg_of X G a24, k24, b24⟩
  have CB : Callee l.prog w K mg base 3 "_law_web" ["_law_tape_here", "_law_great"] spWeb := ⟨_, _, ok_web F25 T CD CPr, PySem.W.mg_of X G a25, k25, b25⟩
  have CN : Callee l.prog w K mg base 1 "is_number" ["thing"] spNum := ⟨_, _, ok_num F12 T, PySem.W.mg_of X G a12, k12, b12⟩
  have CNI : Callee l.prog w K mg base 1 "is_number" ["thing"] spNumI := ⟨_, _, ok_numI F12 T, PySem.W.mg_of X G a12, k12, b12⟩
  have CPa : Callee l.prog w K mg base 1 "is_pair" ["thing"] spPair := ⟨_, _, ok_pair F13 T, PySem.W.mg_of X G a13, k13, b13⟩
  have CTi : Callee l.prog w K mg base 2 "is_tie" ["many", "thing"] spTie := ⟨_, _, ok_tie F15 CPa CN, PySem.W.mg_of X G a15, k15, b15⟩
  have CIW : Callee l.prog w K mg base 3 "is_web" ["thing"] spIsWeb2 := ⟨_, _, ok_isWeb F16 T CPa CN CTi, PySem.W.mg_of X G a16, k16, b16⟩
  have CHT : Callee l.prog w K mg base 2 "has_tie" ["web", "tie"] spHasT := ⟨_, _, ok_hasT F17 T CNI, PySem.W.mg_of X G a17, k17, b17⟩
  have ECT : CalleeE l.prog w K mg base 3 "check_tie" ["web", "tie"] (spChkT cT) := ⟨_, _, ok_chkT R0.t F18 CHT, PySem.W.mg_of X G a18, k18, b18⟩
  have CC0 : Callee l.prog w K mg base 3 "check_tie" ["web", "tie"] spChkT0 := ⟨_, _, ok_chkT0 F18 CHT, PySem.W.mg_of X G a18, k18, b18⟩
  have EO : CalleeE l.prog w K mg base 4 "only" ["web", "ties"] (spOnlyE cT) := ⟨_, _, ok_onlyE F19 ECT, PySem.W.mg_of X G a19, k19, b19⟩
  have CO0 : Callee l.prog w K mg base 4 "only" ["web", "ties"] spOnly0 := ⟨_, _, ok_only0 F19 T CC0, PySem.W.mg_of X G a19, k19, b19⟩
  have CWi : Callee l.prog w K mg base 1 "within" ["web", "places"] spWithin := ⟨_, _, ok_within F20 T zset, PySem.W.mg_of X G a20, k20, b20⟩
  have CS : Callee l.prog w K mg base 4 "_law_same" ["_law_found", "_law_due"] (spSameR (Al 3)) := ⟨_, _, ok_sameA 3 F26 T (PySem.W.mg_of X G a26) k26 b26, PySem.W.mg_of X G a26, k26, b26⟩
  have CSm : Callee l.prog w K mg base 2 "_law_some" ["_law_tape_here", "_law_many"] spSome := ⟨_, _, ok_some F27 T CD, PySem.W.mg_of X G a27, k27, b27⟩
  have CR : Callee l.prog w K mg base 5 "_law_is_refused" ["_law_web_here", "_law_ties"] spRefused := ⟨_, _, ok_refused F28 T R0 EO, PySem.W.mg_of X G a28, k28, b28⟩
  have COR : Callee l.prog w K mg base 6 "_law_only_right" ["_law_tape_here", "_law_web_here"] spOnlyR := ⟨_, _, ok_onlyR F29 T CD CSm CO0 CS CIW CR, PySem.W.mg_of X G a29, k29, b29⟩
  have CWR : Callee l.prog w K mg base 5 "_law_within_right" ["_law_tape_here", "_law_web_here"] spOnlyR := ⟨_, _, ok_withR F30 T CSm CWi CS, PySem.W.mg_of X G a30, k30, b30⟩
  exact ok_law F31 T CT CD CB COR CWR
theorem walkL {l : PySem.W.OpenLaw} {q : Program} {loose : List Str} {XP : (Str → Option Value) → Heap → Prop} {YP : World → Heap → Prop} {d : DefRec} {K : Params → PySem.W.Frag} (hn : l.most = some 63) (hdf : d.params.defaults = [])
    (hY : ∀ (w : World) (h : Heap), YP w h → (K w.params).In h)
    (F : ∀ (w : World) (mg : Str → Option Value) (fa : Addr) (h : Heap), (K w.params).In h → h.Ns mainGlobals mg → mg d.name = some (.ref fa) →
      ∃ fd : FuncData, (∀ (s : Shared) (u : Value), BindsTo s fd ⟨[u], []⟩ [("_law_script", u)]) ∧ ∀ base : Heap, (K w.params).In base → base.Ns mainGlobals mg → FnOk l.prog w (K w.params) mg base CX0 7 fa fd ["_law_script"] (spLaw (K w.params))) :
    PySem.W.WalkO q loose XP YP l.row.toRowW d [] (fun f vs => PySem.call f vs) :=
  L2.walk_of (n := 63) (k := 7) (x := "_law_script") (CX := fun _ => CX0) (sp := fun w => spLaw (K w.params)) hn (by decide) hdf ⟨rfl, by decide, by decide, rfl⟩ hY F (fun _ _ a ns hl _ hS => ⟨a, ns, rfl, hS, hl, fun _ => rfl⟩) fun _ _ _ _ _ z => z
end Hue
open PySem PySem.W PyProof.Rows
set_option maxRecDepth 100000 in
set_option maxHeartbeats 0 in
theorem PySem.Challenge.cw_huedties_k04_some_ties_and_places_holds : PySem.Challenge.rw_huedties_k04_some_ties_and_places.Holds := by
  w_on; o_law; k_head; (case hw => w_witness2)
  k_fill
  refine Hue.walkL (l := PySem.Challenge.rw_huedties_k04_some_ties_and_places) rfl rfl (fun w h Y => PySem.W.kIn_of Y) ?F
  case F =>
    intro w mg fa h KX G hmg
    refine' Hue.all_mk KX G hmg ?a12 ?l12 ?c12 ?k12 ?a13 ?l13 ?c13 ?k13 ?a15 ?l15 ?c15 ?k15 ?a16 ?l16 ?c16 ?k16 ?a17 ?l17 ?c17 ?k17 ?a18 ?l18 ?c18 ?k18 ?a19 ?l19 ?c19 ?k19 ?a20 ?l20 ?c20 ?k20 ?a22 ?l22 ?c22 ?k22 ?a23 ?l23 ?c23 ?k23 ?a24 ?l24 ?c24 ?k24 ?a25 ?l25 ?c25 ?k25 ?a26 ?l26 ?c26 ?k26 ?a27 ?l27 ?c27 ?k27 ?a28 ?l28 ?c28 ?k28 ?a29 ?l29 ?c29 ?k29 ?a30 ?l30 ?c30 ?k30 ?a31 ?l31 ?c31 ?k31 ?z1 ?z2 ?z3 ?z4 ?z5 ?z6 ?z7 ?z8 ?z9 ?z10 ?z11 ?z12 ?z13 ?z14 ?y1 ?y2 ?gcH ?gcT ?gcP ?gc1 ?gc2 ?gc3 ?gc4 ?gc5 ?gc6 ?gc7 ?qcH ?qcT ?mcT ?xcT0 ?xcT1 ?xcT2 ?xcT3 ?xcT4 ?xcT5 ?w0 ?w1 ?w2
    (case a12 => k_is)
    (case l12 => k_is)
    (case c12 => k_is)
    (case k12 => k_is)
    (case a13 => k_is)
    (case l13 => k_is)
    (case c13 => k_is)
    (case k13 => k_is)
    (case a15 => k_is)
    (case l15 => k_is)
    (case c15 => k_is)
    (case k15 => k_is)
    (case a16 => k_is)
    (case l16 => k_is)
    (case c16 => k_is)
    (case k16 => k_is)
    (case a17 => k_is)
    (case l17 => k_is)
    (case c17 => k_is)
    (case k17 => k_is)
    (case a18 => k_is)
    (case l18 => k_is)
    (case c18 => k_is)
    (case k18 => k_is)
    (case a19 => k_is)
    (case l19 => k_is)
    (case c19 => k_is)
    (case k19 => k_is)
    (case a20 => k_is)
    (case l20 => k_is)
    (case c20 => k_is)
    (case k20 => k_is)
    (case a22 => k_is)
    (case l22 => k_is)
    (case c22 => k_is)
    (case k22 => k_is)
    (case a23 => k_is)
    (case l23 => k_is)
    (case c23 => k_is)
    (case k23 => k_is)
    (case a24 => k_is)
    (case l24 => k_is)
    (case c24 => k_is)
    (case k24 => k_is)
    (case a25 => k_is)
    (case l25 => k_is)
    (case c25 => k_is)
    (case k25 => k_is)
    (case a26 => k_is)
    (case l26 => k_is)
    (case c26 => k_is)
    (case k26 => k_is)
    (case a27 => k_is)
    (case l27 => k_is)
    (case c27 => k_is)
    (case k27 => k_is)
    (case a28 => k_is)
    (case l28 => k_is)
    (case c28 => k_is)
    (case k28 => k_is)
    (case a29 => k_is)
    (case l29 => k_is)
    (case c29 => k_is)
    (case k29 => k_is)
    (case a30 => k_is)
    (case l30 => k_is)
    (case c30 => k_is)
    (case k30 => k_is)
    (case a31 => k_is)
    (case l31 => k_is)
    (case c31 => k_is)
    (case k31 => k_is)
    (case z1 => k_is)
    (case z2 => k_is)
    (case z3 => k_is)
    (case z4 => k_is)
    (case z5 => k_is)
    (case z6 => k_is)
    (case z7 => k_is)
    (case z8 => k_is)
    (case z9 => k_is)
    (case z10 => k_is)
    (case z11 => k_is)
    (case z12 => k_is)
    (case z13 => k_is)
    (case z14 => k_is)
    (case y1 => k_is)
    (case y2 => k_is)
    (case gcH => k_is)
    (case gcT => k_is)
    (case gcP => k_is)
    (case gc1 => k_is)
    (case gc2 => k_is)
    (case gc3 => k_is)
    (case gc4 => k_is)
    (case gc5 => k_is)
    (case gc6 => k_is)
    (case gc7 => k_is)
    (case qcH => k_exc)
    (case qcT => k_exc)
    (case mcT => k_is)
    (case xcT0 => kernel_rfl)
    (case xcT1 => k_is)
    (case xcT2 => k_is)
    (case xcT3 => k_is)
    (case xcT4 => k_is)
    (case xcT5 => k_is)
    (case w0 => kernel_rfl)
    (case w1 => kernel_rfl)
    (case w2 => kernel_rfl)
#print axioms PySem.Challenge.cw_huedties_k04_some_ties_and_places_holds
