import PyProof.Rows.All
import Wide.All
import OpenK.AllK
import Wide.FinOn
import Lean
import PyProof.EqAt
import PyProof.EqKinds
import PyProof.TupleCall
import PyProof.EnumMake
import PyProof.Draws
import PyProof.ZipIter
import PyProof.ConsumeWalk
import PyProof.NeKinds
import PyProof.ListRange
import PyProof.ReprRoads
import PyProof.ReprBulk
import PyProof.CallStr
import PyProof.Rows.SeqMore
import KE.KMinBuiltin
import PyProof.MinMaxWalk
import PyProof.DictRoadsH
import PySem.Challenge.RW_huedties_k06_sides_shown
import PyProof.Rows.SetFrom
import PyProof.SetRoads
import PyProof.Rows.SortShell
import PyProof.SumWalkG
import PyProof.Rows.SortShellK
import PyProof.Rows.SortWalk
import PyProof.WalksMore
import PyProof.FactsAll.subtypes_4
import PyProof.SetNew
import PyProof.Rows.SetObj
import PyProof.FitsInt
import KE.KRevSl
set_option Elab.async false
set_option linter.all false
set_option maxRecDepth 100000
namespace L2
open PySem PySem.Spec PyProof.Rows
abbrev Key := Sum Int Str
def keyIs : Key → Value → Bool
  | .inl k, v => Value.isInt k v
  | .inr x, v => Value.isStrOf x v
def keyH (w : World) : Key → Int
  | .inl k => hashInt k
  | .inr x => hashStr w x
theorem keyIs_shape : ∀ {k : Key} {v : Value}, keyIs k v = true → (∃ i t, k = Sum.inl i ∧ v = Value.int i t) ∨ (∃ x t, k = Sum.inr x ∧ v = Value.str x t)
  | .inl i, v, h => by
    obtain ⟨t, e⟩ := Value.isInt_shape (k := i) (v := v) h
    exact .inl ⟨i, t, rfl, e⟩
  | .inr x, v, h => by
    obtain ⟨t, e⟩ := Value.isStrOf_shape (x := x) (v := v) h
    exact .inr ⟨x, t, rfl, e⟩
theorem key_ll (a b : Int) : decide ((Sum.inl a : Key) = Sum.inl b) = (a == b) := by
  by_cases e : a = b
  · subst e; simp
  · have h : ¬ (Sum.inl a : Key) = Sum.inl b := fun q => e (Sum.inl.inj q)
    rw [decide_eq_false h]
    exact (beq_eq_false_iff_ne.mpr e).symm
theorem key_rr (a b : Str) : decide ((Sum.inr a : Key) = Sum.inr b) = decide (a = b) := by
  by_cases e : a = b
  · subst e; simp
  · have h : ¬ (Sum.inr a : Key) = Sum.inr b := fun q => e (Sum.inr.inj q)
    rw [decide_eq_false h, decide_eq_false e]
theorem key_lr (a : Int) (b : Str) : decide ((Sum.inl a : Key) = Sum.inr b) = false := decide_eq_false (fun q => nomatch q)
theorem key_rl (a : Str) (b : Int) : decide ((Sum.inr a : Key) = Sum.inl b) = false := decide_eq_false (fun q => nomatch q)
def mixKind (prog : Program) (w : World) : PySem.KeyKind prog w Key where
  is := keyIs
  hash := keyH w
  inj := fun v a b ha hb => by
    rcases keyIs_shape ha with ⟨i, t, rfl, rfl⟩ | ⟨x, t, rfl, rfl⟩
    · rcases keyIs_shape hb with ⟨j, u, rfl, e⟩ | ⟨y, u, rfl, e⟩
      · injection e with e1 _; rw [e1]
      · exact nomatch e
    · rcases keyIs_shape hb with ⟨j, u, rfl, e⟩ | ⟨y, u, rfl, e⟩
      · exact nomatch e
      · injection e with e1 _; rw [e1]
  byValue := fun k v h => by
    rcases keyIs_shape h with ⟨i, t, rfl, rfl⟩ | ⟨x, t, rfl, rfl⟩ <;> rfl
  pyHash := fun hv h => by
    rcases keyIs_shape hv with ⟨i, t, rfl, rfl⟩ | ⟨x, t, rfl, rfl⟩
    · exact wpAny_pyHash_int h
    · exact wpAny_pyHash_str h
  eqBool := fun hu hv h => by
    rcases keyIs_shape hu with ⟨i, t, rfl, rfl⟩ | ⟨x, t, rfl, rfl⟩
    · rcases keyIs_shape hv with ⟨j, u, rfl, rfl⟩ | ⟨y, u, rfl, rfl⟩
      · rw [key_ll] at h; exact wpAny_eqBool_int h
      · rw [key_lr] at h; exact SeqAt.EqAt.int_str i t y u _ _ _ _ h
    · rcases keyIs_shape hv with ⟨j, u, rfl, rfl⟩ | ⟨y, u, rfl, rfl⟩
      · rw [key_rl] at h; exact SeqAt.EqAt.str_int x t j u _ _ _ _ h
      · rw [key_rr] at h; exact wpAny_eqBool_str h
  «strs» := fun k x t v h => by
    rcases keyIs_shape h with ⟨i, u, rfl, e⟩ | ⟨y, u, rfl, e⟩
    · exact nomatch e
    · injection e with e1 _
      subst e1
      cases v <;> rfl
end L2
namespace L2
open PySem PySem.Spec PyProof.Rows
inductive V where
  | non | bl (b : Bool) | int (i : Int) | str (x : Str) | byt (b : Array UInt8) | flt (b : UInt64) | ref (a : Addr) | ty (n : String)
  deriving DecidableEq
def RelV : V → Value → Prop
  | .non, u => u = Value.none
  | .bl b, u => u = Value.bool b
  | .int i, u => ∃ t, u = Value.int i t
  | .str x, u => ∃ t, u = Value.str x t
  | .byt b, u => ∃ t, u = Value.bytes b t
  | .flt b, u => ∃ t, u = Value.float b t
  | .ref a, u => u = Value.ref a
  | .ty n, u => u = Value.type n
abbrev Vals : List V → List Value → Prop := Paired RelV
theorem Vals.length {xs : List V} {us : List Value} (r : Vals xs us) : xs.length = us.length := Paired.length r
theorem Vals.get : ∀ {xs : List V} {us : List Value} {i : Nat} {x : V}, Vals xs us → xs[i]? = some x → ∃ u, us[i]? = some u ∧ RelV x u
  | _, _, _, _, .nil, e => by simp at e
  | _, _, 0, _, .cons r _, e => by simp at e; subst e; exact ⟨_, rfl, r⟩
  | _, _, i + 1, x, .cons _ t, e => by
    obtain ⟨u, h1, h2⟩ := Vals.get (i := i) (x := x) t (by simpa using e)
    exact ⟨u, by simpa using h1, h2⟩
theorem Vals.set {x : V} {u : Value} (r : RelV x u) : ∀ {xs : List V} {us : List Value} (i : Nat), Vals xs us → Vals (xs.set i x) (us.set i u)
  | _, _, _, .nil => .nil
  | _, _, 0, .cons _ t => .cons r t
  | _, _, i + 1, .cons q t => .cons q (Vals.set r i t)
theorem Vals.append : ∀ {xs ys : List V} {us ws : List Value}, Vals xs us → Vals ys ws → Vals (xs ++ ys) (us ++ ws)
  | _, _, _, _, .nil, s => s
  | _, _, _, _, .cons r t, s => .cons r (Vals.append t s)
theorem Vals.take : ∀ {xs : List V} {us : List Value} (n : Nat), Vals xs us → Vals (xs.take n) (us.take n)
  | _, _, 0, _ => .nil
  | _, _, _ + 1, .nil => .nil
  | _, _, n + 1, .cons r t => .cons r (Vals.take n t)
theorem Vals.drop : ∀ {xs : List V} {us : List Value} (n : Nat), Vals xs us → Vals (xs.drop n) (us.drop n)
  | _, _, 0, r => r
  | _, _, _ + 1, .nil => .nil
  | _, _, n + 1, .cons _ t => Vals.drop n t
def RelO : Option V → Option Value → Prop
  | some v, some u => RelV v u
  | none, none => True
  | _, _ => False
def KV {κ : Type} : List (κ × V) → List (κ × Value) → Prop := Paired fun (p : κ × V) (q : κ × Value) => p.1 = q.1 ∧ RelV p.2 q.2
def kV : Key → V
  | .inl i => .int i
  | .inr x => .str x
inductive HO where
  /-- a list -/
  | lst (xs : List V)
  /-- a tuple (never changes) -/
  | tup (xs : List V)
  /-- a dict whose keys are ints and texts; one whose keys are tuples of ints and texts (the empty one is both) -/
  | dK (kvs : List (Key × V)) | dT (kvs : List (List Key × V))
  /-- a set of ints: its members, its size -/
  | set (S : Int → Bool) (n : Nat)
  /-- an instance of the class at C, its dict at dx, its attributes -/
  | ins (C dx : Addr) (fs : List (Str × V))
  /-- the dict of the instance at x -/
  | own (x : Addr)
  /-- the dict of an exception -/
  | xd (fs : List (Str × V))
  /-- a bound method, f of x -/
  | met (f x : Addr)
  /-- a range object lo, lo + 1, .. below hi -/
  | rng (lo hi : Int)
  /-- a thing that is known to the object (the script; a dict while a loop walks it): read, never written while it is so -/
  | frz (o : Obj) (u : HO)
  /-- a code object's table -/
  | tbl (ps : Array Value)
  /-- any other thing, by what is true of its one object (a def of one's own: SetO a S n := HO.ext fun h => ..) -/
  | ext (φ : Heap → Prop)
abbrev Hp := Addr → Option HO
def upd (H : Hp) (a : Addr) (o : HO) : Hp := fun b => if b = a then some o else H b
theorem upd_same {H : Hp} {a : Addr} {o : HO} : upd H a o a = some o := by unfold upd; rw [if_pos rfl]
theorem upd_ne {H : Hp} {a b : Addr} {o : HO} (h : b ≠ a) : upd H a o b = H b := by unfold upd; rw [if_neg h]
theorem ne_of {H : Hp} {a b : Addr} {o u : HO} (h : H a = some o) (h' : H b = some u) (d : o ≠ u) : a ≠ b := by
  intro e; subst e; rw [h] at h'; exact d (Option.some.inj h')
theorem ne_of_none {H : Hp} {a b : Addr} {o : HO} (h : H a = some o) (h' : H b = none) : a ≠ b := by
  intro e; subst e; rw [h] at h'; cases h'
section
variable (P : Program) (w : World)
def ObjOk (H : Hp) (h : Heap) (a : Addr) : HO → Prop
  | .lst xs => xs.length ≤ sizeLine ∧ ∃ (its : List Value) (n : Nat), Vals xs its ∧ h.get? a = some { cls := .type "list", data := .seq its.toArray n }
  | .tup xs => xs.length ≤ sizeLine ∧ ∃ its : List Value, Vals xs its ∧ IsTup h a its.toArray
  | .dK kvs => kvs.length ≤ sizeLine ∧ (a == sysModules) = false ∧ ∃ vs, KV kvs vs ∧ h.DictOf (mixKind P w) a vs
  | .dT kvs => kvs.length ≤ sizeLine ∧ (a == sysModules) = false ∧ ∃ xs : List (List Key × Addr × Value),
      Paired (fun (p : List Key × V) (q : List Key × Addr × Value) => p.1 = q.1 ∧ H q.2.1 = some (.tup (p.1.map kV)) ∧ RelV p.2 q.2.2) kvs xs ∧
      ∃ o es ep, h.get? a = some o ∧ o.ExactDict ∧ o.data = .dict es ep ∧ es.toList = xs.map (entryOfKey (tupleKind (mixKind P w))) ∧ (xs.map (·.1)).Nodup
  | .set S n => h.SetOf (intKind P w) a S n
  | .ins C dx fs => H dx = some (.own a) ∧ fs.length ≤ 1000 ∧ dx ≠ a ∧ h.get? a = some (PySem.W.instObj C dx) ∧
      ∃ mA, h.Ns1 dx mA ∧ (∀ f, RelO (fs.lookup f) (mA f)) ∧ PySem.Within mA (fs.map (·.1))
  | .own _ => ∃ o, h.get? a = some o
  | .xd fs => ∃ mA, h.Ns1 a mA ∧ ∀ f, RelO (fs.lookup f) (mA f)
  | .rng lo hi => ∃ t u v, h.get? a = some { cls := .type "range", data := .fields #[.int lo t, .int hi u, .int 1 v] }
  | .frz o u => h.get? a = some o ∧ ObjOk H h a u
  | .tbl ps => h.get? a = some { cls := .none, data := .fields ps }
  | .met f x => h.get? a = some (PySem.W.methodObj (.ref f) (.ref x))
  | .ext φ => φ h ∧ (∃ o, h.get? a = some o) ∧ ∀ h1 h2 : Heap, φ h1 → (∀ o, h1.get? a = some o → h2.get? a = some o) → φ h2
def HOk (H : Hp) (h : Heap) : Prop := ∀ a o, H a = some o → ObjOk P w H h a o
end
section
variable {P : Program} {w : World} {H H' : Hp} {h h' : Heap} {a : Addr} {o : HO}
theorem ObjOk.lt (x : ObjOk P w H h a o) : a < h.objs.size := by
  cases o with
  | lst xs => obtain ⟨_, _, _, _, e⟩ := x; exact Heap.lt_size e
  | tup xs => obtain ⟨_, _, _, p⟩ := x; exact p.lt
  | dK kvs => obtain ⟨_, _, _, _, o, _, _, e, _⟩ := x; exact Heap.lt_size e
  | dT kvs => obtain ⟨_, _, _, _, o, _, _, e, _⟩ := x; exact Heap.lt_size e
  | set S n => obtain ⟨o, _, _, _, e, _⟩ := x; exact Heap.lt_size e
  | ins C dx fs => obtain ⟨_, _, _, e, _⟩ := x; exact Heap.lt_size e
  | own y => obtain ⟨_, e⟩ := x; exact Heap.lt_size e
  | xd fs => obtain ⟨_, ⟨_, _, _, e, _⟩, _⟩ := x; exact Heap.lt_size e
  | rng lo hi => obtain ⟨_, _, _, e⟩ := x; exact Heap.lt_size e
  | frz ob u => obtain ⟨e, _⟩ := x; exact Heap.lt_size e
  | tbl ps => exact Heap.lt_size (show h.get? a = some _ from x)
  | met f y => exact Heap.lt_size (show h.get? a = some _ from x)
  | ext φ => obtain ⟨_, ⟨_, e⟩, _⟩ := x; exact Heap.lt_size e
theorem Paired.mapP {α β : Type} {F G : α → β → Prop} : ∀ {l₁ : List α} {l₂ : List β}, Paired F l₁ l₂ → (∀ a b, F a b → G a b) → Paired G l₁ l₂
  | _, _, .nil, _ => .nil
  | _, _, .cons r t, f => .cons (f _ _ r) (Paired.mapP t f)
theorem ObjOk.stay (x : ObjOk P w H h a o) (k : ∀ b u, (b = a ∨ H b = some (.own a)) → h.get? b = some u → h'.get? b = some u)
    (ho : ∀ b, H b = some (.own a) → H' b = some (.own a)) (ht : ∀ b xs, H b = some (.tup xs) → H' b = some (.tup xs)) : ObjOk P w H' h' a o := by
  induction o with
  | lst xs => obtain ⟨z, its, n, r, e⟩ := x; exact ⟨z, its, n, r, k _ _ (.inl rfl) e⟩
  | tup xs => obtain ⟨z, its, r, ob, e, c⟩ := x; exact ⟨z, its, r, ob, k _ _ (.inl rfl) e, c⟩
  | dK kvs => obtain ⟨z, y, vs, r, ob, es, ep, e, c⟩ := x; exact ⟨z, y, vs, r, ob, es, ep, k _ _ (.inl rfl) e, c⟩
  | dT kvs =>
    obtain ⟨z, y, xs, r, ob, es, ep, e, c⟩ := x
    exact ⟨z, y, xs, Paired.mapP r fun p q z => ⟨z.1, ht _ _ z.2.1, z.2.2⟩, ob, es, ep, k _ _ (.inl rfl) e, c⟩
  | set S n => obtain ⟨ob, es, ep, t, e, c⟩ := x; exact ⟨ob, es, ep, t, k _ _ (.inl rfl) e, c⟩
  | ins C dx fs =>
    obtain ⟨d, z, ne, e, mA, ⟨od, es, ep, e2, c⟩, r⟩ := x
    exact ⟨ho _ d, z, ne, k _ _ (.inl rfl) e, mA, ⟨od, es, ep, k _ _ (.inr d) e2, c⟩, r⟩
  | own y => obtain ⟨ob, e⟩ := x; exact ⟨ob, k _ _ (.inl rfl) e⟩
  | xd fs => obtain ⟨mA, ⟨od, es, ep, e, c⟩, r⟩ := x; exact ⟨mA, ⟨od, es, ep, k _ _ (.inl rfl) e, c⟩, r⟩
  | rng lo hi => obtain ⟨t, u, v, e⟩ := x; exact ⟨t, u, v, k _ _ (.inl rfl) e⟩
  | frz ob u ih => obtain ⟨e, q⟩ := x; exact ⟨k _ _ (.inl rfl) e, ih q⟩
  | tbl ps =>
    have e : h.get? a = some { cls := .none, data := .fields ps } := x
    show h'.get? a = some { cls := .none, data := .fields ps }
    exact k a _ (.inl rfl) e
  | met f y =>
    have e : h.get? a = some (PySem.W.methodObj (.ref f) (.ref y)) := x
    show h'.get? a = some (PySem.W.methodObj (.ref f) (.ref y))
    exact k a _ (.inl rfl) e
  | ext φ => obtain ⟨p, ⟨o, e⟩, st⟩ := x; exact ⟨st _ _ p fun o q => k _ _ (.inl rfl) q, ⟨o, k _ _ (.inl rfl) e⟩, st⟩
theorem HOk.lt (x : HOk P w H h) (e : H a = some o) : a < h.objs.size := (x a o e).lt
theorem HOk.fresh (x : HOk P w H h) (e : h.objs.size ≤ a) : H a = none := by
  cases q : H a with
  | none => rfl
  | some u => exact absurd (Nat.lt_of_lt_of_le (x.lt q) e) (Nat.lt_irrefl _)
theorem HOk.kept (x : HOk P w H h) (k : ∀ b u, h.get? b = some u → h'.get? b = some u) : HOk P w H h' := fun a o e =>
  (x a o e).stay (fun b u _ q => k b u q) (fun _ q => q) fun _ _ q => q
theorem HOk.laid (x : HOk P w H h) (k : ∀ b u, h.get? b = some u → h'.get? b = some u) (hp : h.objs.size ≤ a) (new : ObjOk P w (upd H a o) h' a o) : HOk P w (upd H a o) h' := fun b u e => by
  have hn := x.fresh hp
  by_cases hb : b = a
  · subst hb; rw [upd_same] at e; cases e; exact new
  · rw [upd_ne hb] at e
    exact (x b u e).stay (fun c v _ q => k c v q) (fun c q => by rw [upd_ne (ne_of_none q hn)]; exact q) fun c xs q => by rw [upd_ne (ne_of_none q hn)]; exact q
end
def Rd (H : Hp) (a : Addr) (u : HO) : Prop := H a = some u ∨ ∃ o, H a = some (.frz o u)
theorem Rd.of {H : Hp} {a : Addr} {u : HO} (h : H a = some u) : Rd H a u := .inl h
theorem Rd.ok {P : Program} {w : World} {H : Hp} {h : Heap} {a : Addr} {u : HO} (r : Rd H a u) (x : HOk P w H h) : ObjOk P w H h a u := by
  rcases r with r | ⟨o, r⟩
  · exact x a u r
  · obtain ⟨_, q⟩ := x a _ r
    exact q
def Mut : Option HO → Prop
  | some (.lst _) => True
  | some (.dK _) => True
  | some (.dT _) => True
  | some (.set _ _) => True
  | some (.ins _ _ _) => True
  | some (.ext _) => True
  | _ => False
section
variable {P : Program} {w : World} {H : Hp} {h h' : Heap} {x e : Addr} {o' : HO}
theorem HOk.write (ok : HOk P w H h) (mu : Mut (H x)) (he : e = x ∨ H e = some (.own x)) (k : ∀ b u, b ≠ e → h.get? b = some u → h'.get? b = some u) (heo : ∃ u, h'.get? e = some u)
    (new : ObjOk P w (upd H x o') h' x o') : HOk P w (upd H x o') h' := fun b u q => by
  have nown : ∀ c y, H c = some (.own y) → c ≠ x := fun c y r z => by subst z; rw [r] at mu; exact mu
  have ntup : ∀ c xs, H c = some (.tup xs) → c ≠ x := fun c xs r z => by subst z; rw [r] at mu; exact mu
  by_cases hb : b = x
  · subst hb; rw [upd_same] at q; cases q; exact new
  · rw [upd_ne hb] at q
    by_cases hbe : b = e
    · have q' : H b = some (.own x) := by
        rcases he with z | z
        · exact absurd (hbe.trans z) hb
        · rw [hbe]; exact z
      rw [q] at q'; cases q'
      obtain ⟨v, hv⟩ := heo
      exact ⟨v, by rw [hbe]; exact hv⟩
    · refine (ok b u q).stay (fun c v hc r => k c v ?_ r) (fun c r => by rw [upd_ne (nown c b r)]; exact r) fun c xs r => by rw [upd_ne (ntup c xs r)]; exact r
      rcases hc with rfl | hc
      · exact hbe
      · rintro rfl
        rcases he with z | z
        · exact nown c b hc z
        · rw [hc] at z; cases z; exact hb rfl
end
structure Un (fs ex : List Addr) (H H' : Hp) (h h' : Heap) : Prop where
  keep : ∀ b o, h.get? b = some o → H b = none → b ∉ fs → b ∉ ex → h'.get? b = some o
  slot : ∀ b o, h.get? b = some o → H b = none → b ∈ fs → b ∉ ex → ∃ sl, h'.get? b = some { o with slots := sl }
  free : ∀ b o, h.get? b = some o → H b = none → b ∉ ex → H' b = none
  there : ∀ b o, h.get? b = some o → b ∉ ex → ∃ o', h'.get? b = some o'
  tups : ∀ b xs, H b = some (.tup xs) → H' b = some (.tup xs)
  frzs : ∀ b o u, H b = some (.frz o u) → H' b = some (.frz o u)
  tbls : ∀ b ps, H b = some (.tbl ps) → ∃ more, H' b = some (.tbl (ps ++ more))
section
variable {fs fs' ex ex' : List Addr} {H H1 H2 : Hp} {h h1 h2 h' : Heap} {a x e : Addr} {o : HO}
theorem Un.any (u : Un fs ex H H1 h h1) {b : Addr} {ob : Obj} (q : h.get? b = some ob) (n : H b = none) (hx : b ∉ ex) : ∃ sl, h1.get? b = some { ob with slots := sl } := by
  by_cases hb : b ∈ fs
  · exact u.slot b ob q n hb hx
  · exact ⟨ob.slots, u.keep b ob q n hb hx⟩
theorem Un.trans (a : Un fs ex H H1 h h1) (b : Un fs ex H1 H2 h1 h2) : Un fs ex H H2 h h2 where
  keep := fun c ob q n hc hx => b.keep c ob (a.keep c ob q n hc hx) (a.free c ob q n hx) hc hx
  slot := fun c ob q n hc hx => by
    obtain ⟨sl, e1⟩ := a.slot c ob q n hc hx
    obtain ⟨sl', e2⟩ := b.slot c _ e1 (a.free c ob q n hx) hc hx
    exact ⟨sl', e2⟩
  free := fun c ob q n hx => by
    obtain ⟨o', e1⟩ := a.there c ob q hx
    exact b.free c o' e1 (a.free c ob q n hx) hx
  there := fun c ob q hx => by
    obtain ⟨o', e1⟩ := a.there c ob q hx
    exact b.there c o' e1 hx
  tups := fun c xs q => b.tups c xs (a.tups c xs q)
  frzs := fun c ob xs q => b.frzs c ob xs (a.frzs c ob xs q)
  tbls := fun c ps q => by
    obtain ⟨m1, e1⟩ := a.tbls c ps q
    obtain ⟨m2, e2⟩ := b.tbls c _ e1
    exact ⟨m1 ++ m2, by rw [e2, Array.append_assoc]⟩
theorem Un.kept (k : ∀ b u, h.get? b = some u → h'.get? b = some u) : Un fs ex H H h h' :=
  ⟨fun b ob q _ _ _ => k b ob q, fun b ob q _ _ _ => ⟨ob.slots, k b ob q⟩, fun _ _ _ n _ => n, fun b ob q _ => ⟨ob, k b ob q⟩, fun _ _ q => q, fun _ _ _ q => q, fun _ ps q => ⟨#[], by rw [q]; simp⟩⟩
theorem Un.refl : Un fs ex H H h h := Un.kept fun _ _ q => q
theorem Un.laid (k : ∀ b u, h.get? b = some u → h'.get? b = some u) (hp : h.objs.size ≤ a) (hn : H a = none) : Un fs ex H (upd H a o) h h' where
  keep := fun b u q _ _ _ => k b u q
  slot := fun b u q _ _ _ => ⟨u.slots, k b u q⟩
  free := fun b u q n _ => by rw [upd_ne (Nat.ne_of_lt (Nat.lt_of_lt_of_le (Heap.lt_size q) hp))]; exact n
  there := fun b u q _ => ⟨u, k b u q⟩
  tups := fun b xs q => by rw [upd_ne (ne_of_none q hn)]; exact q
  frzs := fun b u xs q => by rw [upd_ne (ne_of_none q hn)]; exact q
  tbls := fun b ps q => ⟨#[], by rw [upd_ne (ne_of_none q hn), q]; simp⟩
theorem Un.write (mu : Mut (H x)) (he : e = x ∨ H e = some (.own x)) (k : ∀ b u, b ≠ e → h.get? b = some u → h'.get? b = some u) (heo : ∃ u, h'.get? e = some u) : Un fs ex H (upd H x o) h h' := by
  have hx : ∀ b, H b = none → b ≠ x := fun b n z => by subst z; rw [n] at mu; exact mu
  have hb : ∀ b, H b = none → b ≠ e := fun b n z => by
    subst z
    rcases he with r | r
    · exact hx b n r
    · rw [n] at r; cases r
  have hm : ∀ b u, H b = some u → ¬ Mut (some u) → b ≠ x := fun b u q nm z => by subst z; rw [q] at mu; exact nm mu
  refine ⟨fun b u q n _ _ => k b u (hb b n) q, fun b u q n _ _ => ⟨u.slots, k b u (hb b n) q⟩, fun b u q n _ => by rw [upd_ne (hx b n)]; exact n, fun b u q _ => ?_,
    fun b xs q => by rw [upd_ne (hm b _ q fun z => z)]; exact q, fun b u xs q => by rw [upd_ne (hm b _ q fun z => z)]; exact q, fun b ps q => ⟨#[], by rw [upd_ne (hm b _ q fun z => z), q]; simp⟩⟩
  by_cases hbe : b = e
  · subst hbe; exact heo
  · exact ⟨u, k b u hbe q⟩
theorem Un.mono (u : Un fs ex H H1 h h1) (hs : ∀ b ∈ fs, b ∈ fs') (hx : ∀ b ∈ ex, b ∈ ex') : Un fs' ex' H H1 h h1 :=
  ⟨fun b ob q n hb he => u.keep b ob q n (fun z => hb (hs b z)) fun z => he (hx b z), fun _ _ q n _ he => u.any q n fun z => he (hx _ z), fun b ob q n he => u.free b ob q n fun z => he (hx b z), fun b ob q he => u.there b ob q fun z => he (hx b z), u.tups, u.frzs, u.tbls⟩
end
def trk (h : Heap) (H : Hp) : List Addr := (List.range h.objs.size).filter fun a => (H a).isSome
def hidT (h : Heap) (H : Hp) : Heap := PySem.W.hideAll h (trk h H)
theorem hidT_size (h : Heap) (H : Hp) : (hidT h H).objs.size = h.objs.size := PySem.W.hideAll_size _ _
theorem hidT_get {h : Heap} {H : Hp} {b : Addr} {o : Obj} (e : h.get? b = some o) (n : H b = none) : (hidT h H).get? b = some o :=
  PySem.W.hideAll_get _ e fun hm => by
    have q : (H b).isSome = true := (List.mem_filter.mp hm).2
    rw [n] at q; simp at q
theorem of_hidT {h : Heap} {H : Hp} {b : Addr} {o : Obj} (e : (hidT h H).get? b = some o) : h.get? b = some o ∧ H b = none := by
  have e' : h.get? b = some o := PySem.W.of_hideAll (trk h H) e
  refine ⟨e', ?_⟩
  cases q : H b with
  | none => rfl
  | some x =>
    have hm : b ∈ trk h H := List.mem_filter.mpr ⟨List.mem_range.mpr (Heap.lt_size e'), by simp [q]⟩
    have z : (hidT h H).get? b = none := PySem.W.hideAll_none (trk h H) hm
    rw [z] at e; cases e
def allNews (g h : Heap) (L : Addr) : List (Addr × Obj) := (List.range h.objs.size).filterMap fun a => if a = L ∨ (g.get? a).isSome = true then none else (h.get? a).map fun o => (a, o)
def rest (g h : Heap) (L d : Addr) : List (Addr × Obj) := (allNews g h L).filter fun p => decide (p.1 ≠ d)
end L2
namespace L2
open PySem PySem.Spec PyProof.Rows
structure Mod (K : PySem.W.Frag) (mg : Str → Option Value) (base : Heap) : Prop where
  kin : K.In base
  glob : base.Ns mainGlobals mg
  blt : ∃ mb, base.Ns builtinsNs mb ∧ ∀ x : Str, x ≠ "__name__" → mb x = bootBuiltins x
  nolimit : base.NoLimit
structure Cx where
  prog : Program
  w : World
  K : PySem.W.Frag
  mg : Str → Option Value
  base : Heap
  A : Around
  N : List Str
  s₀ : Shared
  H₀ : Hp
  env : Env
  outer : List Env
  stack : List Env
  ex : List Addr
  fn : Str → Bool
  calm : Bool
  pn : List (Addr × Obj)
  xe : Value → Shared → Prop
def frs (l : List Env) : List Addr := l.filterMap (·.frame)
abbrev Cx.fs (X : Cx) : List Addr := frs X.outer
def Vis (sc : Scope) (x : Str) : Prop := sc.names.lookup x = some .local ∨ sc.names.lookup x = some .cell ∨ sc.names.lookup x = some .free
def Loc (sc : Scope) (x : Str) : Prop := sc.names.lookup x = some .local ∨ sc.names.lookup x = some .cell
def Look (env : Env) (h : Heap) (m : Str → Option Value) (x : Str) (u : Value) : Prop :=
  (env.kindOf x = some .local ∧ m x = some u) ∨ ((env.kindOf x = some .cell ∨ env.kindOf x = some .free) ∧ ∃ c, env.cells.lookup x = some c ∧ h.IsCell c (some u))
structure Cx.Ok (X : Cx) : Prop where
  mod : Mod X.K X.mg X.base
  kind : X.env.scope.kind = .function
  glob : X.env.globals = mainGlobals
  blt : X.env.builtins = builtinsNs
  above : X.s₀.heap.objs.size ≤ X.env.locals
  inj : ∀ x y c, X.env.cells.lookup x = some c → X.env.cells.lookup y = some c → x = y
  has : ∀ x, (X.env.kindOf x = some .cell ∨ X.env.kindOf x = some .free) → ∃ c, X.env.cells.lookup x = some c
  cab : ∀ x c, X.fn x = true → X.env.cells.lookup x = some c → X.s₀.heap.objs.size ≤ c
  hd : X.calm = true → X.A.handled = none
  frames : X.A.frames = some X.stack
  stk : X.stack = X.outer ∨ (X.stack = X.env :: X.outer ∧ X.env.frame = some X.env.locals)
  exf : ∀ b ∈ X.ex, b ≠ X.env.locals ∧ ∀ x c, X.env.cells.lookup x = some c → c ≠ b
  bs : ∀ b o, X.base.get? b = some o → X.s₀.heap.get? b = some o ∧ X.H₀ b = none
  bsz : X.base.objs.size ≤ X.s₀.heap.objs.size
  noex : ∀ b o, X.base.get? b = some o → b ∉ X.ex
  exfs : ∀ b ∈ X.ex, b ∉ X.fs
  funs : X.s₀.heap.FunFrames X.base X.outer
  frf : ∀ b ∈ X.fs, X.H₀ b = none
structure Inv (X : Cx) (pins : List (Addr × Obj)) (σ : List (Option V)) (H : Hp) (s : Shared) : Prop where
  ok : X.Ok
  os : s.os = X.s₀.os
  bare : AllBare s.gens
  base : Un X.fs X.ex X.H₀ H X.s₀.heap s.heap
  loc : ∃ m, s.heap.Ns X.env.locals m ∧ ∀ (i : Nat) (x : Str) (v : V), X.N[i]? = some x → σ[i]? = some (some v) → Vis X.env.scope x → ∃ u, RelV v u ∧ Look X.env s.heap m x u
  cell : ∀ x c, X.env.cells.lookup x = some c → ∃ v, s.heap.IsCell c v
  free : H X.env.locals = none
  freeC : ∀ x c, X.env.cells.lookup x = some c → H c = none
  pin : ∀ p ∈ X.pn ++ pins, s.heap.get? p.1 = some p.2 ∧ H p.1 = none ∧ p.1 ≠ X.env.locals ∧ p.1 ∉ X.fs ∧ ∀ v, p.2.data ≠ .cell v
  hok : HOk X.prog X.w H s.heap
  len : σ.length = X.N.length
section
variable {X : Cx} {pins : List (Addr × Obj)} {σ : List (Option V)} {H H' : Hp} {s : Shared} {h' : Heap}
theorem Cx.Ok.nofr (ok : X.Ok) {b : Addr} {o : Obj} (e : X.base.get? b = some o) : b ∉ X.fs := fun hb => by
  have := (ok.funs.mem hb).1
  rw [e] at this; cases this
theorem Inv.bs (I : Inv X pins σ H s) : ∀ b o, X.base.get? b = some o → s.heap.get? b = some o ∧ H b = none := fun b o e =>
  ⟨I.base.keep b o (I.ok.bs b o e).1 (I.ok.bs b o e).2 (I.ok.nofr e) (I.ok.noex b o e), I.base.free b o (I.ok.bs b o e).1 (I.ok.bs b o e).2 (I.ok.noex b o e)⟩
theorem Inv.bk (I : Inv X pins σ H s) : ∀ b o, X.base.get? b = some o → s.heap.get? b = some o := fun b o e => (I.bs b o e).1
theorem Inv.mod (I : Inv X pins σ H s) : Mod X.K X.mg X.base := I.ok.mod
theorem Inv.kIn (I : Inv X pins σ H s) : X.K.In s.heap := I.ok.mod.kin.keeps I.bk
theorem Inv.nolimit (I : Inv X pins σ H s) : s.heap.NoLimit := I.ok.mod.nolimit.keeps I.bk
theorem Inv.fr (I : Inv X pins σ H s) : ∃ m, Fr X.base X.env.locals s.heap m :=
  let ⟨m, hn, _⟩ := I.loc
  ⟨m, hn, I.bk, Nat.le_trans I.ok.bsz I.ok.above⟩
theorem Inv.lt (I : Inv X pins σ H s) : X.env.locals < s.heap.objs.size := let ⟨_, hn, _⟩ := I.loc; hn.lt
theorem Inv.sz (I : Inv X pins σ H s) : X.s₀.heap.objs.size ≤ s.heap.objs.size := Nat.le_trans I.ok.above (Nat.le_of_lt I.lt)
theorem Inv.nofs (I : Inv X pins σ H s) {a : Addr} (h : s.heap.objs.size ≤ a) : a ∉ X.fs := fun hb => by
  obtain ⟨_, o, ho, _⟩ := I.ok.funs.mem hb
  exact absurd (Nat.lt_of_lt_of_le (Heap.lt_size ho) (Nat.le_trans I.sz h)) (Nat.lt_irrefl _)
theorem Inv.cne (I : Inv X pins σ H s) : ∀ x c, X.env.cells.lookup x = some c → c ≠ X.env.locals := fun x c e z => by
  obtain ⟨v, o, ho, hd⟩ := I.cell x c e
  obtain ⟨m, ⟨o', es, ep, ho', hd', _⟩, _⟩ := I.loc
  rw [z, ho'] at ho; cases ho; rw [hd'] at hd; cases hd
theorem Inv.funs (I : Inv X pins σ H s) : s.heap.FunFrames X.base X.outer := by
  have all : ∀ (l : List Env), (∀ b ∈ frs l, b ∈ X.fs) → X.s₀.heap.FunFrames X.base l → s.heap.FunFrames X.base l := by
    intro l
    induction l with
    | nil => intro _ _; trivial
    | cons env r ih =>
      intro hs hl
      obtain ⟨hk, ⟨L, o, hf, hn, ho, hd⟩, hr⟩ := hl
      have hL : L ∈ X.fs := hs L (by unfold frs; rw [List.filterMap_cons, hf]; exact List.mem_cons_self)
      obtain ⟨sl, e⟩ := I.base.slot L o ho (I.ok.frf L hL) hL fun z => I.ok.exfs L z hL
      exact ⟨hk, ⟨L, _, hf, hn, e, hd⟩, ih (fun b hb => hs b (by unfold frs; rw [List.filterMap_cons, hf]; exact List.mem_cons_of_mem _ hb)) hr⟩
  exact all X.outer (fun _ hb => hb) I.ok.funs
theorem Inv.stack (I : Inv X pins σ H s) : s.heap.FunFrames X.base X.stack := by
  rcases I.ok.stk with e | ⟨e, hf⟩
  · rw [e]; exact I.funs
  · rw [e]
    obtain ⟨m, hn, _⟩ := I.loc
    refine .cons (by rw [I.ok.kind]; decide) hf hn ?_ I.funs
    exact Heap.get?_none_of_le (Nat.le_trans I.ok.bsz I.ok.above)
theorem Inv.stkSub (I : Inv X pins σ H s) : ∀ b ∈ frs X.stack, b ∈ X.env.locals :: X.fs := fun b hb => by
  rcases I.ok.stk with e | ⟨e, hf⟩
  · rw [e] at hb; exact List.mem_cons_of_mem _ hb
  · rw [e] at hb
    unfold frs at hb
    rw [List.filterMap_cons, hf] at hb
    exact hb
theorem Inv.stkFree (I : Inv X pins σ H s) : ∀ b ∈ frs X.stack, H b = none := fun b hb => by
  rcases List.mem_cons.mp (I.stkSub b hb) with e | hb
  · rw [e]; exact I.free
  · obtain ⟨_, o, ho, _⟩ := I.ok.funs.mem hb
    exact I.base.free b o ho (I.ok.frf b hb) fun z => I.ok.exfs b z hb
theorem Inv.step {g' : Array GenState} {t' : Nat} {d' : Drawn} {ch : List Addr} (I : Inv X pins σ H s)
    (hch : ∀ b ∈ ch, (b ∈ X.ex ∨ X.s₀.heap.objs.size ≤ b) ∧ b ≠ X.env.locals ∧ (∀ x c, X.env.cells.lookup x = some c → c ≠ b) ∧ ∀ p ∈ X.pn ++ pins, p.1 ≠ b)
    (keep : ∀ b o, b ≠ X.env.locals → b ∉ X.fs → b ∉ ch → s.heap.get? b = some o → H b = none → h'.get? b = some o)
    (slot : ∀ b o, b ≠ X.env.locals → b ∈ X.fs → b ∉ ch → s.heap.get? b = some o → H b = none → ∃ sl, h'.get? b = some { o with slots := sl }) (free : ∀ b o, b ∉ ch → s.heap.get? b = some o → H b = none → H' b = none)
    (there : ∀ b o, b ∉ ch → s.heap.get? b = some o → ∃ o', h'.get? b = some o')
    (tups : ∀ b xs, H b = some (.tup xs) → H' b = some (.tup xs)) (frzs : ∀ b o u, H b = some (.frz o u) → H' b = some (.frz o u)) (tbls : ∀ b ps, H b = some (.tbl ps) → ∃ more, H' b = some (.tbl (ps ++ more)))
    (ns : ∀ m, s.heap.Ns X.env.locals m → h'.Ns X.env.locals m) (hok : HOk X.prog X.w H' h') (hg : AllBare g') :
    Inv X pins σ H' { s with heap := h', gens := g', drawn := d', toks := t' } := by
  have neL : ∀ b o, X.s₀.heap.get? b = some o → b ≠ X.env.locals := fun b o e => Nat.ne_of_lt (Nat.lt_of_lt_of_le (Heap.lt_size e) I.ok.above)
  have neC : ∀ b o, X.s₀.heap.get? b = some o → b ∉ X.ex → b ∉ ch := fun b o e hx hb => by
    rcases (hch b hb).1 with z | z
    · exact hx z
    · exact absurd (Nat.lt_of_lt_of_le (Heap.lt_size e) z) (Nat.lt_irrefl _)
  have cellK : ∀ x c, X.env.cells.lookup x = some c → ∀ v, s.heap.IsCell c v → h'.IsCell c v := fun x c e v ⟨o, ho, hd⟩ => by
    have nch : c ∉ ch := fun z => (hch c z).2.2.1 x c e rfl
    by_cases hc : c ∈ X.fs
    · obtain ⟨sl, q⟩ := slot c o (I.cne x c e) hc nch ho (I.freeC x c e)
      exact ⟨_, q, hd⟩
    · exact ⟨o, keep c o (I.cne x c e) hc nch ho (I.freeC x c e), hd⟩
  refine ⟨I.ok, I.os, hg, ⟨fun b o e n hb hx => ?_, fun b o e n hb hx => ?_, fun b o e n hx => ?_, fun b o e hx => ?_, fun b xs e => tups b xs (I.base.tups b xs e), fun b o xs e => frzs b o xs (I.base.frzs b o xs e), fun b ps e => ?_⟩, ?_, fun x c e => ?_, ?_, fun x c e => ?_, fun p hp => ?_, hok, I.len⟩
  · exact keep b o (neL b o e) hb (neC b o e hx) (I.base.keep b o e n hb hx) (I.base.free b o e n hx)
  · obtain ⟨sl, e1⟩ := I.base.slot b o e n hb hx
    obtain ⟨sl', e2⟩ := slot b _ (neL b o e) hb (neC b o e hx) e1 (I.base.free b o e n hx)
    exact ⟨sl', e2⟩
  · obtain ⟨o', e1⟩ := I.base.there b o e hx
    exact free b o' (neC b o e hx) e1 (I.base.free b o e n hx)
  · obtain ⟨o', e1⟩ := I.base.there b o e hx
    exact there b o' (neC b o e hx) e1
  · obtain ⟨m1, e1⟩ := I.base.tbls b ps e
    obtain ⟨m2, e2⟩ := tbls b _ e1
    exact ⟨m1 ++ m2, by rw [e2, Array.append_assoc]⟩
  · obtain ⟨m, hn, hl⟩ := I.loc
    refine ⟨m, ns m hn, fun i x v e1 e2 e3 => ?_⟩
    obtain ⟨u, r, l⟩ := hl i x v e1 e2 e3
    refine ⟨u, r, ?_⟩
    rcases l with l | ⟨k, c, e, z⟩
    · exact .inl l
    · exact .inr ⟨k, c, e, cellK x c e _ z⟩
  · obtain ⟨v, z⟩ := I.cell x c e
    exact ⟨v, cellK x c e v z⟩
  · obtain ⟨m, ⟨o, _, _, ho, _⟩, _⟩ := I.loc
    exact free _ o (fun z => (hch _ z).2.1 rfl) ho I.free
  · obtain ⟨v, o, ho, hd⟩ := I.cell x c e
    exact free c o (fun z => (hch c z).2.2.1 x c e rfl) ho (I.freeC x c e)
  · obtain ⟨e, n, ne, nf, d⟩ := I.pin p hp
    have nch : p.1 ∉ ch := fun z => (hch p.1 z).2.2.2 p hp rfl
    exact ⟨keep p.1 p.2 ne nf nch e n, free p.1 p.2 nch e n, ne, nf, d⟩
theorem Inv.un {t' : Nat} (I : Inv X pins σ H s) (u : Un X.fs [] H H' s.heap h') (hok : HOk X.prog X.w H' h') : Inv X pins σ H' { s with heap := h', toks := t' } := by
  obtain ⟨m, ⟨o, es, ep, ho, r⟩, _⟩ := id I.loc
  obtain ⟨sl, hL⟩ := u.any ho I.free (by simp)
  exact I.step (g' := s.gens) (d' := s.drawn) (ch := []) (fun _ z => nomatch z) (fun b o _ hb _ e n => u.keep b o e n hb (by simp)) (fun b o _ hb _ e n => u.slot b o e n hb (by simp)) (fun b o _ e n => u.free b o e n (by simp)) (fun b o _ e => u.there b o e (by simp)) u.tups u.frzs u.tbls (fun m' hm => by
    obtain ⟨o', es', ep', ho', r'⟩ := hm
    rw [ho] at ho'; cases ho'
    exact ⟨_, es', ep', hL, r'⟩) hok I.bare
theorem Inv.call {g' : Array GenState} {t' : Nat} {d' : Drawn} {ch : List Addr} (I : Inv X pins σ H s) (u : Un (frs X.stack) ch H H' s.heap h') (hok : HOk X.prog X.w H' h') (hg : AllBare g')
    (hch : ∀ b ∈ ch, (b ∈ X.ex ∨ X.s₀.heap.objs.size ≤ b) ∧ b ≠ X.env.locals ∧ (∀ x c, X.env.cells.lookup x = some c → c ≠ b) ∧ ∀ p ∈ X.pn ++ pins, p.1 ≠ b) :
    Inv X pins σ H' { s with heap := h', gens := g', drawn := d', toks := t' } := by
  obtain ⟨m, ⟨o, es, ep, ho, r⟩, _⟩ := id I.loc
  obtain ⟨sl, hL⟩ := u.any ho I.free fun z => (hch _ z).2.1 rfl
  exact I.step (ch := ch) hch (fun b o hL hb hc e n => u.keep b o e n (fun z => (List.mem_cons.mp (I.stkSub b z)).elim hL hb) hc) (fun b o _ _ hc e n => u.any e n hc) (fun b o hc e n => u.free b o e n hc) (fun b o hc e => u.there b o e hc) u.tups u.frzs u.tbls (fun m' hm => by
    obtain ⟨o', es', ep', ho', r'⟩ := hm
    rw [ho] at ho'; cases ho'
    exact ⟨_, es', ep', hL, r'⟩) hok hg
theorem Inv.turned {t' : Nat} {it : Addr} (I : Inv X pins σ H s) (k : ∀ b o, b ≠ it → s.heap.get? b = some o → h'.get? b = some o) (hn : H it = none) (hL : it ≠ X.env.locals)
    (h1 : it ∈ X.ex ∨ X.s₀.heap.objs.size ≤ it) (h2 : ∀ x c, X.env.cells.lookup x = some c → c ≠ it) (h3 : ∀ p ∈ X.pn ++ pins, p.1 ≠ it) : Inv X pins σ H { s with heap := h', toks := t' } := by
  have nit : ∀ b u, H b = some u → b ≠ it := fun b u e z => by rw [z, hn] at e; cases e
  refine I.step (g' := s.gens) (d' := s.drawn) (ch := [it]) (fun b hb => ?_) (fun b o _ _ hc e _ => k b o (fun z => hc (by simp [z])) e) (fun b o _ _ hc e _ => ⟨o.slots, k b o (fun z => hc (by simp [z])) e⟩) (fun _ _ _ _ n => n)
    (fun b o hc e => ⟨o, k b o (fun z => hc (by simp [z])) e⟩) (fun _ _ e => e) (fun _ _ _ e => e) (fun b ps e => ⟨#[], by rw [e]; simp⟩) (fun m hm => ?_) (fun b u e => ?_) I.bare
  · have e : b = it := by simpa using hb
    subst e
    exact ⟨h1, hL, h2, h3⟩
  · obtain ⟨o, es, ep, ho, r⟩ := hm
    exact ⟨o, es, ep, k _ o (Ne.symm hL) ho, r⟩
  · refine (I.hok b u e).stay (fun c v hc q => k c v ?_ q) (fun _ q => q) fun _ _ q => q
    rcases hc with z | z
    · rw [z]; exact nit b u e
    · exact nit c _ z
theorem Inv.tok (I : Inv X pins σ H s) (t : Nat) : Inv X pins σ H { s with toks := t } := I.un (h' := s.heap) (t' := t) Un.refl I.hok
theorem Inv.kept {t' : Nat} (I : Inv X pins σ H s) (k : ∀ b u, s.heap.get? b = some u → h'.get? b = some u) : Inv X pins σ H { s with heap := h', toks := t' } := I.un (Un.kept k) (I.hok.kept k)
theorem Inv.laid {a : Addr} {o : HO} {t' : Nat} (I : Inv X pins σ H s) (k : ∀ b u, s.heap.get? b = some u → h'.get? b = some u) (hp : s.heap.objs.size ≤ a) (new : ObjOk X.prog X.w (upd H a o) h' a o) :
    Inv X pins σ (upd H a o) { s with heap := h', toks := t' } := I.un (Un.laid k hp (I.hok.fresh hp)) (I.hok.laid k hp new)
theorem Inv.write {x e : Addr} {o : HO} {t' : Nat} (I : Inv X pins σ H s) (mu : Mut (H x)) (he : e = x ∨ H e = some (.own x)) (k : ∀ b u, b ≠ e → s.heap.get? b = some u → h'.get? b = some u) (heo : ∃ u, h'.get? e = some u)
    (new : ObjOk X.prog X.w (upd H x o) h' x o) : Inv X pins σ (upd H x o) { s with heap := h', toks := t' } := I.un (Un.write mu he k heo) (I.hok.write mu he k heo new)
theorem Inv.weak {σ' : List (Option V)} (I : Inv X pins σ H s) (hl : σ'.length = σ.length) (w : ∀ (i : Nat) v, σ'[i]? = some (some v) → σ[i]? = some (some v)) : Inv X pins σ' H s :=
  ⟨I.ok, I.os, I.bare, I.base, let ⟨m, hn, hl'⟩ := I.loc; ⟨m, hn, fun i x v e1 e2 e3 => hl' i x v e1 (w i v e2) e3⟩, I.cell, I.free, I.freeC, I.pin, I.hok, hl.trans I.len⟩
theorem Inv.pins_of {pins' : List (Addr × Obj)} (I : Inv X pins σ H s) (h : ∀ p ∈ pins', s.heap.get? p.1 = some p.2 ∧ H p.1 = none ∧ p.1 ≠ X.env.locals ∧ p.1 ∉ X.fs ∧ ∀ v, p.2.data ≠ .cell v) : Inv X pins' σ H s :=
  ⟨I.ok, I.os, I.bare, I.base, I.loc, I.cell, I.free, I.freeC, fun p hp => (List.mem_append.mp hp).elim (fun z => I.pin p (List.mem_append_left _ z)) (h p), I.hok, I.len⟩
theorem nodup_ix {N : List Str} (hN : N.Nodup) {i j : Nat} {x : Str} (a : N[i]? = some x) (b : N[j]? = some x) : i = j := by
  obtain ⟨h1, e1⟩ := List.getElem?_eq_some_iff.mp a
  obtain ⟨h2, e2⟩ := List.getElem?_eq_some_iff.mp b
  exact (List.getElem_inj hN).mp (e1.trans e2.symm)
theorem store_ok2 {M : Model} {A : Around} {E : Value → Shared → Prop} {i : Nat} {x : Str} {v : V} {u : Value} {Q : Unit → Shared → Prop} (I : Inv X pins σ H s) (hN : X.N.Nodup) (hi : X.N[i]? = some x) (hx : Loc X.env.scope x) (r : RelV v u)
    (h : ∀ s', Inv X pins (σ.set i (some v)) H s' → (∃ a, Heap.SameBut a s.heap s'.heap ∧ (a = X.env.locals ∨ X.env.cells.lookup x = some a)) → Q () s') (hf : X.fn x = true ∨ X.env.scope.names.lookup x = some .local := by first | exact .inl rfl | exact .inr rfl | assumption) : wpAny M A (storeName X.env x u) Q E s := by
  obtain ⟨m, hn, hl⟩ := id I.loc
  have hcls : (X.env.scope.kind == .class || (X.env.scope.kind == .module && X.env.locals != X.env.globals)) = false := by rw [I.ok.kind]; rfl
  have hiσ : i < σ.length := by rw [I.len]; exact (List.getElem?_eq_some_iff.mp hi).1
  have cne := I.cne
  have tracked : ∀ {a : Addr} {h' : Heap}, (∃ o, s.heap.get? a = some o ∧ H a = none) → Heap.SameBut a s.heap h' → HOk X.prog X.w H h' := fun {a h'} ha hs b ob e => by
    obtain ⟨_, _, hfree⟩ := ha
    refine (I.hok b ob e).stay (fun c w' hc q => (hs.2 c ?_).trans q) (fun _ q => q) fun _ _ q => q
    rintro rfl
    rcases hc with rfl | hc
    · rw [hfree] at e; cases e
    · rw [hfree] at hc; cases hc
  rcases hx with hk | hk
  · refine wpAny_storeName_local hk hn (fun h' hn' hs => ?_) hcls
    obtain ⟨oL, _, _, hoL, _⟩ := id hn
    refine h _ ⟨I.ok, I.os, I.bare, ⟨fun b o e n hb hx => ?_, fun b o e n hb hx => ?_, I.base.free, fun b o e hx => ?_, I.base.tups, I.base.frzs, I.base.tbls⟩, ⟨_, hn', fun j y v' e1 e2 e3 => ?_⟩, fun y c e => ?_, I.free, I.freeC, fun p hp => ?_, tracked ⟨oL, hoL, I.free⟩ hs, by simpa using I.len⟩ ⟨_, hs, .inl rfl⟩
    · exact (hs.2 b (Nat.ne_of_lt (Nat.lt_of_lt_of_le (Heap.lt_size e) I.ok.above))).trans (I.base.keep b o e n hb hx)
    · obtain ⟨sl, e1⟩ := I.base.slot b o e n hb hx
      exact ⟨sl, (hs.2 b (Nat.ne_of_lt (Nat.lt_of_lt_of_le (Heap.lt_size e) I.ok.above))).trans e1⟩
    · obtain ⟨o', e1⟩ := I.base.there b o e hx
      exact ⟨o', (hs.2 b (Nat.ne_of_lt (Nat.lt_of_lt_of_le (Heap.lt_size e) I.ok.above))).trans e1⟩
    · by_cases hj : j = i
      · subst hj
        rw [hi] at e1; cases e1
        rw [List.getElem?_set_self hiσ] at e2
        cases e2
        exact ⟨u, r, .inl ⟨hk, by simp⟩⟩
      · rw [List.getElem?_set_ne (Ne.symm hj)] at e2
        obtain ⟨u', r', q⟩ := hl j y v' e1 e2 e3
        refine ⟨u', r', ?_⟩
        rcases q with ⟨k, e⟩ | ⟨k, c, e, z⟩
        · refine .inl ⟨k, ?_⟩
          have : y ≠ x := fun e => hj (nodup_ix hN e1 (e ▸ hi))
          simp [this, e]
        · exact .inr ⟨k, c, e, z.sameBut hs (cne y c e)⟩
    · obtain ⟨w', z⟩ := I.cell y c e
      exact ⟨w', z.sameBut hs (cne y c e)⟩
    · obtain ⟨e, n, ne, nf, d⟩ := I.pin p hp
      exact ⟨(hs.2 p.1 ne).trans e, n, ne, nf, d⟩
  · have hfn : X.fn x = true := by
      rcases hf with z | z
      · exact z
      · rw [z] at hk; cases hk
    obtain ⟨c, hc⟩ := I.ok.has x (.inl hk)
    obtain ⟨w', z⟩ := I.cell x c hc
    refine wpAny_storeName_cell I.ok.kind hk hc z (fun h' hc' hs => ?_)
    obtain ⟨oc, hoc, hocd⟩ := id z
    refine h { s with heap := h' } ⟨I.ok, I.os, I.bare, ⟨fun b o e n hb hx => ?_, fun b o e n hb hx => ?_, I.base.free, fun b o e hx => ?_, I.base.tups, I.base.frzs, I.base.tbls⟩, ⟨m, hn.sameBut hs (Ne.symm (cne x c hc)), fun j y v' e1 e2 e3 => ?_⟩, fun y c' e => ?_, I.free, I.freeC, fun p hp => ?_, tracked ⟨oc, hoc, I.freeC x c hc⟩ hs, by simpa using I.len⟩ ⟨c, hs, .inr hc⟩
    · exact (hs.2 b (Nat.ne_of_lt (Nat.lt_of_lt_of_le (Heap.lt_size e) (I.ok.cab x c hfn hc)))).trans (I.base.keep b o e n hb hx)
    · obtain ⟨sl, e1⟩ := I.base.slot b o e n hb hx
      exact ⟨sl, (hs.2 b (Nat.ne_of_lt (Nat.lt_of_lt_of_le (Heap.lt_size e) (I.ok.cab x c hfn hc)))).trans e1⟩
    · obtain ⟨o', e1⟩ := I.base.there b o e hx
      exact ⟨o', (hs.2 b (Nat.ne_of_lt (Nat.lt_of_lt_of_le (Heap.lt_size e) (I.ok.cab x c hfn hc)))).trans e1⟩
    · by_cases hj : j = i
      · subst hj
        rw [hi] at e1; cases e1
        rw [List.getElem?_set_self hiσ] at e2
        cases e2
        exact ⟨u, r, .inr ⟨.inl hk, c, hc, hc'⟩⟩
      · rw [List.getElem?_set_ne (Ne.symm hj)] at e2
        obtain ⟨u', r', q⟩ := hl j y v' e1 e2 e3
        refine ⟨u', r', ?_⟩
        rcases q with q | ⟨k, c', e, z'⟩
        · exact .inl q
        · refine .inr ⟨k, c', e, z'.sameBut hs ?_⟩
          rintro rfl
          exact hj (nodup_ix hN e1 (I.ok.inj _ _ _ e hc ▸ hi))
    · by_cases hcc : c' = c
      · subst hcc; exact ⟨_, hc'⟩
      · obtain ⟨w2, z2⟩ := I.cell y c' e
        exact ⟨w2, z2.sameBut hs hcc⟩
    · obtain ⟨e, n, ne, nf, d⟩ := I.pin p hp
      refine ⟨(hs.2 p.1 ?_).trans e, n, ne, nf, d⟩
      intro q
      rw [q, hoc] at e
      have q' : oc = p.2 := Option.some.inj e
      exact d w' (by rw [← q']; exact hocd)
theorem store_ok {M : Model} {A : Around} {E : Value → Shared → Prop} {i : Nat} {x : Str} {v : V} {u : Value} {Q : Unit → Shared → Prop} (I : Inv X pins σ H s) (hN : X.N.Nodup) (hi : X.N[i]? = some x) (hx : Loc X.env.scope x) (r : RelV v u)
    (h : ∀ s', Inv X pins (σ.set i (some v)) H s' → Q () s') (hf : X.fn x = true ∨ X.env.scope.names.lookup x = some .local := by first | exact .inl rfl | exact .inr rfl | assumption) : wpAny M A (storeName X.env x u) Q E s :=
  store_ok2 I hN hi hx r (fun s' I' _ => h s' I') hf
theorem Inv.call' {s' : Shared} {ch : List Addr} (I : Inv X pins σ H s) (ho : s'.os = s.os) (u : Un (frs X.stack) ch H H' s.heap s'.heap) (hok : HOk X.prog X.w H' s'.heap) (hg : AllBare s'.gens)
    (hch : ∀ b ∈ ch, (b ∈ X.ex ∨ X.s₀.heap.objs.size ≤ b) ∧ b ≠ X.env.locals ∧ (∀ x c, X.env.cells.lookup x = some c → c ≠ b) ∧ ∀ p ∈ X.pn ++ pins, p.1 ≠ b) : Inv X pins σ H' s' := by
  obtain ⟨h', g', d', t', o'⟩ := s'
  have e : o' = s.os := ho
  subst e
  exact I.call (g' := g') (t' := t') (d' := d') u hok hg hch
end
abbrev XK := Value → Option Addr → Hp → Prop
abbrev St := List (Option V)
abbrev VK := V → Hp → Prop
abbrev TE := St → Hp → VK → Prop
abbrev TT := St → Hp → (Bool → Hp → Prop) → Prop
abbrev TA := St → Hp → (List V → Hp → Prop) → Prop
structure Ends where
  nx : St → Hp → Prop
  rt : VK
  bk : St → Hp → Prop := fun _ _ => False
  ct : St → Hp → Prop := fun _ _ => False
abbrev TS := Ends → St → Hp → Prop
def EP (X : Cx) (pins : List (Addr × Obj)) (σ : St) (Q : VK) (u : Value) (s' : Shared) : Prop := ∃ v H', Inv X pins σ H' s' ∧ RelV v u ∧ Q v H'
def TP (X : Cx) (pins : List (Addr × Obj)) (σ : St) (Q : Bool → Hp → Prop) (b : Bool) (s' : Shared) : Prop := ∃ H', Inv X pins σ H' s' ∧ Q b H'
def AP (X : Cx) (pins : List (Addr × Obj)) (σ : St) (Q : List V → Hp → Prop) (us : List Value) (s' : Shared) : Prop := ∃ vs H', Inv X pins σ H' s' ∧ Vals vs us ∧ Q vs H'
def SP (X : Cx) (pins : List (Addr × Obj)) (D : Ends) (f : Flow) (s' : Shared) : Prop :=
  match f with
  | .next => ∃ σ' H', Inv X pins σ' H' s' ∧ D.nx σ' H'
  | .brk => ∃ σ' H', Inv X pins σ' H' s' ∧ D.bk σ' H'
  | .cont => ∃ σ' H', Inv X pins σ' H' s' ∧ D.ct σ' H'
  | .ret u => ∃ v σ' H', Inv X pins σ' H' s' ∧ RelV v u ∧ D.rt v H'
def PE (X : Cx) (e : Expr) (t : TE) : Prop :=
  ∀ (pins : List (Addr × Obj)) (s : Shared) (σ : St) (H : Hp) (Q : VK), Inv X pins σ H s → t σ H Q → wpAny (model X.prog X.w) X.A (eval e X.env) (EP X pins σ Q) X.xe s
def PT (X : Cx) (e : Expr) (t : TT) : Prop :=
  ∀ (pins : List (Addr × Obj)) (s : Shared) (σ : St) (H : Hp) (Q : Bool → Hp → Prop), Inv X pins σ H s → t σ H Q → wpAny (model X.prog X.w) X.A (isTrue e X.env (eval e X.env)) (TP X pins σ Q) X.xe s
def PW (X : Cx) (e : Expr) (t : TT) : Prop :=
  ∀ (whole : Sem Value) (pins : List (Addr × Obj)) (s : Shared) (σ : St) (H : Hp) (Q : Bool → Hp → Prop), Inv X pins σ H s → t σ H Q → wpAny (model X.prog X.w) X.A (isTrue e X.env whole) (TP X pins σ Q) X.xe s
theorem PW.pt {X : Cx} {e : Expr} {t : TT} (h : PW X e t) : PT X e t := h _
def PA (X : Cx) (es : List Expr) (t : TA) : Prop :=
  ∀ (pos : Pos) (pins : List (Addr × Obj)) (s : Shared) (σ : St) (H : Hp) (Q : List V → Hp → Prop), Inv X pins σ H s → t σ H Q → wpAny (model X.prog X.w) X.A (spliced (backTo pos (starEach es X.env))) (AP X pins σ Q) X.xe s
def PS (X : Cx) (st : Stmt) (t : TS) : Prop :=
  ∀ (pins : List (Addr × Obj)) (s : Shared) (σ : St) (H : Hp) (D : Ends), Inv X pins σ H s → t D σ H → wpAny (model X.prog X.w) X.A (exec st X.env) (SP X pins D) X.xe s
def PSs (X : Cx) (st : List Stmt) (t : TS) : Prop :=
  ∀ (pins : List (Addr × Obj)) (s : Shared) (σ : St) (H : Hp) (D : Ends), Inv X pins σ H s → t D σ H → wpAny (model X.prog X.w) X.A (execs st X.env) (SP X pins D) X.xe s
theorem thn {α : Type} {t : Sem α} {Q Q' : α → Shared → Prop} {M : Model} {A : Around} {E : Value → Shared → Prop} {s : Shared} (h : wpAny M A t Q E s) (hQ : ∀ a s, Q a s → Q' a s) : wpAny M A t Q' E s := wpAny_mono h hQ fun _ _ x => x
end L2
namespace L2
open PySem PySem.Spec PyProof.Rows
section
variable {X : Cx}
def tVar (i : Nat) : TE := fun σ H Q => ∃ v, σ[i]? = some (some v) ∧ Q v H
def tC (v : V) : TE := fun _ H Q => Q v H
theorem pe_var {i : Nat} {x : Str} {pos : Pos} (hN : X.N[i]? = some x) (hv : Vis X.env.scope x) (hd : (x == ("__debug__" : Str)) = false := by decide) (hcd : (x == ("__classdict__" : Str)) = false := by decide) : PE X (.Name x pos) (tVar i) := by
  intro pins s σ H Q I h
  obtain ⟨v, e, h⟩ := h
  obtain ⟨m, hn, hl⟩ := I.loc
  obtain ⟨u, r, l⟩ := hl i x v hN e hv
  have fin : EP X pins σ Q u s := ⟨v, H, I, r, h⟩
  rcases l with ⟨hk, hm⟩ | ⟨hk, c, hc, hcell⟩
  · exact wpAny_Name (wpAny_loadName_local I.ok.kind hk hn hm fin) hd
  · rcases hk with hk | hk
    · exact wpAny_Name (wpAny_loadName_cell I.ok.kind hk hc hcell fin) hd
    · exact wpAny_Name (wpAny_loadName_free I.ok.kind hk hc hcell fin hcd) hd
theorem pe_int {i j pos} : PE X (.Constant (.int i) j pos) (tC (.int i)) := fun _ _ _ H _ I h => wpAny_Constant_int ⟨.int i, H, I.tok _, ⟨_, rfl⟩, h⟩
theorem pe_bl {b j pos} : PE X (.Constant (.bool b) j pos) (tC (.bl b)) := fun _ _ _ H _ I h => Constant_bool ⟨.bl b, H, I, rfl, h⟩
theorem pe_non {j pos} : PE X (.Constant .none j pos) (tC .non) := fun _ _ _ H _ I h => Constant_none ⟨.non, H, I, rfl, h⟩
theorem pe_str {x j pos} : PE X (.Constant (.str x) j pos) (tC (.str x)) := fun _ _ _ H _ I h => Calls.Constant_str ⟨.str x, H, I.tok _, ⟨_, rfl⟩, h⟩
def Gl (X : Cx) (x : Str) : Prop := X.env.kindOf x = some .globalImplicit
theorem ld_glob {E : Value → Shared → Prop} {pins : List (Addr × Obj)} {s : Shared} {σ : St} {H : Hp} {x : Str} {u : Value} {pos : Pos} {Q : Value → Shared → Prop} (I : Inv X pins σ H s) (hg : Gl X x) (hm : X.mg x = some u) (h : Q u s)
    (hd : (x == ("__debug__" : Str)) = false := by decide) : wpAny (model X.prog X.w) X.A (eval (.Name x pos) X.env) Q E s :=
  Calls.Name_function_global I.ok.kind hg (Calls.loadGlobal_global (by rw [I.ok.glob]; exact I.mod.glob.keeps I.bk) hm h) hd
theorem ld_blt {E : Value → Shared → Prop} {pins : List (Addr × Obj)} {s : Shared} {σ : St} {H : Hp} {x : Str} {u : Value} {pos : Pos} {Q : Value → Shared → Prop} (I : Inv X pins σ H s) (hg : Gl X x) (hm : X.mg x = none) (hv : bootBuiltins x = some u) (h : Q u s)
    (hn : x ≠ "__name__" := by decide) (hd : (x == ("__debug__" : Str)) = false := by decide) : wpAny (model X.prog X.w) X.A (eval (.Name x pos) X.env) Q E s := by
  obtain ⟨mb, h1, h2⟩ := I.mod.blt
  exact Calls.Name_function_global I.ok.kind hg (Calls.loadGlobal_builtin (by rw [I.ok.glob]; exact I.mod.glob.keeps I.bk) hm (by rw [I.ok.blt]; exact h1.keeps I.bk) ((h2 x hn).trans hv) h) hd
theorem pe_bltn {x : Str} {v : V} {u : Value} {pos : Pos} (hg : Gl X x) (hm : X.mg x = none) (hv : bootBuiltins x = some u) (r : RelV v u) (hn : x ≠ "__name__" := by decide) (hd : (x == ("__debug__" : Str)) = false := by decide) : PE X (.Name x pos) (tC v) :=
  fun _ _ _ H _ I h => ld_blt I hg hm hv ⟨v, H, I, r, h⟩ hn hd
variable {a b : Expr} {ta tb : TE} {pos : Pos}
def tB (t : TE) : TT := fun σ H Q => t σ H fun x H1 => ∃ c, x = .bl c ∧ Q c H1
theorem pt_val {e : Expr} {t : TE} (h : PE X e t) (he : ∀ whole, isTrue e X.env whole = (do let v ← whole; standAt e.pos; holding [v] (truthy v)) := by intro _; rfl) : PT X e (tB t) := by
  intro pins s σ H Q I hw
  refine isTrue_plain (thn (h pins s σ H _ I hw) fun v s1 ⟨x, H1, I1, r1, q1⟩ => ?_) (he _)
  obtain ⟨d, rfl, q⟩ := q1
  cases r1
  exact wpAny_truthy_bool ⟨H1, I1, q⟩
variable {tA tB' : TT} {rest : List Expr}
def tAnd (t u : TT) : TT := fun σ H Q => t σ H fun c H1 => if c = true then u σ H1 Q else Q false H1
def tOr (t u : TT) : TT := fun σ H Q => t σ H fun c H1 => if c = true then Q true H1 else u σ H1 Q
def tNot (t : TT) : TT := fun σ H Q => t σ H fun c H1 => Q (!c) H1
theorem pw_and1 (ha : PT X a tA) : PW X (.BoolOp .And [a] pos) tA := by
  intro wh pins s σ H Q I h
  refine isTrue_and (thn (ha pins s σ H Q I h) fun c s1 e => ?_)
  cases c with
  | true => exact isTrue_and_nil e
  | false => exact e
theorem pw_or1 (ha : PT X a tA) : PW X (.BoolOp .Or [a] pos) tA := by
  intro wh pins s σ H Q I h
  refine isTrue_or (thn (ha pins s σ H Q I h) fun c s1 e => ?_)
  cases c with
  | false => exact isTrue_or_nil e
  | true => exact e
theorem pw_and (ha : PT X a tA) (hb : PW X (.BoolOp .And (b :: rest) pos) tB') : PW X (.BoolOp .And (a :: b :: rest) pos) (tAnd tA tB') := by
  intro wh pins s σ H Q I h
  refine isTrue_and (thn (ha pins s σ H _ I h) fun c s1 ⟨H1, I1, q1⟩ => ?_)
  cases c with
  | true => exact hb wh pins s1 σ H1 Q I1 q1
  | false => exact ⟨H1, I1, q1⟩
theorem pw_or (ha : PT X a tA) (hb : PW X (.BoolOp .Or (b :: rest) pos) tB') : PW X (.BoolOp .Or (a :: b :: rest) pos) (tOr tA tB') := by
  intro wh pins s σ H Q I h
  refine isTrue_or (thn (ha pins s σ H _ I h) fun c s1 ⟨H1, I1, q1⟩ => ?_)
  cases c with
  | true => exact ⟨H1, I1, q1⟩
  | false => exact hb wh pins s1 σ H1 Q I1 q1
theorem pt_not (ha : PT X a tA) : PT X (.UnaryOp .Not a pos) (tNot tA) := by
  intro pins s σ H Q I h
  exact isTrue_not (ha pins s σ H (fun c H1 => Q (!c) H1) I h)
def tAndV (ta tb : TE) : TE := fun σ H Q => ta σ H fun x H1 => ∃ c, x = .bl c ∧ if c = true then tb σ H1 Q else Q (.bl false) H1
def tNotV (ta : TE) : TE := fun σ H Q => ta σ H fun x H1 => ∃ c, x = .bl c ∧ Q (.bl (!c)) H1
theorem pe_one {op} {t : TE} (h : PE X a t) : PE X (.BoolOp op [a] pos) t := fun pins s σ H Q I hw => BoolOp_one (h pins s σ H Q I hw)
theorem pe_and (ha : PE X a ta) (hb : PE X (.BoolOp .And (b :: rest) pos) tb) : PE X (.BoolOp .And (a :: b :: rest) pos) (tAndV ta tb) := by
  intro pins s σ H Q I h
  refine BoolOp_and (thn (ha pins s σ H _ I h) fun v s1 ⟨x, H1, I1, r1, q1⟩ => ?_)
  obtain ⟨c, rfl, q1⟩ := q1
  cases r1
  refine wpAny_truthy_bool ?_
  cases c with
  | true => exact hb pins s1 σ H1 Q I1 q1
  | false => exact ⟨.bl false, H1, I1, rfl, q1⟩
theorem pe_not (ha : PE X a ta) : PE X (.UnaryOp .Not a pos) (tNotV ta) := by
  intro pins s σ H Q I h
  refine UnaryOp_ (thn (ha pins s σ H _ I h) fun v s1 ⟨x, H1, I1, r1, q1⟩ => ?_)
  obtain ⟨c, rfl, q1⟩ := q1
  cases r1
  exact not_of (wpAny_truthy_bool ⟨.bl (!c), H1, I1, rfl, q1⟩)
def tIf (t : TT) (ta tb : TE) : TE := fun σ H Q => t σ H fun c H1 => if c = true then ta σ H1 Q else tb σ H1 Q
theorem pe_ifExp {c : Expr} (hc : PT X c tA) (ha : PE X a ta) (hb : PE X b tb) : PE X (.IfExp c a b pos) (tIf tA ta tb) := by
  intro pins s σ H Q I h
  refine wpAny_IfExp (thn (hc pins s σ H _ I h) fun d s1 ⟨H1, I1, q1⟩ => ?_)
  cases d with
  | true => exact ha pins s1 σ H1 Q I1 q1
  | false => exact hb pins s1 σ H1 Q I1 q1
end
end L2
namespace L2
open PySem PySem.Spec PyProof.Rows
def SqL (K : PySem.W.Frag) (H : Hp) (a : Addr) (xs : List V) : Prop :=
  Rd H a (.lst xs) ∨
    ∃ (o : Obj) (its : Array Value) (n : Nat), K.lookup a = some o ∧ o.cls = .type "list" ∧ o.dict = none ∧ o.data = .seq its n ∧ its.size ≤ sizeLine ∧ Vals xs its.toList
def SqT (K : PySem.W.Frag) (H : Hp) (a : Addr) (xs : List V) : Prop :=
  Rd H a (.tup xs) ∨
    ∃ (o : Obj) (its : Array Value) (n : Nat), K.lookup a = some o ∧ o.cls = .type "tuple" ∧ o.data = .seq its n ∧ its.size ≤ sizeLine ∧ Vals xs its.toList
def absV : Value → Option V
  | .none => some .non
  | .bool b => some (.bl b)
  | .int i _ => some (.int i)
  | .str x _ => some (.str x)
  | .bytes b _ => some (.byt b)
  | .float b _ => some (.flt b)
  | .ref a => some (.ref a)
  | .type n => some (.ty n)
  | _ => none
theorem RelV.abs {x : V} {u : Value} (r : RelV x u) : absV u = some x := by
  cases x with
  | non => cases r; rfl
  | bl _ => cases r; rfl
  | int _ => obtain ⟨t, rfl⟩ := r; rfl
  | str _ => obtain ⟨t, rfl⟩ := r; rfl
  | byt _ => obtain ⟨t, rfl⟩ := r; rfl
  | flt _ => obtain ⟨t, rfl⟩ := r; rfl
  | ref _ => cases r; rfl
  | ty _ => cases r; rfl
theorem RelV.inj {x y : V} {u : Value} (r : RelV x u) (q : RelV y u) : x = y := Option.some.inj (r.abs.symm.trans q.abs)
theorem Vals.inj : ∀ {xs ys : List V} {us : List Value}, Vals xs us → Vals ys us → xs = ys
  | _, _, _, .nil, .nil => rfl
  | _, _, _, .cons r t, .cons r' t' => by rw [r.inj r', Vals.inj t t']
section
variable {X : Cx} {pins : List (Addr × Obj)} {σ : St} {H : Hp} {s : Shared} {a : Addr} {xs ys : List V}
theorem SqL.of {K : PySem.W.Frag} (h : H a = some (.lst xs)) : SqL K H a xs := .inl (.inl h)
theorem SqT.of {K : PySem.W.Frag} (h : H a = some (.tup xs)) : SqT K H a xs := .inl (.inl h)
theorem Inv.list (I : Inv X pins σ H s) (h : SqL X.K H a xs) : ∃ its : List Value, Vals xs its ∧ PlainL s.heap a its.toArray ∧ xs.length ≤ sizeLine := by
  rcases h with h | ⟨o, its, n, hk, hc, hd, hs, hz, r⟩
  · obtain ⟨z, its, n, r, e⟩ := h.ok I.hok
    exact ⟨its, r, ⟨_, n, e, rfl, rfl, rfl⟩, z⟩
  · refine ⟨its.toList, r, ⟨o, n, I.kIn a o hk, hc, hd, by simpa using hs⟩, ?_⟩
    have e := r.length
    simp only [Array.length_toList] at e
    omega
theorem Inv.tuple (I : Inv X pins σ H s) (h : SqT X.K H a xs) : ∃ its : List Value, Vals xs its ∧ IsTup s.heap a its.toArray ∧ xs.length ≤ sizeLine := by
  rcases h with h | ⟨o, its, n, hk, hc, hs, hz, r⟩
  · obtain ⟨z, its, r, p⟩ := h.ok I.hok
    exact ⟨its, r, p, z⟩
  · refine ⟨its.toList, r, ⟨o, I.kIn a o hk, hc, n, by simpa using hs⟩, ?_⟩
    have e := r.length
    simp only [Array.length_toList] at e
    omega
theorem Inv.list_inj (I : Inv X pins σ H s) (h : SqL X.K H a xs) (h' : SqL X.K H a ys) : xs = ys := by
  obtain ⟨its, r, ⟨o, n, e, _, _, d⟩, _⟩ := I.list h
  obtain ⟨its', r', ⟨o', n', e', _, _, d'⟩, _⟩ := I.list h'
  rw [e] at e'; cases e'
  rw [d] at d'
  injection d' with d1 _
  have : its = its' := by simpa using congrArg Array.toList d1
  subst this
  exact r.inj r'
theorem Inv.tuple_inj (I : Inv X pins σ H s) (h : SqT X.K H a xs) (h' : SqT X.K H a ys) : xs = ys := by
  obtain ⟨its, r, ⟨o, e, _, n, d⟩, _⟩ := I.tuple h
  obtain ⟨its', r', ⟨o', e', _, n', d'⟩, _⟩ := I.tuple h'
  rw [e] at e'; cases e'
  rw [d] at d'
  injection d' with d1 _
  have : its = its' := by simpa using congrArg Array.toList d1
  subst this
  exact r.inj r'
end
abbrev Cx.wish (X : Cx) (E : Value → Shared → Prop) : Cx := { X with xe := E }
abbrev Cx.nox (X : Cx) : Cx := X.wish fun _ _ => False
theorem Cx.Ok.wish {X : Cx} (ok : X.Ok) (E : Value → Shared → Prop) : (X.wish E).Ok :=
  ⟨ok.mod, ok.kind, ok.glob, ok.blt, ok.above, ok.inj, ok.has, ok.cab, ok.hd, ok.frames, ok.stk, ok.exf, ok.bs, ok.bsz, ok.noex, ok.exfs, ok.funs, ok.frf⟩
theorem Cx.Ok.unwish {X : Cx} {E : Value → Shared → Prop} (ok : (X.wish E).Ok) : X.Ok :=
  ⟨ok.mod, ok.kind, ok.glob, ok.blt, ok.above, ok.inj, ok.has, ok.cab, ok.hd, ok.frames, ok.stk, ok.exf, ok.bs, ok.bsz, ok.noex, ok.exfs, ok.funs, ok.frf⟩
section
variable {X : Cx} {pins : List (Addr × Obj)} {σ : St} {H : Hp} {s : Shared} {E : Value → Shared → Prop}
theorem Inv.wish (I : Inv X pins σ H s) (E : Value → Shared → Prop) : Inv (X.wish E) pins σ H s := ⟨I.ok.wish E, I.os, I.bare, I.base, I.loc, I.cell, I.free, I.freeC, I.pin, I.hok, I.len⟩
theorem Inv.unwish (I : Inv (X.wish E) pins σ H s) : Inv X pins σ H s := ⟨I.ok.unwish, I.os, I.bare, I.base, I.loc, I.cell, I.free, I.freeC, I.pin, I.hok, I.len⟩
theorem SP.unwish {D : Ends} {f : Flow} {s' : Shared} (h : SP (X.wish E) pins D f s') : SP X pins D f s' := by
  cases f with
  | next => obtain ⟨σ', H', I, q⟩ := h; exact ⟨σ', H', I.unwish, q⟩
  | brk => obtain ⟨σ', H', I, q⟩ := h; exact ⟨σ', H', I.unwish, q⟩
  | cont => obtain ⟨σ', H', I, q⟩ := h; exact ⟨σ', H', I.unwish, q⟩
  | ret u => obtain ⟨v, σ', H', I, r, q⟩ := h; exact ⟨v, σ', H', I.unwish, r, q⟩
theorem PE.nox {e : Expr} {t : TE} (h : PE X.nox e t) : PE X e t := fun pins s σ H Q I hw =>
  wpAny_mono (h pins s σ H Q (I.wish _) hw) (fun _ _ ⟨v, H', I', r, q⟩ => ⟨v, H', I'.unwish, r, q⟩) fun _ _ z => False.elim z
theorem PT.nox {e : Expr} {t : TT} (h : PT X.nox e t) : PT X e t := fun pins s σ H Q I hw =>
  wpAny_mono (h pins s σ H Q (I.wish _) hw) (fun _ _ ⟨H', I', q⟩ => ⟨H', I'.unwish, q⟩) fun _ _ z => False.elim z
theorem PSs.nox {st : List Stmt} {t : TS} (h : PSs X.nox st t) : PSs X st t := fun pins s σ H D I hw =>
  wpAny_mono (h pins s σ H D (I.wish _) hw) (fun _ _ q => q.unwish) fun _ _ z => False.elim z
end
section
variable {X : Cx} {st : Stmt} {rest : List Stmt} {t u : TS} {e : Expr} {te : TE} {pos : Pos}
def tNext : TS := fun D σ H => D.nx σ H
def tSeq (t u : TS) : TS := fun D σ H => t { D with nx := u D } σ H
theorem pss_nil : PSs X [] tNext := fun _ _ σ H _ I h => wpAny_execs_nil ⟨σ, H, I, h⟩
theorem pss_cons (h1 : PS X st t) (h2 : PSs X rest u) : PSs X (st :: rest) (tSeq t u) := by
  intro pins s σ H D I h
  refine wpAny_execs_cons (thn (h1 pins s σ H { D with nx := u D } I h) fun f s1 q => ?_)
  cases f with
  | next =>
    obtain ⟨σ', H', I', q⟩ := q
    exact h2 pins s1 σ' H' D I' q
  | ret v => exact q
  | brk => exact q
  | cont => exact q
theorem pss_one (h1 : PS X st t) : PSs X [st] t := by
  intro pins s σ H D I h
  refine wpAny_execs_cons (thn (h1 pins s σ H D I h) fun f s1 q => ?_)
  cases f with
  | next => exact wpAny_execs_nil q
  | ret v => exact q
  | brk => exact q
  | cont => exact q
theorem Inv.quiet {pins : List (Addr × Obj)} {σ : St} {H : Hp} {s : Shared} (I : Inv X pins σ H s) : interactive X.env = false := by simp [interactive, I.ok.kind]
def tDrop (te : TE) : TS := fun D σ H => te σ H fun _ H1 => D.nx σ H1
theorem ps_expr (he : PE X e te) (hs : swapsWith e none pos.line X.env = pure false := by rfl) : PS X (.Expr e pos) (tDrop te) := by
  intro pins s σ H D I h
  exact wpAny_Expr_any (thn (he pins s σ H _ I h) fun v s1 ⟨x, H1, I1, r1, q1⟩ => ⟨σ, H1, I1, q1⟩) I.quiet hs
def tRet (te : TE) : TS := fun D σ H => te σ H D.rt
theorem ps_ret (he : PE X e te) : PS X (.Return (some e) pos) (tRet te) := by
  intro pins s σ H D I h
  exact wpAny_Return_some (thn (he pins s σ H _ I h) fun v s1 ⟨x, H1, I1, r1, q1⟩ => ⟨x, σ, H1, I1, r1, q1⟩)
def tIfS (c : TT) (t u : TS) : TS := fun D σ H => c σ H fun b H1 => if b = true then t D σ H1 else u D σ H1
theorem ps_if {c : Expr} {a b : List Stmt} {tc : TT} (hc : PT X c tc) (ha : PSs X a t) (hb : PSs X b u) : PS X (.If c a b pos) (tIfS tc t u) := by
  intro pins s σ H D I h
  refine wpAny_If (thn (hc pins s σ H _ I h) fun d s1 ⟨H1, I1, q1⟩ => ?_)
  cases d with
  | true => exact ha pins s1 σ H1 D I1 q1
  | false => exact hb pins s1 σ H1 D I1 q1
end
abbrev TG := V → St → Hp → (St → Hp → Prop) → Prop
abbrev TGs := List V → St → Hp → (St → Hp → Prop) → Prop
def PG (X : Cx) (target : Expr) (t : TG) : Prop :=
  ∀ (pins : List (Addr × Obj)) (s : Shared) (σ : St) (H : Hp) (v : V) (u : Value) (Q : St → Hp → Prop), Inv X pins σ H s → RelV v u → t v σ H Q →
    wpAny (model X.prog X.w) X.A (assign target X.env u) (fun _ s' => ∃ σ' H', Inv X pins σ' H' s' ∧ Q σ' H') X.xe s
def PGs (X : Cx) (ts : List Expr) (t : TGs) : Prop :=
  ∀ (pins : List (Addr × Obj)) (s : Shared) (σ : St) (H : Hp) (vs : List V) (us : List Value) (Q : St → Hp → Prop), Inv X pins σ H s → Vals vs us → t vs σ H Q →
    wpAny (model X.prog X.w) X.A (assignInOrder ((assignEach ts X.env).map (·.2)) us) (fun _ s' => ∃ σ' H', Inv X pins σ' H' s' ∧ Q σ' H') X.xe s
abbrev TSet := V → V → V → Hp → (Hp → Prop) → Prop
def PSet (X : Cx) (t : TSet) : Prop :=
  ∀ (pins : List (Addr × Obj)) (s : Shared) (σ : St) (H : Hp) (o i v : V) (ov iv u : Value) (Q : Hp → Prop), Inv X pins σ H s → RelV o ov → RelV i iv → RelV v u → t o i v H Q →
    wpAny (model X.prog X.w) X.A (setItem ov iv u) (fun _ s' => ∃ H', Inv X pins σ H' s' ∧ Q H') X.xe s
section
variable {X : Cx} {pos : Pos}
def gName (i : Nat) : TG := fun v σ H Q => Q (σ.set i (some v)) H
theorem pg_name {i : Nat} {x : Str} (hN : X.N.Nodup) (hi : X.N[i]? = some x) (hx : Loc X.env.scope x) (hf : X.fn x = true ∨ X.env.scope.names.lookup x = some .local := by first | exact .inl rfl | exact .inr rfl | assumption) : PG X (.Name x pos) (gName i) := by
  intro pins s σ H v u Q I r h
  exact wpAny_assign_Name (store_ok I hN hi hx r (fun s' I' => ⟨_, H, I', h⟩) hf)
def gNil : TGs := fun vs σ H Q => vs = [] ∧ Q σ H
def gCons (t : TG) (u : TGs) : TGs := fun vs σ H Q => ∃ v r, vs = v :: r ∧ t v σ H fun σ' H' => u r σ' H' Q
theorem pgs_nil : PGs X [] gNil := by
  intro pins s σ H vs us Q I r h
  obtain ⟨e, h⟩ := h
  subst e
  cases r
  exact assignInOrder_nil ⟨σ, H, I, h⟩
theorem pgs_cons {e : Expr} {es : List Expr} {t : TG} {u : TGs} (h1 : PG X e t) (h2 : PGs X es u)
    (hs : (assignEach (e :: es) X.env).map (·.2) = assign e X.env :: (assignEach es X.env).map (·.2) := by rfl) : PGs X (e :: es) (gCons t u) := by
  intro pins s σ H vs us Q I r h
  obtain ⟨v, vr, e1, h⟩ := h
  subst e1
  cases r with
  | cons r rr =>
    rw [hs]
    refine assignInOrder_cons (thn (h1 pins s σ H _ _ _ I r h) fun _ s1 ⟨σ1, H1, I1, q1⟩ => ?_)
    exact h2 pins s1 σ1 H1 _ _ Q I1 rr q1
def gTup (K : PySem.W.Frag) (n : Nat) (t : TGs) : TG := fun v σ H Q => ∃ a xs, v = .ref a ∧ SqT K H a xs ∧ xs.length = n ∧ t xs σ H Q
theorem pg_tup {es : List Expr} {k : Nat} {t : TGs} {n : Nat} (hc : X.calm = true) (h : PGs X es t)
    (hn : (assignEach es X.env).length = n := by rfl) (hst : (assignEach es X.env).findIdx? (·.1) = none := by rfl) : PG X (.Tuple es k pos) (gTup X.K n t) := by
  intro pins s σ H v u Q I r hw
  obtain ⟨a, xs, e1, hq, hl, hw⟩ := hw
  subst e1
  cases r
  obtain ⟨its, rv, ht, hz⟩ := I.tuple hq
  refine assign_Tuple_tuple (I.ok.hd hc) ht (by simp [hn, ← hl, rv.length]) hst fun h' hx => ?_
  have I1 : Inv X pins σ H { s with heap := h' } := I.kept (t' := s.toks) fun b o e => hx b o (Nat.ne_of_lt (Heap.lt_size e)) e
  exact h pins _ σ H xs _ Q I1 (by simpa using rv) hw
def gSub (to ti : TE) (t : TSet) : TG := fun v σ H Q => to σ H fun o H1 => ti σ H1 fun i H2 => t o i v H2 fun H3 => Q σ H3
theorem pg_sub {o i : Expr} {to ti : TE} {t : TSet} (ho : PE X o to) (hi : PE X i ti) (hs : PSet X t)
    (ha : ∀ v, assign (.Subscript o i pos) X.env v = (do
      let ov ← holding [v] (eval o X.env)
      let iv ← holding [v, ov] (eval i X.env)
      standAt pos
      holding [v, ov, iv] (setItem ov iv v)
      release [v, ov, iv] []) := by intro _; rfl) : PG X (.Subscript o i pos) (gSub to ti t) := by
  intro pins s σ H v u Q I r h
  rw [ha]
  refine wpAny_bind (wpAny_holding (thn (ho pins s σ H _ I h) fun ov s1 ⟨x, H1, I1, r1, q1⟩ => ?_))
  refine wpAny_bind (wpAny_holding (thn (hi pins s1 σ H1 _ I1 q1) fun iv s2 ⟨y, H2, I2, r2, q2⟩ => ?_))
  refine wpAny_bind (wpAny_standAt (wpAny_bind (wpAny_holding (thn (hs pins s2 σ H2 x y v ov iv u _ I2 r1 r2 r q2) fun _ s3 ⟨H3, I3, q3⟩ => ?_))))
  exact wpAny_release ⟨σ, H3, I3, q3⟩
def tAsg (te : TE) (g : TG) : TS := fun D σ H => te σ H fun x H1 => g x σ H1 D.nx
theorem ps_asg {tg e : Expr} {te : TE} {g : TG} (he : PE X e te) (hg : PG X tg g) (hs : swapsWithSole [tg] e pos.line X.env = pure false := by rfl) (hw : swappedStores [tg] e X.env = pure none := by rfl)
    (h1 : (assignEach [tg] X.env).map (·.2) = [assign tg X.env] := by rfl) : PS X (.Assign [tg] e pos) (tAsg te g) := by
  intro pins s σ H D I h
  refine wpAny_Assign_stores (thn (he pins s σ H _ I h) fun v s1 ⟨x, H1, I1, r1, q1⟩ => ?_) hs hw
  rw [h1]
  exact thn (hg pins s1 σ H1 x v _ I1 r1 q1) fun _ s2 q => q
theorem ps_set {i : Nat} {x : Str} {e : Expr} {te : TE} {pos' : Pos} (hN : X.N.Nodup) (hi : X.N[i]? = some x) (hx : Loc X.env.scope x) (he : PE X e te) (hs : swapsWith e (some (.Name x pos')) pos.line X.env = pure false := by rfl) (hf : X.fn x = true ∨ X.env.scope.names.lookup x = some .local := by first | exact .inl rfl | exact .inr rfl | assumption) :
    PS X (.Assign [.Name x pos'] e pos) (tAsg te (gName i)) := by
  intro pins s σ H D I h
  refine wpAny_Assign_Name (thn (he pins s σ H _ I h) fun v s1 ⟨y, H1, I1, r1, q1⟩ => ?_) hs
  exact store_ok I1 hN hi hx r1 (fun s2 I2 => ⟨_, H1, I2, q1⟩) hf
def tPar (i j : Nat) (ta : TA) : TS := fun D σ H => ta σ H fun vs H1 => ∃ v w, vs = [v, w] ∧ D.nx ((σ.set i (some v)).set j (some w)) H1
theorem ps_par {i j : Nat} {x y : Str} {a b : Expr} {ta : TA} {px py pt : Pos} {kt k2 pt2} (hc : X.calm = true) (hN : X.N.Nodup) (hi : X.N[i]? = some x) (hj : X.N[j]? = some y) (hij : i ≠ j)
    (hx : X.env.scope.names.lookup x = some .local) (hy : X.env.scope.names.lookup y = some .local) (ha : PA X [a, b] ta)
    (hw : swappedStores [.Tuple [.Name x px, .Name y py] kt pt] (.Tuple [a, b] k2 pt2) X.env = pure (some [x, y]))
    (hs : swapsWithSole [.Tuple [.Name x px, .Name y py] kt pt] (.Tuple [a, b] k2 pt2) pos.line X.env = pure false := by rfl) :
    PS X (.Assign [.Tuple [.Name x px, .Name y py] kt pt] (.Tuple [a, b] k2 pt2) pos) (tPar i j ta) := by
  intro pins s σ H D I h
  rw [exec_Assign_arm]
  refine wpAny_bind (wpAny_standAt ?_)
  rw [hs]
  refine wpAny_bind (wpAny_pure ?_)
  rw [if_neg (by decide)]
  refine wpAny_bind (Tuple_ (thn (ha _ pins s σ H _ I h) fun us s1 ⟨vs, H1, I1, r1, q1⟩ => ?_))
  obtain ⟨v, w, e1, q1⟩ := q1
  subst e1
  obtain ⟨u1, u2, rfl, rv, rw'⟩ : ∃ u1 u2, us = [u1, u2] ∧ RelV v u1 ∧ RelV w u2 := by
    cases r1 with
    | cons p q =>
      cases q with
      | cons p' q' =>
        cases q'
        exact ⟨_, _, rfl, p, p'⟩
  refine wpAny_newObj_type ?_ (by show 2 ≤ sizeLine; decide)
  have I2 : Inv X pins σ H1 { s1 with heap := s1.heap.push { cls := .type "tuple", data := .seq [u1, u2].toArray } } := I1.kept (t' := s1.toks) fun b o e => Heap.get?_push_of_some _ e
  rw [hw]
  refine wpAny_bind (wpAny_pure ?_)
  show wpAny (model X.prog X.w) X.A (do rule "assign.swapped-stores"; let items ← unpackItems (.ref s1.heap.objs.size) 2 none; assignInOrder [fun v => bindName X.env y v, fun v => bindName X.env x v] items.reverse; pure Flow.next) _ _ _
  refine wpAny_bind (wpAny_rule (wpAny_bind (unpackItems_tuple (items := #[u1, u2]) (I.ok.hd hc) (IsTup.new s1.heap _) fun h' hx' => ?_)))
  have I3 := I2.kept (h' := h') (t' := s1.toks) fun b o e => hx' b o (Nat.ne_of_lt (Heap.lt_size e)) e
  show wpAny _ _ (assignInOrder [fun v => bindName X.env y v, fun v => bindName X.env x v] [u2, u1] >>= fun _ => pure Flow.next) _ _ _
  refine wpAny_bind (assignInOrder_cons (wpAny_bindName (store_ok I3 hN hj (.inl hy) rw' (fun s2 I4 => ?_) (.inr hy))))
  refine assignInOrder_cons (wpAny_bindName (store_ok I4 hN hi (.inl hx) rv (fun s3 I5 => assignInOrder_nil (wpAny_pure ?_)) (.inr hx)))
  rw [List.set_comm _ _ (Ne.symm hij)] at I5
  exact ⟨_, H1, I5, q1⟩
end
section
variable {X : Cx} {pos : Pos}
def tWhile (c : TT) (tb : TS) : TS := fun D σ H => ∃ W : Nat → St → Hp → Prop, (∃ m, W m σ H) ∧ ∀ m σ H, W m σ H →
  c σ H fun b H1 => if b = true then ∃ N : St → Hp → Prop, (∀ σ' H', N σ' H' → ∃ m', m' < m ∧ W m' σ' H') ∧ tb { D with nx := N, ct := N, bk := D.nx } σ H1 else D.nx σ H1
theorem ps_while {c : Expr} {body : List Stmt} {tc : TT} {tb : TS} (hp : PassesOwn (model X.prog X.w) X.A X.env X.xe) (hc : PT X c tc) (hb : PSs X body tb) : PS X (.While c body [] pos) (tWhile tc tb) := by
  intro pins s σ H D I h
  obtain ⟨W, ⟨m0, w0⟩, turn⟩ := h
  refine wpAny_While (codeAny_whileLoop (fun n s' => ∃ σ' H', Inv X pins σ' H' s' ∧ W n σ' H') ?_ m0 ⟨σ, H, I, w0⟩)
  rintro n s1 ⟨σ1, H1, I1, w1⟩
  refine wpAny_passesOwn hp (thn (hc pins s1 σ1 H1 _ I1 (turn n σ1 H1 w1)) fun b s2 ⟨H2, I2, q2⟩ => ?_)
  cases b with
  | true =>
    obtain ⟨N, hN, q2⟩ := q2
    rw [if_pos rfl]
    refine wpAny_passesOwn hp (thn (hb pins s2 σ1 H2 _ I2 q2) fun f s3 q3 => ?_)
    cases f with
    | next =>
      obtain ⟨σ3, H3, I3, n3⟩ := q3
      obtain ⟨m', hm, w3⟩ := hN σ3 H3 n3
      exact ⟨m', hm, σ3, H3, I3, w3⟩
    | cont =>
      obtain ⟨σ3, H3, I3, n3⟩ := q3
      obtain ⟨m', hm, w3⟩ := hN σ3 H3 n3
      exact ⟨m', hm, σ3, H3, I3, w3⟩
    | brk => exact q3
    | ret v => exact q3
  | false =>
    rw [if_neg Bool.false_ne_true]
    exact wpAny_execs_nil ⟨σ1, H2, I2, q2⟩
end
structure It where
  go : Nat → Hp → Prop
  yld : Nat → Hp → V → Hp → Prop
  stop : Nat → Hp → Prop
def FpOk (X : Cx) (pins : List (Addr × Obj)) (H : Hp) (b : Addr) : Prop :=
  H b = none ∧ b ≠ X.env.locals ∧ b ∉ X.fs ∧ (b ∈ X.ex ∨ X.s₀.heap.objs.size ≤ b) ∧ (∀ x c, X.env.cells.lookup x = some c → c ≠ b) ∧ ∀ p ∈ X.pn ++ pins, p.1 ≠ b
theorem Inv.fpOk {X : Cx} {pins : List (Addr × Obj)} {σ : St} {H H' : Hp} {s : Shared} {b : Addr} (I : Inv X pins σ H s) (hb : s.heap.objs.size ≤ b) (hn : H' b = none) : FpOk X pins H' b := by
  refine ⟨hn, Nat.ne_of_gt (Nat.lt_of_lt_of_le I.lt hb), I.nofs hb, .inr (Nat.le_trans I.sz hb), fun x c e z => ?_, fun p hp z => ?_⟩
  · obtain ⟨v, q⟩ := I.cell x c e
    exact absurd (Nat.lt_of_lt_of_le q.lt (by rw [z]; exact hb)) (Nat.lt_irrefl _)
  · exact absurd (Nat.lt_of_lt_of_le (Heap.lt_size (I.pin p hp).1) (by rw [z]; exact hb)) (Nat.lt_irrefl _)
structure Turn (P : Program) (w : World) (K : PySem.W.Frag) (tg : Expr) (J : It) (fp : List Addr) (it : Addr) (tn : Nat → Heap → Prop) : Prop where
  mem : it ∈ fp
  obj : ∀ i h, tn i h → ∀ b ∈ fp, ∃ o, h.get? b = some o ∧ ∀ v, o.data ≠ .cell v
  keep : ∀ i h h', tn i h → (∀ b ∈ fp, ∀ o, h.get? b = some o → h'.get? b = some o) → tn i h'
  item : ∀ (X : Cx), X.prog = P → X.w = w → X.K = K → X.calm = true → ∀ (i : Nat) (pins : List (Addr × Obj)) (s : Shared) (σ : St) (H : Hp) (E : Value → Shared → Prop), Inv X pins σ H s → (∀ b ∈ fp, FpOk X pins H b) → tn i s.heap → J.go i H →
    wpAny (model P w) X.A (pyNext (.ref it)) (fun r s1 => ∃ u, r = some u ∧
      wpAny (model P w) X.A (letOwnedTupleGo tg (.ref it) u) (fun _ s2 => ∃ x H', Inv X pins σ H' s2 ∧ RelV x u ∧ J.yld i H x H' ∧ tn (i + 1) s2.heap ∧ ∀ b ∈ fp, H' b = none) E s1) E s
  done : ∀ (X : Cx), X.prog = P → X.w = w → X.K = K → X.calm = true → ∀ (i : Nat) (pins : List (Addr × Obj)) (s : Shared) (σ : St) (H : Hp) (E : Value → Shared → Prop), Inv X pins σ H s → (∀ b ∈ fp, FpOk X pins H b) → tn i s.heap → J.stop i H →
    wpAny (model P w) X.A (pyNext (.ref it)) (fun r s1 => r = none ∧ Inv X pins σ H s1) E s
  self : ∀ (A : Around) (i : Nat) (s : Shared) (Q : Value → Shared → Prop) (E : Value → Shared → Prop), tn i s.heap → Q (.ref it) s → wpAny (model P w) A (pyIter (.ref it)) Q E s
abbrev TI := St → Hp → (It → Hp → Prop) → Prop
def PIE (X : Cx) (pins : List (Addr × Obj)) (σ : St) (tg : Expr) (R : It → Hp → Prop) (itv : Value) (s2 : Shared) : Prop :=
  ∃ (it : Addr) (fp : List Addr) (tn : Nat → Heap → Prop) (J : It) (H' : Hp), itv = .ref it ∧ Inv X pins σ H' s2 ∧ Turn X.prog X.w X.K tg J fp it tn ∧ tn 0 s2.heap ∧ (∀ b ∈ fp, FpOk X pins H' b) ∧ R J H'
def PI (X : Cx) (tg iter : Expr) (wi : TI) : Prop :=
  ∀ (pins : List (Addr × Obj)) (s : Shared) (σ : St) (H : Hp) (R : It → Hp → Prop), Inv X pins σ H s → wi σ H R →
    wpAny (model X.prog X.w) X.A (eval iter X.env) (fun v s1 => wpAny (model X.prog X.w) X.A (pyIter v) (PIE X pins σ tg R) X.xe s1) X.xe s
theorem go_of {M : Model} {A : Around} {E : Value → Shared → Prop} {s : Shared} {tg : Expr} {it : Addr} {u : Value} {o : Obj} {n : String} {vs : Array Value} {Q : Unit → Shared → Prop} (ho : s.heap.get? it = some o) (hc : o.cls = .type n) (hd : o.data = .fields vs)
    (hn : ["enumerate", "zip", "dict_itemiterator", "dict_reverseitemiterator", "odict_iterator", "itertools.zip_longest", "itertools.pairwise"].contains n = false) (hQ : Q () s) : wpAny M A (letOwnedTupleGo tg (.ref it) u) Q E s := by
  unfold letOwnedTupleGo
  cases tg <;> first
    | exact wpAny_pure hQ
    | (cases u <;> first
        | exact wpAny_pure hQ
        | (refine wpAny_bind (wpAny_load ho ?_)
           rw [hc, hd]
           show wpAny M A (if (["enumerate", "zip", "dict_itemiterator", "dict_reverseitemiterator", "odict_iterator", "itertools.zip_longest", "itertools.pairwise"].contains n && vs[0]? == some (rawInt _)) = true then _ else _) Q E s
           rw [if_neg (by intro h; rw [hn, Bool.false_and] at h; cases h)]
           exact wpAny_pure hQ))
def Itl (K : PySem.W.Frag) (a : Addr) : It :=
  ⟨fun i H => ∃ xs x, SqL K H a xs ∧ xs[i]? = some x, fun i H x H' => H' = H ∧ ∀ xs, SqL K H a xs → xs[i]? = some x, fun i H => ∃ xs, SqL K H a xs ∧ xs.length ≤ i⟩
def Itt (K : PySem.W.Frag) (a : Addr) : It :=
  ⟨fun i H => ∃ xs x, SqT K H a xs ∧ xs[i]? = some x, fun i H x H' => H' = H ∧ ∀ xs, SqT K H a xs → xs[i]? = some x, fun i H => ∃ xs, SqT K H a xs ∧ xs.length ≤ i⟩
def Itr (lo : Int) (n : Nat) : It := ⟨fun i _ => i < n, fun i H x H' => H' = H ∧ x = .int (lo + i), fun i _ => n ≤ i⟩
theorem turn_list {P : Program} {w : World} {K : PySem.W.Frag} {tg : Expr} (a it : Addr) : Turn P w K tg (Itl K a) [it] it (fun i h => h.IsListIter it a i) where
  mem := by simp
  obj := fun i h st b hb => by
    have e : b = it := by simpa using hb
    subst e
    obtain ⟨o, e, c, d⟩ := st
    exact ⟨o, e, fun v z => by rw [d] at z; cases z⟩
  keep := fun i h h' st k => st.at fun o e => k it (by simp) o e
  item := by
    intro X hP hw hK hc i pins s σ H E I hf st hg
    subst hP hw hK
    obtain ⟨xs, x, hq, hx⟩ := hg
    obtain ⟨its, rv, p, hz⟩ := I.list hq
    obtain ⟨u, hu, ru⟩ := rv.get hx
    obtain ⟨f0, f1, f2, f3, f4, f5⟩ := hf it (by simp)
    refine wpAny_pyNext_list_item st p.isList (x := u) (by simpa using hu) fun h' st' sb => ?_
    have I1 : Inv X pins σ H { s with heap := h' } := I.turned (t' := s.toks) (fun b o hb e => (sb.2 b hb).trans e) f0 f1 f3 f4 f5
    obtain ⟨o, e, c, d⟩ := id st'
    exact ⟨u, rfl, go_of (s := { s with heap := h' }) e c d (by decide) ⟨x, H, I1, ru, ⟨rfl, fun ys hy => by rw [I.list_inj hy hq]; exact hx⟩, st', fun b hb => (hf b hb).1⟩⟩
  done := by
    intro X hP hw hK hc i pins s σ H E I hf st hg
    subst hP hw hK
    obtain ⟨xs, hq, hx⟩ := hg
    obtain ⟨its, rv, p, hz⟩ := I.list hq
    obtain ⟨f0, f1, f2, f3, f4, f5⟩ := hf it (by simp)
    have hl := rv.length
    exact wpAny_pyNext_list_end (I.ok.hd hc) st p.isList (by simp; omega) fun h' eb => ⟨rfl, I.turned (t' := s.toks) (fun b o hb e => eb b o hb e) f0 f1 f3 f4 f5⟩
  self := fun _ _ _ _ _ st h => wpAny_pyIter_listiter st h
theorem turn_tuple {P : Program} {w : World} {K : PySem.W.Frag} {tg : Expr} (a it : Addr) : Turn P w K tg (Itt K a) [it] it (fun i h => h.IsTupleIter it a i) where
  mem := by simp
  obj := fun i h st b hb => by
    have e : b = it := by simpa using hb
    subst e
    obtain ⟨o, e, c, d⟩ := st
    exact ⟨o, e, fun v z => by rw [d] at z; cases z⟩
  keep := fun i h h' st k => st.at fun o e => k it (by simp) o e
  item := by
    intro X hP hw hK hc i pins s σ H E I hf st hg
    subst hP hw hK
    obtain ⟨xs, x, hq, hx⟩ := hg
    obtain ⟨its, rv, p, hz⟩ := I.tuple hq
    obtain ⟨u, hu, ru⟩ := rv.get hx
    obtain ⟨f0, f1, f2, f3, f4, f5⟩ := hf it (by simp)
    refine wpAny_pyNext_tuple_item st (show s.heap.IsTuple a its.toArray from p) (x := u) (by simpa using hu) fun h' st' sb => ?_
    have I1 : Inv X pins σ H { s with heap := h' } := I.turned (t' := s.toks) (fun b o hb e => (sb.2 b hb).trans e) f0 f1 f3 f4 f5
    obtain ⟨o, e, c, d⟩ := id st'
    exact ⟨u, rfl, go_of (s := { s with heap := h' }) e c d (by decide) ⟨x, H, I1, ru, ⟨rfl, fun ys hy => by rw [I.tuple_inj hy hq]; exact hx⟩, st', fun b hb => (hf b hb).1⟩⟩
  done := by
    intro X hP hw hK hc i pins s σ H E I hf st hg
    subst hP hw hK
    obtain ⟨xs, hq, hx⟩ := hg
    obtain ⟨its, rv, p, hz⟩ := I.tuple hq
    obtain ⟨f0, f1, f2, f3, f4, f5⟩ := hf it (by simp)
    have hl := rv.length
    exact wpAny_pyNext_tuple_end (I.ok.hd hc) st (show s.heap.IsTuple a its.toArray from p) (by simp; omega) fun h' eb => ⟨rfl, I.turned (t' := s.toks) (fun b o hb e => eb b o hb e) f0 f1 f3 f4 f5⟩
  self := fun _ _ _ _ _ st h => wpAny_pyIter_tupleiter st h
theorem turn_range {P : Program} {w : World} {K : PySem.W.Frag} {tg : Expr} (it : Addr) (lo : Int) (n : Nat) : Turn P w K tg (Itr lo n) [it] it (fun i h => IsRangeIter h it (lo + (i : Nat) * 1) ((n : Int) - (i : Nat)) 1) where
  mem := by simp
  obj := fun i h st b hb => by
    have e : b = it := by simpa using hb
    subst e
    exact ⟨_, st, fun v z => by
      have z' : Data.fields _ = Data.cell v := z
      cases z'⟩
  keep := fun i h h' st k => k it (by simp) _ st
  item := by
    intro X hP hw hK hc i pins s σ H E I hf st hg
    subst hP hw hK
    obtain ⟨f0, f1, f2, f3, f4, f5⟩ := hf it (by simp)
    have W := Walks.range (prog := X.prog) (w := X.w) (I.ok.hd hc) it lo 1 n
    refine W.item i s _ _ hg st fun v h' tk hv st' kk => ?_
    obtain ⟨t, rfl⟩ := hv
    have I1 : Inv X pins σ H { s with heap := h', toks := tk } := I.turned (fun b o hb e => kk b o (by simpa using hb) e) f0 f1 f3 f4 f5
    refine ⟨_, rfl, go_of (s := { s with heap := h', toks := tk }) (n := "range_iterator") st' rfl rfl (by decide) ⟨.int (lo + i), H, I1, ⟨t, ?_⟩, ⟨rfl, rfl⟩, st', fun b hb => (hf b hb).1⟩⟩
    rw [Int.mul_one]
  done := by
    intro X hP hw hK hc i pins s σ H E I hf st hg
    subst hP hw hK
    obtain ⟨f0, f1, f2, f3, f4, f5⟩ := hf it (by simp)
    exact wpAny_pyNext_range_end (I.ok.hd hc) st (by have : n ≤ i := hg; omega) fun h' eb => ⟨rfl, I.turned (t' := s.toks) (fun b o hb e => eb b o hb e) f0 f1 f3 f4 f5⟩
  self := fun _ _ _ _ _ st h => wpAny_pyIter_rangeiter st h
end L2
namespace L2
open PySem PySem.Spec PyProof.Rows
section
variable {X : Cx} {tg : Expr}
def iList (K : PySem.W.Frag) (tl : TE) : TI := fun σ H R => tl σ H fun x H1 => ∃ a, x = .ref a ∧ (∃ xs, SqL K H1 a xs) ∧ R (Itl K a) H1
def iTup (K : PySem.W.Frag) (tl : TE) : TI := fun σ H R => tl σ H fun x H1 => ∃ a, x = .ref a ∧ (∃ xs, SqT K H1 a xs) ∧ R (Itt K a) H1
theorem pi_list {l : Expr} {tl : TE} (hl : PE X l tl) : PI X tg l (iList X.K tl) := by
  intro pins s σ H R I h
  refine thn (hl pins s σ H _ I h) fun v s1 ⟨x, H1, I1, r1, q1⟩ => ?_
  obtain ⟨a, e, ⟨xs, hq⟩, q⟩ := q1
  subst e
  cases r1
  obtain ⟨its, rv, p, hz⟩ := I1.list hq
  refine wpAny_pyIter_list p.isList ?_
  refine ⟨s1.heap.objs.size, [s1.heap.objs.size], _, _, H1, rfl, I1.kept (t' := s1.toks) fun b o e => Heap.get?_push_of_some _ e, turn_list a _, ⟨_, Heap.get?_push_size _ rfl, rfl, rfl⟩, fun b hb => ?_, q⟩
  have e : b = s1.heap.objs.size := by simpa using hb
  subst e
  exact I1.fpOk (Nat.le_refl _) (I1.hok.fresh (Nat.le_refl _))
theorem pi_tup {l : Expr} {tl : TE} (hl : PE X l tl) : PI X tg l (iTup X.K tl) := by
  intro pins s σ H R I h
  refine thn (hl pins s σ H _ I h) fun v s1 ⟨x, H1, I1, r1, q1⟩ => ?_
  obtain ⟨a, e, ⟨xs, hq⟩, q⟩ := q1
  subst e
  cases r1
  obtain ⟨its, rv, p, hz⟩ := I1.tuple hq
  refine wpAny_pyIter_tuple (show s1.heap.IsTuple a its.toArray from p) ?_
  refine ⟨s1.heap.objs.size, [s1.heap.objs.size], _, _, H1, rfl, I1.kept (t' := s1.toks) fun b o e => Heap.get?_push_of_some _ e, turn_tuple a _, ⟨_, Heap.get?_push_size _ rfl, rfl, rfl⟩, fun b hb => ?_, q⟩
  have e : b = s1.heap.objs.size := by simpa using hb
  subst e
  exact I1.fpOk (Nat.le_refl _) (I1.hok.fresh (Nat.le_refl _))
theorem range_it {pins : List (Addr × Obj)} {σ : St} {H : Hp} {s : Shared} {R : It → Hp → Prop} {E : Value → Shared → Prop} {lo hi : Int} {t u v : Tok} {tk : Nat} (I : Inv X pins σ H s) (h1 : -(2 ^ 62) ≤ lo) (h2 : lo < 2 ^ 62) (h3 : -(2 ^ 62) ≤ hi) (h4 : hi < 2 ^ 62)
    (q : R (Itr lo (hi - lo).toNat) H) : wpAny (model X.prog X.w) X.A (pyIter (.ref s.heap.objs.size)) (PIE X pins σ tg R) E { s with heap := s.heap.push { cls := .type "range", data := .fields #[.int lo t, .int hi u, .int 1 v] }, toks := tk } := by
  refine wpAny_pyIter_range (IsRange.new ..) (small_one h1 h2 h3 h4) ?_
  have I1 : Inv X pins σ H { s with heap := s.heap.push { cls := .type "range", data := .fields #[.int lo t, .int hi u, .int 1 v] }, toks := tk } := I.kept fun b o e => Heap.get?_push_of_some _ e
  refine ⟨(s.heap.push { cls := .type "range", data := .fields #[.int lo t, .int hi u, .int 1 v] }).objs.size, [(s.heap.push { cls := .type "range", data := .fields #[.int lo t, .int hi u, .int 1 v] }).objs.size], _, _, H, rfl,
    I1.kept (t' := tk) fun b o e => Heap.get?_push_of_some _ e, turn_range _ lo (hi - lo).toNat, ?_, fun b hb => ?_, q⟩
  · have e1 : lo + ((0 : Nat) : Int) * 1 = lo := by simp
    have e2 : (((hi - lo).toNat : Nat) : Int) - ((0 : Nat) : Int) = Builtin.Range.rangeSize lo hi 1 := by rw [rangeSize_one]; split <;> omega
    show IsRangeIter _ _ (lo + ((0 : Nat) : Int) * 1) ((((hi - lo).toNat : Nat) : Int) - ((0 : Nat) : Int)) 1
    rw [e1, e2]
    exact Heap.get?_push_size _ rfl
  · have e : b = (s.heap.push { cls := .type "range", data := .fields #[.int lo t, .int hi u, .int 1 v] }).objs.size := by simpa using hb
    subst e
    exact I1.fpOk (Nat.le_refl _) (I1.hok.fresh (Nat.le_refl _))
def iRng1 (ta : TA) : TI := fun σ H R => ta σ H fun vs H1 => ∃ j : Int, vs = [.int j] ∧ -(2 ^ 62) ≤ j ∧ j < 2 ^ 62 ∧ R (Itr 0 j.toNat) H1
def iRng2 (ta : TA) : TI := fun σ H R => ta σ H fun vs H1 => ∃ i j : Int, vs = [.int i, .int j] ∧ (-(2 ^ 62) ≤ i ∧ i < 2 ^ 62 ∧ -(2 ^ 62) ≤ j ∧ j < 2 ^ 62) ∧ R (Itr i (j - i).toNat) H1
theorem pi_range1 {a : Expr} {ta : TA} {p pos : Pos} (hg : Gl X "range") (hm : X.mg "range" = none) (ha : PA X [a] ta) (hs : starEach [a] X.env = [(false, eval a X.env)] := by rfl) : PI X tg (.Call (.Name "range" p) [a] [] pos) (iRng1 ta) := by
  intro pins s σ H R I h
  refine Call_ (ld_blt I hg hm boot_range (PyProof.Rows.callWith_type1 (thn (ha pos pins s σ H _ I h) fun us s1 ⟨vs, H1, I1, r1, q1⟩ => ?_) hs rfl))
  obtain ⟨j, e, q1, q2, q⟩ := q1
  subst e
  cases r1 with
  | cons r rr =>
    cases rr
    obtain ⟨t, rfl⟩ := r
    exact call_range_1 (range_it I1 (by omega) (by omega) q1 q2 (by simpa using q))
theorem pi_range2 {a b : Expr} {ta : TA} {p pos : Pos} (hg : Gl X "range") (hm : X.mg "range" = none) (ha : PA X [a, b] ta) (hs : starEach [a, b] X.env = [(false, eval a X.env), (false, eval b X.env)] := by rfl) (hs2 : starEach [b] X.env = [(false, eval b X.env)] := by rfl) :
    PI X tg (.Call (.Name "range" p) [a, b] [] pos) (iRng2 ta) := by
  intro pins s σ H R I h
  refine Call_ (ld_blt I hg hm boot_range (PyProof.Rows.callWith_type1 (thn (ha pos pins s σ H _ I h) fun us s1 ⟨vs, H1, I1, r1, q1⟩ => ?_) (by rw [hs, hs2]) (by rw [hs2]; rfl)))
  obtain ⟨i, j, e, ⟨q1, q2, q3, q4⟩, q⟩ := q1
  subst e
  cases r1 with
  | cons r rr =>
    cases rr with
    | cons r' rr =>
      cases rr
      obtain ⟨t, rfl⟩ := r
      obtain ⟨t', rfl⟩ := r'
      exact call_range_2 (range_it I1 q1 q2 q3 q4 q)
def tFor (wi : TI) (g : TG) (tb : TS) : TS := fun D σ H => wi σ H fun J H1 => ∃ W : Nat → Nat → St → Hp → Prop, (∃ m, W 0 m σ H1) ∧ ∀ i m σ H, W i m σ H →
  (J.stop i H ∧ D.nx σ H) ∨ (J.go i H ∧ ∃ N : St → Hp → Prop, (∀ σ' H', N σ' H' → ∃ m', m' < m ∧ W (i + 1) m' σ' H') ∧ ∀ x H', J.yld i H x H' → g x σ H' fun σ2 H2 => tb { D with nx := N, ct := N, bk := D.nx } σ2 H2)
def pinsAt (fp : List Addr) (h : Heap) : List (Addr × Obj) := fp.filterMap fun b => (h.get? b).map fun o => (b, o)
theorem mem_pinsAt {fp : List Addr} {h : Heap} {b : Addr} {o : Obj} (hb : b ∈ fp) (e : h.get? b = some o) : (b, o) ∈ pinsAt fp h := List.mem_filterMap.mpr ⟨b, hb, by rw [e]; rfl⟩
theorem of_pinsAt {fp : List Addr} {h : Heap} {p : Addr × Obj} (hp : p ∈ pinsAt fp h) : p.1 ∈ fp ∧ h.get? p.1 = some p.2 := by
  obtain ⟨b, hb, e⟩ := List.mem_filterMap.mp hp
  cases q : h.get? b with
  | none => rw [q] at e; cases e
  | some o =>
    rw [q] at e
    have e' : (b, o) = p := Option.some.inj e
    subst e'
    exact ⟨hb, q⟩
theorem Inv.pinned {pins : List (Addr × Obj)} {σ : St} {H : Hp} {s : Shared} {fp : List Addr} (I : Inv X pins σ H s) (hf : ∀ b ∈ fp, FpOk X pins H b) (ho : ∀ b ∈ fp, ∃ o, s.heap.get? b = some o ∧ ∀ v, o.data ≠ .cell v) : Inv X (pins ++ pinsAt fp s.heap) σ H s :=
  I.pins_of fun p hp => (List.mem_append.mp hp).elim (fun z => I.pin p (List.mem_append_right _ z)) fun z => by
    obtain ⟨hb, e⟩ := of_pinsAt z
    obtain ⟨f0, f1, f2, _⟩ := hf p.1 hb
    obtain ⟨o, e', d⟩ := ho p.1 hb
    rw [e] at e'; cases e'
    exact ⟨e, f0, f1, f2, d⟩
theorem Inv.unpinned {pins pl : List (Addr × Obj)} {σ : St} {H : Hp} {s : Shared} (I : Inv X (pins ++ pl) σ H s) : Inv X pins σ H s := I.pins_of fun p hp => I.pin p (List.mem_append_right _ (List.mem_append_left _ hp))
theorem ps_for {iter : Expr} {body : List Stmt} {wi : TI} {g : TG} {tb : TS} {pos : Pos} (hp : PassesOwn (model X.prog X.w) X.A X.env X.xe) (hc : X.calm = true) (hi : PI X tg iter wi) (hg : PG X tg g) (hb : PSs X body tb)
    (hs : ∀ x, foldedSetIterable iter X.env x = pure x := by intro _; rfl) : PS X (.For tg iter body [] pos) (tFor wi g tb) := by
  intro pins s σ H D I h
  refine wpAny_For (thn (hi pins s σ H _ I h) fun v s1 h1 => thn h1 fun itv s2 h2 => ?_) hs
  obtain ⟨it, fp, tn, J, H2, e, I2, T, st2, f2, W, ⟨m0, w0⟩, turn⟩ := h2
  subst e
  -- what stays true of the iterator's objects through the loop
  have stat : ∀ {H' : Hp}, (∀ b ∈ fp, H' b = none) → ∀ b ∈ fp, FpOk X pins H' b := fun hn b hb => ⟨hn b hb, (f2 b hb).2⟩
  refine codeAny_forLoop_any (fun n s' => ∃ i σ' H', Inv X pins σ' H' s' ∧ tn i s'.heap ∧ (∀ b ∈ fp, H' b = none) ∧ W i n σ' H') ?_ m0 ⟨0, σ, H2, I2, st2, fun b hb => (f2 b hb).1, w0⟩
  rintro n s3 ⟨i, σ3, H3, I3, st3, fr3, w3⟩
  rcases turn i n σ3 H3 w3 with ⟨stop, qn⟩ | ⟨go, N, hN, step⟩
  · refine wpAny_passesOwn hp (thn (T.done X rfl rfl rfl hc i pins s3 σ3 H3 X.xe I3 (stat fr3) st3 stop) fun r s4 ⟨hr, I4⟩ => ?_)
    subst hr
    exact wpAny_execs_nil ⟨σ3, H3, I4, qn⟩
  · refine wpAny_passesOwn hp (thn (T.item X rfl rfl rfl hc i pins s3 σ3 H3 X.xe I3 (stat fr3) st3 go) fun r s4 ⟨u, hr, h4⟩ => ?_)
    subst hr
    refine wpAny_passesOwn hp (thn h4 fun _ s5 ⟨x, H5, I5, r5, y5, st5, fr5⟩ => ?_)
    have I5' := I5.pinned (stat fr5) (T.obj _ _ st5)
    refine wpAny_passesOwn hp (thn (hg _ s5 σ3 H5 x u _ I5' r5 (step x H5 y5)) fun _ s6 ⟨σ6, H6, I6, q6⟩ => ?_)
    refine wpAny_passesOwn hp (thn (hb _ s6 σ6 H6 _ I6 q6) fun f s7 q7 => ?_)
    have again : ∀ {σ7 : St} {H7 : Hp}, Inv X (pins ++ pinsAt fp s5.heap) σ7 H7 s7 → N σ7 H7 → ∃ m, m < n ∧ ∃ i σ' H', Inv X pins σ' H' s7 ∧ tn i s7.heap ∧ (∀ b ∈ fp, H' b = none) ∧ W i m σ' H' := fun {σ7 H7} I7 n7 => by
      obtain ⟨m', hm, w7⟩ := hN σ7 H7 n7
      refine ⟨m', hm, i + 1, σ7, H7, I7.unpinned, T.keep _ _ _ st5 fun b hb o e => (I7.pin (b, o) (List.mem_append_right _ (List.mem_append_right _ (mem_pinsAt hb e)))).1, fun b hb => ?_, w7⟩
      obtain ⟨o, e, d⟩ := T.obj _ _ st5 b hb
      exact (I7.pin (b, o) (List.mem_append_right _ (List.mem_append_right _ (mem_pinsAt hb e)))).2.1
    cases f with
    | next => obtain ⟨σ7, H7, I7, n7⟩ := q7; exact again I7 n7
    | cont => obtain ⟨σ7, H7, I7, n7⟩ := q7; exact again I7 n7
    | brk => obtain ⟨σ7, H7, I7, q7⟩ := q7; exact ⟨σ7, H7, I7.unpinned, q7⟩
    | ret v => obtain ⟨x7, σ7, H7, I7, r7, q7⟩ := q7; exact ⟨x7, σ7, H7, I7.unpinned, r7, q7⟩
end
theorem for_list {K : PySem.W.Frag} {a : Addr} {xs : List V} {g : TG} {tb : TS} {D : Ends} {σ : St} {H : Hp} (Pv : Nat → St → Hp → Prop) (h0 : Pv 0 σ H) (hl : ∀ i σ H, i ≤ xs.length → Pv i σ H → SqL K H a xs)
    (hs : ∀ i x σ H, xs[i]? = some x → Pv i σ H → g x σ H fun σ2 H2 => tb { D with nx := Pv (i + 1), ct := Pv (i + 1), bk := D.nx } σ2 H2) (hd : ∀ σ H, Pv xs.length σ H → D.nx σ H) :
    ∃ W : Nat → Nat → St → Hp → Prop, (∃ m, W 0 m σ H) ∧ ∀ i m σ H, W i m σ H →
      ((Itl K a).stop i H ∧ D.nx σ H) ∨ ((Itl K a).go i H ∧ ∃ N : St → Hp → Prop, (∀ σ' H', N σ' H' → ∃ m', m' < m ∧ W (i + 1) m' σ' H') ∧ ∀ x H', (Itl K a).yld i H x H' → g x σ H' fun σ2 H2 => tb { D with nx := N, ct := N, bk := D.nx } σ2 H2) := by
  refine ⟨fun i m σ H => m = xs.length - i ∧ i ≤ xs.length ∧ Pv i σ H, ⟨xs.length, by simp, Nat.zero_le _, h0⟩, ?_⟩
  rintro i m σ H ⟨rfl, hi, p⟩
  have q := hl i σ H hi p
  by_cases hlt : i < xs.length
  · refine .inr ⟨⟨xs, xs[i], q, by simp [hlt]⟩, Pv (i + 1), fun σ' H' p' => ⟨xs.length - (i + 1), by omega, rfl, hlt, p'⟩, fun x H' y => ?_⟩
    obtain ⟨e, y⟩ := y
    subst e
    exact hs i x σ _ (y xs q) p
  · have e : i = xs.length := by omega
    subst e
    exact .inl ⟨⟨xs, q, Nat.le_refl _⟩, hd σ H p⟩
theorem for_tup {K : PySem.W.Frag} {a : Addr} {xs : List V} {g : TG} {tb : TS} {D : Ends} {σ : St} {H : Hp} (Pv : Nat → St → Hp → Prop) (h0 : Pv 0 σ H) (hl : ∀ i σ H, i ≤ xs.length → Pv i σ H → SqT K H a xs)
    (hs : ∀ i x σ H, xs[i]? = some x → Pv i σ H → g x σ H fun σ2 H2 => tb { D with nx := Pv (i + 1), ct := Pv (i + 1), bk := D.nx } σ2 H2) (hd : ∀ σ H, Pv xs.length σ H → D.nx σ H) :
    ∃ W : Nat → Nat → St → Hp → Prop, (∃ m, W 0 m σ H) ∧ ∀ i m σ H, W i m σ H →
      ((Itt K a).stop i H ∧ D.nx σ H) ∨ ((Itt K a).go i H ∧ ∃ N : St → Hp → Prop, (∀ σ' H', N σ' H' → ∃ m', m' < m ∧ W (i + 1) m' σ' H') ∧ ∀ x H', (Itt K a).yld i H x H' → g x σ H' fun σ2 H2 => tb { D with nx := N, ct := N, bk := D.nx } σ2 H2) := by
  refine ⟨fun i m σ H => m = xs.length - i ∧ i ≤ xs.length ∧ Pv i σ H, ⟨xs.length, by simp, Nat.zero_le _, h0⟩, ?_⟩
  rintro i m σ H ⟨rfl, hi, p⟩
  have q := hl i σ H hi p
  by_cases hlt : i < xs.length
  · refine .inr ⟨⟨xs, xs[i], q, by simp [hlt]⟩, Pv (i + 1), fun σ' H' p' => ⟨xs.length - (i + 1), by omega, rfl, hlt, p'⟩, fun x H' y => ?_⟩
    obtain ⟨e, y⟩ := y
    subst e
    exact hs i x σ _ (y xs q) p
  · have e : i = xs.length := by omega
    subst e
    exact .inl ⟨⟨xs, q, Nat.le_refl _⟩, hd σ H p⟩
theorem for_range {lo : Int} {n : Nat} {g : TG} {tb : TS} {D : Ends} {σ : St} {H : Hp} (Pv : Nat → St → Hp → Prop) (h0 : Pv 0 σ H)
    (hs : ∀ i σ H, i < n → Pv i σ H → g (.int (lo + i)) σ H fun σ2 H2 => tb { D with nx := Pv (i + 1), ct := Pv (i + 1), bk := D.nx } σ2 H2) (hd : ∀ σ H, Pv n σ H → D.nx σ H) :
    ∃ W : Nat → Nat → St → Hp → Prop, (∃ m, W 0 m σ H) ∧ ∀ i m σ H, W i m σ H →
      ((Itr lo n).stop i H ∧ D.nx σ H) ∨ ((Itr lo n).go i H ∧ ∃ N : St → Hp → Prop, (∀ σ' H', N σ' H' → ∃ m', m' < m ∧ W (i + 1) m' σ' H') ∧ ∀ x H', (Itr lo n).yld i H x H' → g x σ H' fun σ2 H2 => tb { D with nx := N, ct := N, bk := D.nx } σ2 H2) := by
  refine ⟨fun i m σ H => m = n - i ∧ i ≤ n ∧ Pv i σ H, ⟨n, by simp, Nat.zero_le _, h0⟩, ?_⟩
  rintro i m σ H ⟨rfl, hi, p⟩
  by_cases hlt : i < n
  · refine .inr ⟨hlt, Pv (i + 1), fun σ' H' p' => ⟨n - (i + 1), by omega, rfl, hlt, p'⟩, fun x H' y => ?_⟩
    obtain ⟨e, y⟩ := y
    subst e y
    exact hs i σ _ hlt p
  · have e : i = n := by omega
    subst e
    exact .inl ⟨Nat.le_refl _, hd σ H p⟩
theorem while_by {c : TT} {tb : TS} {D : Ends} {σ : St} {H : Hp} (Pv : St → Hp → Prop) (μ : St → Hp → Nat) (h0 : Pv σ H)
    (hs : ∀ σ H, Pv σ H → c σ H fun b H1 => if b = true then tb { D with nx := fun σ' H' => Pv σ' H' ∧ μ σ' H' < μ σ H, ct := fun σ' H' => Pv σ' H' ∧ μ σ' H' < μ σ H, bk := D.nx } σ H1 else D.nx σ H1)
    (mono : ∀ σ H Q Q', (∀ b H1, Q b H1 → Q' b H1) → c σ H Q → c σ H Q') : tWhile c tb D σ H := by
  refine ⟨fun m σ H => m = μ σ H ∧ Pv σ H, ⟨_, rfl, h0⟩, ?_⟩
  rintro m σ H ⟨rfl, p⟩
  refine mono σ H _ _ (fun b H1 q => ?_) (hs σ H p)
  cases b with
  | true => exact ⟨_, fun σ' H' ⟨p', l⟩ => ⟨_, l, rfl, p'⟩, q⟩
  | false => exact q
end L2
namespace L2
open PySem PySem.Spec PyProof.Rows
abbrev R2 := V → V → Hp → VK → Prop
def OpR (X : Cx) (f : Value → Value → Sem Value) (r : R2) : Prop :=
  ∀ (pins : List (Addr × Obj)) (s : Shared) (σ : St) (H : Hp) (x y : V) (v u : Value) (Q : VK), Inv X pins σ H s → RelV x v → RelV y u → r x y H Q →
    wpAny (model X.prog X.w) X.A (f v u) (EP X pins σ Q) X.xe s
def UnR (X : Cx) (f : Value → Sem Value) (r : V → Hp → VK → Prop) : Prop :=
  ∀ (pins : List (Addr × Obj)) (s : Shared) (σ : St) (H : Hp) (x : V) (v : Value) (Q : VK), Inv X pins σ H s → RelV x v → r x H Q →
    wpAny (model X.prog X.w) X.A (f v) (EP X pins σ Q) X.xe s
def CallR (X : Cx) (f : Value) (r : List V → Hp → VK → Prop) : Prop :=
  ∀ (pins : List (Addr × Obj)) (s : Shared) (σ : St) (H : Hp) (xs : List V) (us : List Value) (Q : VK), Inv X pins σ H s → Vals xs us → r xs H Q →
    wpAny (model X.prog X.w) X.A (call f us) (EP X pins σ Q) X.xe s
def tOp (r : R2) (ta tb : TE) : TE := fun σ H Q => ta σ H fun x H1 => tb σ H1 fun y H2 => r x y H2 Q
def tUn (r : V → Hp → VK → Prop) (ta : TE) : TE := fun σ H Q => ta σ H fun x H1 => r x H1 Q
def rI (C : Int → Int → Prop) (g : Int → Int → V) : R2 := fun x y H Q => ∃ i j, x = .int i ∧ y = .int j ∧ C i j ∧ Q (g i j) H
def rI0 (g : Int → Int → V) : R2 := fun x y H Q => ∃ i j, x = .int i ∧ y = .int j ∧ Q (g i j) H
def rU (g : Int → V) : V → Hp → VK → Prop := fun x H Q => ∃ i, x = .int i ∧ Q (g i) H
section
variable {X : Cx} {a b c : Expr} {ta tb tc : TE} {pos : Pos}
theorem binT (ha : PE X a ta) (hb : PE X b tb) {pins : List (Addr × Obj)} {s : Shared} {σ : St} {H : Hp} {R : V → V → Hp → Prop} (I : Inv X pins σ H s)
    (h : ta σ H fun x H1 => tb σ H1 fun y H2 => R x y H2) {Q : Value → Shared → Prop} {f : Value → Value → Sem Value}
    (hf : ∀ v u s2 x y H2, Inv X pins σ H2 s2 → RelV x v → RelV y u → R x y H2 → wpAny (model X.prog X.w) X.A (f v u) Q X.xe s2) :
    wpAny (model X.prog X.w) X.A (eval a X.env) (fun v s₁ => wpAny (model X.prog X.w) X.A (eval b X.env) (fun u s₂ => wpAny (model X.prog X.w) X.A (f v u) Q X.xe s₂) X.xe s₁) X.xe s := by
  refine thn (ha pins s σ H _ I h) fun v s1 ⟨x, H1, I1, r1, q1⟩ => ?_
  refine thn (hb pins s1 σ H1 _ I1 q1) fun u s2 ⟨y, H2, I2, r2, q2⟩ => ?_
  exact hf v u s2 x y H2 I2 r1 r2 q2
theorem pe_op {op : Operator} {r : R2} (ho : OpR X (binaryOp op) r) (ha : PE X a ta) (hb : PE X b tb) : PE X (.BinOp a op b pos) (tOp r ta tb) := by
  intro pins s σ H Q I h
  exact wpAny_BinOp (binT ha hb I h fun v u s2 x y H2 I2 rx ry q => ho pins s2 σ H2 x y v u Q I2 rx ry q)
theorem pe_un {op : UnaryOp} {r : V → Hp → VK → Prop} (ho : UnR X (unaryOp op) r) (ha : PE X a ta) : PE X (.UnaryOp op a pos) (tUn r ta) := by
  intro pins s σ H Q I h
  exact UnaryOp_ (thn (ha pins s σ H _ I h) fun v s1 ⟨x, H1, I1, r1, q1⟩ => ho pins s1 σ H1 x v Q I1 r1 q1)
theorem opI {f : Value → Value → Sem Value} {C : Int → Int → Prop} {g : Int → Int → Int}
    (rule : ∀ (i j : Int) (t u : Tok) (s : Shared) (Q : Value → Shared → Prop) (E : Value → Shared → Prop), C i j → Q (.int (g i j) s.toks) { s with toks := s.toks + 1 } → wpAny (model X.prog X.w) X.A (f (.int i t) (.int j u)) Q E s) :
    OpR X f (rI C fun i j => .int (g i j)) := by
  intro pins s σ H x y v u Q I rx ry h
  obtain ⟨i, j, rfl, rfl, hc, q⟩ := h
  obtain ⟨t, rfl⟩ := rx
  obtain ⟨t', rfl⟩ := ry
  exact rule i j t t' s _ _ hc ⟨.int (g i j), H, I.tok _, ⟨_, rfl⟩, q⟩
theorem opI0 {f : Value → Value → Sem Value} {g : Int → Int → Int}
    (rule : ∀ (i j : Int) (t u : Tok) (s : Shared) (Q : Value → Shared → Prop) (E : Value → Shared → Prop), Q (.int (g i j) s.toks) { s with toks := s.toks + 1 } → wpAny (model X.prog X.w) X.A (f (.int i t) (.int j u)) Q E s) :
    OpR X f (rI0 fun i j => .int (g i j)) := by
  intro pins s σ H x y v u Q I rx ry h
  obtain ⟨i, j, rfl, rfl, q⟩ := h
  obtain ⟨t, rfl⟩ := rx
  obtain ⟨t', rfl⟩ := ry
  exact rule i j t t' s _ _ ⟨.int (g i j), H, I.tok _, ⟨_, rfl⟩, q⟩
theorem opB0 {f : Value → Value → Sem Value} {g : Int → Int → Bool}
    (rule : ∀ (i j : Int) (t u : Tok) (s : Shared) (Q : Value → Shared → Prop) (E : Value → Shared → Prop), Q (.bool (g i j)) s → wpAny (model X.prog X.w) X.A (f (.int i t) (.int j u)) Q E s) :
    OpR X f (rI0 fun i j => .bl (g i j)) := by
  intro pins s σ H x y v u Q I rx ry h
  obtain ⟨i, j, rfl, rfl, q⟩ := h
  obtain ⟨t, rfl⟩ := rx
  obtain ⟨t', rfl⟩ := ry
  exact rule i j t t' s _ _ ⟨.bl (g i j), H, I, rfl, q⟩
def CDiv (i j : Int) : Prop := 0 < j ∧ j < 1073741824
def CPow (i j : Int) : Prop := 0 ≤ j ∧ j ≤ 1000000 ∧ i.natAbs < 2 ^ 64
def CMul (i j : Int) : Prop := (-(2 ^ 64) < i ∧ i < 2 ^ 64) ∨ (-(2 ^ 64) < j ∧ j < 2 ^ 64)
theorem CMul.ok {i j : Int} (h : CMul i j) : IntMulOk i j := by
  rcases h with ⟨h1, h2⟩ | ⟨h1, h2⟩
  · exact .of_left (intBits_le_64 h1 h2)
  · exact .of_right (intBits_le_64 h1 h2)
theorem op_add : OpR X (binaryOp .Add) (rI0 fun i j => .int (i + j)) := opI0 fun _ _ _ _ _ _ _ q => add_int q
theorem op_sub : OpR X (binaryOp .Sub) (rI0 fun i j => .int (i - j)) := opI0 fun _ _ _ _ _ _ _ q => sub_int q
theorem op_mul : OpR X (binaryOp .Mult) (rI CMul fun i j => .int (i * j)) := opI fun _ _ _ _ _ _ _ hc q => mul_int q hc.ok
theorem op_fdiv : OpR X (binaryOp .FloorDiv) (rI CDiv fun i j => .int (i / j)) := opI fun i j _ _ _ _ _ hc q => by
  have h1 : (0 : Int) < j := hc.1
  have h2 : j < 1073741824 := hc.2
  exact floordiv_int (by omega) (by rw [Int.fdiv_eq_ediv_of_nonneg i (by omega)]; exact q) (.inl (PyProof.noPylong_small (by omega)))
theorem op_mod : OpR X (binaryOp .Mod) (rI (fun _ j => 0 < j) fun i j => .int (i % j)) := opI fun i j _ _ _ _ _ hc q => by
  have h1 : (0 : Int) < j := hc
  exact mod_int' (by omega) (by rw [Int.fmod_eq_emod_of_nonneg i (by omega)]; exact q)
theorem op_pow : OpR X (binaryOp .Pow) (rI CPow fun i j => .int (i ^ j.toNat)) := opI fun _ _ _ _ _ _ _ hc q => pow_int_small hc.1 hc.2.1 hc.2.2 q
theorem unI {f : Value → Sem Value} {g : Int → Int}
    (rule : ∀ (i : Int) (t : Tok) (s : Shared) (Q : Value → Shared → Prop) (E : Value → Shared → Prop), Q (.int (g i) s.toks) { s with toks := s.toks + 1 } → wpAny (model X.prog X.w) X.A (f (.int i t)) Q E s) :
    UnR X f (rU fun i => .int (g i)) := by
  intro pins s σ H x v Q I rx h
  obtain ⟨i, rfl, q⟩ := h
  obtain ⟨t, rfl⟩ := rx
  exact rule i t s _ _ ⟨.int (g i), H, I.tok _, ⟨_, rfl⟩, q⟩
theorem un_neg : UnR X (unaryOp .USub) (rU fun i => .int (-i)) := unI fun _ _ _ _ _ q => neg_int q
end
def scal : V → V → Bool
  | .non, .non => true | .non, .int _ => true | .int _, .non => true | .non, .bl _ => true | .bl _, .non => true | .non, .str _ => true | .str _, .non => true
  | .int _, .int _ => true | .bl _, .bl _ => true | .str _, .str _ => true | .byt _, .byt _ => true
  | .int _, .str _ => true | .str _, .int _ => true | .bl _, .str _ => true | .str _, .bl _ => true
  | _, _ => false
def rEq : R2 := fun x y H Q => scal x y = true ∧ Q (.bl (decide (x = y))) H
def rNe : R2 := fun x y H Q => scal x y = true ∧ Q (.bl (!decide (x = y))) H
theorem dec_int {i j : Int} : decide (V.int i = V.int j) = (i == j) := by
  rw [Bool.eq_iff_iff]
  simp
theorem dec_bl {i j : Bool} : decide (V.bl i = V.bl j) = (i == j) := by
  rw [Bool.eq_iff_iff]
  simp
theorem dec_str {i j : Str} : decide (V.str i = V.str j) = (i == j) := by
  rw [Bool.eq_iff_iff]
  simp
theorem dec_byt {i j : Array UInt8} : decide (V.byt i = V.byt j) = (i.toList == j.toList) := by
  rw [Bool.eq_iff_iff]
  cases i
  cases j
  simp
section
variable {X : Cx} {a b c : Expr} {ta tb tc : TE} {pos : Pos}
theorem fin_bl {pins : List (Addr × Obj)} {σ : St} {H : Hp} {s : Shared} {Q : VK} {k k' : Bool} (I : Inv X pins σ H s) (q : Q (.bl k) H) (e : k = k') : EP X pins σ Q (.bool k') s := by
  subst e
  exact ⟨.bl k, H, I, rfl, q⟩
theorem op_eq : OpR X (compareOp .Eq) rEq := by
  intro pins s σ H x y v u Q I rx ry h
  obtain ⟨hs, q⟩ := h
  cases x with
  | non =>
    cases rx
    cases y with
    | non => cases ry; exact PySem.EqNone.eq_none_none (fin_bl I q (by simp))
    | bl j => cases ry; exact PySem.EqNone.eq_none_bool (fin_bl I q (by simp))
    | int j => obtain ⟨t', rfl⟩ := ry; exact PySem.EqNone.eq_none_int (fin_bl I q (by simp))
    | str j => obtain ⟨t', rfl⟩ := ry; exact PySem.EqNone.eq_none_str (fin_bl I q (by simp))
    | _ => exact absurd (show false = true from hs) Bool.false_ne_true
  | bl i =>
    cases rx
    cases y with
    | non => cases ry; exact PySem.EqNone.eq_bool_none (fin_bl I q (by simp))
    | bl j => cases ry; exact eq_bool (fin_bl I q dec_bl)
    | str j => obtain ⟨t', rfl⟩ := ry; exact PySem.EqMixed.eq_bool_str (fin_bl I q (by simp))
    | _ => exact absurd (show false = true from hs) Bool.false_ne_true
  | int i =>
    obtain ⟨t, rfl⟩ := rx
    cases y with
    | non => cases ry; exact PySem.EqNone.eq_int_none (fin_bl I q (by simp))
    | int j => obtain ⟨t', rfl⟩ := ry; exact eq_int (fin_bl I q dec_int)
    | str j => obtain ⟨t', rfl⟩ := ry; exact PySem.EqMixed.eq_int_str (fin_bl I q (by simp))
    | _ => exact absurd (show false = true from hs) Bool.false_ne_true
  | str i =>
    obtain ⟨t, rfl⟩ := rx
    cases y with
    | non => cases ry; exact PySem.EqNone.eq_str_none (fin_bl I q (by simp))
    | bl j => cases ry; exact PySem.EqMixed.eq_str_bool (fin_bl I q (by simp))
    | int j => obtain ⟨t', rfl⟩ := ry; exact PySem.EqMixed.eq_str_int (fin_bl I q (by simp))
    | str j => obtain ⟨t', rfl⟩ := ry; exact eq_str (fin_bl I q dec_str)
    | _ => exact absurd (show false = true from hs) Bool.false_ne_true
  | byt i =>
    obtain ⟨t, rfl⟩ := rx
    cases y with
    | byt j => obtain ⟨t', rfl⟩ := ry; exact PySem.W.eq_bytes (fin_bl I q dec_byt)
    | _ => exact absurd (show false = true from hs) Bool.false_ne_true
  | _ => cases y <;> exact absurd (show false = true from hs) Bool.false_ne_true
theorem op_ne : OpR X (compareOp .NotEq) rNe := by
  intro pins s σ H x y v u Q I rx ry h
  obtain ⟨hs, q⟩ := h
  cases x with
  | non =>
    cases rx
    cases y with
    | non => cases ry; exact PySem.EqNone.ne_none_none (fin_bl I q (by simp))
    | bl j => cases ry; exact PySem.EqNone.ne_none_bool (fin_bl I q (by simp))
    | int j => obtain ⟨t', rfl⟩ := ry; exact PySem.EqNone.ne_none_int (fin_bl I q (by simp))
    | str j => obtain ⟨t', rfl⟩ := ry; exact PySem.EqNone.ne_none_str (fin_bl I q (by simp))
    | _ => exact absurd (show false = true from hs) Bool.false_ne_true
  | bl i =>
    cases rx
    cases y with
    | non => cases ry; exact PySem.EqNone.ne_bool_none (fin_bl I q (by simp))
    | bl j => cases ry; exact ne_bool (fin_bl I q (congrArg not dec_bl))
    | str j => obtain ⟨t', rfl⟩ := ry; exact PySem.EqMixed.ne_bool_str (fin_bl I q (by simp))
    | _ => exact absurd (show false = true from hs) Bool.false_ne_true
  | int i =>
    obtain ⟨t, rfl⟩ := rx
    cases y with
    | non => cases ry; exact PySem.EqNone.ne_int_none (fin_bl I q (by simp))
    | int j => obtain ⟨t', rfl⟩ := ry; exact ne_int (fin_bl I q (congrArg not dec_int))
    | str j => obtain ⟨t', rfl⟩ := ry; exact PySem.EqMixed.ne_int_str (fin_bl I q (by simp))
    | _ => exact absurd (show false = true from hs) Bool.false_ne_true
  | str i =>
    obtain ⟨t, rfl⟩ := rx
    cases y with
    | non => cases ry; exact PySem.EqNone.ne_str_none (fin_bl I q (by simp))
    | bl j => cases ry; exact PySem.EqMixed.ne_str_bool (fin_bl I q (by simp))
    | int j => obtain ⟨t', rfl⟩ := ry; exact PySem.EqMixed.ne_str_int (fin_bl I q (by simp))
    | str j => obtain ⟨t', rfl⟩ := ry; exact ne_str (fin_bl I q (congrArg not dec_str))
    | _ => exact absurd (show false = true from hs) Bool.false_ne_true
  | byt i =>
    obtain ⟨t, rfl⟩ := rx
    cases y with
    | byt j => obtain ⟨t', rfl⟩ := ry; exact PySem.W.ne_bytes (fin_bl I q (congrArg not dec_byt))
    | _ => exact absurd (show false = true from hs) Bool.false_ne_true
  | _ => cases y <;> exact absurd (show false = true from hs) Bool.false_ne_true
theorem op_lt : OpR X (compareOp .Lt) (rI0 fun i j => .bl (decide (i < j))) := opB0 fun _ _ _ _ _ _ _ q => lt_int q
theorem op_le : OpR X (compareOp .LtE) (rI0 fun i j => .bl (decide (i ≤ j))) := opB0 fun _ _ _ _ _ _ _ q => le_int q
theorem op_gt : OpR X (compareOp .Gt) (rI0 fun i j => .bl (decide (j < i))) := opB0 fun _ _ _ _ _ _ _ q => gt_int q
theorem op_ge : OpR X (compareOp .GtE) (rI0 fun i j => .bl (decide (j ≤ i))) := opB0 fun _ _ _ _ _ _ _ q => ge_int q
theorem op_isN : OpR X (compareOp .Is) (fun x y H Q => y = .non ∧ Q (.bl (decide (x = .non))) H) := by
  intro pins s σ H x y v u Q I rx ry h
  obtain ⟨rfl, q⟩ := h
  cases ry
  refine is_none_gen (fin_bl I q ?_)
  cases x <;> first
    | (cases rx; rfl)
    | (obtain ⟨t, rfl⟩ := rx; rfl)
theorem op_notN : OpR X (compareOp .IsNot) (fun x y H Q => y = .non ∧ Q (.bl (!decide (x = .non))) H) := by
  intro pins s σ H x y v u Q I rx ry h
  obtain ⟨rfl, q⟩ := h
  cases ry
  refine isnot_none_gen (fin_bl I q ?_)
  cases x <;> first
    | (cases rx; rfl)
    | (obtain ⟨t, rfl⟩ := rx; rfl)
theorem OpR.or {f : Value → Value → Sem Value} {r r' : R2} (h : OpR X f r) (h' : OpR X f r') : OpR X f (fun x y H Q => r x y H Q ∨ r' x y H Q) := by
  intro pins s σ H x y v u Q I rx ry q
  rcases q with q | q
  · exact h pins s σ H x y v u Q I rx ry q
  · exact h' pins s σ H x y v u Q I rx ry q
theorem nomark (b : Expr) {op : CmpOp} (h : op ≠ .In := by decide) (h2 : op ≠ .NotIn := by decide) : behindInMarks op b = false := by
  have e1 : (op == CmpOp.In) = false := by cases op <;> first | rfl | exact absurd rfl h
  have e2 : (op == CmpOp.NotIn) = false := by cases op <;> first | rfl | exact absurd rfl h2
  cases b <;> simp [behindInMarks, e1, e2]
theorem pe_cmpR {op : CmpOp} {r : R2} (ho : OpR X (compareOp op) r) (ha : PE X a ta) (hb : PE X b tb) (hm : behindInMarks op b = false) : PE X (.Compare a [op] [b] pos) (tOp r ta tb) := by
  intro pins s σ H Q I h
  exact wpAny_Compare1 (binT ha hb I h fun v u s2 x y H2 I2 rx ry q => ho pins s2 σ H2 x y v u Q I2 rx ry q) hm
def tTest (t : TE) : TT := fun σ H Q => t σ H fun x H' => ∃ k, x = .bl k ∧ Q k H'
theorem pt_cmpR {op : CmpOp} {r : R2} (ho : OpR X (compareOp op) r) (ha : PE X a ta) (hb : PE X b tb) (hm : behindInMarks op b = false) : PT X (.Compare a [op] [b] pos) (tTest (tOp r ta tb)) := by
  intro pins s σ H Q I h
  refine wpAny_isTrue_Compare1 (thn (ha pins s σ H _ I h) fun v s1 ⟨x, H1, I1, r1, q1⟩ => thn (hb pins s1 σ H1 _ I1 q1) fun u s2 ⟨y, H2, I2, r2, q2⟩ =>
    thn (ho pins s2 σ H2 x y v u _ I2 r1 r2 q2) fun c s3 ⟨z, H3, I3, r3, k, e, q3⟩ => ?_) hm
  subst e
  cases r3
  exact wpAny_truthy_bool ⟨H3, I3, q3⟩
def tChain (r r' : R2) (ta tb tc : TE) : TE := fun σ H Q => ta σ H fun x H1 => tb σ H1 fun y H2 => r x y H2 fun z H3 => ∃ k, z = .bl k ∧
  (if k = true then tc σ H3 fun w' H4 => r' y w' H4 Q else Q (.bl false) H3)
theorem pe_chain {op op' : CmpOp} {r r' : R2} (ho : OpR X (compareOp op) r) (ho' : OpR X (compareOp op') r') (ha : PE X a ta) (hb : PE X b tb) (hc : PE X c tc)
    (hm : lastMarks [op, op'] [b, c] = false := by with_unfolding_all rfl) : PE X (.Compare a [op, op'] [b, c] pos) (tChain r r' ta tb tc) := by
  intro pins s σ H Q I h
  refine Compare_chain (thn (ha pins s σ H _ I h) fun v s1 ⟨x, H1, I1, r1, q1⟩ => chain_link (thn (hb pins s1 σ H1 _ I1 q1) fun u s2 ⟨y, H2, I2, r2, q2⟩ =>
    thn (ho pins s2 σ H2 x y v u _ I2 r1 r2 q2) fun d s3 ⟨z, H3, I3, r3, k, e, q3⟩ => ?_)) hm
  subst e
  cases r3
  refine wpAny_truthy_bool ?_
  cases k with
  | false => exact ite_ff ⟨.bl false, H3, I3, rfl, q3⟩
  | true => exact ite_tt (chain_last (thn (hc pins s3 σ H3 _ I3 q3) fun w' s4 ⟨z', H4, I4, r4, q4⟩ => ho' pins s4 σ H4 y z' u w' Q I4 r2 r4 q4))
theorem line63 : (sizeLine : Nat) < 2 ^ 63 := by rw [sizeLine_eq]; decide
theorem vals1 {x : V} {us : List Value} (r : Vals [x] us) : ∃ u, us = [u] ∧ RelV x u := by
  cases r with
  | cons r1 r2 => cases r2; exact ⟨_, rfl, r1⟩
theorem vals2 {x y : V} {us : List Value} (r : Vals [x, y] us) : ∃ u w', us = [u, w'] ∧ RelV x u ∧ RelV y w' := by
  cases r with
  | cons r1 r2 =>
    cases r2 with
    | cons r3 r4 => cases r4; exact ⟨_, _, rfl, r1, r3⟩
theorem call_abs : CallR X (.builtin "abs") (fun xs H Q => ∃ i, xs = [.int i] ∧ Q (.int (if i < 0 then -i else i)) H) := by
  intro pins s σ H xs us Q I r h
  obtain ⟨i, rfl, q⟩ := h
  obtain ⟨u, rfl, t, rfl⟩ := vals1 r
  exact call_abs_int fun u tk => ⟨.int (if i < 0 then -i else i), H, I.tok _, ⟨_, rfl⟩, q⟩
theorem call_max2 (hc : X.calm = true) : CallR X (.builtin "max") (fun xs H Q => ∃ i j, xs = [.int i, .int j] ∧ Q (.int (if j > i then j else i)) H) := by
  intro pins s σ H xs us Q I r h
  obtain ⟨i, j, rfl, q⟩ := h
  obtain ⟨u, w', rfl, ⟨t, rfl⟩, ⟨t', rfl⟩⟩ := vals2 r
  refine max_two_ints (I.ok.hd hc) fun h' tk k => ⟨_, H, I.kept k, ?_, q⟩
  by_cases hj : j > i
  · rw [if_pos hj, if_pos hj]; exact ⟨_, rfl⟩
  · rw [if_neg hj, if_neg hj]; exact ⟨_, rfl⟩
theorem call_min2 (hc : X.calm = true) : CallR X (.builtin "min") (fun xs H Q => ∃ i j, xs = [.int i, .int j] ∧ Q (.int (if j < i then j else i)) H) := by
  intro pins s σ H xs us Q I r h
  obtain ⟨i, j, rfl, q⟩ := h
  obtain ⟨u, w', rfl, ⟨t, rfl⟩, ⟨t', rfl⟩⟩ := vals2 r
  refine min_two_ints (I.ok.hd hc) fun h' tk k => ⟨_, H, I.kept k, ?_, q⟩
  by_cases hj : j < i
  · rw [if_pos hj, if_pos hj]; exact ⟨_, rfl⟩
  · rw [if_neg hj, if_neg hj]; exact ⟨_, rfl⟩
theorem call_int1 : CallR X (.type "int") (fun xs H Q => (∃ i, xs = [.int i] ∧ Q (.int i) H) ∨ ∃ k, xs = [.bl k] ∧ Q (.int (if k then 1 else 0)) H) := by
  intro pins s σ H xs us Q I r h
  rcases h with ⟨i, rfl, q⟩ | ⟨k, rfl, q⟩
  · obtain ⟨u, rfl, t, rfl⟩ := vals1 r
    exact call_int_int ⟨.int i, H, I, ⟨_, rfl⟩, q⟩
  · obtain ⟨u, rfl, r1⟩ := vals1 r
    cases r1
    exact call_int_bool ⟨.int (if k then 1 else 0), H, I.tok _, ⟨_, rfl⟩, q⟩
end
end L2
namespace L2
open PySem PySem.Spec PyProof.Rows
structure ObjM (h : Heap) (x dx C : Addr) (mA : Str → Option Value) : Prop where
  obj : h.get? x = some (PySem.W.instObj C dx)
  ns : h.Ns1 dx mA
  ne : dx ≠ x
theorem lookIn_ns {h : Heap} {dx : Addr} {mA : Str → Option Value} (n : h.Ns1 dx mA) : ∃ od, h.get? dx = some od ∧ ∀ name, PySem.W.lookIn name od = some (mA name) := by
  obtain ⟨o, es, ep, ho, hd, hk, _, hm⟩ := n
  refine ⟨o, ho, fun name => ?_⟩
  have e := hm name
  unfold nsFind findBy at e
  rw [← Array.find?_toList] at e
  unfold PySem.W.lookIn
  rw [hd]
  dsimp only
  split
  · rename_i y q
    rw [q] at e
    exact congrArg some e
  · rename_i q
    rw [q] at e
    have a : es.toList.any (·.refKey) = false := by
      rw [List.any_eq_false]
      intro y hy
      obtain ⟨z, t, hkey⟩ := hk y (Array.mem_toList_iff.mp hy)
      simp [DictEntry.refKey, hkey]
    have a' : ¬ es.toList.any (·.refKey) = true := by rw [a]; exact Bool.false_ne_true
    rw [if_neg a']
    exact congrArg some e
theorem ObjM.look {h : Heap} {x dx C : Addr} {mA : Str → Option Value} (I : ObjM h x dx C mA) : ∃ od, PySem.W.InstAt h x (PySem.W.instObj C dx) C (some od) ∧ ∀ name, PySem.W.lookIn name od = some (mA name) :=
  let ⟨od, ho, hl⟩ := lookIn_ns I.ns
  ⟨od, ⟨I.obj, rfl, rfl, ho⟩, hl⟩
section
variable {prog : Program} {w : World} {A : Around} {E : Value → Shared → Prop} {s : Shared} {K : PySem.W.Frag} {x dx C f : Addr} {mA : Str → Option Value} {name : Str} {v : Value}
end
section
variable {P : Program} {w : World} {H H' : Hp} {h h' : Heap} {a C dx : Addr} {fs fs' : List (Str × V)}
theorem ins_get (hok : HOk P w H h) (e : H a = some (.ins C dx fs)) : ∃ mA, ObjM h a dx C mA ∧ (∀ f, RelO (fs.lookup f) (mA f)) ∧ PySem.Within mA (fs.map (·.1)) ∧ fs.length ≤ 1000 ∧ H dx = some (.own a) := by
  obtain ⟨d, z, ne, ob, mA, n, r, q⟩ := (show ObjOk P w H h a (.ins C dx fs) from hok a _ e)
  exact ⟨mA, ⟨ob, n, ne⟩, r, q, z, d⟩
end
structure Cls (K : PySem.W.Frag) (C : Addr) : Prop where
  pg : PySem.W.plainGet K C Str.empty = true
  hd : PySem.W.hasDictIn K C = true
  po : PySem.W.plainOver K C = true
  sa : PySem.W.findIn K (.ref C) "__setattr__" = some (some (.builtin "object.__setattr__"))
theorem Cls.get {K : PySem.W.Frag} {C : Addr} (c : Cls K C) (f : Str) : PySem.W.plainGet K C f = true := c.pg
section
variable {X : Cx} {pins : List (Addr × Obj)} {σ : St} {H : Hp} {s : Shared} {a C dx : Addr} {fs : List (Str × V)} {f : Str} {v : V} {A : Around} {E : Value → Shared → Prop}
end
section
variable {X : Cx} {o e value : Expr} {f : Str} {pos pos' tpos : Pos} {ta tv : TE}
end
section
variable {X : Cx} {pins : List (Addr × Obj)} {σ : St} {H : Hp} {s : Shared} {A : Around} {E : Value → Shared → Prop} {Q : Value → Shared → Prop} {c : Value} {b : Bool}
inductive TyOf (K : PySem.W.Frag) (H : Hp) : V → Value → Prop where
  | non : TyOf K H .non (.type "NoneType")
  | bl (x : Bool) : TyOf K H (.bl x) (.type "bool")
  | int (i : Int) : TyOf K H (.int i) (.type "int")
  | str (x : Str) : TyOf K H (.str x) (.type "str")
  | flt (x : UInt64) : TyOf K H (.flt x) (.type "float")
  | lst {a : Addr} {xs : List V} (e : H a = some (.lst xs)) : TyOf K H (.ref a) (.type "list")
  | frz {a : Addr} {o : Obj} {xs : List V} (e : H a = some (.frz o (.lst xs))) : TyOf K H (.ref a) (.type "list")
  | tup {a : Addr} {xs : List V} (e : H a = some (.tup xs)) : TyOf K H (.ref a) (.type "tuple")
  | dK {a : Addr} {kvs : List (Key × V)} (e : H a = some (.dK kvs)) : TyOf K H (.ref a) (.type "dict")
  | dT {a : Addr} {kvs : List (List Key × V)} (e : H a = some (.dT kvs)) : TyOf K H (.ref a) (.type "dict")
  | ins {a C dx : Addr} {fs : List (Str × V)} (e : H a = some (.ins C dx fs)) (cl : Cls K C) (ha : PySem.W.findIn K (.ref C) "__class__" = some (some (.builtin "object.__class__")))
      (hn : PySem.W.specialIn K (.builtin "object.__class__") "__get__" = some (some (.builtin "getset_descriptor.__get__"))) (htk : PySem.W.takesIn K (.builtin "object.__class__") = some true)
      (hm : PySem.W.mroIn K C (.type "object") = some true) : TyOf K H (.ref a) (.ref C)
theorem isinst_ok {x : V} {u t : Value} (I : Inv X pins σ H s) (rx : RelV x u) (ty : TyOf X.K H x t) (e : PySem.W.kitOne X.K t c = some b) (h : ∀ tk, Q (.bool b) { s with toks := tk }) :
    wpAny (model X.prog X.w) A (call (.builtin "isinstance") [u, c]) Q E s := by
  cases ty with
  | non => cases (show u = Value.none from rx); exact PySem.W.kia_one PySem.W.kitx_none I.kIn True.intro e (fun z => nomatch z) h
  | bl y => cases (show u = Value.bool y from rx); exact PySem.W.kia_one PySem.W.kitx_bool I.kIn True.intro e (fun z => nomatch z) h
  | int i => obtain ⟨t, q⟩ := (show ∃ t, u = Value.int i t from rx); cases q; exact PySem.W.kia_one PySem.W.kitx_int I.kIn True.intro e (fun z => nomatch z) h
  | str y => obtain ⟨t, q⟩ := (show ∃ t, u = Value.str y t from rx); cases q; exact PySem.W.kia_one PySem.W.kitx_str I.kIn True.intro e (fun z => nomatch z) h
  | flt y => obtain ⟨t, q⟩ := (show ∃ t, u = Value.float y t from rx); cases q; exact PySem.W.kia_one PySem.W.kitx_float I.kIn True.intro e (fun z => nomatch z) h
  | @lst a xs ea =>
    cases (show u = Value.ref a from rx)
    obtain ⟨_, _, n, _, h1⟩ := (show ObjOk X.prog X.w H s.heap a (.lst xs) from I.hok a _ ea)
    exact PySem.W.kia_one PySem.W.kitx_list I.kIn ⟨_, h1, rfl⟩ e (fun z => nomatch z) h
  | @frz a ob xs ea =>
    cases (show u = Value.ref a from rx)
    obtain ⟨_, _, _, n, _, h1⟩ := (show ObjOk X.prog X.w H s.heap a (.frz ob (.lst xs)) from I.hok a _ ea)
    exact PySem.W.kia_one PySem.W.kitx_list I.kIn ⟨_, h1, rfl⟩ e (fun z => nomatch z) h
  | @tup a xs ea =>
    cases (show u = Value.ref a from rx)
    obtain ⟨_, _, _, p⟩ := (show ObjOk X.prog X.w H s.heap a (.tup xs) from I.hok a _ ea)
    obtain ⟨o, h1, h2, _⟩ := p
    exact PySem.W.kia_one PySem.W.kitx_tuple I.kIn ⟨o, h1, h2⟩ e (fun z => nomatch z) h
  | @dK a kvs ea =>
    cases (show u = Value.ref a from rx)
    obtain ⟨_, _, vs, _, p⟩ := (show ObjOk X.prog X.w H s.heap a (.dK kvs) from I.hok a _ ea)
    obtain ⟨o, es, ep, h1, h2, _⟩ := p
    exact PySem.W.kia_one PySem.W.kitx_dict I.kIn ⟨o, h1, h2.1⟩ e (fun z => nomatch z) h
  | @dT a kvs ea =>
    cases (show u = Value.ref a from rx)
    obtain ⟨_, _, xs, _, o, es, ep, h1, h2, _⟩ := (show ObjOk X.prog X.w H s.heap a (.dT kvs) from I.hok a _ ea)
    exact PySem.W.kia_one PySem.W.kitx_dict I.kIn ⟨o, h1, h2.1⟩ e (fun z => nomatch z) h
  | @ins a C dx fs ea cl ha hn htk hm =>
    cases (show u = Value.ref a from rx)
    obtain ⟨mA, O, _⟩ := ins_get I.hok ea
    obtain ⟨od, J, _⟩ := O.look
    exact PySem.W.kia_one (PySem.W.kitx_own (cl.get _) cl.hd ha hn htk hm) I.kIn J e (fun z => nomatch z) h
end
end L2
namespace L2
open PySem PySem.Spec PyProof.Rows
structure Room (k : Nat) (A : Around) : Prop where
  hd : A.handled = none
  dp : A.depth + 3 * k + 5 < recursionLimit
  un : A.units + 16 * k + 200 < cLine
  gd : A.guards = some []
theorem Room.mono {j k : Nat} {A : Around} (r : Room k A) (h : j ≤ k) : Room j A := ⟨r.hd, by have := r.dp; omega, by have := r.un; omega, r.gd⟩
theorem Room.deeper {k : Nat} {A : Around} (r : Room (k + 1) A) (env : Env) : Room k (A.deeper env) :=
  ⟨r.hd, by have := r.dp; show A.depth + 1 + 3 * k + 5 < _; omega, by have := r.un; show A.units + 3 + 16 * k + 200 < _; omega, r.gd⟩
theorem Room.depth {k : Nat} {A : Around} (r : Room k A) : A.depth < recursionLimit := by have := r.dp; omega
theorem Room.units {k : Nat} {A : Around} (r : Room k A) : A.units + 64 < cLine := by have := r.un; omega
theorem Room.units0 {k : Nat} {A : Around} (r : Room k A) : A.units < cLine := by have := r.un; omega
def tNil : TA := fun _ H Q => Q [] H
def tCons (ta : TE) (tr : TA) : TA := fun σ H Q => ta σ H fun x H1 => tr σ H1 fun xs H2 => Q (x :: xs) H2
section
variable {X : Cx} {e : Expr} {es : List Expr} {te : TE} {t : TA} {pos : Pos}
theorem pa_nil : PA X [] tNil := fun _ _ _ _ H Q I h => Calls.spliced_nil ⟨[], H, I, .nil, h⟩
theorem pa_cons (ha : PE X e te) (hr : PA X es t) (hs : starEach (e :: es) X.env = (false, eval e X.env) :: starEach es X.env := by rfl) : PA X (e :: es) (tCons te t) := by
  intro pos pins s σ H Q I h
  rw [hs]
  show wpAny _ _ (spliced ((false, eval e X.env) :: backTo pos (starEach es X.env))) _ _ s
  refine Calls.spliced_cons (thn (ha pins s σ H _ I h) fun u s1 ⟨x, H1, I1, r1, q1⟩ => ?_)
  exact thn (hr pos pins s1 σ H1 _ I1 q1) fun us s2 ⟨xs, H2, I2, r2, q2⟩ => ⟨x :: xs, H2, I2, .cons r1 r2, q2⟩
def tTup (t : TA) : TE := fun σ H Q => t σ H fun xs H1 => xs.length ≤ sizeLine ∧ ∀ p, H1 p = none → Q (.ref p) (upd H1 p (.tup xs))
def tLst (t : TA) : TE := fun σ H Q => t σ H fun xs H1 => xs.length ≤ sizeLine ∧ ∀ p, H1 p = none → Q (.ref p) (upd H1 p (.lst xs))
theorem pe_tup {x1} (h : PA X es t) : PE X (.Tuple es x1 pos) (tTup t) := by
  intro pins s σ H Q I hq
  refine wpAny_Tuple_spliced (thn (h pos pins s σ H _ I hq) fun us s1 ⟨xs, H1, I1, r, z, q⟩ => ⟨by rw [← r.length]; exact z, ?_⟩)
  have hf : H1 s1.heap.objs.size = none := I1.hok.fresh (Nat.le_refl _)
  refine ⟨.ref s1.heap.objs.size, upd H1 s1.heap.objs.size (.tup xs), I1.laid (t' := s1.toks) (fun b u e => Heap.get?_push_of_some _ e) (Nat.le_refl _) ?_, rfl, q _ hf⟩
  exact ⟨z, us, r, ⟨_, Heap.get?_push_size _ rfl, rfl, _, rfl⟩⟩
theorem pe_lst (h : PA X es t) : PE X (.List es pos) (tLst t) := by
  intro pins s σ H Q I hq
  refine wpAny_List_spliced (thn (h pos pins s σ H _ I hq) fun us s1 ⟨xs, H1, I1, r, z, q⟩ => ⟨by rw [← r.length]; exact z, ?_⟩)
  have hf : H1 s1.heap.objs.size = none := I1.hok.fresh (Nat.le_refl _)
  refine ⟨.ref s1.heap.objs.size, upd H1 s1.heap.objs.size (.lst xs), I1.laid (t' := s1.toks) (fun b u e => Heap.get?_push_of_some _ e) (Nat.le_refl _) ?_, rfl, q _ hf⟩
  exact ⟨z, us, 0, r, Heap.get?_push_size _ rfl⟩
end
abbrev Sp := List V → Hp → VK → XK → Prop
abbrev CXT := List Env → Hp → Shared → XK → Value → Shared → Prop
structure Env0 (P : Program) (w : World) (K : PySem.W.Frag) (mg : Str → Option Value) (base : Heap) (A : Around) (outer : List Env) (s : Shared) (H : Hp) : Prop where
  frames : A.frames = some outer
  mod : Mod K mg base
  bs : ∀ b o, base.get? b = some o → s.heap.get? b = some o ∧ H b = none
  bsz : base.objs.size ≤ s.heap.objs.size
  funs : s.heap.FunFrames base outer
  frf : ∀ b ∈ frs outer, H b = none
  hok : HOk P w H s.heap
  bare : AllBare s.gens
def CE (outer : List Env) (P : Program) (w : World) (H : Hp) (s : Shared) (Q : VK) (u : Value) (s' : Shared) : Prop :=
  ∃ v H', s'.os = s.os ∧ AllBare s'.gens ∧ Un (frs outer) [] H H' s.heap s'.heap ∧ HOk P w H' s'.heap ∧ RelV v u ∧ Q v H'
def CR (CX : CXT) (outer : List Env) (P : Program) (w : World) (H : Hp) (s : Shared) (Q : VK) (E : XK) (r : Result) (s' : Shared) : Prop :=
  match r with
  | .ok (.ret u) => CE outer P w H s Q u s'
  | .ok _ => False
  | .error e => CX outer H s E e s'
structure FnOk (P : Program) (w : World) (K : PySem.W.Frag) (mg : Str → Option Value) (base : Heap) (CX : CXT) (k : Nat) (f : Addr) (fd : FuncData) (ps : List Str) (sp : Sp) : Prop where
  len : ∀ vs H Q E, sp vs H Q E → vs.length = ps.length
  run : ∀ (A : Around) (outer : List Env) (s : Shared) (H : Hp) (args : Args) (us : List Value) (vs : List V) (Q : VK) (E : XK), Room k A → Env0 P w K mg base A outer s H → BindsTo s fd args (ps.zip us) → Vals vs us → sp vs H Q E →
    codeAny (model P w) A (.call (.ref f) args) (CR CX outer P w H s Q E) s
theorem FnOk.mono {P : Program} {w : World} {K : PySem.W.Frag} {mg : Str → Option Value} {base : Heap} {CX : CXT} {j k : Nat} {f : Addr} {fd : FuncData} {ps : List Str} {sp : Sp} (F : FnOk P w K mg base CX j f fd ps sp) (h : j ≤ k) :
    FnOk P w K mg base CX k f fd ps sp := ⟨F.len, fun A outer s H args us vs Q E hr => F.run A outer s H args us vs Q E (hr.mono h)⟩
theorem FnOk.imp {P : Program} {w : World} {K : PySem.W.Frag} {mg : Str → Option Value} {base : Heap} {CX : CXT} {k : Nat} {f : Addr} {fd : FuncData} {ps : List Str} {sp sp' : Sp} (F : FnOk P w K mg base CX k f fd ps sp)
    (h : ∀ vs H Q E, sp' vs H Q E → sp vs H Q E) : FnOk P w K mg base CX k f fd ps sp' :=
  ⟨fun vs H Q E q => F.len vs H Q E (h _ _ _ _ q), fun A outer s H args us vs Q E hr he hb hv hs => F.run A outer s H args us vs Q E hr he hb hv (h _ _ _ _ hs)⟩
section
variable {X : Cx} {pins : List (Addr × Obj)} {σ : St} {H : Hp} {s s' : Shared}
theorem Inv.env0 (I : Inv X pins σ H s) : Env0 X.prog X.w X.K X.mg X.base X.A X.stack s H :=
  ⟨I.ok.frames, I.ok.mod, I.bs, Nat.le_trans I.ok.bsz I.sz, I.stack, I.stkFree, I.hok, I.bare⟩
theorem Inv.after {Q : VK} {u : Value} (I : Inv X pins σ H s) (h : CE X.stack X.prog X.w H s Q u s') : EP X pins σ Q u s' := by
  obtain ⟨v, H', os, bare, un, hok, r, q⟩ := h
  obtain ⟨hh, g, d, t, os'⟩ := s'
  obtain rfl : os' = s.os := os
  exact ⟨v, H', I.call (h' := hh) (g' := g) (d' := d) (t' := t) (ch := []) un hok bare (fun b z => absurd z (by simp)), r, q⟩
end
def tCall (sp : Sp) (dvs : List V) (E : XK) (t : TA) : TE := fun σ H Q => t σ H fun vs H1 => sp (vs ++ dvs) H1 Q E
def Binds (K : PySem.W.Frag) (fd : FuncData) (ps : List Str) (ds : List Value) : Prop :=
  ∀ (s : Shared) (us : List Value), K.In s.heap → (us ++ ds).length = ps.length → BindsTo s fd ⟨us, []⟩ (ps.zip (us ++ ds))
theorem Binds.all {K : PySem.W.Frag} {fd : FuncData} {ps : List Str} (h : ∀ us : List Value, us.length = ps.length → bindArgs fd ⟨us, []⟩ = pure (ps.zip us)) : Binds K fd ps [] := fun s us _ hl => by
  rw [List.append_nil] at hl ⊢
  exact .of_eq (h us hl)
def Passes (CX : CXT) (X : Cx) (E : XK) : Prop := ∀ (pins : List (Addr × Obj)) (σ : St) (H : Hp) (s : Shared) (e : Value) (s' : Shared), Inv X pins σ H s → CX X.stack H s E e s' → X.xe e s'
section
variable {X : Cx} {CX : CXT} {k : Nat} {f C : Addr} {fd : FuncData} {ps : List Str} {sp : Sp} {dvs : List V} {ds : List Value} {E : XK} {x m : Str} {p pos apos : Pos} {e o : Expr} {es : List Expr} {ta : TE} {t : TA}
theorem run_fn {pins : List (Addr × Obj)} {σ : St} {H : Hp} {s : Shared} {Q : VK} {us : List Value} {vs : List V} (F : FnOk X.prog X.w X.K X.mg X.base CX k f fd ps sp) (hr : Room k X.A) (hb : Binds X.K fd ps ds) (hd : Vals dvs ds) (hx : Passes CX X E)
    (I : Inv X pins σ H s) (r : Vals vs us) (h : sp (vs ++ dvs) H Q E) : wpAny (model X.prog X.w) X.A (call (.ref f) us) (EP X pins σ Q) X.xe s := by
  have r2 : Vals (vs ++ dvs) (us ++ ds) := r.append hd
  have hl : (us ++ ds).length = ps.length := by rw [← r2.length]; exact F.len _ _ _ _ h
  refine wpAny_call (codeAny_mono (F.run X.A X.stack s H ⟨us, []⟩ (us ++ ds) (vs ++ dvs) Q E hr I.env0 (hb s us I.kIn hl) r2 h) fun r s' hq => ?_)
  cases r with
  | error e => exact hx pins σ H s e s' I hq
  | ok fl =>
    cases fl with
    | ret u => exact I.after hq
    | next => exact False.elim hq
    | brk => exact False.elim hq
    | cont => exact False.elim hq
theorem pe_call (F : FnOk X.prog X.w X.K X.mg X.base CX k f fd ps sp) (hr : Room k X.A) (hg : Gl X x) (hm : X.mg x = some (.ref f)) (hk : PySem.W.keepIn X.K (.ref f) = true) (hb : Binds X.K fd ps ds) (hd : Vals dvs ds) (hx : Passes CX X E)
    (ha : PA X (e :: es) t) (hdb : (x == ("__debug__" : Str)) = false := by decide) (he : starEach (e :: es) X.env = (false, eval e X.env) :: starEach es X.env := by rfl) (hpl : (backTo pos (starEach es X.env)).any (·.1) = false := by rfl) :
    PE X (.Call (.Name x p) (e :: es) [] pos) (tCall sp dvs E t) := by
  intro pins s σ H Q I h
  refine wpAny_Call_Name_kw (ld_glob I hg hm ?_ hdb)
  refine PySem.W.callWith_K (h₀ := X.base) I.ok.mod.kin hk (thn (ha pos pins s σ H _ I h) fun us s1 ⟨vs, H1, I1, r, q⟩ => ⟨I1.kIn, ?_⟩) he hpl
  exact run_fn F hr hb hd hx I1 r q
structure Mk (K : PySem.W.Frag) (C f : Addr) : Prop where
  makes : PySem.W.makesIn K C = true
  init : PySem.W.findIn K (.ref C) "__init__" = some (some (.ref f))
  fn : PySem.W.isFn K (.ref f) = true
  kp : PySem.W.keepIn K (.ref C) = true
end
section
variable {X : Cx} {CX : CXT} {k : Nat} {f C : Addr} {fd : FuncData} {ps ks : List Str} {sp : Sp} {E : XK} {x m : Str} {p pos apos kpos : Pos} {e o : Expr} {es : List Expr} {kws : List Keyword} {te ta : TE} {t tk : TA} {nm : Option Str}
variable {g : List Value → List Value → List Value} {gV : List V → List V → List V}
end
structure FnScope (N P : List Str) (sc : Scope) : Prop where
  kind : sc.kind = .function
  co : sc.isCoroutine = false
  gen : sc.isGenerator = false
  nd : N.Nodup
  pre : N.take P.length = P
  par : ∀ x ∈ P, sc.names.lookup x = some .local ∨ sc.names.lookup x = some .cell
  nofree : ∀ y ∈ sc.names, y.2 ≠ .free
theorem bindL_out {kindOf : Str → Option NameKind} {x : Str} : ∀ {binds : List (Str × Value)} {m : Str → Option Value}, (∀ v, (x, v) ∉ binds) → bindL kindOf binds m x = m x
  | [], _, _ => rfl
  | (n, v) :: r, m, h => by
    unfold bindL
    rw [bindL_out fun w hw => h w (List.mem_cons_of_mem _ hw)]
    split
    · have : x ≠ n := by rintro rfl; exact h v List.mem_cons_self
      simp [this]
    · rfl
theorem bindC_out {kindOf : Str → Option NameKind} {x : Str} : ∀ {binds : List (Str × Value)} {m : Str → Option Value}, (∀ v, (x, v) ∉ binds) → bindC kindOf binds m x = m x
  | [], _, _ => rfl
  | (n, v) :: r, m, h => by
    unfold bindC
    rw [bindC_out fun w hw => h w (List.mem_cons_of_mem _ hw)]
    split
    · rfl
    · have : x ≠ n := by rintro rfl; exact h v List.mem_cons_self
      simp [this]
theorem bindL_get {kindOf : Str → Option NameKind} {x : Str} {v : Value} : ∀ {P : List Str} {vs : List Value} {i : Nat} {m : Str → Option Value}, P.Nodup → P[i]? = some x → vs[i]? = some v → kindOf x = some .local →
    bindL kindOf (P.zip vs) m x = some v
  | [], _, _, _, _, h, _, _ => by simp at h
  | _ :: _, [], _, _, _, _, h, _ => by simp at h
  | p :: P, w :: vs, 0, m, nd, h1, h2, hk => by
    simp at h1 h2; subst h1; subst h2
    show bindL kindOf ((p, w) :: P.zip vs) m p = _
    unfold bindL
    rw [bindL_out fun v hv => (List.nodup_cons.mp nd).1 (List.of_mem_zip hv).1, if_pos hk]
    simp
  | p :: P, w :: vs, i + 1, m, nd, h1, h2, hk => by
    show bindL kindOf ((p, w) :: P.zip vs) m x = _
    unfold bindL
    exact bindL_get (i := i) (List.nodup_cons.mp nd).2 (by simpa using h1) (by simpa using h2) hk
theorem bindC_get {kindOf : Str → Option NameKind} {x : Str} {v : Value} : ∀ {P : List Str} {vs : List Value} {i : Nat} {m : Str → Option Value}, P.Nodup → P[i]? = some x → vs[i]? = some v → kindOf x ≠ some .local →
    bindC kindOf (P.zip vs) m x = some v
  | [], _, _, _, _, h, _, _ => by simp at h
  | _ :: _, [], _, _, _, _, h, _ => by simp at h
  | p :: P, w :: vs, 0, m, nd, h1, h2, hk => by
    simp at h1 h2; subst h1; subst h2
    show bindC kindOf ((p, w) :: P.zip vs) m p = _
    unfold bindC
    rw [bindC_out fun v hv => (List.nodup_cons.mp nd).1 (List.of_mem_zip hv).1, if_neg hk]
    simp
  | p :: P, w :: vs, i + 1, m, nd, h1, h2, hk => by
    show bindC kindOf ((p, w) :: P.zip vs) m x = _
    unfold bindC
    exact bindC_get (i := i) (List.nodup_cons.mp nd).2 (by simpa using h1) (by simpa using h2) hk
def start (N : List Str) (vs : List V) : St := vs.map some ++ List.replicate (N.length - vs.length) none
def cxOf (CX : CXT) (P : Program) (w : World) (K : PySem.W.Frag) (mg : Str → Option Value) (base : Heap) (N : List Str) (qual : Str) (scope : Scope) (f : Addr) (cd : Value) (A : Around) (outer : List Env) (s : Shared) (H : Hp) (E : XK) : Cx where
  prog := P
  w := w
  K := K
  mg := mg
  base := base
  A := A.deeper (envOfC qual scope s.heap.objs.size f cd)
  N := N
  s₀ := s
  H₀ := H
  env := envOfC qual scope s.heap.objs.size f cd
  outer := outer
  stack := envOfC qual scope s.heap.objs.size f cd :: outer
  ex := []
  calm := true
  fn := fun _ => true
  pn := []
  xe := fun e s' => wpAny (model P w) (A.deeper (envOfC qual scope s.heap.objs.size f cd)) (leaving (envOfC qual scope s.heap.objs.size f cd) e) (fun _ s'' => CX outer H s E e s'') (fun e' s'' => CX outer H s E e' s'') s'
theorem cell_has {sc : Scope} {n : Nat} {x : Str} (h : sc.names.lookup x = some .cell) : ∃ c, (cellsFrom n sc.names []).lookup x = some c := by
  have q := PySem.W.cellsFrom_some sc.names n [] (.inl h)
  exact Option.isSome_iff_exists.mp q
theorem inv_start {CX : CXT} {P : Program} {w : World} {K : PySem.W.Frag} {mg : Str → Option Value} {base : Heap} {N ps : List Str} {qual : Str} {scope : Scope} {f : Addr} {cd : Value} {A : Around} {outer : List Env} {s s1 : Shared} {H : Hp} {E : XK} {us : List Value} {vs : List V}
    (S : FnScope N ps scope) (hd : A.handled = none) (e0 : Env0 P w K mg base A outer s H) (hl : vs.length = ps.length) (r : Vals vs us)
    (x : InCallC s s.heap.objs.size (bindL (envOfC qual scope s.heap.objs.size f cd).kindOf (ps.zip us) fun _ => none) (cellsFrom (s.heap.objs.size + 1) scope.names []) (bindC (envOfC qual scope s.heap.objs.size f cd).kindOf (ps.zip us) fun _ => none) s1) :
    Inv (cxOf CX P w K mg base N qual scope f cd A outer s H E) [] (start N vs) H s1 := by
  have hpl : ps.length ≤ N.length := by have := congrArg List.length S.pre; rw [List.length_take] at this; omega
  obtain ⟨h1, tk, rfl, hk⟩ := x.done
  have noA : ∀ b : Addr, b ∉ (cxOf CX P w K mg base N qual scope f cd A outer s H E).ex := fun b z => absurd (show b ∈ ([] : List Addr) from z) (by simp)
  refine ⟨⟨e0.mod, S.kind, rfl, rfl, Nat.le_refl _, fun y z c h1 h2 => ?_, fun y hy => ?_, fun y c _ h => ?_, fun _ => hd, Around.frames_deeper e0.frames, .inr ⟨rfl, rfl⟩, fun b z => absurd z (noA b), e0.bs, e0.bsz, fun b _ _ => noA b, fun b z => absurd z (noA b), e0.funs, e0.frf⟩,
    rfl, e0.bare, Un.kept hk, ⟨_, x.toInCall.ns, fun i y v h1 h2 h3 => ?_⟩, fun y c h => ⟨_, x.cell y c h⟩, e0.hok.fresh (Nat.le_refl _), fun y c h => ?_, fun p hp => absurd (show p ∈ ([] : List (Addr × Obj)) from hp) (by simp), e0.hok.kept hk, ?_⟩
  · exact name_of_addr x.apart (PySem.mem_of_lookup h1) (PySem.mem_of_lookup h2)
  · have hy : scope.names.lookup y = some .cell ∨ scope.names.lookup y = some .free := hy
    rcases hy with hy | hy
    · exact cell_has hy
    · exact absurd rfl (S.nofree _ (PySem.mem_of_lookup hy))
  · exact Nat.le_of_lt (x.above y c (PySem.mem_of_lookup h))
  · have hi : i < vs.length := by
      unfold start at h2
      by_cases hi : i < vs.length
      · exact hi
      · rw [List.getElem?_append_right (by simpa using hi)] at h2
        rw [List.getElem?_replicate] at h2
        split at h2 <;> cases h2
    have ha : vs[i]? = some v := by
      unfold start at h2
      rw [List.getElem?_append_left (by simpa using hi), List.getElem?_map] at h2
      cases e : vs[i]? with
      | none => rw [e] at h2; cases h2
      | some a => rw [e] at h2; cases h2; rfl
    obtain ⟨u, hu, rv⟩ := r.get ha
    have hp : ps[i]? = some y := by
      rw [← S.pre, List.getElem?_take_of_lt (by omega)]; exact h1
    have ndP : ps.Nodup := by rw [← S.pre]; exact S.nd.sublist (List.take_sublist _ _)
    refine ⟨u, rv, ?_⟩
    rcases S.par y (List.mem_of_getElem? hp) with k | k
    · exact .inl ⟨k, bindL_get ndP hp hu k⟩
    · obtain ⟨c, e⟩ := cell_has (n := s.heap.objs.size + 1) k
      refine .inr ⟨.inl k, c, e, ?_⟩
      have q := x.cell y c e
      rw [bindC_get ndP hp hu (by show scope.names.lookup y ≠ _; rw [k]; decide)] at q
      exact q
  · exact e0.hok.fresh (Nat.le_of_lt (x.above y c (PySem.mem_of_lookup h)))
  · unfold start
    show _ = N.length
    rw [List.length_append, List.length_map, List.length_replicate]
    omega
theorem fn_of {CX : CXT} {P : Program} {w : World} {K : PySem.W.Frag} {mg : Str → Option Value} {base : Heap} {k : Nat} {f : Addr} {name qual : Str} {params : Arguments} {body : List Stmt} {scope : Scope} {dV kV doc pm cdv ct oc : Value} {an od : Option Addr}
    {osl : Array (Option Value)} {N ps : List Str} {sp : Sp} (lk : K.lookup f = some ⟨oc, od, .func (PySem.W.fnOf name qual params body scope dV kV doc pm an cdv ct), osl⟩) (hcd : PySem.W.codeIn K cdv qual = true) (S : FnScope N ps scope)
    (len : ∀ vs H Q E, sp vs H Q E → vs.length = ps.length)
    (hbody : ∀ (A : Around) (outer : List Env) (s : Shared) (H : Hp) (vs : List V) (Q : VK) (E : XK), Room k (A.deeper (envOfC qual scope s.heap.objs.size f cdv)) → sp vs H Q E →
      ∃ t, PSs (cxOf CX P w K mg base N qual scope f cdv A outer s H E) body t ∧ t { nx := fun _ H' => Q .non H', rt := Q } (start N vs) H) :
    FnOk P w K mg base CX (k + 1) f (PySem.W.fnOf name qual params body scope dV kV doc pm an cdv ct) ps sp := by
  refine ⟨len, fun A outer s H args us vs Q E hr e0 hb r hsp => ?_⟩
  have hl := len _ _ _ _ hsp
  have KX : K.In s.heap := e0.mod.kin.keeps fun b o e => (e0.bs b o e).1
  have lim : s.heap.NoLimit := e0.mod.nolimit.keeps fun b o e => (e0.bs b o e).1
  have hkind : ∀ y ∈ ps.zip us, scope.names.lookup y.1 = some .local ∨ (scope.names.lookup y.1 = some .cell ∧ ((cellsFrom (s.heap.objs.size + 1) scope.names []).lookup y.1).isSome = true) := fun ⟨n, v⟩ hy => by
    rcases S.par n (List.of_mem_zip hy).1 with q | q
    · exact .inl q
    · exact .inr ⟨q, PySem.W.cellsFrom_some _ _ _ (.inl q)⟩
  refine codeAny_call_function hr.depth (KX _ _ lk) rfl S.co S.gen rfl (PySem.W.codeRec_of KX hcd) (hb _ _ _ _ ?_)
  refine wpAny_newFunctionEnv_cells S.kind hkind fun env he s1 x => ?_
  subst he
  refine ⟨lim.keeps x.toInCall.keep, codeAny_func ?_⟩
  obtain ⟨t, ht, hq⟩ := hbody A outer s H vs Q E (hr.deeper _) hsp
  have I : Inv (cxOf CX P w K mg base N qual scope f cdv A outer s H E) [] (start N vs) H s1 := inv_start S hr.hd e0 hl r x
  refine wpAny_mono (ht [] s1 (start N vs) H _ I hq) (fun fl s' hs => ?_) fun e s' hs => hs
  have fin : ∀ {σ' : St} {H' : Hp} {v : V} {u : Value}, Inv (cxOf CX P w K mg base N qual scope f cdv A outer s H E) [] σ' H' s' → RelV v u → Q v H' → CE outer P w H s Q u s' :=
    fun {σ' H' v u} J rv q => ⟨v, H', J.os, J.bare, J.base, J.hok, rv, q⟩
  cases fl with
  | ret u =>
    obtain ⟨v, σ', H', J, rv, q⟩ := hs
    exact fin J rv q
  | next =>
    obtain ⟨σ', H', J, q⟩ := hs
    exact fin (v := V.non) (u := Value.none) J rfl q
  | brk =>
    obtain ⟨_, _, _, q⟩ := hs
    exact False.elim q
  | cont =>
    obtain ⟨_, _, _, q⟩ := hs
    exact False.elim q
end L2
namespace L2
open PySem PySem.Spec PyProof.Rows
section
variable {X : Cx} {x : Str} {p pos : Pos} {e : Expr} {es : List Expr} {t : TA} {id T : String} {r : List V → Hp → VK → Prop}
def tCB (r : List V → Hp → VK → Prop) (t : TA) : TE := fun σ H Q => t σ H fun vs H1 => r vs H1 Q
theorem pe_callB (hc : CallR X (.builtin id) r) (hg : Gl X x) (hm : X.mg x = none) (hv : bootBuiltins x = some (.builtin id)) (ha : PA X (e :: es) t) (hn : x ≠ "__name__" := by decide) (hdb : (x == ("__debug__" : Str)) = false := by decide)
    (he : starEach (e :: es) X.env = (false, eval e X.env) :: starEach es X.env := by rfl) (hpl : (backTo pos (starEach es X.env)).any (·.1) = false := by rfl) : PE X (.Call (.Name x p) (e :: es) [] pos) (tCB r t) := by
  intro pins s σ H Q I h
  refine wpAny_Call_Name_kw (ld_blt I hg hm hv ?_ hn hdb)
  exact PyProof.Rows.callWith_builtin1 (thn (ha pos pins s σ H _ I h) fun us s1 ⟨vs, H1, I1, r1, q1⟩ => hc pins s1 σ H1 vs us Q I1 r1 q1) he hpl
theorem pe_callTy (hc : CallR X (.type T) r) (hg : Gl X x) (hm : X.mg x = none) (hv : bootBuiltins x = some (.type T)) (ha : PA X (e :: es) t) (hn : x ≠ "__name__" := by decide) (hdb : (x == ("__debug__" : Str)) = false := by decide)
    (he : starEach (e :: es) X.env = (false, eval e X.env) :: starEach es X.env := by rfl) (hpl : (backTo pos (starEach es X.env)).any (·.1) = false := by rfl) : PE X (.Call (.Name x p) (e :: es) [] pos) (tCB r t) := by
  intro pins s σ H Q I h
  refine wpAny_Call_Name_kw (ld_blt I hg hm hv ?_ hn hdb)
  exact PyProof.Rows.callWith_type1 (thn (ha pos pins s σ H _ I h) fun us s1 ⟨vs, H1, I1, r1, q1⟩ => hc pins s1 σ H1 vs us Q I1 r1 q1) he hpl
theorem pe_callTy0 (hc : CallR X (.type T) r) (hg : Gl X x) (hm : X.mg x = none) (hv : bootBuiltins x = some (.type T)) (hn : x ≠ "__name__" := by decide) (hdb : (x == ("__debug__" : Str)) = false := by decide) :
    PE X (.Call (.Name x p) [] [] pos) (tCB r tNil) := by
  intro pins s σ H Q I h
  refine wpAny_Call_Name_kw (ld_blt I hg hm hv ?_ hn hdb)
  exact PyProof.Rows.callWith_type0 (hc pins s σ H [] [] Q I .nil h)
end
end L2
namespace HT
open PySem PyProof.Rows
section
open PySem.SeqAt
open PySem.AutoSeq1 (wpAny_loadPart')
open PySem.MeetsSeq PySem.MeetsSeq2 PySem.MeetsSeq3
end
section
variable {prog : Program} {w : World} {A : Around} {E : Value → Shared → Prop} {s : Shared}
def sIx (n d : Nat) : Option Int → Nat
  | none => d
  | some v => if v < 0 then (v + (n : Int)).toNat else min v.toNat n
end
end HT
namespace L2
open PySem PySem.Spec PyProof.Rows
abbrev TO := St → Hp → (Option Int → Hp → Prop) → Prop
def PO (X : Cx) (e : Option Expr) (t : TO) : Prop :=
  ∀ (pins : List (Addr × Obj)) (s : Shared) (σ : St) (H : Hp) (Q : Option Int → Hp → Prop), Inv X pins σ H s → t σ H Q →
    wpAny (model X.prog X.w) X.A (evalPart e X.env) (fun u s' => ∃ o H', Inv X pins σ H' s' ∧ IsPart u o ∧ Q o H') X.xe s
def tNoPart : TO := fun _ H Q => Q none H
def tPart (t : TE) : TO := fun σ H Q => t σ H fun x H1 => ∃ i, x = .int i ∧ Q (some i) H1
section
variable {X : Cx} {e : Expr} {te : TE} {lo hi : Option Expr} {tl th : TO} {pos p2 : Pos}
theorem po_none : PO X none tNoPart := by
  intro pins s σ H Q I h
  rw [evalPart_none]
  exact wpAny_pure ⟨none, H, I, .none, h⟩
theorem po_some (h : PE X e te) : PO X (some e) (tPart te) := by
  intro pins s σ H Q I hw
  rw [evalPart_some]
  refine thn (h pins s σ H _ I hw) fun u s1 ⟨x, H1, I1, r1, q1⟩ => ?_
  obtain ⟨i, rfl, q⟩ := q1
  obtain ⟨t, rfl⟩ := r1
  exact ⟨some i, H1, I1, .int i t, q⟩
def SlR (X : Cx) (r : V → Option Int → Option Int → Hp → VK → Prop) : Prop :=
  ∀ (pins : List (Addr × Obj)) (s : Shared) (σ : St) (H : Hp) (x : V) (v vl vu : Value) (lo hi : Option Int) (sl : Addr) (Q : VK), Inv X pins σ H s → RelV x v → s.heap.IsSliceOf sl vl vu .none → IsPart vl lo → IsPart vu hi → r x lo hi H Q →
    ∃ T id, typeLookup (.type T) "__getitem__" = pure (some (.builtin id)) ∧ s.TypeIs v T ∧ wpAny (model X.prog X.w) X.A (getItem v (.ref sl)) (EP X pins σ Q) X.xe s
theorem SlR.or {r r' : V → Option Int → Option Int → Hp → VK → Prop} (h : SlR X r) (h' : SlR X r') : SlR X (fun x lo hi H Q => r x lo hi H Q ∨ r' x lo hi H Q) := by
  intro pins s σ H x v vl vu lo hi sl Q I rx hs pl pu q
  rcases q with q | q
  · exact h pins s σ H x v vl vu lo hi sl Q I rx hs pl pu q
  · exact h' pins s σ H x v vl vu lo hi sl Q I rx hs pl pu q
def tSl (r : V → Option Int → Option Int → Hp → VK → Prop) (te : TE) (tl th : TO) : TE := fun σ H Q => te σ H fun x H1 => tl σ H1 fun l H2 => th σ H2 fun u H3 => r x l u H3 Q
theorem pe_slice {r : V → Option Int → Option Int → Hp → VK → Prop} (hr : SlR X r) (he : PE X e te) (hl : PO X lo tl) (hu : PO X hi th) : PE X (.Subscript e (.Slice lo hi none p2) pos) (tSl r te tl th) := by
  intro pins s σ H Q I h
  refine Subscript_ (thn (he pins s σ H _ I h) fun v s1 ⟨x, H1, I1, r1, q1⟩ => ?_)
  refine wpAny_Slice (thn (hl pins s1 σ H1 _ I1 q1) fun vl s2 ⟨l, H2, I2, pl, q2⟩ => thn (hu pins s2 σ H2 _ I2 q2) fun vu s3 ⟨u, H3, I3, pu, q3⟩ => ?_)
  rw [evalPart_none]
  refine wpAny_pure ?_
  have I4 : Inv X pins σ H3 { s3 with heap := s3.heap.push { cls := .type "slice", data := .fields #[vl, vu, .none] } } := I3.kept (t' := s3.toks) fun b ob q => Heap.get?_push_of_some _ q
  obtain ⟨T, id, hT, ht, hg⟩ := hr pins { s3 with heap := s3.heap.push { cls := .type "slice", data := .fields #[vl, vu, .none] } } σ H3 x v vl vu l u s3.heap.objs.size Q I4 r1 (Heap.IsSliceOf.new ..) pl pu q3
  show wpAny (model X.prog X.w) X.A (subscriptTail e (.Slice lo hi none p2) v (.ref s3.heap.objs.size)) (EP X pins σ Q) X.xe { s3 with heap := s3.heap.push { cls := .type "slice", data := .fields #[vl, vu, .none] } }
  exact tail_any (ops := [.ref s3.heap.objs.size, v]) ht hT hg (by with_unfolding_all rfl)
def cutV (xs : List V) (lo hi : Option Int) : List V := (xs.drop (HT.sIx xs.length 0 lo)).take (HT.sIx xs.length xs.length hi - HT.sIx xs.length 0 lo)
theorem cutV_length (xs : List V) (lo hi : Option Int) : (cutV xs lo hi).length ≤ xs.length := by
  unfold cutV
  rw [List.length_take, List.length_drop]
  omega
end
end L2
namespace L2
open PySem PySem.Spec PyProof.Rows
def ixN (n : Nat) (i : Int) : Option Nat := if 0 ≤ i then (if i < n then some i.toNat else none) else if -(n : Int) ≤ i then some (i + n).toNat else none
def atI {α : Type} (xs : List α) (i : Int) : Option α := (ixN xs.length i).bind fun j => xs[j]?
theorem ixN_seq {n : Nat} {i : Int} {j : Nat} (h : ixN n i = some j) : seqIndex? i n = some j ∧ j < n ∧ -(n : Int) ≤ i ∧ i < n := by
  unfold ixN at h
  by_cases h0 : 0 ≤ i
  · rw [if_pos h0] at h
    by_cases h1 : i < n
    · rw [if_pos h1] at h
      have e : i.toNat = j := Option.some.inj h
      exact ⟨by rw [seqIndex_of h0 h1, e], by omega, by omega, h1⟩
    · rw [if_neg h1] at h; cases h
  · rw [if_neg h0] at h
    by_cases h1 : -(n : Int) ≤ i
    · rw [if_pos h1] at h
      have e : (i + n).toNat = j := Option.some.inj h
      exact ⟨by rw [seqIndex_neg (by omega) h1, e], by omega, h1, by omega⟩
    · rw [if_neg h1] at h; cases h
theorem atI_get {α : Type} {xs : List α} {i : Int} {v : α} (h : atI xs i = some v) : ∃ j, seqIndex? i xs.length = some j ∧ xs[j]? = some v ∧ j < xs.length ∧ -(xs.length : Int) ≤ i ∧ i < xs.length := by
  unfold atI at h
  cases e : ixN xs.length i with
  | none => rw [e] at h; cases h
  | some j =>
    rw [e] at h
    obtain ⟨h1, h2, h3, h4⟩ := ixN_seq e
    exact ⟨j, h1, h, h2, h3, h4⟩
theorem atI_nat {α : Type} {xs : List α} {j : Nat} {v : α} (h : xs[j]? = some v) : atI xs (j : Int) = some v := by
  have hj : j < xs.length := (List.getElem?_eq_some_iff.mp h).1
  have e : ixN xs.length (j : Int) = some j := by
    unfold ixN
    rw [if_pos (by omega), if_pos (by omega)]; simp
  unfold atI; rw [e]; exact h
def PlainIx (b : Expr) : Prop := ∀ o i, subscripted b false o i = operate [o, i] (getItem o i)
def IxR (X : Cx) (r : R2) : Prop :=
  ∀ (value slice : Expr) (pins : List (Addr × Obj)) (s : Shared) (σ : St) (H : Hp) (x y : V) (v u : Value) (Q : VK), Inv X pins σ H s → RelV x v → RelV y u → r x y H Q →
    subscripted slice false v u = operate [v, u] (getItem v u) → wpAny (model X.prog X.w) X.A (subscriptTail value slice v u) (EP X pins σ Q) X.xe s
def MtR (X : Cx) (id : String) (r : V → List V → Hp → VK → Prop) : Prop :=
  ∀ (pins : List (Addr × Obj)) (s : Shared) (σ : St) (H : Hp) (x : V) (xs : List V) (v : Value) (us : List Value) (Q : VK), Inv X pins σ H s → RelV x v → Vals xs us → r x xs H Q →
    wpAny (model X.prog X.w) X.A (call (.builtin id) (v :: us)) (EP X pins σ Q) X.xe s
section
variable {X : Cx} {a b : Expr} {ta tb : TE} {pos : Pos}
theorem IxR.or {r r' : R2} (h : IxR X r) (h' : IxR X r') : IxR X (fun x y H Q => r x y H Q ∨ r' x y H Q) := by
  intro value slice pins s σ H x y v u Q I rx ry q hs
  rcases q with q | q
  · exact h value slice pins s σ H x y v u Q I rx ry q hs
  · exact h' value slice pins s σ H x y v u Q I rx ry q hs
theorem MtR.or {id : String} {r r' : V → List V → Hp → VK → Prop} (h : MtR X id r) (h' : MtR X id r') : MtR X id (fun x xs H Q => r x xs H Q ∨ r' x xs H Q) := by
  intro pins s σ H x xs v us Q I rx rs q
  rcases q with q | q
  · exact h pins s σ H x xs v us Q I rx rs q
  · exact h' pins s σ H x xs v us Q I rx rs q
theorem pe_ix {r : R2} (hr : IxR X r) (ha : PE X a ta) (hb : PE X b tb) (hs : PlainIx b) : PE X (.Subscript a b pos) (tOp r ta tb) := by
  intro pins s σ H Q I h
  exact Subscript_ (binT ha hb I h fun v u s2 x y H2 I2 rx ry q => hr a b pins s2 σ H2 x y v u Q I2 rx ry q (hs _ _))
def rIxL (K : PySem.W.Frag) : R2 := fun x y H Q => ∃ p xs i v, x = .ref p ∧ y = .int i ∧ SqL K H p xs ∧ atI xs i = some v ∧ Q v H
def rIxT (K : PySem.W.Frag) : R2 := fun x y H Q => ∃ p xs i v, x = .ref p ∧ y = .int i ∧ SqT K H p xs ∧ atI xs i = some v ∧ Q v H
def rIxS : R2 := fun x y H Q => ∃ z i c, x = .str z ∧ y = .int i ∧ z.length ≤ sizeLine ∧ atI z.cps.toList i = some c ∧ Q (.str ⟨#[c]⟩) H
theorem ix_list : IxR X (rIxL X.K) := by
  intro value slice pins s σ H x y v u Q I rx ry h hs
  obtain ⟨p, xs, i, z, rfl, rfl, hq, he, q⟩ := h
  cases rx
  obtain ⟨t, rfl⟩ := ry
  obtain ⟨its, r, pl, hz⟩ := I.list hq
  obtain ⟨j, h1, h2, h3, h4, h5⟩ := atI_get he
  obtain ⟨w, ew, rw'⟩ := r.get h2
  have hl := r.length
  have hn := line63
  have fin : EP X pins σ Q w s := ⟨z, H, I, rw', q⟩
  by_cases h0 : 0 ≤ i
  · have hj : i.toNat = j := by
      rw [seqIndex_of h0 h5] at h1
      exact Option.some.inj h1
    exact item_listR pl.isList h0 (by omega) (by rw [hj]; simpa using ew) fin hs
  · have hj : (i + (its.toArray.size : Int)).toNat = j := by
      rw [seqIndex_neg (by omega) h4] at h1
      rw [List.size_toArray, ← hl]
      exact Option.some.inj h1
    exact subscriptTail_builtinR (x := w) pl.isList.typeIs slot_list_getitem.lookup
      (wpAny_getItem_list_neg (Q := fun r s' => r = w ∧ EP X pins σ Q r s') pl.isList (by omega) (by rw [List.size_toArray] <;> omega) (by omega) (by rw [hj]; simpa using ew) ⟨rfl, fin⟩) hs
theorem ix_tup : IxR X (rIxT X.K) := by
  intro value slice pins s σ H x y v u Q I rx ry h hs
  obtain ⟨p, xs, i, z, rfl, rfl, hq, he, q⟩ := h
  cases rx
  obtain ⟨t, rfl⟩ := ry
  obtain ⟨its, r, pl, hz⟩ := I.tuple hq
  obtain ⟨j, h1, h2, h3, h4, h5⟩ := atI_get he
  obtain ⟨w, ew, rw'⟩ := r.get h2
  have hl := r.length
  have hn := line63
  have fin : EP X pins σ Q w s := ⟨z, H, I, rw', q⟩
  exact subscriptTail_builtinR (x := w) pl.typeIs slot_tuple_getitem.lookup
    (getItem_tuple (j := j) (Q := fun r s' => r = w ∧ EP X pins σ Q r s') pl (by omega) (by omega) (by rw [List.size_toArray, ← hl]; exact h1) (by simpa using ew) ⟨rfl, fin⟩) hs
theorem mapSeq_set (its : List Value) (n j : Nat) (u : Value) : Obj.mapSeq (·.setIfInBounds j u) { cls := .type "list", data := .seq its.toArray n } = { cls := .type "list", data := .seq (its.set j u).toArray n } := by
  simp [Obj.mapSeq]
theorem Inv.lst {pins : List (Addr × Obj)} {σ : St} {H : Hp} {s : Shared} {p : Addr} {xs : List V} (I : Inv X pins σ H s) (h : H p = some (.lst xs)) :
    ∃ (its : List Value) (n : Nat), Vals xs its ∧ s.heap.get? p = some { cls := .type "list", data := .seq its.toArray n } ∧ xs.length ≤ sizeLine := by
  obtain ⟨z, its, n, r, e⟩ := I.hok p _ h
  exact ⟨its, n, r, e, z⟩
theorem Inv.lstUpd {pins : List (Addr × Obj)} {σ : St} {H : Hp} {s : Shared} {p : Addr} {xs ys : List V} {its its' : List Value} {n n' : Nat} {f : Obj → Obj} (I : Inv X pins σ H s) (h : H p = some (.lst xs))
    (ho : s.heap.get? p = some { cls := .type "list", data := .seq its.toArray n }) (hf : f { cls := .type "list", data := .seq its.toArray n } = { cls := .type "list", data := .seq its'.toArray n' }) (r : Vals ys its') (hz : ys.length ≤ sizeLine) (t : Nat) :
    Inv X pins σ (upd H p (.lst ys)) { s with heap := s.heap.update p f, toks := t } := by
  have e : (s.heap.update p f).get? p = some { cls := .type "list", data := .seq its'.toArray n' } := by
    rw [Heap.get?_update_self f ho (by rw [hf] <;> rfl), hf]
  refine I.write (x := p) (e := p) (by rw [h]; trivial) (.inl rfl) (fun b u hb q => (Heap.get?_update_other _ _ (Ne.symm hb)).trans q) ⟨_, e⟩ ?_
  exact ⟨hz, its', n', r, e⟩
def rSetL : V → V → V → Hp → (Hp → Prop) → Prop := fun o i v H Q => ∃ p xs k j, o = .ref p ∧ i = .int k ∧ H p = some (.lst xs) ∧ ixN xs.length k = some j ∧ Q (upd H p (.lst (xs.set j v)))
theorem set_list : PSet X rSetL := by
  intro pins s σ H o i v ov iv u Q I ro ri rv h
  obtain ⟨p, xs, k, j, rfl, rfl, hp, hj, q⟩ := h
  cases ro
  obtain ⟨t, rfl⟩ := ri
  obtain ⟨its, n, r, ho, hz⟩ := I.lst hp
  obtain ⟨h1, h2, h3, h4⟩ := ixN_seq hj
  have hl := r.length
  have hn := line63
  have I' : Inv X pins σ (upd H p (.lst (xs.set j v))) { s with heap := s.heap.update p (Obj.mapSeq (·.setIfInBounds j u)) } :=
    I.lstUpd hp ho (mapSeq_set its n j u) (r.set rv j) (by rw [List.length_set]; exact hz) s.toks
  by_cases h0 : 0 ≤ k
  · have hk : k.toNat = j := by
      rw [seqIndex_of h0 h4] at h1
      exact Option.some.inj h1
    exact PySem.W.ki_setAt ho h0 (by omega) (by rw [List.size_toArray, ← hl]; exact h4) (by rw [hk]; exact ⟨_, I', q⟩)
  · have hk : (k + (its.toArray.size : Int)).toNat = j := by
      rw [seqIndex_neg (by omega) h3] at h1
      rw [List.size_toArray, ← hl]
      exact Option.some.inj h1
    exact PySem.W.ki_setBack ho (by omega) (by rw [List.size_toArray, ← hl]; exact h3) (by omega) (by rw [hk]; exact ⟨_, I', q⟩)
theorem slice_bounds (lo hi : Option Int) (n : Nat) : (sliceBounds lo hi none n).1 = ((HT.sIx n 0 lo : Nat) : Int) ∧ (sliceBounds lo hi none n).2.1 = ((HT.sIx n n hi : Nat) : Int) ∧ (sliceBounds lo hi none n).2.2 = 1 := by
  refine ⟨?_, ?_, rfl⟩
  · cases lo with
    | none => simp [sliceBounds, HT.sIx]
    | some i =>
      simp only [sliceBounds, HT.sIx, Option.getD_none, show (1 : Int) > 0 by decide, if_true]
      by_cases h : i < 0
      · simp only [h, if_true] <;> omega
      · simp only [h, if_false] <;> omega
  · cases hi with
    | none => simp [sliceBounds, HT.sIx]
    | some i =>
      simp only [sliceBounds, HT.sIx, Option.getD_none, show (1 : Int) > 0 by decide, if_true]
      by_cases h : i < 0
      · simp only [h, if_true] <;> omega
      · simp only [h, if_false] <;> omega
theorem slicePick_cut (its : List Value) (lo hi : Option Int) : slicePick its.toArray lo hi none = ((its.drop (HT.sIx its.length 0 lo)).take (HT.sIx its.length its.length hi - HT.sIx its.length 0 lo)).toArray := by
  obtain ⟨h1, h2, h3⟩ := slice_bounds lo hi its.toArray.size
  unfold slicePick
  rw [h1, h2, h3]
  simp only [sliceRange_one, pick_run, List.size_toArray] <;> rfl
def rSlL (K : PySem.W.Frag) : V → Option Int → Option Int → Hp → VK → Prop := fun x lo hi H Q => ∃ a xs, x = .ref a ∧ SqL K H a xs ∧ ∀ p, H p = none → Q (.ref p) (upd H p (.lst (cutV xs lo hi)))
theorem sl_list : SlR X (rSlL X.K) := by
  intro pins s σ H x v vl vu lo hi sl Q I rx hs pl pu h
  obtain ⟨a, xs, rfl, hx, q⟩ := h
  cases rx
  obtain ⟨its, r, ht, hz⟩ := I.list hx
  have hlen := r.length
  refine ⟨"list", _, slot_list_getitem.lookup, ht.isList.typeIs, ?_⟩
  refine wpAny_getItem_list_slice ht.isList hs pl pu .none (by simp) ?_ (by rw [List.size_toArray] <;> omega)
  rw [slicePick_cut, ← hlen]
  refine ⟨.ref s.heap.objs.size, _, I.laid (t' := s.toks) (o := .lst (cutV xs lo hi)) (fun b ob q => Heap.get?_push_of_some _ q) (Nat.le_refl _) ?_, rfl, q _ (I.hok.fresh (Nat.le_refl _))⟩
  exact ⟨Nat.le_trans (cutV_length xs lo hi) hz, _, 0, (r.drop (HT.sIx xs.length 0 lo)).take (HT.sIx xs.length xs.length hi - HT.sIx xs.length 0 lo), Heap.get?_push_size _ rfl⟩
def flatV : V → Bool
  | .non => true
  | .bl _ => true
  | .int _ => true
  | .str _ => true
  | _ => false
def eqV : V → V → Bool
  | .non, .non => true
  | .bl a, .bl b => a == b
  | .bl a, .int b => (if a then 1 else 0) == b
  | .int a, .bl b => a == (if b then 1 else 0)
  | .int a, .int b => a == b
  | .str a, .str b => a == b
  | _, _ => false
theorem eqAt_V {A : Around} {s : Shared} {y x : V} {u v : Value} (ry : RelV y u) (rx : RelV x v) (fy : flatV y = true) (fx : flatV x = true) : SeqAt.EqAt A s u v (eqV y x) := by
  cases y with
  | non =>
    cases ry
    cases x with
    | non => cases rx; exact SeqAt.EqAt.same _
    | bl b => cases rx; exact SeqAt.EqAt.none_bool b
    | int b => obtain ⟨t, rfl⟩ := rx; exact SeqAt.EqAt.none_int b t
    | str b => obtain ⟨t, rfl⟩ := rx; exact SeqAt.EqAt.none_str b t
    | _ => exact absurd (show false = true from fx) Bool.false_ne_true
  | bl a =>
    cases ry
    cases x with
    | non => cases rx; exact SeqAt.EqAt.bool_none a
    | bl b => cases rx; exact SeqAt.EqAt.bool_bool a b
    | int b => obtain ⟨t, rfl⟩ := rx; exact SeqAt.EqAt.bool_int a b t
    | str b => obtain ⟨t, rfl⟩ := rx; exact SeqAt.EqAt.bool_str a b t
    | _ => exact absurd (show false = true from fx) Bool.false_ne_true
  | int a =>
    obtain ⟨t', rfl⟩ := ry
    cases x with
    | non => cases rx; exact SeqAt.EqAt.int_none a t'
    | bl b => cases rx; exact SeqAt.EqAt.int_bool a t' b
    | int b => obtain ⟨t, rfl⟩ := rx; exact SeqAt.EqAt.int_int a t' b t
    | str b => obtain ⟨t, rfl⟩ := rx; exact SeqAt.EqAt.int_str a t' b t
    | _ => exact absurd (show false = true from fx) Bool.false_ne_true
  | str a =>
    obtain ⟨t', rfl⟩ := ry
    cases x with
    | non => cases rx; exact SeqAt.EqAt.str_none a t'
    | bl b => cases rx; exact SeqAt.EqAt.str_bool a t' b
    | int b => obtain ⟨t, rfl⟩ := rx; exact SeqAt.EqAt.str_int a t' b t
    | str b => obtain ⟨t, rfl⟩ := rx; exact SeqAt.EqAt.str_str a t' b t
    | _ => exact absurd (show false = true from fx) Bool.false_ne_true
  | _ => exact absurd (show false = true from fy) Bool.false_ne_true
def eqU (x : V) (u : Value) : Bool := match u with
  | .none => eqV .non x
  | .bool b => eqV (.bl b) x
  | .int i _ => eqV (.int i) x
  | .str z _ => eqV (.str z) x
  | _ => false
theorem eqU_of {x y : V} {u : Value} (r : RelV y u) (f : flatV y = true) : eqU x u = eqV y x := by
  cases y with
  | non => cases r; rfl
  | bl b => cases r; rfl
  | int i => obtain ⟨t, rfl⟩ := r; rfl
  | str z => obtain ⟨t, rfl⟩ := r; rfl
  | _ => exact absurd (show false = true from f) Bool.false_ne_true
theorem any_eqU {x : V} : ∀ {xs : List V} {us : List Value}, Vals xs us → xs.all flatV = true → us.any (eqU x) = xs.any fun y => eqV y x
  | _, _, .nil, _ => rfl
  | y :: xs, u :: us, .cons r t, f => by
    rw [List.all_cons, Bool.and_eq_true] at f
    rw [List.any_cons, List.any_cons, eqU_of r f.1, any_eqU t f.2]
theorem mem_eqAt {A : Around} {s : Shared} {x : V} {v : Value} (rx : RelV x v) (fx : flatV x = true) : ∀ {xs : List V} {us : List Value}, Vals xs us → xs.all flatV = true → ∀ u ∈ us, SeqAt.EqAt A s u v (eqU x u)
  | _, _, .nil, _ => fun u hu => by cases hu
  | y :: xs, u :: us, .cons r t, f => fun u' hu => by
    rw [List.all_cons, Bool.and_eq_true] at f
    rcases List.mem_cons.mp hu with rfl | hu
    · rw [eqU_of r f.1]; exact eqAt_V r rx f.1 fx
    · exact mem_eqAt rx fx t f.2 u' hu
def inV (x : V) (xs : List V) : Bool := xs.any fun y => eqV y x
def rIn (K : PySem.W.Frag) (neg : Bool) : R2 := fun x y H Q => ∃ p xs, y = .ref p ∧ (SqL K H p xs ∨ SqT K H p xs) ∧ flatV x = true ∧ xs.all flatV = true ∧ Q (.bl (if neg then !inV x xs else inV x xs)) H
theorem op_in_seq : OpR X (compareOp .In) (rIn X.K false) := by
  intro pins s σ H x y v u Q I rx ry h
  obtain ⟨p, xs, rfl, hq, fx, fs, q⟩ := h
  cases ry
  rcases hq with hq | hq
  · obtain ⟨its, r, pl, hz⟩ := I.list hq
    refine SeqAt.in_listAt (eqU x) pl.isList (fun w hw => mem_eqAt rx fx r fs w (by simpa using hw)) ⟨.bl _, H, I, rfl, ?_⟩
    rw [show its.toArray.any (eqU x) = its.any (eqU x) by simp, any_eqU r fs]
    exact q
  · obtain ⟨its, r, pl, hz⟩ := I.tuple hq
    refine SeqAt.in_tupleAt (eqU x) pl (fun w hw => mem_eqAt rx fx r fs w (by simpa using hw)) ⟨.bl _, H, I, rfl, ?_⟩
    rw [show its.toArray.any (eqU x) = its.any (eqU x) by simp, any_eqU r fs]
    exact q
theorem op_notIn_seq : OpR X (compareOp .NotIn) (rIn X.K true) := by
  intro pins s σ H x y v u Q I rx ry h
  obtain ⟨p, xs, rfl, hq, fx, fs, q⟩ := h
  cases ry
  rcases hq with hq | hq
  · obtain ⟨its, r, pl, hz⟩ := I.list hq
    refine SeqAt.notIn_listAt (eqU x) pl.isList (fun w hw => mem_eqAt rx fx r fs w (by simpa using hw)) ⟨.bl _, H, I, rfl, ?_⟩
    rw [show its.toArray.any (eqU x) = its.any (eqU x) by simp, any_eqU r fs]
    exact q
  · obtain ⟨its, r, pl, hz⟩ := I.tuple hq
    refine SeqAt.notIn_tupleAt (eqU x) pl (fun w hw => mem_eqAt rx fx r fs w (by simpa using hw)) ⟨.bl _, H, I, rfl, ?_⟩
    rw [show its.toArray.any (eqU x) = its.any (eqU x) by simp, any_eqU r fs]
    exact q
theorem call_len_seq : CallR X (.builtin "len") (fun xs H Q => ∃ p ys, xs = [.ref p] ∧ (SqL X.K H p ys ∨ SqT X.K H p ys) ∧ Q (.int ys.length) H) := by
  intro pins s σ H xs us Q I r h
  obtain ⟨p, ys, rfl, hq, q⟩ := h
  obtain ⟨u, rfl, rx⟩ := vals1 r
  cases rx
  have hn := line63
  rcases hq with hq | hq
  · obtain ⟨its, r', pl, hz⟩ := I.list hq
    have hlen := r'.length
    exact Calls.call_len_list pl.isList (by simp only [List.size_toArray] <;> omega) ⟨.int ys.length, H, I.tok _, ⟨s.toks + 1, by rw [List.size_toArray, hlen]⟩, q⟩
  · obtain ⟨its, r', pl, hz⟩ := I.tuple hq
    have hlen := r'.length
    exact len_tuple pl (by simp only [List.size_toArray] <;> omega) ⟨.int ys.length, H, I.tok _, ⟨s.toks + 1, by rw [List.size_toArray, hlen]⟩, q⟩
theorem CallR.or {f : Value} {r r' : List V → Hp → VK → Prop} (h : CallR X f r) (h' : CallR X f r') : CallR X f (fun xs H Q => r xs H Q ∨ r' xs H Q) := by
  intro pins s σ H xs us Q I rs q
  rcases q with q | q
  · exact h pins s σ H xs us Q I rs q
  · exact h' pins s σ H xs us Q I rs q
theorem call_list_of : CallR X (.type "list") (fun xs H Q => ∃ p ys, xs = [.ref p] ∧ (SqL X.K H p ys ∨ SqT X.K H p ys) ∧ ∀ l, H l = none → Q (.ref l) (upd H l (.lst ys))) := by
  intro pins s σ H xs us Q I r h
  obtain ⟨p, ys, rfl, hq, q⟩ := h
  obtain ⟨u, rfl, rx⟩ := vals1 r
  cases rx
  have fin : ∀ (its : List Value), Vals ys its → ys.length ≤ sizeLine → ∀ (h' : Heap) (c' : Nat), (∀ b o', s.heap.get? b = some o' → h'.get? b = some o') →
      h'.get? s.heap.objs.size = some { cls := .type "list", dict := none, data := .seq its.toArray c', slots := #[] } → EP X pins σ Q (.ref s.heap.objs.size) { s with heap := h' } := fun its r' hz h' c' kp e =>
    ⟨.ref s.heap.objs.size, _, I.laid (t' := s.toks) kp (Nat.le_refl _) (show ObjOk X.prog X.w _ h' _ (.lst ys) from ⟨hz, its, c', r', e⟩), rfl, q _ (I.hok.fresh (Nat.le_refl _))⟩
  rcases hq with hq | hq
  · obtain ⟨its, r', pl, hz⟩ := I.list hq
    have hlen := r'.length
    obtain ⟨o, ho, hc, n, hd⟩ := pl.isList
    exact call_list_seq p (.inl rfl) ho hc hd (fun h' c' kp e => fin its r' hz h' c' kp e) (by simp only [List.size_toArray] <;> omega)
  · obtain ⟨its, r', pl, hz⟩ := I.tuple hq
    have hlen := r'.length
    obtain ⟨o, ho, hc, n, hd⟩ := pl
    exact call_list_seq p (.inr rfl) ho hc hd (fun h' c' kp e => fin its r' hz h' c' kp e) (by simp only [List.size_toArray] <;> omega)
theorem call_tuple_of : CallR X (.type "tuple") (fun xs H Q => ∃ p ys, xs = [.ref p] ∧ ((SqL X.K H p ys ∧ ∀ l, H l = none → Q (.ref l) (upd H l (.tup ys))) ∨ (SqT X.K H p ys ∧ Q (.ref p) H))) := by
  intro pins s σ H xs us Q I r h
  obtain ⟨p, ys, rfl, h⟩ := h
  obtain ⟨u, rfl, rx⟩ := vals1 r
  cases rx
  rcases h with ⟨hq, q⟩ | ⟨hq, q⟩
  · obtain ⟨its, r', pl, hz⟩ := I.list hq
    have hlen := r'.length
    refine call_tuple_list pl.isList (fun h' kp => ?_) (by simp only [List.size_toArray] <;> omega)
    have I1 : Inv X pins σ H { s with heap := h' } := I.kept (t' := s.toks) kp
    have I2 : Inv X pins σ (upd H h'.objs.size (.tup ys)) { s with heap := h'.push { cls := .type "tuple", data := .seq its.toArray } } :=
      I1.laid (t' := s.toks) (fun b o e => Heap.get?_push_of_some _ e) (Nat.le_refl _) (show ObjOk X.prog X.w _ _ _ (.tup ys) from ⟨hz, its, r', IsTup.new _ _⟩)
    exact ⟨.ref h'.objs.size, _, I2, rfl, q _ (I1.hok.fresh (Nat.le_refl _))⟩
  · obtain ⟨its, r', pl, hz⟩ := I.tuple hq
    exact call_tuple_same pl ⟨.ref p, H, I, rfl, q⟩
def tyV (K : PySem.W.Frag) (T : String) (x : V) (H : Hp) : Prop := match x with
  | .str _ => T = "str"
  | .int _ => T = "int"
  | .ref p => (T = "list" ∧ ∃ xs, SqL K H p xs) ∨ (T = "tuple" ∧ ∃ o, K.lookup p = some o ∧ o.cls = .type "tuple" ∧ o.dict = none) ∨
      (T = "dict" ∧ ((∃ kvs, H p = some (.dK kvs)) ∨ ∃ kvs, H p = some (.dT kvs))) ∨ (T = "set" ∧ ∃ S n, H p = some (.set S n))
  | _ => False
theorem tyV_is {pins : List (Addr × Obj)} {σ : St} {H : Hp} {s : Shared} {T : String} {x : V} {v : Value} (I : Inv X pins σ H s) (r : RelV x v) (ty : tyV X.K T x H) :
    s.TypeIs v T ∧ ∀ a, v = .ref a → ∃ ob, s.heap.get? a = some ob ∧ ob.dict = none := by
  cases x with
  | str z =>
    obtain ⟨t, rfl⟩ := r
    cases (show T = "str" from ty)
    exact ⟨typeIs_str s z t, fun _ e => nomatch e⟩
  | int i =>
    obtain ⟨t, rfl⟩ := r
    cases (show T = "int" from ty)
    exact ⟨typeIs_int s i t, fun _ e => nomatch e⟩
  | ref p =>
    cases r
    rcases ty with ⟨rfl, xs, hq⟩ | ⟨rfl, o, hk, hc, hd⟩ | ⟨rfl, hk⟩ | ⟨rfl, S, n, hk⟩
    · obtain ⟨its, _, pl, _⟩ := I.list hq
      refine ⟨pl.isList.typeIs, fun a e => ?_⟩
      cases e
      obtain ⟨o, n, e, c, hd, _⟩ := pl
      exact ⟨o, e, hd⟩
    · refine ⟨⟨o, I.kIn p o hk, hc⟩, fun a e => ?_⟩
      cases e
      exact ⟨o, I.kIn _ o hk, hd⟩
    · have z : ∃ o, s.heap.get? p = some o ∧ o.ExactDict := by
        rcases hk with ⟨kvs, hk⟩ | ⟨kvs, hk⟩
        · obtain ⟨_, _, _, _, o, _, _, e, ex, _⟩ := I.hok p _ hk
          exact ⟨o, e, ex⟩
        · obtain ⟨_, _, _, _, o, _, _, e, ex, _⟩ := I.hok p _ hk
          exact ⟨o, e, ex⟩
      obtain ⟨o, e, ex⟩ := z
      refine ⟨⟨o, e, ex.1⟩, fun a e2 => ?_⟩
      cases e2
      exact ⟨o, e, ex.2.1⟩
    · obtain ⟨o, _, _, _, e, ex, _⟩ := I.hok p _ hk
      refine ⟨⟨o, e, ex.1⟩, fun a e2 => ?_⟩
      cases e2
      exact ⟨o, e, ex.2.1⟩
  | _ => exact False.elim ty
def tBM (K : PySem.W.Frag) (T : String) (r : V → List V → Hp → VK → Prop) (to : TE) (t : TA) : TE := fun σ H Q => to σ H fun x H1 => tyV K T x H1 ∧ t σ H1 fun xs H2 => r x xs H2 Q
variable {o e : Expr} {es : List Expr} {to : TE} {t : TA} {name : Str} {apos cpos : Pos} {T id : String} {r : V → List V → Hp → VK → Prop}
theorem pe_bm (pa : PlainAttrs T) (slot : Slot T name id) (hty : typeOf (.builtin id) = pure (.type "method_descriptor")) (hm : MtR X id r) (ho : PE X o to) (ha : PA X (e :: es) t)
    (hbase : attributeBase o name X.env (eval o X.env) = eval o X.env := by rfl)
    (hfew : ((backTo cpos (starEach (e :: es) X.env)).all (fun x => !x.1) && (backToKw cpos (keywordEach [] X.env)).all (fun x => x.1.isSome)
      && decide ((e :: es).length + ([] : List Keyword).length + (if ([] : List Keyword).isEmpty then 0 else 1) < 30)) = true := by rfl)
    (hline : (apos.endLine == cpos.line) = true := by rfl) (hs : starEach (e :: es) X.env = (false, eval e X.env) :: starEach es X.env := by rfl) (hplain : (backTo cpos (starEach es X.env)).any (·.1) = false := by rfl) :
    PE X (.Call (.Attribute o name apos) (e :: es) [] cpos) (tBM X.K T r to t) := by
  intro pins s σ H Q I h
  refine wpAny_Call_method_late hbase hfew hline rfl (thn (ho pins s σ H _ I h) fun v s1 ⟨x, H1, I1, r1, ty, q1⟩ => ?_)
  obtain ⟨h1, h2⟩ := tyV_is I1 r1 ty
  refine ⟨T, id, pa, slot, hty, h1, h2, ?_⟩
  have hA := ha cpos pins s1 σ H1 _ I1 q1
  rw [hs] at hA ⊢
  refine Calls.callWith_builtin (by show (false || (backTo cpos (starEach es X.env)).any (·.1)) = false; rw [hplain] <;> rfl) (Calls.evalArgs_plain ?_)
  exact thn hA fun us s2 ⟨vs, H2, I2, r2, q2⟩ => hm pins s2 σ H2 x vs v us Q I2 r1 r2 q2
/- xs.append(e), list.index on a module's tuple .. are MtR facts of 06m -/
end
end L2
namespace L2
open PySem PySem.Spec PyProof.Rows
def MtM (X : Cx) (id : String) (r : V → List V → Hp → VK → Prop) : Prop :=
  ∀ (pins : List (Addr × Obj)) (s : Shared) (σ : St) (H : Hp) (x : V) (xs : List V) (v : Value) (us : List Value) (Q : VK), Inv X pins σ H s → RelV x v → Vals xs us → r x xs H Q →
    wpAny (model X.prog X.w) X.A (call (.builtin id) (v :: us)) (EP X pins σ Q) X.xe s
theorem Vals.one : ∀ {x : V} {us : List Value}, Vals [x] us → ∃ u, us = [u] ∧ RelV x u
  | _, _, .cons r .nil => ⟨_, rfl, r⟩
theorem Vals.two : ∀ {x y : V} {us : List Value}, Vals [x, y] us → ∃ u v, us = [u, v] ∧ RelV x u ∧ RelV y v
  | _, _, _, .cons r (.cons q .nil) => ⟨_, _, rfl, r, q⟩
theorem Vals.zero : ∀ {us : List Value}, Vals [] us → us = []
  | _, .nil => rfl
theorem Vals.eraseIdx : ∀ {xs : List V} {us : List Value} (i : Nat), Vals xs us → Vals (xs.eraseIdx i) (us.eraseIdx i)
  | _, _, _, .nil => .nil
  | _, _, 0, .cons _ t => t
  | _, _, i + 1, .cons r t => .cons r (Vals.eraseIdx i t)
theorem Vals.reverse {xs : List V} {us : List Value} (h : Vals xs us) : Vals xs.reverse us.reverse := by
  induction h with
  | nil => exact .nil
  | cons r t ih => rw [List.reverse_cons, List.reverse_cons]; exact Vals.append ih (.cons r .nil)
theorem Vals.rep {xs : List V} {us : List Value} (h : Vals xs us) : ∀ k : Nat, Vals (List.replicate k xs).flatten (List.replicate k us).flatten
  | 0 => .nil
  | k + 1 => by
    rw [List.replicate_succ, List.replicate_succ, List.flatten_cons, List.flatten_cons]
    exact Vals.append h (Vals.rep h k)
theorem len_erase {α : Type} : ∀ (l : List α) (i : Nat), (l.eraseIdx i).length ≤ l.length
  | [], _ => Nat.le_refl _
  | _ :: _, 0 => Nat.le_succ _
  | _ :: r, i + 1 => Nat.succ_le_succ (len_erase r i)
theorem foldl_rep (its : List Value) : ∀ (k : Nat) (acc : List Value),
    List.foldl (fun x1 x2 => x1 ++ x2) acc.toArray (List.replicate k its.toArray) = (acc ++ (List.replicate k its).flatten).toArray
  | 0, acc => by simp
  | k + 1, acc => by
    have e : acc.toArray ++ its.toArray = (acc ++ its).toArray := by simp
    have e2 : (acc ++ its) ++ (List.replicate k its).flatten = acc ++ (List.replicate (k + 1) its).flatten := by
      rw [List.replicate_succ, List.flatten_cons, List.append_assoc]
    rw [← e2, ← foldl_rep its k (acc ++ its), ← e, List.replicate_succ, List.foldl_cons]
section
variable {X : Cx} {pins : List (Addr × Obj)} {σ : St} {H : Hp} {s : Shared} {l b : Addr} {xs ys zs : List V}
theorem Inv.lset {its its' : List Value} {n : Nat} {f : Array Value → Array Value} {t' : Nat} (I : Inv X pins σ H s) (hH : H l = some (.lst xs))
    (e : s.heap.get? l = some { cls := .type "list", data := .seq its.toArray n }) (hf : f its.toArray = its'.toArray) (hv : Vals ys its') (hz : ys.length ≤ sizeLine) :
    Inv X pins σ (upd H l (.lst ys)) { s with heap := s.heap.update l (Obj.mapSeq f), toks := t' } := by
  have q := PySem.IsL.update e f
  rw [hf] at q
  refine I.write (x := l) (e := l) (by rw [hH]; exact trivial) (.inl rfl) (fun b' u hb hu => (Heap.get?_update_other s.heap (Obj.mapSeq f) (Ne.symm hb)).trans hu) ⟨_, q⟩ ?_
  exact ⟨hz, its', _, hv, q⟩
theorem Inv.lnew {its : List Value} {t' : Nat} (I : Inv X pins σ H s) (hv : Vals ys its) (hz : ys.length ≤ sizeLine) :
    Inv X pins σ (upd H s.heap.objs.size (.lst ys)) { s with heap := s.heap.push { cls := .type "list", data := .seq its.toArray }, toks := t' } :=
  I.laid (fun _ _ q => Heap.get?_push_of_some _ q) (Nat.le_refl _) ⟨hz, its, 0, hv, Heap.get?_push_size _ rfl⟩
theorem Inv.fresh (I : Inv X pins σ H s) : H s.heap.objs.size = none := I.hok.fresh (Nat.le_refl _)
theorem Inv.lstM (I : Inv X pins σ H s) (hH : H l = some (.lst xs)) : xs.length ≤ sizeLine ∧ ∃ (its : List Value) (n : Nat), Vals xs its ∧ xs.length = its.length ∧ s.heap.get? l = some { cls := .type "list", data := .seq its.toArray n } := by
  obtain ⟨z, its, n, r, e⟩ := I.hok l _ hH
  exact ⟨z, its, n, r, r.length, e⟩
theorem notLongL {n : Nat} (h : n ≤ sizeLine) : Builtin.List.listTooLong n = false := by
  unfold Builtin.List.listTooLong
  exact decide_eq_false (by omega)
end
section
variable {X : Cx}
def rAppend : V → List V → Hp → VK → Prop := fun x vs H Q => ∃ l xs y, x = .ref l ∧ vs = [y] ∧ H l = some (.lst xs) ∧ xs.length < sizeLine ∧ Q .non (upd H l (.lst (xs ++ [y])))
theorem mt_append : MtM X "list.append" rAppend := by
  intro pins s σ H x vs v us Q I rx rv h
  obtain ⟨l, xs, y, rfl, rfl, hH, hz, q⟩ := h
  cases rx
  obtain ⟨u, rfl, ru⟩ := rv.one
  obtain ⟨z, its, n, r, hl, e⟩ := I.lstM hH
  refine call_meets F.slot_list_append ⟨_, e, rfl⟩ F.entry_list_append (F.args_list_append_2 _ _) (PySem.list_append l its.toArray n u (by rw [List.size_toArray]; omega)) ⟨e, ?_⟩
  refine ⟨.non, _, I.lset (its' := its ++ [u]) hH e (by simp) (r.append (.cons ru .nil)) ?_, rfl, q⟩
  rw [List.length_append, List.length_singleton]
  omega
def rExtend : V → List V → Hp → VK → Prop := fun x vs H Q => ∃ l b xs zs, x = .ref l ∧ vs = [.ref b] ∧ H l = some (.lst xs) ∧ H b = some (.lst zs) ∧ xs.length + zs.length ≤ sizeLine ∧ Q .non (upd H l (.lst (xs ++ zs)))
theorem mt_extend : MtM X "list.extend" rExtend := by
  intro pins s σ H x vs v us Q I rx rv h
  obtain ⟨l, b, xs, zs, rfl, rfl, hH, hB, hz, q⟩ := h
  cases rx
  obtain ⟨u, rfl, ru⟩ := rv.one
  cases ru
  obtain ⟨z, its, n, r, hl, e⟩ := I.lstM hH
  obtain ⟨z2, its2, n2, r2, hl2, e2⟩ := I.lstM hB
  have hsz : its.toArray.size + its2.toArray.size ≤ sizeLine := by rw [List.size_toArray, List.size_toArray]; omega
  have hlong : ¬ (!its.toArray.isEmpty && Builtin.List.listTooLong (its.toArray.size + its2.toArray.size)) = true := by
    rw [notLongL hsz, Bool.and_false]
    exact Bool.false_ne_true
  refine call_meets F.slot_list_extend ⟨_, e, rfl⟩ F.entry_list_extend (F.args_list_extend_2 _ _)
    (AutoSeq1.list_extend_list_list_0 l its.toArray n b its2.toArray n2 hlong (by rw [List.size_toArray]; omega) (by omega)) ⟨e, e2, ?_⟩
  refine ⟨.non, _, I.lset (its' := its ++ its2) hH e (by simp) (r.append r2) ?_, rfl, q⟩
  rw [List.length_append]
  omega
def rPopAt : V → List V → Hp → VK → Prop := fun x vs H Q => ∃ l xs i k y, x = .ref l ∧ vs = [.int i] ∧ H l = some (.lst xs) ∧ -(2 ^ 63) ≤ i ∧ i < 2 ^ 63 ∧ seqIndex? i xs.length = some k ∧ xs[k]? = some y ∧ Q y (upd H l (.lst (xs.eraseIdx k)))
theorem mt_popAt : MtM X "list.pop" rPopAt := by
  intro pins s σ H x vs v us Q I rx rv h
  obtain ⟨l, xs, i, k, y, rfl, rfl, hH, h1, h2, hk, hy, q⟩ := h
  cases rx
  obtain ⟨u, rfl, ru⟩ := rv.one
  obtain ⟨t, rfl⟩ := ru
  obtain ⟨z, its, n, r, hl, e⟩ := I.lstM hH
  obtain ⟨w, hw, rw'⟩ := r.get hy
  refine call_meets F.slot_list_pop ⟨_, e, rfl⟩ F.entry_list_pop (F.args_list_pop_2 _ _)
    (MeetsSeq.list_pop_at l its.toArray n i t k w (fitsIndex_both h1 h2) (by rw [List.size_toArray, ← hl]; exact hk) (by rw [← Array.getElem?_toList]; exact hw) (by rw [List.size_toArray]; omega)) ⟨e, ?_⟩
  refine ⟨y, _, I.lset (its' := its.eraseIdx k) hH e ?_ (r.eraseIdx k) ?_, rw', q⟩
  · show its.toArray.eraseIdxIfInBounds k = (its.eraseIdx k).toArray
    rw [List.eraseIdxIfInBounds_toArray]
  · have := len_erase xs k
    omega
def rCat : R2 := fun x y H Q => ∃ l b xs zs, x = .ref l ∧ y = .ref b ∧ H l = some (.lst xs) ∧ H b = some (.lst zs) ∧ xs.length + zs.length ≤ sizeLine ∧ ∀ p, H p = none → Q (.ref p) (upd H p (.lst (xs ++ zs)))
theorem op_cat : OpR X (binaryOp .Add) rCat := by
  intro pins s σ H x y v u Q I rx ry h
  obtain ⟨l, b, xs, zs, rfl, rfl, hH, hB, hz, q⟩ := h
  cases rx
  cases ry
  obtain ⟨z, its, n, r, hl, e⟩ := I.lstM hH
  obtain ⟨z2, its2, n2, r2, hl2, e2⟩ := I.lstM hB
  refine PySem.P.add_list e e2 ?_ (by rw [List.size_toArray, List.size_toArray]; omega)
  have ea : its.toArray ++ its2.toArray = (its ++ its2).toArray := by simp
  rw [ea]
  exact ⟨.ref _, _, I.lnew (t' := s.toks) (r.append r2) (by rw [List.length_append]; omega), rfl, q _ I.fresh⟩
def rRep : R2 := fun x y H Q => ∃ l k xs, x = .ref l ∧ y = .int k ∧ H l = some (.lst xs) ∧ -(2 ^ 63) ≤ k ∧ k < 2 ^ 63 ∧ xs.length * k.toNat ≤ sizeLine ∧
  ∀ p, H p = none → Q (.ref p) (upd H p (.lst (List.replicate k.toNat xs).flatten))
theorem len_rep {α : Type} (xs : List α) (k : Nat) : (List.replicate k xs).flatten.length = k * xs.length := by
  induction k with
  | zero => simp
  | succ k ih => rw [List.replicate_succ, List.flatten_cons, List.length_append, ih, Nat.succ_mul, Nat.add_comm]
theorem op_rep : OpR X (binaryOp .Mult) rRep := by
  intro pins s σ H x y v u Q I rx ry h
  obtain ⟨l, k, xs, rfl, rfl, hH, h1, h2, hz, q⟩ := h
  cases rx
  obtain ⟨t, rfl⟩ := ry
  obtain ⟨z, its, n, r, hl, e⟩ := I.lstM hH
  have hlen : its.toArray.size * k.toNat ≤ sizeLine := by rw [List.size_toArray, ← hl]; exact hz
  have hcap : ¬ its.toArray.size * k.toNat > (2 ^ 63 - 1) / 8 := by
    have : (sizeLine : Nat) ≤ (2 ^ 63 - 1) / 8 := by decide
    omega
  have hfit : ¬ (!Builtin.List.listFitsIndex k) = true := by
    rw [fitsIndex_both h1 h2]
    exact Bool.false_ne_true
  have hlong : ¬ Builtin.List.listTooLong (its.toArray.size * k.toNat) = true := by
    rw [notLongL hlen]
    exact Bool.false_ne_true
  have hnew : List.foldl (fun x1 x2 => x1 ++ x2) #[] (List.replicate (if its.toArray.isEmpty = true then 0 else k.toNat) its.toArray) = (List.replicate k.toNat its).flatten.toArray := by
    have f0 : ∀ m : Nat, List.foldl (fun x1 x2 => x1 ++ x2) #[] (List.replicate m its.toArray) = (List.replicate m its).flatten.toArray := fun m => by
      have := foldl_rep its m []
      rw [List.nil_append] at this
      exact this
    rw [f0]
    cases its with
    | nil => simp
    | cons a r' => rw [if_neg (by simp)]
  refine wpAny_binaryOp_repeat_ref (T := "list") (U := "int") (by decide) ⟨_, e, rfl⟩ (fun s' => typeIs_int s' k t) noFill_list_mul F.fills_int_mul F.slot_int_rmul repeat_list F.slot_int_index.lookup
    (call_meets F.slot_int_rmul (typeIs_int s k t) F.entry_int_rmul (F.args_int_rmul_2 _ _) (int___rmul___int_list k t l its.toArray n)
      ⟨e, rfl, ⟨_, e, rfl⟩, call_meets F.slot_list_mul ⟨_, e, rfl⟩ F.entry_list_mul (F.args_list_mul_2 _ _) (AutoListH.list___mul___list_int_3 l its.toArray n k t hfit hcap hlong) ⟨e, ?_⟩⟩)
  rw [hnew]
  exact ⟨.ref _, _, I.lnew (t' := s.toks) (r.rep k.toNat) (by rw [len_rep, Nat.mul_comm]; exact hz), rfl, q _ I.fresh⟩
end
section
variable {prog : Program} {w : World} {A : Around} {E : Value → Shared → Prop} {s : Shared}
end
section
variable {X : Cx}
end
end L2
namespace Att
open PySem PySem.W PySem.Calls PyProof.Rows
theorem ints_of_wellAll {P : Params} {h : Heap} : ∀ (ns : List Int) (vs : List Value), WellAll P h vs (ns.map WData.int) → IntsAre vs ns := by
  intro ns
  induction ns with
  | nil =>
    intro vs w
    rw [List.map_nil] at w
    cases w
    exact .nil
  | cons n ns ih =>
    intro vs w
    rw [List.map_cons] at w
    cases w with
    | cons a b =>
      cases a
      exact .cons _ _ (ih _ b)
theorem script_of {l : OpenLaw} {n : Nat} (hn : l.most = some n) {P : Params} {h : Heap} {args : List WData} {vals : List Value}
    (hpre : l.row.toRowW.claim.pre args = true) (hwl : WellAll P h vals args) :
    ∃ a vs ns, vals = [Value.ref a] ∧ args = [WData.list (ns.map WData.int)] ∧ h.get? a = some { cls := .type "list", data := .seq vs.toArray } ∧ IntsAre vs ns ∧ ns.length ≤ n := by
  have hsh : WShape.hasAll [] args [.list .int] = true := (pre_splitW hpre).1
  have hc : l.pre.holds [] { args := args } = true := (pre_splitW hpre).2
  obtain ⟨d, r, rfl, h1, h2⟩ := hasAllW_cons hsh
  obtain rfl := hasAllW_nil h2
  obtain ⟨xs, rfl, h3⟩ := hasW_list h1
  obtain ⟨ns, rfl⟩ := items_int h3
  have hlen : ns.length ≤ n := by
    unfold OpenLaw.pre at hc
    have h4 : (WTm.not (.lt (.lit (.int (n : Int))) (.len (.arg 0)))).holds [] { args := [.list (ns.map .int)] } = true := by
      have h4 := (holds_andW hc).1
      rw [hn] at h4
      exact h4
    have h5 := condW_of h4 (w_not (w_lt w_lit (w_len_list (w_arg rfl))))
    rw [List.length_map] at h5
    refine Nat.le_of_not_lt fun q => ?_
    have q' : (n : Int) < ((ns.length : Nat) : Int) := by omega
    first
      | (rw [decide_eq_true q'] at h5; exact absurd h5 (by decide))
      | (simp at h5; omega)
  cases hwl with
  | cons w1 w2 =>
    cases w2
    cases w1 with
    | list ho hall => exact ⟨_, _, ns, rfl, rfl, ho, ints_of_wellAll ns _ hall, hlen⟩
theorem post_true (l : OpenLaw) (args : List WData) : l.row.toRowW.claim.post args (.bool true) args = true :=
  postW_of (r := l.row.toRowW) (X := (true == true))
    (show WShape.has [] (.bool true) .bool = true by first | rfl | decide | simp [WShape.has, WShape.arms, WShape.armsAll])
    (show (WTm.eq .res (.lit (.bool true))).value [] { args := args, res := some (.bool true), after := args } = some (.bool (true == true)) from w_eq_bool (w_res rfl) w_lit) rfl
theorem attach_call {l : OpenLaw} {n : Nat} {q : Program} {loose : List Str} {XP : (Str → Option Value) → Heap → Prop} {YP : World → Heap → Prop} {d : DefRec}
    (hn : l.most = some n) (hdf : d.params.defaults = [])
    (call : ∀ (w : World) (s₀ s₁ : Shared) (mg mb : Str → Option Value) (fa : Addr) (o : Obj) (pm cd doc : Value) (a : Addr) (vs : List Value) (ns : List Int),
      Ground q loose [] XP w s₀ mg mb s₁.heap → YP w s₁.heap →
      s₁.heap.get? fa = some o → o.data = .func (docDef d.name d.params d.body d.scope pm cd doc) → s₁.heap.CodeRec cd d.name → mg d.name = some (.ref fa) →
      s₁.heap.get? a = some { cls := .type "list", data := .seq vs.toArray } → IntsAre vs ns → ns.length ≤ n → s₁.gens = #[] →
      codeAny (model l.prog w) callerA (.call (.ref fa) ⟨[.ref a], []⟩) (fun r s' => r = .ok (.ret (.bool true)) ∧ OldK s₁.heap s'.heap ∧ s'.os = s₁.os ∧ AllBare s'.gens) s₁) :
    WalkO q loose XP YP l.row.toRowW d [] (fun f vs => PySem.call f vs) := by
  intro w s₀ s₁ mg mb G Y fa o pm cd doc dV kV ho hd hcd hD hmg hg args vals as hpre hlay hrd hwl hlo
  obtain rfl : dV = .none := Dflts.none hD hdf
  obtain rfl : kV = .none := Dflts.noKw hD
  obtain ⟨a, vs, ns, rfl, rfl, hobj, hints, hlen⟩ := script_of hn hpre hwl
  refine enter_call (codeAny_mono (call w s₀ s₁ mg mb fa o pm cd doc a vs ns G Y ho (fd_plain hd) hcd hmg hobj hints hlen hg) fun r s' hq => ?_)
  obtain ⟨rfl, h2, h3, h4⟩ := hq
  exact ⟨.inl ⟨.bool true, .bool true, [], rfl, fun _ => rfl, .bool true, post_true l _, fun _ => ⟨List.Pairwise.nil, fun _ hm => (nomatch hm)⟩⟩, h2, h3, h4⟩
section
variable {prog : Program} {w : World} {A : Around} {E : Value → Shared → Prop} {s : Shared} {K : Frag}
end
end Att
namespace L2
open PySem PySem.Spec PyProof.Rows
theorem vals_ints : ∀ {vs : List Value} {ns : List Int}, IntsAre vs ns → Vals (ns.map V.int) vs
  | _, _, .nil => .nil
  | _, _, .cons n t h => .cons ⟨t, rfl⟩ (vals_ints h)
def Only (H : Hp) : Prop := ∀ b, H b = none ∨ ∃ o xs, H b = some (.frz o (.lst xs))
theorem law_call {P : Program} {w : World} {K : PySem.W.Frag} {mg mb : Str → Option Value} {CX : CXT} {k : Nat} {fa a : Addr} {fd : FuncData} {x : Str} {sp : Sp} {s₁ : Shared} {vs : List Value} {ns : List Int}
    (KX : K.In s₁.heap) (hns : s₁.heap.Ns mainGlobals mg) (hb : s₁.heap.Ns builtinsNs mb) (hbb : ∀ x : Str, x ≠ "__name__" → mb x = bootBuiltins x) (hlim : s₁.heap.NoLimit) (hg : s₁.gens = #[])
    (ha : s₁.heap.get? a = some { cls := .type "list", data := .seq vs.toArray }) (hi : IntsAre vs ns) (hl : ns.length ≤ sizeLine) (hr : Room k callerA)
    (F : ∀ base : Heap, K.In base → base.Ns mainGlobals mg → FnOk P w K mg base CX k fa fd [x] sp) (hbind : ∀ (s : Shared) (u : Value), BindsTo s fd ⟨[u], []⟩ [(x, u)])
    (hsp : ∀ H : Hp, Only H → SqL K H a (ns.map V.int) → sp [.ref a] H (fun v _ => v = .bl true) fun _ _ _ => False)
    (hCX : ∀ H e s', CX [] H s₁ (fun _ _ _ => False) e s' → False) :
    codeAny (model P w) callerA (.call (.ref fa) ⟨[.ref a], []⟩) (fun r s' => r = .ok (.ret (.bool true)) ∧ OldK s₁.heap s'.heap ∧ s'.os = s₁.os ∧ AllBare s'.gens) s₁ := by
  have rv := vals_ints hi
  have lenV := hi.length
  -- from an abstract heap in which nothing but the script may be tracked
  have core : ∀ H : Hp, Only H → SqL K H a (ns.map V.int) → HOk P w H s₁.heap → (∀ b, H b ≠ none → b = a) → (H a ≠ none → K.lookup a = none) →
      codeAny (model P w) callerA (.call (.ref fa) ⟨[.ref a], []⟩) (fun r s' => r = .ok (.ret (.bool true)) ∧ OldK s₁.heap s'.heap ∧ s'.os = s₁.os ∧ AllBare s'.gens) s₁ := by
    intro H hO hS hok hA hK
    have base_of : ∀ {b : Addr} {o : Obj}, s₁.heap.get? b = some o → H b = none → (hidT s₁.heap H).get? b = some o := fun e n => hidT_get e n
    have noA : ∀ {b : Addr} {o : Obj} {es : Array DictEntry} {ep : Nat}, s₁.heap.get? b = some o → o.data = .dict es ep → H b = none := fun {b o es ep} e d => by
      cases q : H b with
      | none => rfl
      | some u =>
        have e' : b = a := hA b (by rw [q]; simp)
        subst e'
        rw [ha] at e; cases e
        have d' : Data.seq vs.toArray _ = Data.dict es ep := d
        cases d'
    have nsK : ∀ {b : Addr} {m : Str → Option Value}, s₁.heap.Ns b m → (hidT s₁.heap H).Ns b m := fun {b m} ⟨o, es, ep, e, d, r⟩ => ⟨o, es, ep, base_of e (noA e d), d, r⟩
    have hKb : K.In (hidT s₁.heap H) := fun b o e => base_of (KX b o e) (by
      cases q : H b with
      | none => rfl
      | some u =>
        have e' : b = a := hA b (by rw [q]; simp)
        subst e'
        rw [hK (by rw [q]; simp)] at e; cases e)
    have hM : Mod K mg (hidT s₁.heap H) := ⟨hKb, nsK hns, ⟨mb, nsK hb, hbb⟩, let ⟨mc, h1, h2⟩ := hlim; ⟨mc, nsK h1, h2⟩⟩
    have e0 : Env0 P w K mg (hidT s₁.heap H) callerA [] s₁ H := ⟨rfl, hM, fun b o e => of_hidT e, Nat.le_of_eq (hidT_size _ _), trivial, fun b hb => absurd (show b ∈ ([] : List Addr) from hb) (by simp), hok, .of_eq hg⟩
    refine codeAny_mono ((F _ hKb (nsK hns)).run callerA [] s₁ H ⟨[.ref a], []⟩ [.ref a] [.ref a] _ _ hr e0 (hbind s₁ (.ref a)) (.cons rfl .nil) (hsp H hO hS)) fun r s' h => ?_
    cases r with
    | error e => exact (hCX H e s' h).elim
    | ok fl =>
      cases fl with
      | next => exact False.elim h
      | brk => exact False.elim h
      | cont => exact False.elim h
      | ret u =>
        obtain ⟨v, H', os, bare, un, hok', r', q⟩ := h
        have q' : v = .bl true := q
        subst q'
        obtain rfl : u = Value.bool true := r'
        refine ⟨rfl, OldK.of_keep fun b o e => ?_, os, bare⟩
        cases q : H b with
        | none => exact un.keep b o e q (by intro z; exact absurd (show b ∈ ([] : List Addr) from z) (by simp)) (by simp)
        | some u =>
          rcases hO b with z | ⟨ob, xs, z⟩
          · rw [q] at z; cases z
          · have z2 := un.frzs b ob _ z
            obtain ⟨e1, _⟩ := hok b _ z
            obtain ⟨e2, _⟩ := hok' b _ z2
            rw [e] at e1; cases e1
            exact e2
  cases hk : K.lookup a with
  | some o =>
    -- the script is one of the module's own objects
    have e := KX a o hk
    rw [ha] at e
    cases e
    refine core (fun _ => none) (fun _ => .inl rfl) (.inr ⟨_, vs.toArray, _, hk, rfl, rfl, rfl, by rw [List.size_toArray, lenV]; exact hl, by simpa using rv⟩) (fun b u z => by have z' : (none : Option HO) = some u := z; cases z') (fun b z => absurd rfl z) fun z => absurd rfl z
  | none =>
    refine core (fun b => if b = a then some (.frz { cls := .type "list", data := .seq vs.toArray } (.lst (ns.map V.int))) else none) (fun b => ?_) (.inl (.inr ⟨{ cls := .type "list", data := .seq vs.toArray }, if_pos rfl⟩)) (fun b u z => ?_) (fun b z => ?_) fun _ => hk
    · by_cases hb : b = a
      · exact .inr ⟨_, _, if_pos hb⟩
      · exact .inl (if_neg hb)
    · by_cases hb : b = a
      · have z' := (if_pos hb).symm.trans z
        cases z'
        subst hb
        exact ⟨ha, by rw [List.length_map]; exact hl, vs, _, rv, ha⟩
      · have z' := (if_neg hb).symm.trans z
        cases z'
    · by_cases hb : b = a
      · exact hb
      · exact absurd (if_neg hb) z
end L2
namespace L2
open PySem PySem.Spec PyProof.Rows
abbrev KOf {K : PySem.W.Frag} {h : Heap} (_ : K.In h) : PySem.W.Frag := K
theorem walk_of {l : PySem.W.OpenLaw} {n k : Nat} {q : Program} {loose : List Str} {XP : (Str → Option Value) → Heap → Prop} {YP : World → Heap → Prop} {d : DefRec} {K : Params → PySem.W.Frag} {CX : World → CXT} {sp : World → Sp} {x : Str}
    (hn : l.most = some n) (hn2 : n ≤ sizeLine) (hdf : d.params.defaults = []) (hr : Room k callerA)
    (hY : ∀ (w : World) (h : Heap), YP w h → (K w.params).In h)
    (F : ∀ (w : World) (mg : Str → Option Value) (fa : Addr) (h : Heap), (K w.params).In h → h.Ns mainGlobals mg → mg d.name = some (.ref fa) →
      ∃ fd : FuncData, (∀ (s : Shared) (u : Value), BindsTo s fd ⟨[u], []⟩ [(x, u)]) ∧
        ∀ base : Heap, (K w.params).In base → base.Ns mainGlobals mg → FnOk l.prog w (K w.params) mg base (CX w) k fa fd [x] (sp w))
    (hsp : ∀ (w : World) (H : Hp) (a : Addr) (ns : List Int), ns.length ≤ n → Only H → SqL (K w.params) H a (ns.map V.int) → sp w [.ref a] H (fun v _ => v = .bl true) fun _ _ _ => False)
    (hCX : ∀ (w : World) (H : Hp) (s : Shared) (e : Value) (s' : Shared), CX w [] H s (fun _ _ _ => False) e s' → False) :
    PySem.W.WalkO q loose XP YP l.row.toRowW d [] (fun f vs => PySem.call f vs) := by
  refine Att.attach_call hn hdf fun w s₀ s₁ mg mb fa o pm cd doc a vs ns G Y ho hd hcd hmg hobj hints hlen hg => ?_
  have KX := hY w _ Y
  obtain ⟨fd, hb, hF⟩ := F w mg fa _ KX G.T.g hmg
  exact law_call KX G.T.g G.T.b G.T.builtins G.T.nolimit hg hobj hints (Nat.le_trans hlen hn2) hr hF hb (fun H hO hS => hsp w H a ns hlen hO hS) fun H e s' => hCX w H s₁ e s'
end L2

/- THE LAST THEOREM (shape; LID, My.* are yours):
   My.Adr: a structure of the addresses that your layer names (classes, functions); My.Txt K t: a structure (Prop) of the equations over K;
   My.txt_mk : {K} {implicit addresses ..} (e1 : nsIn K mainGlobals "law" = some (some (.ref f))) (e2 : K.lookup f = some ⟨oc, od, .func (fnOf "law" "law" params body scope dV kV doc pm an cdv ct), sl⟩) (e3 : codeIn K cdv "law" = true) .. : ∃ t, My.Txt K t

set_option maxRecDepth 100000 in
set_option maxHeartbeats 0 in
theorem PySem.Challenge.cw_LID_holds : PySem.Challenge.rw_LID.Holds := by
  w_on; o_law; k_head; (case hw => w_witness2)
  k_fill
  refine L2.walk_of (l := PySem.Challenge.rw_LID) (n := 63) (k := 40) (x := "script") (CX := fun w => ..) (sp := fun _ => My.sp_law) rfl (by decide) rfl ⟨rfl, by decide, by decide⟩ (fun w h Y => PySem.W.kIn_of Y) ?F ?S ?C
  case F =>
    intro w mg fa h KX G hmg
    have T : ∃ t, My.Txt (L2.KOf KX) t := by
      dsimp only [L2.KOf]                          -- K must stand as «<heap const> w.params» for k_is
      refine' My.txt_mk ?e1 ?e2 ?e3 ..
      (case e1 => PySem.W.k_is)                    -- in the order: a name -> its address -> its object -> its parts
      (case e2 => PySem.W.k_is)
      ..
    obtain ⟨t, T⟩ := T
    have e0 := hmg.symm.trans (PySem.W.mg_of KX G T.law)
    cases e0                                       -- fa is the law's own address
    exact ⟨_, fun s u => .of_eq rfl, fun base kb nb => My.law_fn T kb nb⟩     -- if «.of_eq rfl» comes too early: refine' ⟨_, ?b, fun base kb nb => My.law_fn T kb nb⟩; exact fun s u => .of_eq rfl
  case S => exact fun w H a ns hl hO hS => ..
  case C => exact ..
(the tactic k_is has no namespace: write k_is) -/
namespace L2
open PySem PySem.Spec PyProof.Rows
def defArgs (s : Stmt) : Arguments := match s with
  | .FunctionDef _ a _ _ _ _ _ _ _ _ => a
  | _ => { posonlyargs := [], args := [], vararg := none, kwonlyargs := [], kw_defaults := [], kwarg := none, defaults := [] }
def defBody (s : Stmt) : List Stmt := match s with
  | .FunctionDef _ _ b _ _ _ _ _ _ _ => b
  | _ => []
def defScope (s : Stmt) : Scope := match s with
  | .FunctionDef _ _ _ _ _ _ sc _ _ _ => sc
  | _ => { kind := .function, names := [], isGenerator := false, isCoroutine := false }
abbrev CX0 : CXT := fun _ _ _ _ _ _ => False
abbrev E0 : XK := fun _ _ _ => False
theorem pass0 {X : Cx} : Passes CX0 X E0 := fun _ _ _ _ _ _ _ h => h.elim
structure Fun (K : PySem.W.Frag) (x qual : Str) (st : Stmt) (f : Addr) (fd : FuncData) : Prop where
  ex : ∃ (oc : Value) (od : Option Addr) (kV doc pm : Value) (an : Option Addr) (cdv ct : Value) (osl : Array (Option Value)),
    fd = PySem.W.fnOf x qual (defArgs st) (defBody st) (defScope st) .none kV doc pm an cdv ct ∧ K.lookup f = some ⟨oc, od, .func fd, osl⟩ ∧ PySem.W.codeIn K cdv qual = true
  kp : PySem.W.keepIn K (.ref f) = true
section
variable {P : Program} {w : World} {K : PySem.W.Frag} {mg : Str → Option Value} {base : Heap}
theorem Fun.ok {x qual : Str} {st : Stmt} {f : Addr} {fd : FuncData} {N ps : List Str} {k : Nat} {sp : Sp} (F : Fun K x qual st f fd) (S : FnScope N ps (defScope st)) (len : ∀ vs H Q E, sp vs H Q E → vs.length = ps.length)
    (hbody : ∀ (cdv : Value) (A : Around) (outer : List Env) (s : Shared) (H : Hp) (vs : List V) (Q : VK) (E : XK), Room k (A.deeper (envOfC qual (defScope st) s.heap.objs.size f cdv)) → sp vs H Q E →
      ∃ t, PSs (cxOf CX0 P w K mg base N qual (defScope st) f cdv A outer s H E).nox (defBody st) t ∧ t { nx := fun _ H' => Q .non H', rt := Q } (start N vs) H) : FnOk P w K mg base CX0 (k + 1) f fd ps sp := by
  obtain ⟨oc, od, kV, doc, pm, an, cdv, ct, osl, rfl, lk, hcd⟩ := F.ex
  refine fn_of lk hcd S len fun A outer s H vs Q E hr hsp => ?_
  obtain ⟨t, h, q⟩ := hbody cdv A outer s H vs Q E hr hsp
  exact ⟨t, h.nox, q⟩
theorem Fun.binds {x qual : Str} {st : Stmt} {f : Addr} {fd : FuncData} {ps : List Str} (F : Fun K x qual st f fd)
    (h : ∀ (kV doc pm : Value) (an : Option Addr) (cdv ct : Value) (us : List Value), us.length = ps.length → bindArgs (PySem.W.fnOf x qual (defArgs st) (defBody st) (defScope st) .none kV doc pm an cdv ct) ⟨us, []⟩ = pure (ps.zip us)) : Binds K fd ps [] := by
  obtain ⟨oc, od, kV, doc, pm, an, cdv, ct, osl, rfl, lk, hcd⟩ := F.ex
  exact .all (h kV doc pm an cdv ct)
theorem fun_mk {x qual : Str} {st : Stmt} {f : Addr} {oc : Value} {od an : Option Addr} {osl : Array (Option Value)} {kV doc pm cdv ct : Value} (l : K.lookup f = some ⟨oc, od, .func (PySem.W.fnOf x qual (defArgs st) (defBody st) (defScope st) .none kV doc pm an cdv ct), osl⟩)
    (c : PySem.W.codeIn K cdv qual = true) (k : PySem.W.keepIn K (.ref f) = true) : Fun K x qual st f (PySem.W.fnOf x qual (defArgs st) (defBody st) (defScope st) .none kV doc pm an cdv ct) := ⟨⟨oc, od, kV, doc, pm, an, cdv, ct, osl, rfl, l, c⟩, k⟩
end
theorem small1000 {n : Nat} (h : n ≤ 1000) : n < sizeLine := Nat.lt_of_le_of_lt h (by decide)
section
variable {X : Cx}
theorem pv (i : Nat) {x : Str} {pos : Pos} (hN : X.N[i]? = some x := by rfl) (hv : Vis X.env.scope x := by first | exact Or.inl rfl | exact Or.inr (Or.inl rfl) | exact Or.inr (Or.inr rfl)) (hd : (x == ("__debug__" : Str)) = false := by decide)
    (hcd : (x == ("__classdict__" : Str)) = false := by decide) : PE X (.Name x pos) (tVar i) := pe_var hN hv hd hcd
end
theorem iteF {A B : Prop} (h : B) : if false = true then A else B := by
  rw [if_neg Bool.false_ne_true]
  exact h
theorem iteT {A B : Prop} (h : A) : if true = true then A else B := by
  rw [if_pos rfl]
  exact h
theorem ite2 {c A B : Prop} [Decidable c] (h1 : c → A) (h2 : ¬ c → B) : if c then A else B := by
  by_cases h : c
  · rw [if_pos h]
    exact h1 h
  · rw [if_neg h]
    exact h2 h
theorem iteNS {c A B : Prop} [Decidable c] (hc : c) (h : B) : if (!decide c) = true then A else B := by
  rw [decide_eq_true hc]
  exact iteF h
def Same (H H' : Hp) : Prop := ∀ b o, H b = some o → H' b = some o
theorem Same.refl (H : Hp) : Same H H := fun _ _ h => h
theorem Same.trans {H H1 H2 : Hp} (a : Same H H1) (b : Same H1 H2) : Same H H2 := fun c o h => b c o (a c o h)
theorem Same.free {H H' : Hp} (e : Same H H') {l : Addr} (h : H' l = Option.none) : H l = Option.none := by
  cases q : H l with
  | none => rfl
  | some o =>
    rw [e l o q] at h
    cases h
theorem Same.seq {K : PySem.W.Frag} {H H' : Hp} {a : Addr} {xs : List V} (e : Same H H') (h : SqL K H a xs) : SqL K H' a xs := by
  rcases h with (h | ⟨o, h⟩) | h
  · exact .inl (.inl (e _ _ h))
  · exact .inl (.inr ⟨o, e _ _ h⟩)
  · exact .inr h
end L2
set_option Elab.async false
set_option linter.all false
set_option maxRecDepth 100000
set_option maxHeartbeats 4000000
namespace L2
open PySem PySem.Spec PyProof.Rows
def closL (env : Env) : List (Str × NameKind) → List (Str × Addr) → List (Str × Addr)
  | [], acc => acc
  | (n, k) :: r, acc => if k == .free then closL env r ((n, (env.cells.lookup n).getD 0) :: acc) else closL env r acc
theorem closureFor_closL {env : Env} {scope : Scope} (h : ∀ x ∈ scope.names, x.2 = .free → ∃ c, env.cells.lookup x.1 = some c) : closureFor scope env = pure (closL env scope.names []) := by
  unfold closureFor
  have go : ∀ (names : List (Str × NameKind)) (acc : List (Str × Addr)), (∀ x ∈ names, x.2 = .free → ∃ c, env.cells.lookup x.1 = some c) →
      (forIn names acc fun x r => match x with
        | (name, kind) => if (kind == NameKind.free) = true then do let __do_lift ← cellOf env name; pure (ForInStep.yield ((name, __do_lift) :: r)) else pure (ForInStep.yield r) : Sem (List (Str × Addr))) = pure (closL env names acc) := by
    intro names
    induction names with
    | nil => intro acc _; rfl
    | cons x r ih =>
      intro acc hx
      obtain ⟨n, k⟩ := x
      rw [List.forIn_cons]
      have hr := fun y hy => hx y (List.mem_cons_of_mem _ hy)
      by_cases hk : k = .free
      · subst hk
        obtain ⟨c, hc⟩ := hx (n, .free) List.mem_cons_self rfl
        have hc' : env.cells.lookup n = some c := hc
        unfold closL
        simp only [beq_self_eq_true, if_true, cellOf, hc', Option.getD_some, pure_bind]
        exact ih _ hr
      · have hb : (k == NameKind.free) = false := by simpa using hk
        unfold closL
        simp only [hb, Bool.false_eq_true, if_false, pure_bind]
        exact ih _ hr
  have := go scope.names [] h
  simp only [this]
  first | rfl | simp
theorem closL_mem {env : Env} : ∀ (names : List (Str × NameKind)) (acc : List (Str × Addr)), (∀ x ∈ names, x.2 = .free → ∃ c, env.cells.lookup x.1 = some c) → (∀ p ∈ acc, env.cells.lookup p.1 = some p.2) →
    ∀ p ∈ closL env names acc, env.cells.lookup p.1 = some p.2
  | [], _, _, ha, p, hp => ha p hp
  | (n, k) :: r, acc, h, ha, p, hp => by
    unfold closL at hp
    have hr := fun y hy => h y (List.mem_cons_of_mem _ hy)
    split at hp
    · rename_i hk
      have hk : k = .free := by simpa using hk
      obtain ⟨c, hc⟩ := h (n, k) List.mem_cons_self hk
      have hc' : env.cells.lookup n = some c := hc
      refine closL_mem r _ hr (fun q hq => ?_) p hp
      rcases List.mem_cons.mp hq with rfl | hq
      · show env.cells.lookup n = some ((env.cells.lookup n).getD 0)
        rw [hc']; rfl
      · exact ha q hq
    · exact closL_mem r acc hr ha p hp
theorem closL_acc {env : Env} : ∀ (names : List (Str × NameKind)) (acc : List (Str × Addr)), ∀ p ∈ acc, p ∈ closL env names acc
  | [], _, _, hp => hp
  | (n, k) :: r, acc, p, hp => by
    unfold closL
    split
    · exact closL_acc r _ p (List.mem_cons_of_mem _ hp)
    · exact closL_acc r acc p hp
theorem closL_has {env : Env} : ∀ (names : List (Str × NameKind)) (acc : List (Str × Addr)) (n : Str), (n, NameKind.free) ∈ names → ∃ c, (n, c) ∈ closL env names acc
  | (m, k) :: r, acc, n, hn => by
    unfold closL
    rcases List.mem_cons.mp hn with e | hn
    · cases e
      simp only [beq_self_eq_true, if_true]
      exact ⟨_, closL_acc r _ _ List.mem_cons_self⟩
    · split
      · exact closL_has r _ n hn
      · exact closL_has r _ n hn
theorem closL_names {env : Env} : ∀ (names : List (Str × NameKind)) (acc : List (Str × Addr)), ∀ p ∈ closL env names acc, p ∈ acc ∨ (p.1, NameKind.free) ∈ names
  | [], _, _, hp => .inl hp
  | (n, k) :: r, acc, p, hp => by
    unfold closL at hp
    split at hp
    · rename_i hk
      have hk : k = .free := by simpa using hk
      subst hk
      rcases closL_names r _ p hp with z | z
      · rcases List.mem_cons.mp z with rfl | z
        · exact .inr List.mem_cons_self
        · exact .inl z
      · exact .inr (List.mem_cons_of_mem _ z)
    · rcases closL_names r _ p hp with z | z
      · exact .inl z
      · exact .inr (List.mem_cons_of_mem _ z)
theorem cellsFrom_mem : ∀ (names : List (Str × NameKind)) (n : Nat) (acc : List (Str × Addr)), ∀ p ∈ cellsFrom n names acc, p ∈ acc ∨ (n ≤ p.2 ∧ (p.1, NameKind.cell) ∈ names)
  | [], _, _, _, hp => .inl hp
  | (x, k) :: r, n, acc, p, hp => by
    unfold cellsFrom at hp
    split at hp
    · rename_i hk
      have hk : k = .cell := by simpa using hk
      subst hk
      rcases cellsFrom_mem r (n + 1) _ p hp with z | ⟨z, w⟩
      · rcases List.mem_cons.mp z with rfl | z
        · exact .inr ⟨Nat.le_refl _, List.mem_cons_self⟩
        · exact .inl z
      · exact .inr ⟨Nat.le_of_succ_le z, List.mem_cons_of_mem _ w⟩
    · rcases cellsFrom_mem r n acc p hp with z | ⟨z, w⟩
      · exact .inl z
      · exact .inr ⟨z, List.mem_cons_of_mem _ w⟩
theorem cellsFrom_acc : ∀ (names : List (Str × NameKind)) (n : Nat) (acc : List (Str × Addr)), ∀ p ∈ acc, p ∈ cellsFrom n names acc
  | [], _, _, _, hp => hp
  | (x, k) :: r, n, acc, p, hp => by
    unfold cellsFrom
    split
    · exact cellsFrom_acc r _ _ p (List.mem_cons_of_mem _ hp)
    · exact cellsFrom_acc r _ _ p hp
theorem cellsFrom_has : ∀ (names : List (Str × NameKind)) (n : Nat) (acc : List (Str × Addr)) (x : Str), (x, NameKind.cell) ∈ names → ∃ c, (x, c) ∈ cellsFrom n names acc
  | (y, k) :: r, n, acc, x, hx => by
    unfold cellsFrom
    rcases List.mem_cons.mp hx with e | hx
    · cases e
      simp only [beq_self_eq_true, if_true]
      exact ⟨_, cellsFrom_acc r _ _ _ List.mem_cons_self⟩
    · split
      · exact cellsFrom_has r _ _ x hx
      · exact cellsFrom_has r _ _ x hx
theorem cellsFrom_new : ∀ (names : List (Str × NameKind)) (h : Heap) (acc : List (Str × Addr)), ∀ p ∈ cellsFrom h.objs.size names acc, p ∈ acc ∨ (pushCells h names).IsCell p.2 none
  | [], _, _, _, hp => .inl hp
  | (x, k) :: r, h, acc, p, hp => by
    unfold cellsFrom at hp
    unfold pushCells
    split at hp
    · rename_i hk
      rw [if_pos hk]
      have := cellsFrom_new r (h.push { cls := .type "cell", data := .cell none }) ((x, h.objs.size) :: acc) p (by rw [Heap.size_push]; exact hp)
      rcases this with z | z
      · rcases List.mem_cons.mp z with rfl | z
        · exact .inr ⟨_, pushCells_keeps _ _ _ _ (Heap.get?_push_size _ rfl), rfl⟩
        · exact .inl z
      · exact .inr z
    · rename_i hk
      rw [if_neg hk]
      exact cellsFrom_new r h acc p hp
theorem cellsFrom_apart : ∀ (names : List (Str × NameKind)) (n : Nat) (acc : List (Str × Addr)), (acc.Pairwise fun x y => x.2 ≠ y.2) → (∀ p ∈ acc, p.2 < n) → (cellsFrom n names acc).Pairwise fun x y => x.2 ≠ y.2
  | [], _, _, h, _ => h
  | (x, k) :: r, n, acc, h, hl => by
    unfold cellsFrom
    split
    · refine cellsFrom_apart r (n + 1) _ (List.pairwise_cons.mpr ⟨fun y hy e => ?_, h⟩) fun p hp => ?_
      · have h1 := hl y hy
        have e' : n = y.2 := e
        exact absurd h1 (by rw [← e']; exact Nat.lt_irrefl _)
      · rcases List.mem_cons.mp hp with rfl | hp
        · exact Nat.lt_succ_self _
        · exact Nat.lt_succ_of_lt (hl p hp)
    · exact cellsFrom_apart r n acc h hl
theorem closL_apart {env : Env} (inj : ∀ x y c, env.cells.lookup x = some c → env.cells.lookup y = some c → x = y) : ∀ (names : List (Str × NameKind)) (acc : List (Str × Addr)), (names.map (·.1)).Nodup →
    (∀ x ∈ names, x.2 = .free → ∃ c, env.cells.lookup x.1 = some c) → (acc.Pairwise fun x y => x.2 ≠ y.2) → (∀ p ∈ acc, env.cells.lookup p.1 = some p.2 ∧ p.1 ∉ names.map (·.1)) → (closL env names acc).Pairwise fun x y => x.2 ≠ y.2
  | [], _, _, _, h, _ => h
  | (n, k) :: r, acc, nd, hf, h, ha => by
    unfold closL
    have nd' := List.nodup_cons.mp nd
    have hr := fun y hy => hf y (List.mem_cons_of_mem _ hy)
    split
    · rename_i hk
      have hk : k = .free := by simpa using hk
      obtain ⟨c, hc⟩ := hf (n, k) List.mem_cons_self hk
      have hc' : env.cells.lookup n = some c := hc
      refine closL_apart inj r _ nd'.2 hr (List.pairwise_cons.mpr ⟨fun y hy e => ?_, h⟩) fun p hp => ?_
      · have e' : (env.cells.lookup n).getD 0 = y.2 := e
        rw [hc'] at e'
        have e2 : c = y.2 := e'
        have q := (ha y hy).1
        have := inj n y.1 c hc' (by rw [e2]; exact q)
        exact (ha y hy).2 (by rw [← this]; exact List.mem_cons_self)
      · rcases List.mem_cons.mp hp with rfl | hp
        · refine ⟨?_, nd'.1⟩
          show env.cells.lookup n = some ((env.cells.lookup n).getD 0)
          rw [hc']; rfl
        · exact ⟨(ha p hp).1, fun z => (ha p hp).2 (List.mem_cons_of_mem _ z)⟩
    · exact closL_apart inj r acc nd'.2 hr h fun p hp => ⟨(ha p hp).1, fun z => (ha p hp).2 (List.mem_cons_of_mem _ z)⟩
theorem relabel_lookup {env : Env} : ∀ (names : List (Str × NameKind)) (x : Str),
    (names.map fun (n, k) => if (k == NameKind.free && env.scope.kind == .function && env.kindOf n == some .cell) then (n, NameKind.cell) else (n, k)).lookup x =
      (names.lookup x).map fun k => if (k == NameKind.free && env.scope.kind == .function && env.kindOf x == some .cell) then NameKind.cell else k
  | [], x => rfl
  | (n, k) :: r, x => by
    have ih := relabel_lookup (env := env) r x
    rw [List.map_cons]
    show List.lookup x ((if (k == NameKind.free && env.scope.kind == .function && env.kindOf n == some .cell) = true then (n, NameKind.cell) else (n, k)) :: _) = _
    split
    · rename_i hc
      rw [List.lookup_cons, List.lookup_cons]
      cases hx : x == n with
      | false => exact ih
      | true =>
        have e : x = n := by simpa using hx
        subst e
        simp only [Option.map_some]
        rw [if_pos hc]
    · rename_i hc
      rw [List.lookup_cons, List.lookup_cons]
      cases hx : x == n with
      | false => exact ih
      | true =>
        have e : x = n := by simpa using hx
        subst e
        simp only [Option.map_some]
        rw [if_neg hc]
theorem mem_lookup_nodup {α : Type} : ∀ {l : List (Str × α)} {n : Str} {c : α}, (l.map (·.1)).Nodup → (n, c) ∈ l → l.lookup n = some c
  | (k, v) :: r, n, c, nd, h => by
    have nd' := List.nodup_cons.mp nd
    rw [List.lookup_cons]
    rcases List.mem_cons.mp h with e | h2
    · cases e; simp
    · cases hb : n == k with
      | true =>
        have e : n = k := by simpa using hb
        exact absurd (List.mem_map.mpr ⟨(n, c), h2, e⟩ : k ∈ r.map (·.1)) nd'.1
      | false => exact mem_lookup_nodup nd'.2 h2
theorem lookup_of_mem {α : Type} : ∀ {l : List (Str × α)} {n : Str} {c : α}, (n, c) ∈ l → ∃ d, l.lookup n = some d
  | (k, v) :: r, n, c, h => by
    rw [List.lookup_cons]
    cases hb : n == k with
    | true => exact ⟨v, rfl⟩
    | false =>
      rcases List.mem_cons.mp h with e | h
      · cases e; simp at hb
      · exact lookup_of_mem h
abbrev compCx (X : Cx) (scope : Scope) (N' : List Str) (s2 : Shared) (H2 : Hp) (cs : List (Str × Addr)) (C : Addr) (fp : List Addr) : Cx where
  prog := X.prog
  w := X.w
  K := X.K
  mg := X.mg
  base := X.base
  A := X.A
  N := N'
  s₀ := s2
  H₀ := H2
  env := compEnvC scope cs C X.env
  outer := X.stack
  stack := X.stack
  ex := fp
  fn := fun x => scope.names.lookup x == some .cell
  calm := X.calm
  pn := X.pn
  xe := fun _ _ => False
def compOk (sc0 sc : Scope) (own cn N : List Str) (js : List Nat) : Bool :=
  (decide (sc.kind = .function)) && (sc.names.all fun x => !decide (x.2 = .free) || decide (sc0.names.lookup x.1 = some .cell) || decide (sc0.names.lookup x.1 = some .free))
  && decide ((sc.names.map (·.1)).Nodup) && (own.all fun x => decide (sc.names.lookup x = some .local) || decide (sc.names.lookup x = some .cell)) && (cn.all fun x => decide (sc.names.lookup x = some .free))
  && decide ((own ++ cn).Nodup) && decide (js.map (fun j => N[j]?) = cn.map some)
def capS (k : Nat) (js : List Nat) (σ : St) : St := List.replicate k none ++ js.map fun j => (σ[j]?).join
def PIfs (X : Cx) (ifs : List Expr) (t : TT) : Prop :=
  ∀ (pins : List (Addr × Obj)) (s : Shared) (σ : St) (H : Hp) (Q : Bool → Hp → Prop), Inv X pins σ H s → t σ H Q →
    wpAny (model X.prog X.w) X.A (forIn ifs true fun c r => if r = true then do let ok ← isTrue c X.env (eval c X.env); pure (ForInStep.yield ok) else pure (ForInStep.yield r)) (TP X pins σ Q) X.xe s
theorem pifs_nil {X : Cx} : PIfs X [] (fun _ H Q => Q true H) := fun _ _ _ H _ I h => wpAny_tests_nil ⟨H, I, h⟩
theorem pifs_one {X : Cx} {c : Expr} {t : TT} (h : PT X c t) : PIfs X [c] t := fun pins s σ H Q I hw => wpAny_tests_one (h pins s σ H Q I hw)
theorem comp_env {M : Model} {A : Around} {E : Value → Shared → Prop} {s : Shared} {scope : Scope} {env : Env} {cl : List (Str × Addr)} {Q : Env → Shared → Prop}
    (h : Q (newEnv scope s.heap.objs.size env.globals (cellsFrom (s.heap.objs.size + 1) scope.names cl) env.qual none .none (some env) builtinsNs) { s with heap := pushCells (s.heap.push { cls := .type "dict", data := .dict #[] }) scope.names }) :
    wpAny M A (newFunctionEnv scope env.globals cl [] env.qual none .none (some env)) Q E s := by
  simp only [newFunctionEnv, Option.isSome_some, if_true]
  refine wpAny_bind (wpAny_alloc ?_)
  refine wpAny_bind (wpAny_layCells _ (fun name kind cells => by cases hkc : kind == NameKind.cell <;> simp [hkc]) _ _ _ _ ?_)
  rw [show ({ s with heap := s.heap.push { cls := .type "dict", data := .dict #[] } } : Shared).heap.objs.size = s.heap.objs.size + 1 from Heap.size_push ..]
  refine wpAny_bind ?_
  rw [List.forIn_nil]
  exact wpAny_pure (wpAny_pure h)
theorem codeAny_compLoop_own {prog : Program} {w : World} {A : Around} {R : Result → Shared → Prop} {s : Shared} {elt target iter : Expr} {ifs : List Expr} {scope : Scope} {pos : Pos} {it acc : Value} {env : Env} (I : Nat → Shared → Prop)
    (turn : ∀ n s, I n s → wpAny (model prog w) A (pyNext it) (fun r s₁ => match r with
      | none => R (.ok .next) s₁
      | some v => wpAny (model prog w) A (letOwnedTupleGo target it v) (fun _ s₁' => wpAny (model prog w) A (assign target env v) (fun _ s₂ =>
          wpAny (model prog w) A (forIn ifs true fun c r => if r = true then do let ok ← isTrue c env (eval c env); pure (ForInStep.yield ok) else pure (ForInStep.yield r)) (fun ok s₃ =>
            if ok = true then wpAny (model prog w) A (eval elt env) (fun x s₄ =>
              wpAny (model prog w) A (call (.builtin "list.append") [acc, x]) (fun _ s₅ => ∃ m, m < n ∧ I m s₅) (fun _ _ => False) s₄) (fun _ _ => False) s₃
            else ∃ m, m < n ∧ I m s₃) (fun _ _ => False) s₂) (fun _ _ => False) s₁') (fun _ _ => False) s₁) (fun _ _ => False) s)
    (n : Nat) (h : I n s) :
    codeAny (model prog w) A (.compLoop (.ListComp elt [⟨target, iter, ifs, 0⟩] scope pos) 0 it acc env) R s := by
  refine codeAny_loop rfl I (fun n s hI => ?_) n h
  show wpAny _ A ((compTurn (.ListComp elt [⟨target, iter, ifs, 0⟩] scope pos) 0 it acc env).onRaise (fun x => do noteFrame x env; theTreesLotGoes x)) _ _ s
  refine wpAny_noted ?_
  rw [compTurn_list]
  refine wpAny_bind (wpAny_standAt (wpAny_bind (wpAny_mono (turn n s hI) (fun r s₁ h₁ => ?_) fun _ _ h' => False.elim h')))
  cases r with
  | none => exact wpAny_pure h₁
  | some v =>
    refine wpAny_bind (wpAny_mono h₁ (fun _ s₁' h₁' => ?_) fun _ _ h' => False.elim h')
    refine wpAny_bind (wpAny_mono h₁' (fun _ s₂ h₂ => wpAny_bind (wpAny_mono h₂ (fun ok s₃ h₃ => ?_) fun _ _ h' => False.elim h')) fun _ _ h' => False.elim h')
    cases ok with
    | false => exact wpAny_pure ⟨rfl, h₃⟩
    | true =>
      exact wpAny_bind (wpAny_bind (wpAny_mono h₃ (fun x s₄ h₄ => wpAny_bind (wpAny_mono h₄ (fun _ s₅ h₅ => wpAny_pure (wpAny_pure ⟨rfl, h₅⟩)) fun _ _ h' => False.elim h')) fun _ _ h' => False.elim h'))
def CompW (J : It) (g : TG) (tt : TT) (te : TE) (D : Addr) (σ' : St) (Q : List V → Hp → Prop) (W : Nat → Nat → List V → Hp → Prop) : Prop :=
  ∀ i m ys H, W i m ys H → (J.stop i H ∧ Q ys H) ∨ (J.go i H ∧ ∃ N : List V → Hp → Prop, (∀ ys' H', N ys' H' → ∃ m', m' < m ∧ W (i + 1) m' ys' H') ∧ ∀ x H', J.yld i H x H' → g x σ' H' fun σ2 H2 => tt σ2 H2 fun b H3 =>
    if b = true then te σ2 H3 fun v H4 => H4 D = some (.lst ys) ∧ ys.length < sizeLine ∧ N (ys ++ [v]) (upd H4 D (.lst (ys ++ [v]))) else N ys H3)
def tComp (wi : TI) (g : TG) (tt : TT) (te : TE) (k : Nat) (js : List Nat) : TE := fun σ H Q => wi σ H fun J H1 => ∀ D, H1 D = none →
  ∃ W : Nat → Nat → List V → Hp → Prop, (∃ m, W 0 m [] (upd H1 D (.lst []))) ∧ CompW J g tt te D (capS k js σ) (fun _ H => Q (.ref D) H) W
section
variable {X : Cx} {pins : List (Addr × Obj)} {σ : St} {H2 : Hp} {s2 : Shared} {tg elt iter : Expr} {ifs : List Expr} {scope : Scope} {pos : Pos} {own cn : List Str} {js : List Nat} {g : TG} {tt : TT} {te : TE}
theorem comp_block (hok : compOk X.env.scope scope own cn X.N js = true) (hc : X.calm = true)
    (hg : ∀ s2 H2 cs C fp, PG (compCx X scope (own ++ cn) s2 H2 cs C fp) tg g) (ht : ∀ s2 H2 cs C fp, PIfs (compCx X scope (own ++ cn) s2 H2 cs C fp) ifs tt) (he : ∀ s2 H2 cs C fp, PE (compCx X scope (own ++ cn) s2 H2 cs C fp) elt te)
    (I2 : Inv X pins σ H2 s2) {it : Addr} {fp : List Addr} {tn : Nat → Heap → Prop} {J : It} (T : Turn X.prog X.w X.K tg J fp it tn) (st2 : tn 0 s2.heap) (f2 : ∀ b ∈ fp, FpOk X pins H2 b)
    {Qe : Hp → Prop} (hW : ∃ W : Nat → Nat → List V → Hp → Prop, (∃ m, W 0 m [] (upd H2 s2.heap.objs.size (.lst []))) ∧ CompW J g tt te s2.heap.objs.size (capS own.length js σ) (fun _ H => Qe H) W)
    {RR : Value → Addr → Result → Shared → Prop}
    (hRR : ∀ C H' s', Inv X pins σ H' s' → FpOk X pins H' C → (∃ m, s'.heap.Ns C m) → Qe H' → RR (.ref s2.heap.objs.size) C (.ok .next) s') :
    wpAny (model X.prog X.w) X.A (newList []) (fun acc s₃ => wpAny (model X.prog X.w) X.A (newFunctionEnv scope X.env.globals (closL X.env scope.names []) [] X.env.qual none .none (some X.env)) (fun cenv s₄ =>
      codeAny (model X.prog X.w) X.A (.compStart (.ListComp elt [⟨tg, iter, ifs, 0⟩] scope pos) 0 (.ref it) acc { cenv with scope := relabel scope X.env }) (RR acc cenv.locals) s₄) X.xe s₃) X.xe s2 := by
  unfold compOk at hok
  simp only [Bool.and_eq_true, decide_eq_true_eq, List.all_eq_true, Bool.or_eq_true, Bool.not_eq_true', decide_eq_false_iff_not] at hok
  obtain ⟨⟨⟨⟨⟨⟨k1, k2⟩, k3⟩, k4⟩, k5⟩, k6⟩, k7⟩ := hok
  have hfreeK : ∀ x ∈ scope.names, x.2 = .free → X.env.kindOf x.1 = some .cell ∨ X.env.kindOf x.1 = some .free := fun x hx hf => by
    rcases k2 x hx with (z | z) | z
    · exact absurd hf z
    · exact .inl z
    · exact .inr z
  have hfree : ∀ x ∈ scope.names, x.2 = .free → ∃ c, X.env.cells.lookup x.1 = some c := fun x hx hf => I2.ok.has x.1 (hfreeK x hx hf)
  -- the heap behind the making
  refine wpAny_newObj_type (comp_env ?_)
  have hsz3 : (s2.heap.push { cls := .type "list", dict := none, data := .seq ([] : List Value).toArray }).objs.size = s2.heap.objs.size + 1 := Heap.size_push ..
  dsimp only
  generalize hh3 : s2.heap.push { cls := .type "list", dict := none, data := .seq ([] : List Value).toArray } = h3 at hsz3 ⊢
  have old3 : ∀ b o, s2.heap.get? b = some o → h3.get? b = some o := fun b o e => hh3 ▸ Heap.get?_push_of_some _ e
  have hD3 : h3.get? s2.heap.objs.size = some { cls := .type "list", data := .seq ([] : List Value).toArray } := hh3 ▸ Heap.get?_push_size _ rfl
  generalize hcs : cellsFrom (h3.objs.size + 1) scope.names (closL X.env scope.names []) = cs
  generalize hh4 : pushCells (h3.push { cls := .type "dict", data := .dict #[] }) scope.names = h4
  have old4 : ∀ b o, h3.get? b = some o → h4.get? b = some o := fun b o e => hh4 ▸ pushCells_keeps _ _ b o (Heap.get?_push_of_some _ e)
  have old : ∀ b o, s2.heap.get? b = some o → h4.get? b = some o := fun b o e => old4 b o (old3 b o e)
  have hD4 : h4.get? s2.heap.objs.size = some { cls := .type "list", data := .seq ([] : List Value).toArray } := old4 _ _ hD3
  have hNs : h4.Ns h3.objs.size (fun _ => none) := hh4 ▸ (Heap.Ns.new h3 (.type "dict")).keeps (pushCells_keeps _ _)
  generalize hC : h3.objs.size = C at hNs hcs ⊢
  have hCD : @Eq Nat C (s2.heap.objs.size + 1) := by rw [← hC]; exact hsz3
  have clM := closL_mem (env := X.env) scope.names [] hfree (fun p hp => absurd hp (by simp))
  have cellLt : ∀ x c, X.env.cells.lookup x = some c → @LT.lt Nat _ c s2.heap.objs.size := fun x c e => by obtain ⟨v, z⟩ := I2.cell x c e; exact z.lt
  have apart : cs.Pairwise fun x y => x.2 ≠ y.2 := by
    rw [← hcs]
    refine cellsFrom_apart _ _ _ (closL_apart I2.ok.inj scope.names [] k3 hfree List.Pairwise.nil fun p hp => absurd hp (by simp)) fun p hp => ?_
    have := cellLt _ _ (clM p hp)
    show @LT.lt Nat _ p.2 (C + 1)
    omega
  have csM : ∀ p ∈ cs, X.env.cells.lookup p.1 = some p.2 ∨ (C + 1 ≤ p.2 ∧ (p.1, NameKind.cell) ∈ scope.names ∧ h4.IsCell p.2 none) := fun p hp => by
    have hp0 := hp
    rw [← hcs] at hp
    rcases cellsFrom_mem _ _ _ p hp with z | ⟨z, y⟩
    · exact .inl (clM p z)
    · have e : h3.objs.size + 1 = (h3.push { cls := .type "dict", data := .dict #[] }).objs.size := by rw [Heap.size_push]
      have hp' := hp
      rw [← hC, e] at hp'
      rcases cellsFrom_new _ _ _ p hp' with q | q
      · exact .inl (clM p q)
      · exact .inr ⟨z, y, hh4 ▸ q⟩
  -- facts of the block's context
  have hX : (compCx X scope (own ++ cn) s2 H2 cs C fp).Ok := by
    refine ⟨I2.ok.mod, k1, I2.ok.glob, I2.ok.blt, by show @LE.le Nat _ s2.heap.objs.size C; omega, fun x y c h1 h2 => name_of_addr apart (PySem.mem_of_lookup h1) (PySem.mem_of_lookup h2), fun x hx => ?_, fun x c hf hx => ?_, I2.ok.hd, I2.ok.frames, .inl rfl, fun b hb => ?_, I2.bs, Nat.le_trans I2.ok.bsz I2.sz, fun b o e hb => ?_, fun b hb hf => ?_, I2.stack, I2.stkFree⟩
    · have hx' : (relabel scope X.env).names.lookup x = some .cell ∨ (relabel scope X.env).names.lookup x = some .free := hx
      have hl : scope.names.lookup x = some .cell ∨ scope.names.lookup x = some .free := by
        unfold relabel at hx'
        dsimp only at hx'
        rw [relabel_lookup] at hx'
        cases e : scope.names.lookup x with
        | none => rw [e] at hx'; simp at hx'
        | some k =>
          rw [e] at hx'
          cases k <;> simp_all
      have : ∃ c, (x, c) ∈ cs := by
        rw [← hcs]
        rcases hl with hl | hl
        · exact cellsFrom_has _ _ _ x (PySem.mem_of_lookup hl)
        · obtain ⟨c, hc'⟩ := closL_has (env := X.env) scope.names [] x (PySem.mem_of_lookup hl)
          exact ⟨c, cellsFrom_acc _ _ _ _ hc'⟩
      obtain ⟨c, hm⟩ := this
      exact lookup_of_mem hm
    · have hf' : scope.names.lookup x = some .cell := by simpa using hf
      have hm := PySem.mem_of_lookup (show cs.lookup x = some c from hx)
      rcases csM _ hm with z | ⟨z, _⟩
      · -- own cells are not captured ones: the captured of that name would be free in the scope
        rw [← hcs] at hm
        rcases cellsFrom_mem _ _ _ _ hm with q | ⟨q, _⟩
        · rcases closL_names (env := X.env) scope.names [] _ q with q' | q'
          · exact absurd q' (by simp)
          · have := mem_lookup_nodup k3 q'
            have h2 : scope.names.lookup x = some .free := this
            rw [hf'] at h2; cases h2
        · show @LE.le Nat _ s2.heap.objs.size c
          have q2 : @LE.le Nat _ (C + 1) c := q
          omega
      · show @LE.le Nat _ s2.heap.objs.size c
        have z2 : @LE.le Nat _ (C + 1) c := z
        omega
    · obtain ⟨f0, f1, f2', f3, f4, f5⟩ := f2 b hb
      obtain ⟨o, ho, _⟩ := T.obj 0 _ st2 b hb
      have hb2 : @LT.lt Nat _ b s2.heap.objs.size := Heap.lt_size ho
      refine ⟨?_, fun x c e => ?_⟩
      · show @Ne Nat b C
        omega
      · rcases csM _ (PySem.mem_of_lookup (show cs.lookup x = some c from e)) with z | ⟨z, _⟩
        · exact f4 x c z
        · have z2 : @LE.le Nat _ (C + 1) c := z
          show @Ne Nat c b
          omega
    · obtain ⟨f0, f1, f2', f3, f4, f5⟩ := f2 b hb
      rcases f3 with z | z
      · exact I2.ok.noex b o e z
      · exact absurd (Nat.lt_of_lt_of_le (Heap.lt_size e) (Nat.le_trans I2.ok.bsz z)) (Nat.lt_irrefl _)
    · obtain ⟨f0, f1, f2', _⟩ := f2 b hb
      rcases List.mem_cons.mp (I2.stkSub b hf) with z | z
      · exact f1 z
      · exact f2' z
  have hDn : H2 s2.heap.objs.size = none := I2.fresh
  have hCn : H2 C = none := I2.hok.fresh (show @LE.le Nat _ s2.heap.objs.size C by omega)
  have stkNe : ∀ b, b ≠ X.env.locals → b ∉ X.fs → b ∉ frs X.stack := fun b h1 h2 hb => by
    rcases List.mem_cons.mp (I2.stkSub b hb) with z | z
    · exact h1 z
    · exact h2 z
  have I4 : Inv (compCx X scope (own ++ cn) s2 H2 cs C fp) pins (capS own.length js σ) (upd H2 s2.heap.objs.size (.lst [])) { s2 with heap := h4 } := by
    refine ⟨hX, rfl, I2.bare, Un.laid old (Nat.le_refl _) hDn, ⟨fun _ => none, hNs, fun i x v e1 e2 e3 => ?_⟩, fun x c e => ?_, ?_, fun x c e => ?_, fun p hp => ?_, I2.hok.laid old (Nat.le_refl _) ⟨Nat.zero_le _, [], 0, .nil, hD4⟩, ?_⟩
    · -- a captured name
      have hi : own.length ≤ i := by
        rcases Nat.lt_or_ge i own.length with z | z
        · exfalso
          unfold capS at e2
          rw [List.getElem?_append_left (by simpa using z), List.getElem?_replicate, if_pos z] at e2
          cases e2
        · exact z
      have e1' : cn[i - own.length]? = some x := by
        have : (own ++ cn)[i]? = some x := e1
        rw [List.getElem?_append_right hi] at this
        exact this
      have e2' : (js.map fun j => (σ[j]?).join)[i - own.length]? = some (some v) := by
        unfold capS at e2
        rw [List.getElem?_append_right (by simpa using hi)] at e2
        simpa using e2
      rw [List.getElem?_map] at e2'
      cases hj : js[i - own.length]? with
      | none => rw [hj] at e2'; cases e2'
      | some j =>
        rw [hj] at e2'
        have e2'' : (σ[j]?).join = some v := by simpa using e2'
        have hσ : σ[j]? = some (some v) := by
          cases q : σ[j]? with
          | none => rw [q] at e2''; cases e2''
          | some z => rw [q] at e2''; simp at e2''; rw [e2'']
        have hNx : X.N[j]? = some x := by
          have := congrArg (fun l => l[i - own.length]?) k7
          simp only [List.getElem?_map, hj, e1', Option.map_some] at this
          exact Option.some.inj this
        have hfx : scope.names.lookup x = some .free := k5 x (List.mem_of_getElem? e1')
        have hK := hfreeK (x, .free) (PySem.mem_of_lookup hfx) rfl
        have hK' : X.env.kindOf x = some .cell ∨ X.env.kindOf x = some .free := hK
        obtain ⟨m, hn, hl⟩ := I2.loc
        have hvis : Vis X.env.scope x := by
          rcases hK' with z | z
          · exact .inr (.inl z)
          · exact .inr (.inr z)
        obtain ⟨u, r, l⟩ := hl j x v hNx hσ hvis
        refine ⟨u, r, .inr ?_⟩
        rcases l with ⟨l1, _⟩ | ⟨l1, c, l2, l3⟩
        · rcases hK' with z | z
          · rw [z] at l1; cases l1
          · rw [z] at l1; cases l1
        · have hrl : (compEnvC scope cs C X.env).kindOf x = some .cell ∨ (compEnvC scope cs C X.env).kindOf x = some .free := by
            show (relabel scope X.env).names.lookup x = _ ∨ (relabel scope X.env).names.lookup x = _
            unfold relabel
            dsimp only
            rw [relabel_lookup, hfx]
            simp only [Option.map_some]
            split
            · exact .inl rfl
            · exact .inr rfl
          refine ⟨hrl, c, ?_, l3.keeps fun b o e => old b o e⟩
          show cs.lookup x = some c
          obtain ⟨c', hc'⟩ := hX.has x hrl
          have hc2 : cs.lookup x = some c' := hc'
          rw [hc2]
          have hm := PySem.mem_of_lookup hc2
          have : X.env.cells.lookup x = some c' := by
            rcases csM _ hm with z | ⟨_, z, _⟩
            · exact z
            · have := mem_lookup_nodup k3 z
              have h2 : scope.names.lookup x = some .cell := this
              rw [hfx] at h2; cases h2
          rw [l2] at this
          exact this.symm
    · rcases csM _ (PySem.mem_of_lookup (show cs.lookup x = some c from e)) with z | ⟨_, _, z⟩
      · obtain ⟨v, q⟩ := I2.cell _ _ z
        exact ⟨v, q.keeps fun b o e => old b o e⟩
      · exact ⟨none, z⟩
    · show upd H2 s2.heap.objs.size (.lst []) C = none
      rw [upd_ne (show @Ne Nat C s2.heap.objs.size by omega)]; exact hCn
    · have hne : c ≠ s2.heap.objs.size ∧ H2 c = none := by
        rcases csM _ (PySem.mem_of_lookup (show cs.lookup x = some c from e)) with z | ⟨z, _, _⟩
        · exact ⟨Nat.ne_of_lt (cellLt _ _ z), I2.freeC _ _ z⟩
        · have z2 : @LE.le Nat _ (C + 1) c := z
          exact ⟨show @Ne Nat c s2.heap.objs.size by omega, I2.hok.fresh (show @LE.le Nat _ s2.heap.objs.size c by omega)⟩
      rw [upd_ne hne.1]; exact hne.2
    · obtain ⟨e, n, ne, nf, d⟩ := I2.pin p hp
      have hlt : @LT.lt Nat _ p.1 s2.heap.objs.size := Heap.lt_size e
      refine ⟨old _ _ e, ?_, ?_, stkNe _ ne nf, d⟩
      · rw [upd_ne (Nat.ne_of_lt hlt)]; exact n
      · show @Ne Nat p.1 C
        omega
    · show (capS own.length js σ).length = (own ++ cn).length
      unfold capS
      have hl := congrArg List.length k7
      simp only [List.length_map] at hl
      simp [hl]
  have stat : ∀ {H' : Hp}, (∀ b ∈ fp, H' b = none) → ∀ b ∈ fp, FpOk (compCx X scope (own ++ cn) s2 H2 cs C fp) pins H' b := fun hn b hb => by
    obtain ⟨f0, f1, f2', f3, f4, f5⟩ := f2 b hb
    exact ⟨hn b hb, (hX.exf b hb).1, stkNe b f1 f2', .inl hb, fun x c e => (hX.exf b hb).2 x c e, f5⟩
  have back : ∀ {σ' : St} {H' : Hp} {s' : Shared}, Inv (compCx X scope (own ++ cn) s2 H2 cs C fp) pins σ' H' s' → Inv X pins σ H' s' := fun {σ' H' s'} J' =>
    I2.call' (ch := fp) J'.os J'.base J'.hok J'.bare fun b hb => by
      obtain ⟨f0, f1, f2', f3, f4, f5⟩ := f2 b hb
      exact ⟨f3, f1, f4, f5⟩
  obtain ⟨W, ⟨m0, w0⟩, turn⟩ := hW
  have loop : codeAny (model X.prog X.w) X.A (.compLoop (.ListComp elt [⟨tg, iter, ifs, 0⟩] scope pos) 0 (.ref it) (.ref s2.heap.objs.size) (compEnvC scope cs C X.env)) (RR (.ref s2.heap.objs.size) C) { s2 with heap := h4 } := by
    refine codeAny_compLoop_own (fun n s' => ∃ i ys H', Inv (compCx X scope (own ++ cn) s2 H2 cs C fp) pins (capS own.length js σ) H' s' ∧ tn i s'.heap ∧ (∀ b ∈ fp, H' b = none) ∧ W i n ys H') ?_ m0
      ⟨0, [], _, I4, T.keep _ _ _ st2 fun b hb o e => old b o e, fun b hb => ?_, w0⟩
    · rintro n s3 ⟨i, ys, H3, I3, st3, fr3, w3⟩
      rcases turn i n ys H3 w3 with ⟨stop, q⟩ | ⟨go, N, hN, step⟩
      · refine thn (T.done (compCx X scope (own ++ cn) s2 H2 cs C fp) rfl rfl rfl hc i pins s3 _ H3 _ I3 (stat fr3) st3 stop) fun r s4 ⟨hr, I5⟩ => ?_
        subst hr
        obtain ⟨m, hn, _⟩ := I5.loc
        exact hRR C H3 s4 (back I5) (I2.fpOk (show @LE.le Nat _ s2.heap.objs.size C by omega) I5.free) ⟨m, hn⟩ q
      · refine thn (T.item (compCx X scope (own ++ cn) s2 H2 cs C fp) rfl rfl rfl hc i pins s3 _ H3 _ I3 (stat fr3) st3 go) fun r s4 ⟨u, hr, h4'⟩ => ?_
        subst hr
        refine thn h4' fun _ s5 ⟨x, H5, I5, r5, y5, st5, fr5⟩ => ?_
        have I5' := I5.pinned (stat fr5) (T.obj _ _ st5)
        refine thn (hg s2 H2 cs C fp _ s5 _ H5 x u _ I5' r5 (step x H5 y5)) fun _ s6 ⟨σ6, H6, I6, q6⟩ => ?_
        refine thn (ht s2 H2 cs C fp _ s6 σ6 H6 _ I6 q6) fun b s7 ⟨H7, I7, q7⟩ => ?_
        have again : ∀ {σ8 : St} {H8 : Hp} {s8 : Shared} {ys8 : List V}, Inv (compCx X scope (own ++ cn) s2 H2 cs C fp) (pins ++ pinsAt fp s5.heap) σ8 H8 s8 → (∀ (j : Nat) v, (capS own.length js σ)[j]? = some (some v) → σ8[j]? = some (some v)) → (∃ m', m' < n ∧ W (i + 1) m' ys8 H8) →
            ∃ m, m < n ∧ ∃ i ys H', Inv (compCx X scope (own ++ cn) s2 H2 cs C fp) pins (capS own.length js σ) H' s8 ∧ tn i s8.heap ∧ (∀ b ∈ fp, H' b = none) ∧ W i m ys H' := fun {σ8 H8 s8 ys8} I8 hw8 ⟨m', hm, w8⟩ => by
          refine ⟨m', hm, i + 1, ys8, H8, I8.unpinned.weak (by rw [I8.len, I4.len]) hw8, T.keep _ _ _ st5 fun b hb o e => (I8.pin (b, o) (List.mem_append_right _ (List.mem_append_right _ (mem_pinsAt hb e)))).1, fun b hb => ?_, w8⟩
          obtain ⟨o, e, d⟩ := T.obj _ _ st5 b hb
          exact (I8.pin (b, o) (List.mem_append_right _ (List.mem_append_right _ (mem_pinsAt hb e)))).2.1
        -- the captured slots outlive the turn: what they said ahead of it is said of the cells
        have capK : ∀ {σ8 : St} {H8 : Hp} {s8 : Shared}, Inv (compCx X scope (own ++ cn) s2 H2 cs C fp) (pins ++ pinsAt fp s5.heap) σ8 H8 s8 → Inv (compCx X scope (own ++ cn) s2 H2 cs C fp) (pins ++ pinsAt fp s5.heap) (capS own.length js σ) H8 s8 := fun {σ8 H8 s8} I8 => by
          have IX := back I8.unpinned
          refine ⟨I8.ok, I8.os, I8.bare, I8.base, ?_, I8.cell, I8.free, I8.freeC, I8.pin, I8.hok, I4.len⟩
          obtain ⟨m, hn, _⟩ := I8.loc
          refine ⟨m, hn, fun i x v e1 e2 e3 => ?_⟩
          obtain ⟨mx, hnx, hlx⟩ := IX.loc
          have hi : own.length ≤ i := by
            rcases Nat.lt_or_ge i own.length with z | z
            · exfalso
              unfold capS at e2
              rw [List.getElem?_append_left (by simpa using z), List.getElem?_replicate, if_pos z] at e2
              cases e2
            · exact z
          have e1' : cn[i - own.length]? = some x := by
            have : (own ++ cn)[i]? = some x := e1
            rw [List.getElem?_append_right hi] at this
            exact this
          have e2' : (js.map fun j => (σ[j]?).join)[i - own.length]? = some (some v) := by
            unfold capS at e2
            rw [List.getElem?_append_right (by simpa using hi)] at e2
            simpa using e2
          rw [List.getElem?_map] at e2'
          cases hj : js[i - own.length]? with
          | none => rw [hj] at e2'; cases e2'
          | some j =>
            rw [hj] at e2'
            have e2'' : (σ[j]?).join = some v := by simpa using e2'
            have hσ : σ[j]? = some (some v) := by
              cases q : σ[j]? with
              | none => rw [q] at e2''; cases e2''
              | some z => rw [q] at e2''; simp at e2''; rw [e2'']
            have hNx : X.N[j]? = some x := by
              have := congrArg (fun l => l[i - own.length]?) k7
              simp only [List.getElem?_map, hj, e1', Option.map_some] at this
              exact Option.some.inj this
            have hfx : scope.names.lookup x = some .free := k5 x (List.mem_of_getElem? e1')
            have hK' : X.env.kindOf x = some .cell ∨ X.env.kindOf x = some .free := hfreeK (x, .free) (PySem.mem_of_lookup hfx) rfl
            have hvis : Vis X.env.scope x := by
              rcases hK' with z | z
              · exact .inr (.inl z)
              · exact .inr (.inr z)
            obtain ⟨u, r, l⟩ := hlx j x v hNx hσ hvis
            refine ⟨u, r, .inr ?_⟩
            rcases l with ⟨l1, _⟩ | ⟨l1, c, l2, l3⟩
            · rcases hK' with z | z
              · rw [z] at l1; cases l1
              · rw [z] at l1; cases l1
            · have hrl : (compEnvC scope cs C X.env).kindOf x = some .cell ∨ (compEnvC scope cs C X.env).kindOf x = some .free := by
                show (relabel scope X.env).names.lookup x = _ ∨ (relabel scope X.env).names.lookup x = _
                unfold relabel
                dsimp only
                rw [relabel_lookup, hfx]
                simp only [Option.map_some]
                split
                · exact .inl rfl
                · exact .inr rfl
              refine ⟨hrl, c, ?_, l3⟩
              show cs.lookup x = some c
              obtain ⟨c', hc'⟩ := hX.has x hrl
              have hc2 : cs.lookup x = some c' := hc'
              rw [hc2]
              have hm := PySem.mem_of_lookup hc2
              have : X.env.cells.lookup x = some c' := by
                rcases csM _ hm with z | ⟨_, z, _⟩
                · exact z
                · have := mem_lookup_nodup k3 z
                  have h2 : scope.names.lookup x = some .cell := this
                  rw [hfx] at h2; cases h2
              rw [l2] at this
              exact this.symm
        cases b with
        | false =>
          rw [if_neg Bool.false_ne_true]
          rw [if_neg Bool.false_ne_true] at q7
          exact again (capK I7) (fun _ _ e => e) (hN _ _ q7)
        | true =>
          rw [if_pos rfl]
          rw [if_pos rfl] at q7
          refine thn (he s2 H2 cs C fp _ s7 σ6 H7 _ I7 q7) fun y s8 ⟨v, H8, I8, r8, hD8, hz8, q8⟩ => ?_
          refine thn (mt_append (X := compCx X scope (own ++ cn) s2 H2 cs C fp) _ s8 σ6 H8 (.ref s2.heap.objs.size) [v] (.ref s2.heap.objs.size) [y] (fun _ H9 => H9 = upd H8 s2.heap.objs.size (.lst (ys ++ [v]))) I8 rfl (.cons r8 .nil) ⟨_, ys, v, rfl, rfl, hD8, hz8, rfl⟩) fun _ s9 ⟨z, H9, I9, r9, e9⟩ => ?_
          subst e9
          exact again (capK I9) (fun _ _ e => e) (hN _ _ q8)
    · obtain ⟨f0, _⟩ := f2 b hb
      obtain ⟨o, ho, _⟩ := T.obj 0 _ st2 b hb
      rw [upd_ne (Nat.ne_of_lt (Heap.lt_size ho))]; exact f0
  exact codeAny_compStart_list loop (T.self _ 0 _ _ _ (T.keep _ _ _ st2 fun b hb o e => old b o e) loop)
theorem pe_comp {wi : TI} (own cn : List Str) (js : List Nat) (hi : PI X tg iter wi) (hg : ∀ s2 H2 cs C fp, PG (compCx X scope (own ++ cn) s2 H2 cs C fp) tg g) (ht : ∀ s2 H2 cs C fp, PIfs (compCx X scope (own ++ cn) s2 H2 cs C fp) ifs tt)
    (he : ∀ s2 H2 cs C fp, PE (compCx X scope (own ++ cn) s2 H2 cs C fp) elt te) (hc : X.calm = true := by rfl) (hok : compOk X.env.scope scope own cn X.N js = true := by kernel_rfl)
    (hs : ∀ x, foldedSetIterable iter X.env x = pure x := by intro _; rfl) : PE X (.ListComp elt [⟨tg, iter, ifs, 0⟩] scope pos) (tComp wi g tt te own.length js) := by
  intro pins s σ H Q I h
  have hok' := hok
  unfold compOk at hok'
  simp only [Bool.and_eq_true, decide_eq_true_eq, List.all_eq_true, Bool.or_eq_true, Bool.not_eq_true', decide_eq_false_iff_not] at hok'
  obtain ⟨⟨⟨⟨⟨⟨k1, k2⟩, k3⟩, k4⟩, k5⟩, k6⟩, k7⟩ := hok'
  have hfree : ∀ x ∈ scope.names, x.2 = .free → ∃ c, X.env.cells.lookup x.1 = some c := fun x hx hf => I.ok.has x.1 (by
    rcases k2 x hx with (z | z) | z
    · exact absurd hf z
    · exact .inl z
    · exact .inr z)
  rw [eval_ListComp]
  refine wpAny_comprehension_free (use := none) rfl hs (closureFor_closL hfree) k1 (fun x hx hl => ?_) (thn (hi pins s σ H _ I h) fun v s1 h1 => thn h1 fun itv s2 h2 => ?_)
  · have := mem_lookup_nodup k3 (show (x.1, x.2) ∈ scope.names from hx)
    rw [this, hl]
  · obtain ⟨it, fp, tn, J, H2, e, I2, T, st2, f2, q⟩ := h2
    subst e
    refine comp_block (RR := fun acc C => compPost (model X.prog X.w) X.A X.xe none (EP X pins σ Q) acc C) hok hc hg ht he I2 T st2 f2 (q _ I2.fresh) ?_
    intro C H' s' I' fC ⟨m, hn⟩ q'
    obtain ⟨f0, f1, f2', f3, f4, f5⟩ := fC
    refine ⟨m, hn, fun h' hs' => ⟨.ref s2.heap.objs.size, H', ?_, rfl, q'⟩⟩
    exact I'.turned (t' := s'.toks) (fun b o hb e => (hs'.2 b hb).trans e) f0 f1 f3 f4 f5
theorem ps_setComp {wi : TI} {i : Nat} {x : Str} {px spos : Pos} (own cn : List Str) (js : List Nat) (hN : X.N.Nodup) (hix : X.N[i]? = some x) (hx : X.env.scope.names.lookup x = some .local) (hi : PI X tg iter wi)
    (hg : ∀ s2 H2 cs C fp, PG (compCx X scope (own ++ cn) s2 H2 cs C fp) tg g) (ht : ∀ s2 H2 cs C fp, PIfs (compCx X scope (own ++ cn) s2 H2 cs C fp) ifs tt)
    (he : ∀ s2 H2 cs C fp, PE (compCx X scope (own ++ cn) s2 H2 cs C fp) elt te) (hc : X.calm = true := by rfl) (hok : compOk X.env.scope scope own cn X.N js = true := by kernel_rfl)
    (hsw : swapsWith (.ListComp elt [⟨tg, iter, ifs, 0⟩] scope pos) (some (.Name x px)) spos.line X.env = pure true := by rfl)
    (hs : ∀ x, foldedSetIterable iter X.env x = pure x := by intro _; rfl) : PS X (.Assign [.Name x px] (.ListComp elt [⟨tg, iter, ifs, 0⟩] scope pos) spos) (tAsg (tComp wi g tt te own.length js) (gName i)) := by
  intro pins s σ H D I h
  have hok' := hok
  unfold compOk at hok'
  simp only [Bool.and_eq_true, decide_eq_true_eq, List.all_eq_true, Bool.or_eq_true, Bool.not_eq_true', decide_eq_false_iff_not] at hok'
  obtain ⟨⟨⟨⟨⟨⟨k1, k2⟩, k3⟩, k4⟩, k5⟩, k6⟩, k7⟩ := hok'
  have hfree : ∀ x ∈ scope.names, x.2 = .free → ∃ c, X.env.cells.lookup x.1 = some c := fun x hx hf => I.ok.has x.1 (by
    rcases k2 x hx with (z | z) | z
    · exact absurd hf z
    · exact .inl z
    · exact .inr z)
  rw [exec_Assign_Name_used _ _ _ _ hsw]
  refine wpAny_bind (wpAny_standAt (wpAny_bind ?_))
  show wpAny _ X.A (do let _ ← comprehension (.ListComp elt [⟨tg, iter, ifs, 0⟩] scope pos) scope X.env _ (newList []) false (eval iter X.env) (some (assign (.Name x px) X.env))) _ _ s
  refine wpAny_bind (wpAny_mono (wpAny_comprehension_free (use := some (assign (.Name x px) X.env)) (Q := fun _ s' => SP X pins D .next s') rfl hs (closureFor_closL hfree) k1 (fun x hx hl => ?_)
    (thn (hi pins s σ H _ I h) fun v s1 h1 => thn h1 fun itv s2 h2 => ?_)) (fun _ s' hq => wpAny_pure (wpAny_pure hq)) fun _ _ e => e)
  · have := mem_lookup_nodup k3 (show (x.1, x.2) ∈ scope.names from hx)
    rw [this, hl]
  · obtain ⟨it, fp, tn, J, H2, e, I2, T, st2, f2, q⟩ := h2
    subst e
    refine comp_block (RR := fun acc C => compPost (model X.prog X.w) X.A X.xe (some (assign (.Name x px) X.env)) (fun _ s' => SP X pins D .next s') acc C) hok hc hg ht he I2 T st2 f2 (q _ I2.fresh) ?_
    intro C H' s' I' fC ⟨m, hn⟩ q'
    obtain ⟨f0, f1, f2', f3, f4, f5⟩ := fC
    show wpAny _ X.A (assign (.Name x px) X.env (.ref s2.heap.objs.size)) _ _ _
    refine wpAny_assign_Name (store_ok2 I' hN hix (.inl hx) (v := .ref s2.heap.objs.size) rfl (fun s3 I3 hch => ?_) (.inr hx))
    obtain ⟨a, hsb, ha⟩ := hch
    have hCa : C ≠ a := by
      rcases ha with z | z
      · rw [z]; exact f1
      · exact fun e => f4 x a z e.symm
    refine ⟨m, hn.sameBut hsb hCa, fun h' hs' => ?_⟩
    exact ⟨_, H', I3.turned (t' := s3.toks) (fun b o hb e => (hs'.2 b hb).trans e) f0 f1 f3 f4 f5, q'⟩
end
section
variable {g : TG} {tt : TT} {te : TE} {D : Addr} {σ' : St} {Q : List V → Hp → Prop} {H1 : Hp}
abbrev CompTurn (g : TG) (tt : TT) (te : TE) (D : Addr) (σ' : St) (ys : List V) (N : List V → Hp → Prop) (x : V) (H : Hp) : Prop :=
  g x σ' H fun σ2 H2 => tt σ2 H2 fun b H3 => if b = true then te σ2 H3 fun v H4 => H4 D = some (.lst ys) ∧ ys.length < sizeLine ∧ N (ys ++ [v]) (upd H4 D (.lst (ys ++ [v]))) else N ys H3
theorem comp_range {lo : Int} {n : Nat} (Pv : Nat → List V → Hp → Prop) (h0 : Pv 0 [] (upd H1 D (.lst [])))
    (hs : ∀ i ys H, i < n → Pv i ys H → CompTurn g tt te D σ' ys (Pv (i + 1)) (.int (lo + i)) H) (hd : ∀ ys H, Pv n ys H → Q ys H) :
    ∃ W : Nat → Nat → List V → Hp → Prop, (∃ m, W 0 m [] (upd H1 D (.lst []))) ∧ CompW (Itr lo n) g tt te D σ' Q W := by
  refine ⟨fun i m ys H => m = n - i ∧ i ≤ n ∧ Pv i ys H, ⟨n, by simp, Nat.zero_le _, h0⟩, ?_⟩
  rintro i m ys H ⟨rfl, hi, p⟩
  by_cases hlt : i < n
  · refine .inr ⟨hlt, Pv (i + 1), fun ys' H' p' => ⟨n - (i + 1), by omega, rfl, hlt, p'⟩, fun x H' y => ?_⟩
    obtain ⟨e, y⟩ := y
    subst e y
    exact hs i ys _ hlt p
  · have e : i = n := by omega
    subst e
    exact .inl ⟨Nat.le_refl _, hd ys H p⟩
theorem comp_list {K : PySem.W.Frag} {a : Addr} {xs : List V} (Pv : Nat → List V → Hp → Prop) (h0 : Pv 0 [] (upd H1 D (.lst []))) (hl : ∀ i ys H, i ≤ xs.length → Pv i ys H → SqL K H a xs)
    (hs : ∀ i x ys H, xs[i]? = some x → Pv i ys H → CompTurn g tt te D σ' ys (Pv (i + 1)) x H) (hd : ∀ ys H, Pv xs.length ys H → Q ys H) :
    ∃ W : Nat → Nat → List V → Hp → Prop, (∃ m, W 0 m [] (upd H1 D (.lst []))) ∧ CompW (Itl K a) g tt te D σ' Q W := by
  refine ⟨fun i m ys H => m = xs.length - i ∧ i ≤ xs.length ∧ Pv i ys H, ⟨xs.length, by simp, Nat.zero_le _, h0⟩, ?_⟩
  rintro i m ys H ⟨rfl, hi, p⟩
  have q := hl i ys H hi p
  by_cases hlt : i < xs.length
  · refine .inr ⟨⟨xs, xs[i], q, by simp [hlt]⟩, Pv (i + 1), fun ys' H' p' => ⟨xs.length - (i + 1), by omega, rfl, hlt, p'⟩, fun x H' y => ?_⟩
    obtain ⟨e, y⟩ := y
    subst e
    exact hs i x ys _ (y xs q) p
  · have e : i = xs.length := by omega
    subst e
    exact .inl ⟨⟨xs, q, Nat.le_refl _⟩, hd ys H p⟩
theorem comp_tup {K : PySem.W.Frag} {a : Addr} {xs : List V} (Pv : Nat → List V → Hp → Prop) (h0 : Pv 0 [] (upd H1 D (.lst []))) (hl : ∀ i ys H, i ≤ xs.length → Pv i ys H → SqT K H a xs)
    (hs : ∀ i x ys H, xs[i]? = some x → Pv i ys H → CompTurn g tt te D σ' ys (Pv (i + 1)) x H) (hd : ∀ ys H, Pv xs.length ys H → Q ys H) :
    ∃ W : Nat → Nat → List V → Hp → Prop, (∃ m, W 0 m [] (upd H1 D (.lst []))) ∧ CompW (Itt K a) g tt te D σ' Q W := by
  refine ⟨fun i m ys H => m = xs.length - i ∧ i ≤ xs.length ∧ Pv i ys H, ⟨xs.length, by simp, Nat.zero_le _, h0⟩, ?_⟩
  rintro i m ys H ⟨rfl, hi, p⟩
  have q := hl i ys H hi p
  by_cases hlt : i < xs.length
  · refine .inr ⟨⟨xs, xs[i], q, by simp [hlt]⟩, Pv (i + 1), fun ys' H' p' => ⟨xs.length - (i + 1), by omega, rfl, hlt, p'⟩, fun x H' y => ?_⟩
    obtain ⟨e, y⟩ := y
    subst e
    exact hs i x ys _ (y xs q) p
  · have e : i = xs.length := by omega
    subst e
    exact .inl ⟨⟨xs, q, Nat.le_refl _⟩, hd ys H p⟩
end
end L2
set_option Elab.async false
set_option linter.all false
set_option maxRecDepth 100000
set_option maxHeartbeats 4000000
namespace PySem
open AutoSeq1 (wpAny_loadPart')
section
variable {prog : Program} {w : World} {A : Around} {E : Value → Shared → Prop} {s : Shared}
end
section
variable {prog : Program} {w : World} {A : Around} {E : Value → Shared → Prop} {s : Shared}
end
end PySem
namespace L2
open PySem PySem.Spec PyProof.Rows
section
variable {X : Cx} {pins : List (Addr × Obj)} {σ : St} {H : Hp} {s : Shared} {h' : Heap}
end
section
variable {X : Cx}
end
section
variable {X : Cx}
end
theorem insert_eq (its : List Value) (k : Nat) (y : Value) : (its.toArray.extract 0 k).push y ++ its.toArray.extract k = (its.take k ++ y :: its.drop k).toArray := by
  apply Array.toList_inj.mp
  simp
  first
    | done
    | exact List.take_of_length_le (by simp)
section
variable {X : Cx}
def rInsert : V → List V → Hp → VK → Prop := fun x vs H Q => ∃ l xs i y, x = .ref l ∧ vs = [.int i, y] ∧ H l = some (.lst xs) ∧ 0 ≤ i ∧ i ≤ xs.length ∧ xs.length < sizeLine ∧ Q .non (upd H l (.lst (xs.take i.toNat ++ y :: xs.drop i.toNat)))
theorem mt_insert : MtM X "list.insert" rInsert := by
  intro pins s σ H x vs v us Q I rx rv h
  obtain ⟨l, xs, i, y, rfl, rfl, hH, h0, h1, hz, q⟩ := h
  cases rx
  obtain ⟨u1, u2, rfl, ⟨t, rfl⟩, ru⟩ := Vals.two rv
  obtain ⟨z, its, n, r, hl, e⟩ := I.lstM hH
  have hn := line63
  refine call_meets F.slot_list_insert ⟨_, e, rfl⟩ F.entry_list_insert (F.args_list_insert_3 _ _ _) (AutoSeq1.list_insert_list_int_val_1 l its.toArray n i t u2 (by rw [fitsIndex_both (by omega) (by omega)]; exact Bool.false_ne_true) (by rw [List.size_toArray]; omega)) ⟨e, ?_⟩
  refine ⟨.non, _, I.lset (its' := its.take i.toNat ++ u2 :: its.drop i.toNat) hH e ?_ (Vals.append (r.take _) (.cons ru (r.drop _))) ?_, rfl, q⟩
  · have hk : (if i < 0 then (i + (its.toArray.size : Int)).toNat else min i.toNat its.toArray.size) = i.toNat := by
      rw [if_neg (by omega), List.size_toArray]; omega
    show (let k := if i < 0 then (i + (its.toArray.size : Int)).toNat else min i.toNat its.toArray.size; (its.toArray.extract 0 k).push u2 ++ its.toArray.extract k) = _
    rw [hk]
    exact insert_eq its i.toNat u2
  · rw [List.length_append, List.length_take, List.length_cons, List.length_drop]
    omega
def eqVs (xs ys : List V) : Bool := xs.length == ys.length && (xs.zip ys).all fun p => eqV p.1 p.2
def rEqL (K : PySem.W.Frag) (neg : Bool) : R2 := fun x y H Q => ∃ a b xs ys, x = .ref a ∧ y = .ref b ∧ SqL K H a xs ∧ SqL K H b ys ∧ ((xs.all flatV = true ∧ ys.all flatV = true) ∨ xs = [] ∨ ys = []) ∧ Q (.bl (if neg then !eqVs xs ys else eqVs xs ys)) H
theorem eqVs_range {xs ys : List V} (hl : xs.length = ys.length) : (List.range xs.length).all (fun j => eqV (xs.getD j .non) (ys.getD j .non)) = eqVs xs ys := by
  have e1 : eqVs xs ys = (xs.zip ys).all fun p => eqV p.1 p.2 := by unfold eqVs; simp [hl]
  rw [e1, Bool.eq_iff_iff, List.all_eq_true, List.all_eq_true]
  constructor
  · intro h p hp
    obtain ⟨j, hj, e⟩ := List.mem_iff_getElem.mp hp
    have hj1 : j < xs.length := by simp at hj; omega
    have hj2 : j < ys.length := by omega
    have := h j (List.mem_range.mpr hj1)
    rw [← e]
    simpa [List.getD, hj1, hj2] using this
  · intro h j hj
    have hj1 : j < xs.length := List.mem_range.mp hj
    have hj2 : j < ys.length := by omega
    have := h (xs[j], ys[j]) (List.mem_iff_getElem.mpr ⟨j, by simp; omega, by simp⟩)
    simpa [List.getD, hj1, hj2] using this
theorem eqAt_lists {xs ys : List V} {us ws : List Value} {A : Around} {s : Shared} (r1 : Vals xs us) (r2 : Vals ys ws) (f : (xs.all flatV = true ∧ ys.all flatV = true) ∨ xs = [] ∨ ys = []) :
    ∀ j (h1 : j < us.toArray.size) (h2 : j < ws.toArray.size), SeqAt.EqAt A s us.toArray[j] ws.toArray[j] (eqV (xs.getD j .non) (ys.getD j .non)) := by
  intro j h1 h2
  have l1 := r1.length
  have l2 := r2.length
  simp only [List.size_toArray] at h1 h2
  have hj1 : j < xs.length := by omega
  have hj2 : j < ys.length := by omega
  obtain ⟨f1, f2⟩ : xs.all flatV = true ∧ ys.all flatV = true := by
    rcases f with f | f | f
    · exact f
    · subst f; simp at hj1
    · subst f; simp at hj2
  obtain ⟨u, eu, ru⟩ := r1.get (i := j) (x := xs[j]) (by simp [hj1])
  obtain ⟨w', ew, rw'⟩ := r2.get (i := j) (x := ys[j]) (by simp [hj2])
  have e1 : us.toArray[j] = u := by
    have := List.getElem?_eq_some_iff.mp eu
    obtain ⟨_, q⟩ := this
    simpa using q
  have e2 : ws.toArray[j] = w' := by
    obtain ⟨_, q⟩ := List.getElem?_eq_some_iff.mp ew
    simpa using q
  rw [e1, e2]
  have g1 : xs.getD j .non = xs[j] := by simp [List.getD, hj1]
  have g2 : ys.getD j .non = ys[j] := by simp [List.getD, hj2]
  rw [g1, g2]
  exact eqAt_V ru rw' (List.all_eq_true.mp f1 _ (List.getElem_mem hj1)) (List.all_eq_true.mp f2 _ (List.getElem_mem hj2))
theorem op_eqL (hu : X.A.units < cLine) : OpR X (compareOp .Eq) (rEqL X.K false) := by
  intro pins s σ H x y v u Q I rx ry h
  obtain ⟨a, b, xs, ys, rfl, rfl, h1, h2, f, q⟩ := h
  cases rx
  cases ry
  obtain ⟨its1, r1, p1, _⟩ := I.list h1
  obtain ⟨its2, r2, p2, _⟩ := I.list h2
  have l1 := r1.length
  have l2 := r2.length
  by_cases hl : xs.length = ys.length
  · refine SeqAt.eq_listAt p1.isList p2.isList (by simp; omega) hu (eqAt_lists r1 r2 f) ⟨.bl _, H, I, rfl, ?_⟩
    rw [List.size_toArray, ← l1, eqVs_range hl]
    exact q
  · refine SeqAt.eq_list_lengthsAt p1.isList p2.isList (by simp; omega) hu ⟨.bl false, H, I, rfl, ?_⟩
    have e : eqVs xs ys = false := by unfold eqVs; simp [hl]
    rw [show (if false = true then !eqVs xs ys else eqVs xs ys) = eqVs xs ys from rfl, e] at q
    exact q
theorem op_neL (hu : X.A.units < cLine) : OpR X (compareOp .NotEq) (rEqL X.K true) := by
  intro pins s σ H x y v u Q I rx ry h
  obtain ⟨a, b, xs, ys, rfl, rfl, h1, h2, f, q⟩ := h
  cases rx
  cases ry
  obtain ⟨its1, r1, p1, _⟩ := I.list h1
  obtain ⟨its2, r2, p2, _⟩ := I.list h2
  have l1 := r1.length
  have l2 := r2.length
  by_cases hl : xs.length = ys.length
  · refine (SeqAt.RcNeAt.lists p1.isList p2.isList (by simp; omega) hu (eqAt_lists r1 r2 f)) _ _ _ _ ?_
    refine ⟨.bl _, H, I, rfl, ?_⟩
    rw [List.size_toArray, ← l1, eqVs_range hl]
    exact q
  · refine (SeqAt.RcNeAt.lists_lengths p1.isList p2.isList (by simp; omega) hu) _ _ _ _ ?_
    refine ⟨.bl true, H, I, rfl, ?_⟩
    have e : eqVs xs ys = false := by unfold eqVs; simp [hl]
    rw [show (if true = true then !eqVs xs ys else eqVs xs ys) = !eqVs xs ys from rfl, e] at q
    exact q
theorem call_isi1 : CallR X (.builtin "isinstance") (fun xs H Q => ∃ x T t b, xs = [x, .ty T] ∧ TyOf X.K H x t ∧ PySem.W.kitOne X.K t (.type T) = some b ∧ Q (.bl b) H) := by
  intro pins s σ H xs us Q I r h
  obtain ⟨x, T, t, b, rfl, ty, e, q⟩ := h
  obtain ⟨u1, u2, rfl, r1, r2⟩ := Vals.two r
  cases r2
  exact isinst_ok I r1 ty e fun tk => ⟨.bl b, H, I.tok tk, rfl, q⟩
theorem isinstT_ok {pins : List (Addr × Obj)} {σ : St} {H : Hp} {s : Shared} {A : Around} {E : Value → Shared → Prop} {Q : Value → Shared → Prop} {b : Bool} {x : V} {u t : Value} {tp : Addr} {dd : Option Addr} {its : List Value} {n : Nat} {sl : Array (Option Value)} (I : Inv X pins σ H s) (rx : RelV x u) (ty : TyOf X.K H x t)
    (htp : s.heap.get? tp = some ⟨.type "tuple", dd, .seq its.toArray n, sl⟩) (e : PySem.W.kitAny X.K t its = some b) (h : ∀ tk, Q (.bool b) { s with toks := tk }) :
    wpAny (model X.prog X.w) A (call (.builtin "isinstance") [u, .ref tp]) Q E s := by
  cases ty with
  | non => cases (show u = Value.none from rx); exact PySem.W.kia_tup PySem.W.kitx_none I.kIn True.intro htp e (fun z => nomatch z) h
  | bl y => cases (show u = Value.bool y from rx); exact PySem.W.kia_tup PySem.W.kitx_bool I.kIn True.intro htp e (fun z => nomatch z) h
  | int i => obtain ⟨t, q⟩ := (show ∃ t, u = Value.int i t from rx); cases q; exact PySem.W.kia_tup PySem.W.kitx_int I.kIn True.intro htp e (fun z => nomatch z) h
  | str y => obtain ⟨t, q⟩ := (show ∃ t, u = Value.str y t from rx); cases q; exact PySem.W.kia_tup PySem.W.kitx_str I.kIn True.intro htp e (fun z => nomatch z) h
  | flt y => obtain ⟨t, q⟩ := (show ∃ t, u = Value.float y t from rx); cases q; exact PySem.W.kia_tup PySem.W.kitx_float I.kIn True.intro htp e (fun z => nomatch z) h
  | @lst a xs ea =>
    cases (show u = Value.ref a from rx)
    obtain ⟨_, _, n, _, h1⟩ := (show ObjOk X.prog X.w H s.heap a (.lst xs) from I.hok a _ ea)
    exact PySem.W.kia_tup PySem.W.kitx_list I.kIn ⟨_, h1, rfl⟩ htp e (fun z => nomatch z) h
  | @frz a ob xs ea =>
    cases (show u = Value.ref a from rx)
    obtain ⟨_, _, _, n, _, h1⟩ := (show ObjOk X.prog X.w H s.heap a (.frz ob (.lst xs)) from I.hok a _ ea)
    exact PySem.W.kia_tup PySem.W.kitx_list I.kIn ⟨_, h1, rfl⟩ htp e (fun z => nomatch z) h
  | @tup a xs ea =>
    cases (show u = Value.ref a from rx)
    obtain ⟨_, _, _, p⟩ := (show ObjOk X.prog X.w H s.heap a (.tup xs) from I.hok a _ ea)
    obtain ⟨o, h1, h2, _⟩ := p
    exact PySem.W.kia_tup PySem.W.kitx_tuple I.kIn ⟨o, h1, h2⟩ htp e (fun z => nomatch z) h
  | @dK a kvs ea =>
    cases (show u = Value.ref a from rx)
    obtain ⟨_, _, vs, _, p⟩ := (show ObjOk X.prog X.w H s.heap a (.dK kvs) from I.hok a _ ea)
    obtain ⟨o, es, ep, h1, h2, _⟩ := p
    exact PySem.W.kia_tup PySem.W.kitx_dict I.kIn ⟨o, h1, h2.1⟩ htp e (fun z => nomatch z) h
  | @dT a kvs ea =>
    cases (show u = Value.ref a from rx)
    obtain ⟨_, _, xs, _, o, es, ep, h1, h2, _⟩ := (show ObjOk X.prog X.w H s.heap a (.dT kvs) from I.hok a _ ea)
    exact PySem.W.kia_tup PySem.W.kitx_dict I.kIn ⟨o, h1, h2.1⟩ htp e (fun z => nomatch z) h
  | @ins a C dx fs ea cl ha hn htk hm =>
    cases (show u = Value.ref a from rx)
    obtain ⟨mA, O, _⟩ := ins_get I.hok ea
    obtain ⟨od, J, _⟩ := O.look
    exact PySem.W.kia_tup (PySem.W.kitx_own (cl.get _) cl.hd ha hn htk hm) I.kIn J htp e (fun z => nomatch z) h
theorem vals_ty : ∀ (Ts : List String) {us : List Value}, Vals (Ts.map V.ty) us → us = Ts.map Value.type
  | [], _, .nil => rfl
  | T :: r, _, .cons h t => by cases h; rw [vals_ty r t]; rfl
theorem call_isiT : CallR X (.builtin "isinstance") (fun xs H Q => ∃ (x : V) (p : Addr) (Ts : List String) (t : Value) (b : Bool), xs = [x, .ref p] ∧ H p = some (.tup (Ts.map V.ty)) ∧ TyOf X.K H x t ∧ PySem.W.kitAny X.K t (Ts.map Value.type) = some b ∧ Q (.bl b) H) := by
  intro pins s σ H xs us Q I r h
  obtain ⟨x, p, Ts, t, b, rfl, hp, ty, e, q⟩ := h
  obtain ⟨u1, u2, rfl, r1, r2⟩ := Vals.two r
  cases r2
  obtain ⟨_, its, rv, ⟨⟨c, dd, dt, sl⟩, h1, h2, n, h3⟩⟩ := (show ObjOk X.prog X.w H s.heap p (.tup (Ts.map V.ty)) from I.hok p _ hp)
  have ei := vals_ty Ts rv
  subst ei
  replace h2 : c = .type "tuple" := h2
  replace h3 : dt = .seq (Ts.map Value.type).toArray n := h3
  subst h2 h3
  exact isinstT_ok I r1 ty h1 e fun tk => ⟨.bl b, H, I.tok tk, rfl, q⟩
theorem call_allB (hc : X.calm = true) : CallR X (.builtin "all") (fun xs H Q => ∃ (a : Addr) (bs : List Bool), xs = [.ref a] ∧ SqL X.K H a (bs.map V.bl) ∧ Q (.bl (bs.all id)) H) := by
  intro pins s σ H xs us Q I r h
  obtain ⟨a, bs, rfl, hq, q⟩ := h
  obtain ⟨u, rfl, ru⟩ := vals1 r
  cases ru
  obtain ⟨its, rv, pl, hz⟩ := I.list hq
  have hl := rv.length
  rw [List.length_map] at hl
  refine call_all_walk (wpAny_pyIter_list pl.isList ?_)
  have hlt : a < s.heap.objs.size := by obtain ⟨o, n, e, _⟩ := pl; exact Heap.lt_size e
  refine ⟨s.heap.objs.size, _, _, _, _, _, fun i => bs.getD i false, rfl, Walks.list (by exact I.ok.hd hc) s.heap.objs.size a (Nat.ne_of_lt hlt) its.toArray, ⟨⟨_, Heap.get?_push_size _ rfl, rfl, rfl⟩, pl.isList.push _⟩, ?_, fun h' tk hk => ?_⟩
  · intro i v s' Q' E' hv hQ'
    have hv' : its[i]? = some v := by simpa using hv
    have hi : i < its.length := (List.getElem?_eq_some_iff.mp hv').1
    have hb : (bs.map V.bl)[i]? = some (.bl (bs[i]'(by omega))) := by simp
    obtain ⟨u', eu, ru'⟩ := rv.get hb
    rw [hv'] at eu
    cases eu
    cases ru'
    have hg : bs.getD i false = bs[i]'(by omega) := by simp [List.getD, show i < bs.length by omega]
    have hQ2 : Q' (bs.getD i false) s' := hQ'
    rw [hg] at hQ2
    exact wpAny_truthy_bool hQ2
  · have I1 : Inv X pins σ H { s with heap := h', toks := tk } := I.kept fun b o e => hk b o (by simp; exact Nat.ne_of_lt (Heap.lt_size e)) (Heap.get?_push_of_some _ e)
    refine ⟨.bl _, H, I1, rfl, ?_⟩
    have e : (List.range its.toArray.size).all (fun i => bs.getD i false) = bs.all id := by
      rw [List.size_toArray, ← hl, Bool.eq_iff_iff, List.all_eq_true, List.all_eq_true]
      constructor
      · intro h b hb
        obtain ⟨j, hj, e⟩ := List.mem_iff_getElem.mp hb
        have := h j (List.mem_range.mpr hj)
        simpa [List.getD, hj, e] using this
      · intro h j hj
        have hj1 : j < bs.length := List.mem_range.mp hj
        have := h bs[j] (List.getElem_mem hj1)
        simpa [List.getD, hj1] using this
    rw [e]
    exact q
theorem call_rng1 : CallR X (.type "range") (fun xs H Q => ∃ b, xs = [.int b] ∧ ∀ p, H p = none → Q (.ref p) (upd H p (.rng 0 b))) := by
  intro pins s σ H xs us Q I r h
  obtain ⟨b, rfl, q⟩ := h
  obtain ⟨u1, rfl, ⟨t, rfl⟩⟩ := vals1 r
  refine call_range_1 ⟨.ref s.heap.objs.size, _, I.laid (o := .rng 0 b) (fun b o e => Heap.get?_push_of_some _ e) (Nat.le_refl _) ⟨_, _, _, Heap.get?_push_size _ rfl⟩, rfl, q _ I.fresh⟩
def rngV (lo : Int) (n : Nat) : List V := (List.range n).map fun (i : Nat) => V.int (lo + (i : Int))
theorem rngV_length (lo : Int) (n : Nat) : (rngV lo n).length = n := by unfold rngV; simp
theorem call_listRng (hc : X.calm = true) : CallR X (.type "list") (fun xs H Q => ∃ p a b, xs = [.ref p] ∧ H p = some (.rng a b) ∧ -(2 ^ 62) ≤ a ∧ a < 2 ^ 62 ∧ -(2 ^ 62) ≤ b ∧ b < 2 ^ 62 ∧ (b - a).toNat ≤ 100000 ∧ ∀ l, H l = none → Q (.ref l) (upd H l (.lst (rngV a (b - a).toNat)))) := by
  intro pins s σ H xs us Q I r h
  obtain ⟨p, a, b, rfl, hp, h1, h2, h3, h4, h5, q⟩ := h
  obtain ⟨u, rfl, ru⟩ := vals1 r
  cases ru
  obtain ⟨t, u', v, ho⟩ := (show ObjOk X.prog X.w H s.heap p (.rng a b) from I.hok p _ hp)
  have hn : Builtin.Range.rangeSize a b 1 = (((b - a).toNat : Nat) : Int) := by rw [rangeSize_one]; split <;> omega
  refine call_list_range (I.ok.hd hc) (show IsRange s.heap p a b 1 t u' v from ho) (small_one h1 h2 h3 h4) hn (by omega) fun h' tk acc c' kp e hi => ?_
  have hz : (b - a).toNat ≤ sizeLine := Nat.le_trans h5 (by decide)
  refine ⟨.ref s.heap.objs.size, _, I.laid kp (Nat.le_refl _) (show ObjOk X.prog X.w _ h' _ (.lst (rngV a (b - a).toNat)) from ⟨by rw [rngV_length]; exact hz, acc.toList, c', ?_, by simpa using e⟩), rfl, q _ I.fresh⟩
  obtain ⟨hs, hv⟩ := hi
  have key : ∀ (n : Nat) (l : List Value) (lo : Int), l.length = n → (∀ (j : Nat) (v : Value), l[j]? = some v → ∃ t, v = Value.int (lo + (j : Int)) t) → Vals ((List.range n).map fun (i : Nat) => V.int (lo + (i : Int))) l := by
    intro n
    induction n with
    | zero => intro l lo hl _; cases l with | nil => exact .nil | cons _ _ => simp at hl
    | succ n ih =>
      intro l lo hl hv
      cases l with
      | nil => simp at hl
      | cons x r =>
        rw [List.range_succ_eq_map, List.map_cons, List.map_map]
        refine .cons ?_ ?_
        · obtain ⟨t, e⟩ := hv 0 x (by simp)
          exact ⟨t, e⟩
        · have := ih r (lo + 1) (by simpa using hl) fun j v hj => by
            obtain ⟨t, e⟩ := hv (j + 1) v (by simpa using hj)
            refine ⟨t, ?_⟩
            rw [e]
            congr 1
            omega
          have e2 : ((fun (i : Nat) => V.int (lo + (i : Int))) ∘ Nat.succ) = fun (i : Nat) => V.int (lo + 1 + (i : Int)) := by
            funext i
            show V.int (lo + ((i + 1 : Nat) : Int)) = V.int (lo + 1 + (i : Int))
            congr 1
            omega
          rw [e2]
          exact this
  refine key _ _ a (by simpa using hs) fun j v hj => ?_
  obtain ⟨t, e⟩ := hv j v (by simpa using hj)
  exact ⟨t, by rw [e]; congr 1; omega⟩
end
end L2
set_option Elab.async false
set_option linter.all false
set_option maxRecDepth 100000
set_option maxHeartbeats 4000000
namespace Hue
open PySem L2
def top (i : Nat) : Stmt := PySem.Challenge.pw_huedties_k06_sides_shown.main.body.getD i (.Pass ⟨0, 0, 0, 0⟩)
abbrev sTape : Stmt := top 19
abbrev sDraw : Stmt := top 20
abbrev sPairs : Stmt := top 21
abbrev sWeb : Stmt := top 22
theorem b_abs : bootBuiltins "abs" = some (.builtin "abs") := by decide +kernel
theorem b_min : bootBuiltins "min" = some (.builtin "min") := by decide +kernel
theorem b_max : bootBuiltins "max" = some (.builtin "max") := by decide +kernel
theorem b_len : bootBuiltins "len" = some (.builtin "len") := by decide +kernel
theorem b_all : bootBuiltins "all" = some (.builtin "all") := by decide +kernel
theorem b_isi : bootBuiltins "isinstance" = some (.builtin "isinstance") := by decide +kernel
theorem b_int : bootBuiltins "int" = some (.type "int") := by decide +kernel
theorem b_list : bootBuiltins "list" = some (.type "list") := by decide +kernel
theorem b_tuple : bootBuiltins "tuple" = some (.type "tuple") := by decide +kernel
theorem b_str : bootBuiltins "str" = some (.type "str") := by decide +kernel
theorem b_bool : bootBuiltins "bool" = some (.type "bool") := by decide +kernel
theorem b_range : bootBuiltins "range" = some (.type "range") := by decide +kernel
theorem ps_via {X : Cx} {st : Stmt} {t : TS} (t' : TS) (h : PS X st t) (imp : ∀ D σ H, t' D σ H → t D σ H) : PS X st t' := fun pins s σ H D I hw => h pins s σ H D I (imp D σ H hw)
theorem pe_via {X : Cx} {e : Expr} {t : TE} (t' : TE) (h : PE X e t) (imp : ∀ σ H Q, t' σ H Q → t σ H Q) : PE X e t' := fun pins s σ H Q I hw => h pins s σ H Q I (imp σ H Q hw)
theorem b01 (b : Bool) : -(2 ^ 64) < (if b = true then (1 : Int) else 0) ∧ (if b = true then (1 : Int) else 0) < 2 ^ 64 := by cases b <;> decide
def Ext (t : Addr) (H H' : Hp) : Prop := ∀ b o, b ≠ t → H b = some o → H' b = some o
theorem Ext.refl (t : Addr) (H : Hp) : Ext t H H := fun _ _ _ h => h
theorem Ext.trans {t : Addr} {H H1 H2 : Hp} (a : Ext t H H1) (b : Ext t H1 H2) : Ext t H H2 := fun c o n h => b c o n (a c o n h)
theorem Ext.new {t p : Addr} {H H1 : Hp} {o : HO} (a : Ext t H H1) (n : H1 p = none) : Ext t H (upd H1 p o) := fun c u ne h => by
  have h1 := a c u ne h
  rw [upd_ne (ne_of_none h1 n)]; exact h1
theorem Ext.free {t p : Addr} {H H1 : Hp} (a : Ext t H H1) (n : H1 p = none) (ne : p ≠ t) : H p = none := by
  cases q : H p with
  | none => rfl
  | some o => rw [a p o ne q] at n; cases n
def Tape (H : Hp) (t : Addr) : Prop := ∃ d e : Int, H t = some (.lst [.int d, .int e]) ∧ 0 ≤ d ∧ 0 ≤ e ∧ e < 2147483647
theorem Tape.some {H : Hp} {t : Addr} (h : Tape H t) : ∃ o, H t = Option.some o := let ⟨_, _, h, _⟩ := h; ⟨_, h⟩
theorem Tape.keep {H H' : Hp} {t : Addr} (h : Tape H t) (k : ∀ o, H t = Option.some o → H' t = Option.some o) : Tape H' t := let ⟨d, e, h, r⟩ := h; ⟨d, e, k _ h, r⟩
theorem Tape.new {H : Hp} {t p : Addr} {o : HO} (h : Tape H t) (n : H p = none) : Tape (upd H p o) t := h.keep fun u q => by rw [upd_ne (ne_of_none q n)]; exact q
theorem Tape.ne {H : Hp} {t p : Addr} (h : Tape H t) (n : H p = none) : p ≠ t := by
  obtain ⟨o, e⟩ := h.some
  exact (ne_of_none e n).symm
def spTape (K : PySem.W.Frag) : Sp := fun vs H Q _ => ∃ (a : Addr) (ns : List Int) (k : Int), vs = [.ref a, .int k] ∧ SqL K H a (ns.map V.int) ∧ 0 ≤ k ∧ ns.length ≤ 63 ∧
  ∀ (t : Addr) (H' : Hp), H t = none → Tape H' t → Same H H' → Q (.ref t) H'
def spDraw : Sp := fun vs H Q _ => ∃ (t : Addr) (m : Int), vs = [.ref t, .int m] ∧ Tape H t ∧ 0 < m ∧ m < 1073741824 ∧
  ∀ (r : Int) (H' : Hp), 0 ≤ r → r < m → Tape H' t → Ext t H H' → Q (.int r) H'
structure Txt (K : PySem.W.Frag) (mg : Str → Option Value) : Prop where
  len : mg "len" = none
  abs : mg "abs" = none
  int : mg "int" = none
  min : mg "min" = none
  max : mg "max" = none
  range : mg "range" = none
  tuple : mg "tuple" = none
  list : mg "list" = none
  enum : mg "enumerate" = none
  zip : mg "zip" = none
  isi : mg "isinstance" = none
  all : mg "all" = none
  str : mg "str" = none
  bool : mg "bool" = none
section
variable {P : Program} {w : World} {K : PySem.W.Frag} {mg : Str → Option Value} {base : Heap}
theorem scTape : FnScope ["_law_script", "_law_k", "_law_cell", "_law_digits"] ["_law_script", "_law_k"] (defScope sTape) := ⟨rfl, rfl, rfl, by decide +kernel, rfl, by decide +kernel, by decide +kernel⟩
theorem ok_tape {f : Addr} {fd : FuncData} (F : Fun K "_law_tape" "_law_tape" sTape f fd) (T : Txt K mg) : FnOk P w K mg base CX0 1 f fd ["_law_script", "_law_k"] (spTape K) := by
  refine F.ok scTape (fun vs H Q E h => ?_) (fun cdv A outer s H vs Q E hr h => ?_)
  · obtain ⟨a, ns, k, rfl, _⟩ := h; rfl
  · obtain ⟨a, ns, k, rfl, hS, hk, hn, q⟩ := h
    refine ⟨_, pss_cons (ps_set (i := 2) scTape.nd rfl (Or.inl rfl) pe_int)
      (pss_cons (ps_if (pt_cmpR op_lt (pv 1) (pe_callB call_len_seq (by rfl) T.len b_len (pa_cons (pv 0) pa_nil)) (nomark _))
        (pss_one (ps_set (i := 2) scTape.nd rfl (Or.inl rfl) (pe_ix ix_list (pv 0) (pv 1) (fun _ _ => rfl)))) pss_nil)
      (pss_cons (ps_set (i := 3) scTape.nd rfl (Or.inl rfl) (pe_op op_mul (pe_callB call_abs (by rfl) T.abs b_abs (pa_cons (pv 2) pa_nil))
        (pe_callTy call_int1 (by rfl) T.int b_int (pa_cons (pe_cmpR op_ge (pe_callB call_abs (by rfl) T.abs b_abs (pa_cons (pv 2) pa_nil)) (pe_op op_pow pe_int pe_int) (nomark _)) pa_nil))))
      (pss_one (ps_ret (pe_lst (pa_cons (pv 3) (pa_cons (pe_op op_mod (pe_op op_mul (pe_op op_mod (pe_op op_add (pe_op op_add (pv 2) (pe_op op_mul pe_int (pv 1))) pe_int) pe_int) pe_int) pe_int) pa_nil))))))), ?_⟩
    have rest : ∀ c : Int, ∀ b : Bool, ∀ p, H p = none → Q (.ref p) (upd H p (.lst [.int ((if c < 0 then -c else c) * (if b then 1 else 0)), .int ((c + 7919 * k + 1) % 2147483647 * 48271 % 2147483647)])) := by
      intro c b p hp
      refine q p _ hp ⟨_, _, upd_same, ?_, ?_, ?_⟩ fun x o e => ?_
      · split <;> split <;> omega
      · omega
      · omega
      · rw [upd_ne (ne_of_none e hp)]; exact e
    refine ⟨_, rfl, _, rfl, a, _, rfl, .inl hS, _, _, rfl, rfl, _, rfl, ?_⟩
    refine ite2 (fun hlt => ?_) (fun hlt => ?_)
    · have hlt' : k < ((ns.map V.int).length : Nat) := of_decide_eq_true hlt
      rw [List.length_map] at hlt'
      have hg : (ns.map V.int)[k.toNat]? = some (V.int (ns.getD k.toNat 0)) := by
        rw [List.getElem?_map]
        have : k.toNat < ns.length := by omega
        simp [List.getD, this]
      refine ⟨_, rfl, _, rfl, a, _, _, _, rfl, rfl, hS, (by have := atI_nat hg; rwa [Int.toNat_of_nonneg hk] at this), ?_⟩
      refine ⟨_, rfl, _, rfl, _, rfl, _, rfl, _, _, rfl, rfl, ⟨by decide, by decide, by decide⟩, _, _, rfl, rfl, .inr ⟨_, rfl, ?_⟩⟩
      refine ⟨_, _, rfl, rfl, .inr (b01 _), ?_⟩
      refine ⟨_, rfl, _, rfl, _, rfl, _, _, rfl, rfl, .inl ⟨by decide, by decide⟩, _, _, rfl, rfl, _, _, rfl, rfl, _, _, rfl, rfl, (by show (0 : Int) < 2147483647; decide), _, _, rfl, rfl, .inr ⟨by decide, by decide⟩, _, _, rfl, rfl, (by show (0 : Int) < 2147483647; decide), ?_⟩
      exact ⟨by show 2 ≤ sizeLine; decide, fun p hp => rest _ _ p hp⟩
    · refine ⟨_, rfl, _, rfl, _, rfl, _, rfl, _, _, rfl, rfl, ⟨by decide, by decide, by decide⟩, _, _, rfl, rfl, .inr ⟨_, rfl, ?_⟩⟩
      refine ⟨_, _, rfl, rfl, .inr (b01 _), ?_⟩
      refine ⟨_, rfl, _, rfl, _, rfl, _, _, rfl, rfl, .inl ⟨by decide, by decide⟩, _, _, rfl, rfl, _, _, rfl, rfl, _, _, rfl, rfl, (by show (0 : Int) < 2147483647; decide), _, _, rfl, rfl, .inr ⟨by decide, by decide⟩, _, _, rfl, rfl, (by show (0 : Int) < 2147483647; decide), ?_⟩
      exact ⟨by show 2 ≤ sizeLine; decide, fun p hp => rest _ _ p hp⟩
theorem scDraw : FnScope ["_law_tape_here", "_law_many", "_law_found", "_law_once"] ["_law_tape_here", "_law_many"] (defScope sDraw) := ⟨rfl, rfl, rfl, by decide +kernel, rfl, by decide +kernel, by decide +kernel⟩
theorem ok_draw {f : Addr} {fd : FuncData} (F : Fun K "_law_draw" "_law_draw" sDraw f fd) (T : Txt K mg) : FnOk P w K mg base CX0 1 f fd ["_law_tape_here", "_law_many"] spDraw := by
  refine F.ok scDraw (fun vs H Q E h => ?_) (fun cdv A outer s H vs Q E hr h => ?_)
  · obtain ⟨t, m, rfl, _⟩ := h; rfl
  · obtain ⟨t, m, rfl, ⟨d, e, ht, hd, he0, he1⟩, hm, hm2, q⟩ := h
    refine ⟨_, pss_cons (ps_if (pt_cmpR op_gt (pe_ix ix_list (pv 0) pe_int (fun _ _ => rfl)) pe_int (nomark _))
        (pss_cons (ps_set (i := 2) scDraw.nd rfl (Or.inl rfl) (pe_op op_mod (pe_ix ix_list (pv 0) pe_int (fun _ _ => rfl)) (pv 1)))
        (pss_cons (ps_asg (pe_op op_fdiv (pe_ix ix_list (pv 0) pe_int (fun _ _ => rfl)) (pv 1)) (pg_sub (pv 0) pe_int set_list))
        (pss_one (ps_ret (pv 2))))) pss_nil)
      (pss_cons (ps_asg (pe_op op_mod (pe_op op_add (pe_op op_mul (pe_ix ix_list (pv 0) pe_int (fun _ _ => rfl)) pe_int) pe_int) pe_int) (pg_sub (pv 0) pe_int set_list))
      (pss_cons (ps_set (i := 3) scDraw.nd rfl (Or.inl rfl) (pe_op op_mod (pe_op op_mul (pe_ix ix_list (pv 0) pe_int (fun _ _ => rfl)) (pe_op op_add (pe_op op_mod (pe_ix ix_list (pv 0) pe_int (fun _ _ => rfl)) pe_int) pe_int)) pe_int))
      (pss_one (ps_ret (pe_op op_mod (pe_op op_mod (pe_op op_mul (pv 3) (pe_op op_add (pe_op op_mod (pv 3) pe_int) pe_int)) pe_int) (pv 1)))))), ?_⟩
    have fin : ∀ (r d' e' : Int), 0 ≤ r → r < m → 0 ≤ d' → 0 ≤ e' → e' < 2147483647 → Q (.int r) (upd H t (.lst [.int d', .int e'])) := fun r d' e' h1 h2 h3 h4 h5 =>
      q r _ h1 h2 ⟨d', e', upd_same, h3, h4, h5⟩ fun b o hb z => by rw [upd_ne hb]; exact z
    refine ⟨_, rfl, t, _, _, _, rfl, rfl, SqL.of ht, (rfl : atI [V.int d, V.int e] 0 = some (.int d)), _, _, rfl, rfl, _, rfl, ?_⟩
    refine ite2 (fun hlt => ?_) (fun hlt => ?_)
    · refine ⟨_, rfl, t, _, _, _, rfl, rfl, SqL.of ht, (rfl : atI [V.int d, V.int e] 0 = some (.int d)), _, rfl, _, _, rfl, rfl, hm, ?_⟩
      refine ⟨_, rfl, t, _, _, _, rfl, rfl, SqL.of ht, (rfl : atI [V.int d, V.int e] 0 = some (.int d)), _, rfl, _, _, rfl, rfl, ⟨hm, hm2⟩, ?_⟩
      refine ⟨_, rfl, t, _, 0, 0, rfl, rfl, ht, rfl, _, rfl, ?_⟩
      exact fin _ _ _ (Int.emod_nonneg _ (by omega)) (Int.emod_lt_of_pos _ hm) (Int.ediv_nonneg hd (by omega)) he0 he1
    · refine ⟨_, rfl, t, _, _, _, rfl, rfl, SqL.of ht, (rfl : atI [V.int d, V.int e] 1 = some (.int e)), _, _, rfl, rfl, .inr ⟨by decide, by decide⟩, _, _, rfl, rfl, _, _, rfl, rfl, (by show (0 : Int) < 2147483647; decide), ?_⟩
      refine ⟨_, rfl, t, _, 1, 1, rfl, rfl, ht, rfl, ?_⟩
      have h5 : (0 : Int) ≤ (e * 48271 + 12345) % 2147483647 := by omega
      have h6 : (e * 48271 + 12345) % 2147483647 < 2147483647 := by omega
      have ht2 : (upd H t (.lst ([V.int d, V.int e].set 1 (.int ((e * 48271 + 12345) % 2147483647))))) t = some (.lst [.int d, .int ((e * 48271 + 12345) % 2147483647)]) := upd_same
      refine ⟨_, rfl, t, _, _, _, rfl, rfl, SqL.of ht2, (rfl : atI [V.int d, V.int ((e * 48271 + 12345) % 2147483647)] 1 = some (.int ((e * 48271 + 12345) % 2147483647))), _, rfl, t, _, _, _, rfl, rfl, SqL.of ht2, (rfl : atI [V.int d, V.int ((e * 48271 + 12345) % 2147483647)] 1 = some (.int ((e * 48271 + 12345) % 2147483647))), _, _, rfl, rfl, (by show (0 : Int) < 1009; decide), _, _, rfl, rfl, _, _, rfl, rfl, .inl ⟨by omega, by omega⟩, _, _, rfl, rfl, (by show (0 : Int) < 2147483629; decide), ?_⟩
      have hz0 : ∃ z, ((e * 48271 + 12345) % 2147483647) * (((e * 48271 + 12345) % 2147483647) % 1009 + 3) % 2147483629 = z := ⟨_, rfl⟩
      obtain ⟨z, hz⟩ := hz0
      have hz1 : 0 ≤ z := by rw [← hz]; exact Int.emod_nonneg _ (by decide)
      have hz2 : z < 2147483629 := by rw [← hz]; exact Int.emod_lt_of_pos _ (by decide)
      refine ⟨_, rfl, _, rfl, _, _, rfl, rfl, (by show (0 : Int) < 997; decide), _, _, rfl, rfl, _, _, rfl, rfl, .inl (by rw [hz]; omega), _, _, rfl, rfl, (by show (0 : Int) < 998244353; decide), _, rfl, _, _, rfl, rfl, hm, ?_⟩
      exact fin _ _ _ (Int.emod_nonneg _ (by omega)) (Int.emod_lt_of_pos _ hm) hd h5 h6
end
end Hue
set_option Elab.async false
set_option linter.all false
set_option maxRecDepth 100000
set_option maxHeartbeats 4000000
namespace Hue
open PySem L2
structure Callee (P : Program) (w : World) (K : PySem.W.Frag) (mg : Str → Option Value) (base : Heap) (k : Nat) (x : Str) (ps : List Str) (sp : Sp) : Prop where
  ex : ∃ f fd, FnOk P w K mg base CX0 k f fd ps sp ∧ mg x = some (.ref f) ∧ PySem.W.keepIn K (.ref f) = true ∧ Binds K fd ps []
theorem pe_def {X : Cx} {k : Nat} {x : Str} {ps : List Str} {sp : Sp} {e : Expr} {es : List Expr} {t : TA} {p pos : Pos} (C : Callee X.prog X.w X.K X.mg X.base k x ps sp) (hr : Room k X.A) (hg : Gl X x) (ha : PA X (e :: es) t)
    (hdb : (x == ("__debug__" : Str)) = false := by decide) (he : starEach (e :: es) X.env = (false, eval e X.env) :: starEach es X.env := by rfl) (hpl : (backTo pos (starEach es X.env)).any (·.1) = false := by rfl) :
    PE X (.Call (.Name x p) (e :: es) [] pos) (tCall sp [] E0 t) := by
  obtain ⟨f, fd, F, hm, hk, hb⟩ := C.ex
  exact pe_call F hr hg hm hk hb .nil pass0 ha hdb he hpl
def tTo (S S' : St → Hp → Prop) : TS := fun D σ H => S σ H ∧ ∀ σ' H', S' σ' H' → D.nx σ' H'
def KeepT (H H' : Hp) : Prop := ∀ b xs, H b = some (.tup xs) → H' b = some (.tup xs)
theorem KeepT.refl (H : Hp) : KeepT H H := fun _ _ h => h
theorem KeepT.trans {H H1 H2 : Hp} (a : KeepT H H1) (b : KeepT H1 H2) : KeepT H H2 := fun c xs h => b c xs (a c xs h)
theorem KeepT.new {H : Hp} {p : Addr} {o : HO} (n : H p = none) : KeepT H (upd H p o) := fun c xs h => by rw [upd_ne (ne_of_none h n)]; exact h
theorem KeepT.lst {H : Hp} {l : Addr} {xs : List V} {o : HO} (n : H l = some (.lst xs)) : KeepT H (upd H l o) := fun c ys h => by rw [upd_ne (ne_of h n (by intro z; cases z))]; exact h
theorem Ext.keepT {t : Addr} {H H' : Hp} (a : Ext t H H') (T : Tape H t) : KeepT H H' := fun b xs h => by
  obtain ⟨d, e, ht, _⟩ := T
  exact a b _ (ne_of h ht (by intro z; cases z)) h
theorem Ext.own {t l : Addr} {H0 H : Hp} {o : HO} (a : Ext t H0 H) (n : H0 l = none) : Ext t H0 (upd H l o) := fun b u ne h => by
  rw [upd_ne (ne_of_none h n)]; exact a b u ne h
theorem Tape.upd {t l : Addr} {H : Hp} {o : HO} (h : Tape H t) (ne : t ≠ l) : Tape (upd H l o) t := h.keep fun u q => by rw [upd_ne ne]; exact q
def PairAt (H : Hp) (m : Int) (v : V) : Prop := ∃ q i j, v = .ref q ∧ H q = some (.tup [.int i, .int j]) ∧ 0 ≤ i ∧ i < m ∧ 0 ≤ j ∧ j < m ∧ i ≠ j
def Pairs (H : Hp) (m : Int) (vs : List V) : Prop := ∀ v ∈ vs, PairAt H m v
theorem PairAt.mono {H H' : Hp} {m : Int} {v : V} (h : PairAt H m v) (k : KeepT H H') : PairAt H' m v := let ⟨q, i, j, e, h, r⟩ := h; ⟨q, i, j, e, k _ _ h, r⟩
theorem Pairs.mono {H H' : Hp} {m : Int} {vs : List V} (h : Pairs H m vs) (k : KeepT H H') : Pairs H' m vs := fun v hv => (h v hv).mono k
theorem Pairs.nil {H : Hp} {m : Int} : Pairs H m [] := fun _ h => nomatch h
theorem Pairs.app {H : Hp} {m : Int} {xs ys : List V} (a : Pairs H m xs) (b : Pairs H m ys) : Pairs H m (xs ++ ys) := fun v hv => (List.mem_append.mp hv).elim (a v) (b v)
theorem Pairs.one {H : Hp} {m : Int} {v : V} (a : PairAt H m v) : Pairs H m [v] := fun u hu => by rw [List.mem_singleton.mp hu]; exact a
theorem pairAt_new {H : Hp} {m i j : Int} {p : Addr} (h1 : 0 ≤ i) (h2 : i < m) (h3 : 0 ≤ j) (h4 : j < m) (h5 : i ≠ j) : PairAt (upd H p (.tup [.int i, .int j])) m (.ref p) := ⟨p, i, j, rfl, upd_same, h1, h2, h3, h4, h5⟩
structure FS (t : Addr) (H0 H : Hp) (l : Addr) (ps : List V) (m : Int) : Prop where
  tape : Tape H t
  ext : Ext t H0 H
  fr : H0 l = none
  ne : t ≠ l
  at' : H l = some (.lst ps)
  prs : Pairs H m ps
section
variable {t l : Addr} {H0 H H' : Hp} {ps : List V} {m : Int}
theorem FS.draw (h : FS t H0 H l ps m) (T : Tape H' t) (e : Ext t H H') : FS t H0 H' l ps m := ⟨T, h.ext.trans e, h.fr, h.ne, e _ _ h.ne.symm h.at', h.prs.mono (e.keepT h.tape)⟩
theorem FS.new {p : Addr} {o : HO} (h : FS t H0 H l ps m) (n : H p = none) : FS t H0 (upd H p o) l ps m :=
  ⟨h.tape.new n, h.ext.new n, h.fr, h.ne, by rw [upd_ne (ne_of_none h.at' n)]; exact h.at', h.prs.mono (.new n)⟩
theorem FS.set {qs : List V} (h : FS t H0 H l ps m) (q : Pairs H m qs) : FS t H0 (upd H l (.lst qs)) l qs m :=
  ⟨h.tape.upd h.ne, h.ext.own h.fr, h.fr, h.ne, upd_same, q.mono (.lst h.at')⟩
theorem FS.lay {p : Addr} {qs : List V} (T : Tape H t) (e : Ext t H0 H) (T0 : Tape H0 t) (n : H p = none) (q : Pairs H m qs) : FS t H0 (upd H p (.lst qs)) p qs m :=
  ⟨T.new n, e.new n, e.free n (T.ne n), (T.ne n).symm, upd_same, q.mono (.new n)⟩
end
theorem FS.oth {t l D : Addr} {H0 H : Hp} {ps xs : List V} {m : Int} {o : HO} (h : FS t H0 H l ps m) (hD : H D = some (.lst xs)) (n0 : H0 D = none) (hne : l ≠ D) (tne : t ≠ D) : FS t H0 (upd H D o) l ps m :=
  ⟨h.tape.upd tne, h.ext.own n0, h.fr, h.ne, by rw [upd_ne hne]; exact h.at', h.prs.mono (.lst hD)⟩
theorem FS.none {t l : Addr} {H0 H : Hp} {m m' : Int} (h : FS t H0 H l [] m) : FS t H0 H l [] m' := ⟨h.tape, h.ext, h.fr, h.ne, h.at', .nil⟩
theorem mod2 {x m : Int} (h0 : 0 ≤ x) (h1 : x < 2 * m) : x % m = if x < m then x else x - m := by
  split
  · exact Int.emod_eq_of_lt h0 (by assumption)
  · have e : x = (x - m) + m * 1 := by omega
    have : x % m = (x - m) % m := by
      conv => lhs; rw [e]
      rw [Int.add_mul_emod_self_left]
    rw [this]
    exact Int.emod_eq_of_lt (by omega) (by omega)
theorem nd_km : ((["_law_k"] : List Str) ++ (["_law_many"] : List Str)).Nodup := by decide +kernel
theorem nd_k : ((["_law_k"] : List Str) ++ ([] : List Str)).Nodup := by decide +kernel
theorem nd_jk : ((["_law_j"] : List Str) ++ (["_law_k"] : List Str)).Nodup := by decide +kernel
theorem nd_jkt : ((["_law_j"] : List Str) ++ (["_law_k", "_law_tape_here"] : List Str)).Nodup := by decide +kernel
theorem eqI {a b : Int} (h : decide (V.int a = V.int b) = true) : a = b := by
  have := of_decide_eq_true h
  injection this
theorem neI {a b : Int} (h : ¬ decide (V.int a = V.int b) = true) : a ≠ b := fun e => h (by rw [e]; simp)
theorem sl3 {n : Nat} (h : n ≤ 1000) : n ≤ sizeLine := Nat.le_of_lt (small1000 h)
theorem compT {i : Nat} {te : TE} {D : Addr} {x : V} {σ' : St} {ys : List V} {N : List V → Hp → Prop} {H : Hp} (h : te (σ'.set i (some x)) H fun v H4 => H4 D = some (.lst ys) ∧ ys.length < sizeLine ∧ N (ys ++ [v]) (upd H4 D (.lst (ys ++ [v])))) :
    CompTurn (gName i) (fun _ H Q => Q true H) te D σ' ys N x H := by
  unfold CompTurn gName
  simp only [if_true]
  exact h
def spPairs : Sp := fun vs H Q _ => ∃ (t : Addr) (g : Bool), vs = [.ref t, .bl g] ∧ Tape H t ∧
  ∀ (p l : Addr) (m : Int) (ps : List V) (H' : Hp), H p = none → H' p = some (.tup [.int m, .ref l]) → FS t H H' l ps m → ps.length ≤ 60 → 0 ≤ m → m ≤ 12 → Q (.ref p) H'
section
variable {P : Program} {w : World} {K : PySem.W.Frag} {mg : Str → Option Value} {base : Heap}
abbrev CDraw (P : Program) (w : World) (K : PySem.W.Frag) (mg : Str → Option Value) (base : Heap) : Prop := Callee P w K mg base 1 "_law_draw" ["_law_tape_here", "_law_many"] spDraw
theorem scPairs : FnScope ["_law_tape_here", "_law_great", "_law_way", "_law_many", "_law_found", "_law_turn", "_law_one", "_law_k", "_law_sides_here"] ["_law_tape_here", "_law_great"] (defScope sPairs) := ⟨rfl, rfl, rfl, by decide +kernel, rfl, by decide +kernel, by decide +kernel⟩
def PSt (t : Addr) (g : Bool) (H0 : Hp) (j : Int) (σ : St) (H : Hp) : Prop := ∃ (way m : Int) (l : Addr) (ps : List V) (o5 o6 o7 o8 : Option V),
  σ = [some (.ref t), some (.bl g), some (.int way), some (.int m), some (.ref l), o5, o6, o7, o8] ∧ FS t H0 H l ps m ∧ ps.length ≤ 60 ∧ 0 ≤ m ∧ m ≤ 12 ∧ 0 ≤ way ∧ way < 8 ∧ (j ≤ way → ps = [])
theorem ok_pairs {f : Addr} {fd : FuncData} (F : Fun K "_law_pairs_by" "_law_pairs_by" sPairs f fd) (T : Txt K mg) (CD : CDraw P w K mg base) : FnOk P w K mg base CX0 2 f fd ["_law_tape_here", "_law_great"] spPairs := by
  refine F.ok scPairs (fun vs H Q E h => ?_) (fun cdv A outer s H vs Q E hr h => ?_)
  · obtain ⟨t, g, rfl, _⟩ := h; rfl
  · obtain ⟨t, g, rfl, T0, q⟩ := h
    refine ⟨_, pss_cons (ps_set (i := 2) scPairs.nd rfl (Or.inl rfl) (pe_def CD hr (by rfl) (pa_cons (pv 0) (pa_cons pe_int pa_nil))))
      (pss_cons (ps_set (i := 3) scPairs.nd rfl (Or.inr rfl) (pe_ix ix_list (pe_lst (pa_cons (pe_def CD hr (by rfl) (pa_cons (pv 0) (pa_cons pe_int pa_nil))) (pa_cons (pe_op op_add pe_int (pe_def CD hr (by rfl) (pa_cons (pv 0) (pa_cons pe_int pa_nil)))) pa_nil)))
        (pe_callTy call_int1 (by rfl) T.int b_int (pa_cons (pv 1) pa_nil)) (fun _ _ => rfl)))
      (pss_cons (ps_set (i := 4) scPairs.nd rfl (Or.inl rfl) (pe_lst pa_nil))
      (pss_cons (ps_via (tTo (PSt t g H 0) (PSt t g H 3)) (ps_if (pw_and (pt_cmpR op_lt (pv 2) pe_int (nomark _)) (pw_and1 (pt_cmpR op_gt (pv 3) pe_int (nomark _)))).pt
          (pss_one (ps_for PassesOwn.never rfl (pi_range1 (by rfl) T.range (pa_cons (pe_def CD hr (by rfl) (pa_cons (pv 0) (pa_cons (pe_op op_add (pe_op op_mul pe_int (pv 3)) pe_int) pa_nil))) pa_nil)) (pg_name (i := 5) scPairs.nd rfl (Or.inl rfl))
            (pss_cons (ps_set (i := 6) scPairs.nd rfl (Or.inl rfl) (pe_def CD hr (by rfl) (pa_cons (pv 0) (pa_cons (pv 3) pa_nil))))
            (pss_one (ps_expr (pe_bm PySem.F.plainAttrs_list PySem.F.slot_list_append PySem.F.type_list_append mt_append (pv 4) (pa_cons (pe_tup (pa_cons (pv 6) (pa_cons (pe_op op_mod (pe_op op_add (pe_op op_add (pv 6) pe_int) (pe_def CD hr (by rfl) (pa_cons (pv 0) (pa_cons (pe_op op_sub (pv 3) pe_int) pa_nil)))) (pv 3)) pa_nil))) pa_nil))))))) pss_nil) ?i1)
      (pss_cons (ps_via (tTo (PSt t g H 3) (PSt t g H 4)) (ps_if (pw_and (pt_cmpR op_eq (pv 2) pe_int (nomark _)) (pw_and1 (pt_cmpR op_gt (pv 3) pe_int (nomark _)))).pt
          (pss_one (ps_set (i := 4) scPairs.nd rfl (Or.inl rfl) (pe_op op_cat (pe_comp ["_law_k"] ["_law_many"] [3] (pi_range1 (by rfl) T.range (pa_cons (pv 3) pa_nil)) (fun _ _ _ _ _ => pg_name (i := 0) nd_km rfl (Or.inl rfl)) (fun _ _ _ _ _ => pifs_nil)
              (fun _ _ _ _ _ => pe_tup (pa_cons (pv 0) (pa_cons (pe_op op_mod (pe_op op_add (pv 0) pe_int) (pv 1)) pa_nil))))
            (pe_lst (pa_cons (pe_tup (pa_cons pe_int (pa_cons (pe_op op_add (pe_def CD hr (by rfl) (pa_cons (pv 0) (pa_cons (pe_op op_sub (pv 3) pe_int) pa_nil))) pe_int) pa_nil))) pa_nil))))) pss_nil) ?i2)
      (pss_cons (ps_via (tTo (PSt t g H 4) (PSt t g H 5)) (ps_if (pw_and (pt_cmpR op_eq (pv 2) pe_int (nomark _)) (pw_and1 (pt_cmpR op_gt (pv 3) pe_int (nomark _)))).pt
          (pss_one (ps_setComp (i := 4) ["_law_k"] [] [] scPairs.nd rfl rfl (pi_range2 (by rfl) T.range (pa_cons pe_int (pa_cons (pv 3) pa_nil))) (fun _ _ _ _ _ => pg_name (i := 0) nd_k rfl (Or.inl rfl)) (fun _ _ _ _ _ => pifs_nil)
              (fun _ _ _ _ _ => pe_tup (pa_cons pe_int (pa_cons (pv 0) pa_nil))))) pss_nil) ?i3)
      (pss_cons (ps_via (tTo (PSt t g H 5) (PSt t g H 6)) (ps_if (pt_cmpR op_eq (pv 2) pe_int (nomark _))
          (pss_cons (ps_set (i := 3) scPairs.nd rfl (Or.inr rfl) (pe_callB (call_min2 rfl) (by rfl) T.min b_min (pa_cons (pv 3) (pa_cons (pe_op op_add pe_int (pe_callTy call_int1 (by rfl) T.int b_int (pa_cons (pv 1) pa_nil))) pa_nil))))
          (pss_one (ps_for PassesOwn.never rfl (pi_range1 (by rfl) T.range (pa_cons (pv 3) pa_nil)) (pg_name (i := 7) scPairs.nd rfl (Or.inr rfl))
            (pss_one (ps_expr (pe_bm PySem.F.plainAttrs_list PySem.F.slot_list_extend PySem.F.type_list_extend mt_extend (pv 4) (pa_cons (pe_comp ["_law_j"] ["_law_k"] [7] (pi_range1 (by rfl) T.range (pa_cons (pv 7) pa_nil)) (fun _ _ _ _ _ => pg_name (i := 0) nd_jk rfl (Or.inl rfl)) (fun _ _ _ _ _ => pifs_nil)
              (fun _ _ _ _ _ => pe_tup (pa_cons (pv 0) (pa_cons (pv 1) pa_nil)))) pa_nil))))))) pss_nil) ?i4)
      (pss_cons (ps_via (tTo (PSt t g H 6) (PSt t g H 7)) (ps_if (pt_cmpR op_eq (pv 2) pe_int (nomark _))
          (pss_cons (ps_set (i := 8) scPairs.nd rfl (Or.inl rfl) (pe_op op_add pe_int (pe_op op_fdiv (pv 3) pe_int)))
          (pss_one (ps_for PassesOwn.never rfl (pi_range1 (by rfl) T.range (pa_cons (pv 8) pa_nil)) (pg_name (i := 7) scPairs.nd rfl (Or.inr rfl))
            (pss_one (ps_expr (pe_bm PySem.F.plainAttrs_list PySem.F.slot_list_extend PySem.F.type_list_extend mt_extend (pv 4) (pa_cons (pe_comp ["_law_j"] ["_law_k", "_law_tape_here"] [7, 0] (pi_range2 (by rfl) T.range (pa_cons (pv 8) (pa_cons (pv 3) pa_nil))) (fun _ _ _ _ _ => pg_name (i := 0) nd_jkt rfl (Or.inl rfl))
              (fun _ _ _ _ _ => pifs_one (pt_cmpR op_gt (pe_def CD hr (by rfl) (pa_cons (pv 2) (pa_cons pe_int pa_nil))) pe_int (nomark _)))
              (fun _ _ _ _ _ => pe_tup (pa_cons (pv 1) (pa_cons (pv 0) pa_nil)))) pa_nil))))))) pss_nil) ?i5)
      (pss_cons (ps_via (tTo (PSt t g H 7) (PSt t g H 8)) (ps_if (pt_cmpR op_eq (pv 2) pe_int (nomark _))
          (pss_cons (ps_set (i := 3) scPairs.nd rfl (Or.inr rfl) (pe_op op_add pe_int (pe_op op_fdiv (pv 3) pe_int)))
          (pss_one (ps_for PassesOwn.never rfl (pi_range1 (by rfl) T.range (pa_cons pe_int pa_nil)) (pg_name (i := 7) scPairs.nd rfl (Or.inr rfl))
            (pss_one (ps_expr (pe_bm PySem.F.plainAttrs_list PySem.F.slot_list_extend PySem.F.type_list_extend mt_extend (pv 4) (pa_cons (pe_op op_rep (pe_lst (pa_cons (pe_tup (pa_cons (pv 7) (pa_cons (pe_op op_mod (pe_op op_add (pv 7) pe_int) pe_int) pa_nil))) pa_nil))
              (pe_op op_add pe_int (pe_def CD hr (by rfl) (pa_cons (pv 0) (pa_cons pe_int pa_nil))))) pa_nil))))))) pss_nil) ?i6)
      (pss_one (ps_ret (pe_tup (pa_cons (pv 3) (pa_cons (pv 4) pa_nil))))))))))))), ?_⟩
    case i1 =>
      rintro D σ Hx ⟨⟨way, m, l, ps, o5, o6, o7, o8, rfl, fs, hl, hm0, hm1, hw0, hw1, hj⟩, kn⟩
      obtain rfl : ps = [] := hj hw0
      have out : D.nx [some (.ref t), some (.bl g), some (.int way), some (.int m), some (.ref l), o5, o6, o7, o8] Hx := kn _ _ ⟨way, m, l, [], _, _, _, _, rfl, fs, hl, hm0, hm1, hw0, hw1, fun _ => rfl⟩
      refine ⟨_, rfl, _, _, rfl, rfl, _, rfl, ?_⟩
      refine ite2 (fun h1 => ?_) (fun h1 => iteF out)
      have h1 := of_decide_eq_true h1
      refine ⟨_, rfl, _, _, rfl, rfl, _, rfl, ?_⟩
      refine ite2 (fun h2 => ?_) (fun h2 => out)
      have h2 := of_decide_eq_true h2
      refine ⟨_, rfl, _, rfl, _, _, rfl, rfl, .inl ⟨by decide, by decide⟩, _, _, rfl, rfl, t, _, rfl, fs.tape, by omega, by omega, fun r H1 hr0 hr1 T1 E1 => ?_⟩
      refine ⟨r, rfl, by omega, by omega, for_range (lo := 0) (n := r.toNat) (fun i σ H2 => ∃ (ps' : List V) (o5 o6 : Option V), σ = [some (.ref t), some (.bl g), some (.int way), some (.int m), some (.ref l), o5, o6, o7, o8] ∧ FS t H H2 l ps' m ∧ ps'.length ≤ i)
        ⟨[], o5, o6, rfl, fs.draw T1 E1, Nat.le_refl _⟩ ?_ ?_⟩
      · rintro i σ H2 hi ⟨ps', o5', o6', rfl, fs', hl'⟩
        refine ⟨_, rfl, _, rfl, t, _, rfl, fs'.tape, by omega, by omega, fun a H3 ha0 ha1 T3 E3 => ?_⟩
        have fs3 := fs'.draw T3 E3
        refine ⟨_, rfl, .inl ⟨rfl, _, SqL.of fs3.at'⟩, _, rfl, _, rfl, _, _, rfl, rfl, _, rfl, _, rfl, _, _, rfl, rfl, t, _, rfl, fs3.tape, by omega, by omega, fun b H4 hb0 hb1 T4 E4 => ?_⟩
        have fs4 := fs3.draw T4 E4
        refine ⟨_, _, rfl, rfl, _, rfl, _, _, rfl, rfl, (show (0 : Int) < m by omega), by show 2 ≤ sizeLine; decide, fun p hp => ?_⟩
        have fs5 := fs4.new (o := .tup [.int a, .int ((a + 1 + b) % m)]) hp
        have e := mod2 (x := a + 1 + b) (m := m) (by omega) (by omega)
        have pr : PairAt (upd H4 p (.tup [.int a, .int ((a + 1 + b) % m)])) m (.ref p) := pairAt_new ha0 ha1 (by rw [e]; split <;> omega) (by rw [e]; split <;> omega) (by rw [e]; split <;> omega)
        refine ⟨l, ps', _, rfl, rfl, fs5.at', small1000 (by omega), ?_⟩
        exact ⟨ps' ++ [.ref p], _, _, rfl, fs5.set (fs5.prs.app (.one pr)), by rw [List.length_append, List.length_singleton]; omega⟩
      · rintro σ H2 ⟨ps', o5', o6', rfl, fs', hl'⟩
        exact kn _ _ ⟨way, m, l, ps', _, _, _, _, rfl, fs', by omega, hm0, hm1, hw0, hw1, fun h => absurd h (by omega)⟩
    case i2 =>
      rintro D σ Hx ⟨⟨way, m, l, ps, o5, o6, o7, o8, rfl, fs, hl, hm0, hm1, hw0, hw1, hj⟩, kn⟩
      have out : ¬ way = 3 ∨ ps = [] → D.nx [some (.ref t), some (.bl g), some (.int way), some (.int m), some (.ref l), o5, o6, o7, o8] Hx := fun hn => kn _ _ ⟨way, m, l, ps, _, _, _, _, rfl, fs, hl, hm0, hm1, hw0, hw1, fun h => by
        rcases hn with hn | hn
        · exact hj (by omega)
        · exact hn⟩
      refine ⟨_, rfl, rfl, _, rfl, ?_⟩
      refine ite2 (fun h1 => ?_) (fun h1 => iteF (out (.inl (neI h1))))
      have h1 := eqI h1
      refine ⟨_, rfl, _, _, rfl, rfl, _, rfl, ?_⟩
      refine ite2 (fun h2 => ?_) (fun h2 => out (.inr (hj (by omega))))
      have h2 := of_decide_eq_true h2
      refine ⟨_, rfl, m, rfl, by omega, by omega, fun Dl hD => comp_range (lo := 0) (n := m.toNat) (fun i ys H2 => FS t H H2 Dl ys m ∧ ys.length ≤ i) ⟨FS.lay fs.tape fs.ext T0 hD .nil, Nat.le_refl _⟩ ?_ ?_⟩
      · rintro i ys H2 hi ⟨fs', hl'⟩
        refine compT ?_
        refine ⟨_, rfl, _, rfl, _, _, rfl, rfl, _, rfl, _, _, rfl, rfl, (show (0 : Int) < m by omega), by show 2 ≤ sizeLine; decide, fun p hp => ?_⟩
        have fs5 := fs'.new (o := .tup [.int (0 + (i : Int)), .int ((0 + (i : Int) + 1) % m)]) hp
        have e := mod2 (x := 0 + (i : Int) + 1) (m := m) (by omega) (by omega)
        have pr : PairAt (upd H2 p (.tup [.int (0 + (i : Int)), .int ((0 + (i : Int) + 1) % m)])) m (.ref p) := pairAt_new (by omega) (by omega) (by rw [e]; split <;> omega) (by rw [e]; split <;> omega) (by rw [e]; split <;> omega)
        exact ⟨fs5.at', small1000 (by omega), fs5.set (fs5.prs.app (.one pr)), by rw [List.length_append, List.length_singleton]; omega⟩
      · rintro ys H2 ⟨fs', hl'⟩
        refine ⟨_, rfl, _, rfl, _, _, rfl, rfl, t, _, rfl, fs'.tape, by omega, by omega, fun b H4 hb0 hb1 T4 E4 => ?_⟩
        have fs4 := fs'.draw T4 E4
        refine ⟨_, _, rfl, rfl, by show 2 ≤ sizeLine; decide, fun p hp => ?_⟩
        have fs5 := fs4.new (o := .tup [.int 0, .int (b + 1)]) hp
        have pr : PairAt (upd H4 p (.tup [.int 0, .int (b + 1)])) m (.ref p) := pairAt_new (by omega) (by omega) (by omega) (by omega) (by omega)
        refine ⟨by show 1 ≤ sizeLine; decide, fun l2 hl2 => ?_⟩
        have fs6 := fs5.new (o := .lst [.ref p]) hl2
        refine ⟨Dl, l2, ys, [.ref p], rfl, rfl, fs6.at', upd_same, sl3 (by show ys.length + 1 ≤ 1000; omega), fun q2 hq2 => ?_⟩
        refine kn _ _ ⟨way, m, q2, ys ++ [.ref p], _, _, _, _, rfl, FS.lay fs6.tape fs6.ext T0 hq2 (fs6.prs.app (.one (pr.mono (.new hl2)))), by rw [List.length_append, List.length_singleton]; omega, hm0, hm1, hw0, hw1, fun h => absurd h (by omega)⟩
    case i3 =>
      rintro D σ Hx ⟨⟨way, m, l, ps, o5, o6, o7, o8, rfl, fs, hl, hm0, hm1, hw0, hw1, hj⟩, kn⟩
      have out : ¬ way = 4 ∨ ps = [] → D.nx [some (.ref t), some (.bl g), some (.int way), some (.int m), some (.ref l), o5, o6, o7, o8] Hx := fun hn => kn _ _ ⟨way, m, l, ps, _, _, _, _, rfl, fs, hl, hm0, hm1, hw0, hw1, fun h => by
        rcases hn with hn | hn
        · exact hj (by omega)
        · exact hn⟩
      refine ⟨_, rfl, rfl, _, rfl, ?_⟩
      refine ite2 (fun h1 => ?_) (fun h1 => iteF (out (.inl (neI h1))))
      have h1 := eqI h1
      refine ⟨_, rfl, _, _, rfl, rfl, _, rfl, ?_⟩
      refine ite2 (fun h2 => ?_) (fun h2 => out (.inr (hj (by omega))))
      have h2 := of_decide_eq_true h2
      refine ⟨_, rfl, 1, m, rfl, ⟨by decide, by decide, by omega, by omega⟩, fun Dl hD => comp_range (lo := 1) (n := (m - 1).toNat) (fun i ys H2 => FS t H H2 Dl ys m ∧ ys.length ≤ i) ⟨FS.lay fs.tape fs.ext T0 hD .nil, Nat.le_refl _⟩ ?_ ?_⟩
      · rintro i ys H2 hi ⟨fs', hl'⟩
        refine compT ?_
        refine ⟨_, rfl, by show 2 ≤ sizeLine; decide, fun p hp => ?_⟩
        have fs5 := fs'.new (o := .tup [.int 0, .int (1 + (i : Int))]) hp
        have pr : PairAt (upd H2 p (.tup [.int 0, .int (1 + (i : Int))])) m (.ref p) := pairAt_new (by omega) (by omega) (by omega) (by omega) (by omega)
        exact ⟨fs5.at', small1000 (by omega), fs5.set (fs5.prs.app (.one pr)), by rw [List.length_append, List.length_singleton]; omega⟩
      · rintro ys H2 ⟨fs', hl'⟩
        exact kn _ _ ⟨way, m, Dl, ys, _, _, _, _, rfl, fs', by omega, hm0, hm1, hw0, hw1, fun h => absurd h (by omega)⟩
    case i4 =>
      rintro D σ Hx ⟨⟨way, m, l, ps, o5, o6, o7, o8, rfl, fs, hl, hm0, hm1, hw0, hw1, hj⟩, kn⟩
      refine ⟨_, rfl, rfl, _, rfl, ?_⟩
      refine ite2 (fun h1 => ?_) (fun h1 => kn _ _ ⟨way, m, l, ps, _, _, _, _, rfl, fs, hl, hm0, hm1, hw0, hw1, fun h => hj (by have := neI h1; omega)⟩)
      have h1 := eqI h1
      obtain rfl : ps = [] := hj (by omega)
      refine ⟨_, rfl, _, rfl, .inr ⟨g, rfl, _, _, rfl, rfl, m, _, rfl, ?_⟩⟩
      obtain ⟨m', em, hm'0, hm'1⟩ : ∃ m' : Int, (if (5 + if g = true then (1 : Int) else 0) < m then (5 + if g = true then (1 : Int) else 0) else m) = m' ∧ 0 ≤ m' ∧ m' ≤ 6 := ⟨_, rfl, by split <;> (try split) <;> omega, by split <;> (try split) <;> omega⟩
      rw [em]
      refine ⟨_, rfl, m', rfl, by omega, by omega, for_range (lo := 0) (n := m'.toNat) (fun i σ H2 => ∃ (ps' : List V) (o7 : Option V), σ = [some (.ref t), some (.bl g), some (.int way), some (.int m'), some (.ref l), o5, o6, o7, o8] ∧ FS t H H2 l ps' m' ∧ ps'.length ≤ 6 * i)
        ⟨[], o7, rfl, fs.none, Nat.zero_le _⟩ ?_ ?_⟩
      · rintro i σ H2 hi ⟨ps', o7', rfl, fs', hl'⟩
        refine ⟨_, rfl, .inl ⟨rfl, _, SqL.of fs'.at'⟩, _, rfl, 0 + (i : Int), rfl, by omega, by omega, fun Dl hD => comp_range (lo := 0) (n := (0 + (i : Int)).toNat) (fun k ys H3 => FS t H H3 l ps' m' ∧ FS t H H3 Dl ys m' ∧ ys.length ≤ k ∧ l ≠ Dl)
          ⟨fs'.new hD, FS.lay fs'.tape fs'.ext T0 hD .nil, Nat.le_refl _, ne_of_none fs'.at' hD⟩ ?_ ?_⟩
        · rintro k ys H3 hk ⟨fl, fd', hly, hne⟩
          refine compT ?_
          refine ⟨_, rfl, _, rfl, by show 2 ≤ sizeLine; decide, fun p hp => ?_⟩
          have f5 := fd'.new (o := .tup [.int (0 + (k : Int)), .int (0 + (i : Int))]) hp
          have g5 := fl.new (o := .tup [.int (0 + (k : Int)), .int (0 + (i : Int))]) hp
          have pr : PairAt (upd H3 p (.tup [.int (0 + (k : Int)), .int (0 + (i : Int))])) m' (.ref p) := pairAt_new (by omega) (by omega) (by omega) (by omega) (by omega)
          exact ⟨f5.at', small1000 (by omega), g5.oth f5.at' f5.fr hne f5.ne, f5.set (f5.prs.app (.one pr)), by rw [List.length_append, List.length_singleton]; omega, hne⟩
        · rintro ys H3 ⟨fl, fd', hly, hne⟩
          refine ⟨l, Dl, ps', ys, rfl, rfl, fl.at', fd'.at', sl3 (by omega), ?_⟩
          exact ⟨ps' ++ ys, _, rfl, fl.set (fl.prs.app fd'.prs), by rw [List.length_append]; omega⟩
      · rintro σ H2 ⟨ps', o7', rfl, fs', hl'⟩
        exact kn _ _ ⟨way, m', l, ps', _, _, _, _, rfl, fs', by omega, hm'0, by omega, hw0, hw1, fun h => absurd h (by omega)⟩
    case i5 =>
      rintro D σ Hx ⟨⟨way, m, l, ps, o5, o6, o7, o8, rfl, fs, hl, hm0, hm1, hw0, hw1, hj⟩, kn⟩
      refine ⟨_, rfl, rfl, _, rfl, ?_⟩
      refine ite2 (fun h1 => ?_) (fun h1 => kn _ _ ⟨way, m, l, ps, _, _, _, _, rfl, fs, hl, hm0, hm1, hw0, hw1, fun h => hj (by have := neI h1; omega)⟩)
      have h1 := eqI h1
      obtain rfl : ps = [] := hj (by omega)
      refine ⟨_, rfl, _, _, rfl, rfl, ⟨by decide, by decide⟩, _, _, rfl, rfl, ?_⟩
      obtain ⟨sd, es, hs0, hs1⟩ : ∃ sd : Int, 1 + m / 2 = sd ∧ 1 ≤ sd ∧ sd ≤ 7 := ⟨_, rfl, by omega, by omega⟩
      refine ⟨_, rfl, sd, congrArg (fun z => [V.int z]) es, by omega, by omega, for_range (lo := 0) (n := sd.toNat) (fun i σ H2 => ∃ (ps' : List V) (o7 : Option V), σ = [some (.ref t), some (.bl g), some (.int way), some (.int m), some (.ref l), o5, o6, o7, some (.int sd)] ∧ FS t H H2 l ps' m ∧ ps'.length ≤ 5 * i)
        ⟨[], o7, by rw [← es]; rfl, fs, Nat.zero_le _⟩ ?_ ?_⟩
      · rintro i σ H2 hi ⟨ps', o7', rfl, fs', hl'⟩
        refine ⟨_, rfl, .inl ⟨rfl, _, SqL.of fs'.at'⟩, _, rfl, _, rfl, sd, m, rfl, ⟨by omega, by omega, by omega, by omega⟩, fun Dl hD => comp_range (lo := sd) (n := (m - sd).toNat) (fun k ys H3 => FS t H H3 l ps' m ∧ FS t H H3 Dl ys m ∧ ys.length ≤ k ∧ l ≠ Dl)
          ⟨fs'.new hD, FS.lay fs'.tape fs'.ext T0 hD .nil, Nat.le_refl _, ne_of_none fs'.at' hD⟩ ?_ ?_⟩
        · rintro k ys H3 hk ⟨fl, fd', hly, hne⟩
          refine ⟨_, rfl, t, 3, rfl, fd'.tape, by decide, by decide, fun r H4 hr0 hr1 T4 E4 => ?_⟩
          have fl4 := fl.draw T4 E4
          have fd4 := fd'.draw T4 E4
          refine ⟨_, _, rfl, rfl, _, rfl, ?_⟩
          refine ite2 (fun _ => ?_) (fun _ => ⟨fl4, fd4, by omega, hne⟩)
          refine ⟨_, rfl, _, rfl, by show 2 ≤ sizeLine; decide, fun p hp => ?_⟩
          have f5 := fd4.new (o := .tup [.int (0 + (i : Int)), .int (sd + (k : Int))]) hp
          have g5 := fl4.new (o := .tup [.int (0 + (i : Int)), .int (sd + (k : Int))]) hp
          have pr : PairAt (upd H4 p (.tup [.int (0 + (i : Int)), .int (sd + (k : Int))])) m (.ref p) := pairAt_new (by omega) (by omega) (by omega) (by omega) (by omega)
          exact ⟨f5.at', small1000 (by omega), g5.oth f5.at' f5.fr hne f5.ne, f5.set (f5.prs.app (.one pr)), by rw [List.length_append, List.length_singleton]; omega, hne⟩
        · rintro ys H3 ⟨fl, fd', hly, hne⟩
          refine ⟨l, Dl, ps', ys, rfl, rfl, fl.at', fd'.at', sl3 (by omega), ?_⟩
          exact ⟨ps' ++ ys, _, rfl, fl.set (fl.prs.app fd'.prs), by rw [List.length_append]; omega⟩
      · rintro σ H2 ⟨ps', o7', rfl, fs', hl'⟩
        exact kn _ _ ⟨way, m, l, ps', _, _, _, _, rfl, fs', by omega, hm0, hm1, hw0, hw1, fun h => absurd h (by omega)⟩
    case i6 =>
      rintro D σ Hx ⟨⟨way, m, l, ps, o5, o6, o7, o8, rfl, fs, hl, hm0, hm1, hw0, hw1, hj⟩, kn⟩
      refine ⟨_, rfl, rfl, _, rfl, ?_⟩
      refine ite2 (fun h1 => ?_) (fun h1 => kn _ _ ⟨way, m, l, ps, _, _, _, _, rfl, fs, hl, hm0, hm1, hw0, hw1, fun h => hj (by omega)⟩)
      have h1 := eqI h1
      obtain rfl : ps = [] := hj (by omega)
      refine ⟨_, rfl, _, _, rfl, rfl, ⟨by decide, by decide⟩, _, _, rfl, rfl, ?_⟩
      obtain ⟨m', em, hm'0, hm'1⟩ : ∃ m' : Int, 3 + m / 3 = m' ∧ 3 ≤ m' ∧ m' ≤ 12 := ⟨_, rfl, by omega, by omega⟩
      refine ⟨3, rfl, by decide, by decide, for_range (lo := 0) (n := 3) (fun i σ H2 => ∃ (ps' : List V) (o7 : Option V), σ = [some (.ref t), some (.bl g), some (.int way), some (.int m'), some (.ref l), o5, o6, o7, o8] ∧ FS t H H2 l ps' m' ∧ ps'.length ≤ 3 * i)
        ⟨[], o7, by rw [← em]; rfl, fs.none, Nat.zero_le _⟩ ?_ ?_⟩
      · rintro i σ H2 hi ⟨ps', o7', rfl, fs', hl'⟩
        refine ⟨_, rfl, .inl ⟨rfl, _, SqL.of fs'.at'⟩, _, rfl, _, rfl, _, _, rfl, rfl, _, _, rfl, rfl, (by show (0 : Int) < 3; decide), by show 2 ≤ sizeLine; decide, fun p hp => ?_⟩
        have f5 := fs'.new (o := .tup [.int (0 + (i : Int)), .int ((0 + (i : Int) + 1) % 3)]) hp
        have pr : PairAt (upd H2 p (.tup [.int (0 + (i : Int)), .int ((0 + (i : Int) + 1) % 3)])) m' (.ref p) := pairAt_new (by omega) (by omega) (by omega) (by omega) (by omega)
        refine ⟨by show 1 ≤ sizeLine; decide, fun l2 hl2 => ?_⟩
        have f6 := f5.new (o := .lst [.ref p]) hl2
        refine ⟨_, rfl, t, 3, rfl, f6.tape, by decide, by decide, fun b H4 hb0 hb1 T4 E4 => ?_⟩
        have f7 := f6.draw T4 E4
        have hl2' : H4 l2 = some (.lst [.ref p]) := E4 _ _ (f5.tape.ne hl2) upd_same
        have pr7 : PairAt H4 m' (.ref p) := (pr.mono (.new hl2)).mono (E4.keepT f6.tape)
        refine ⟨_, _, rfl, rfl, l2, 1 + b, [.ref p], rfl, rfl, hl2', by omega, by omega, sl3 (by show 1 * (1 + b).toNat ≤ 1000; omega), fun q2 hq2 => ?_⟩
        have f8 := f7.new (o := .lst (List.replicate (1 + b).toNat [V.ref p]).flatten) hq2
        have hlen : (List.replicate (1 + b).toNat [V.ref p]).flatten.length = (1 + b).toNat := by rw [len_rep]; simp
        refine ⟨l, q2, ps', _, rfl, rfl, f8.at', upd_same, sl3 (by rw [hlen]; omega), ?_⟩
        refine ⟨_, _, rfl, f8.set (f8.prs.app fun v hv => ?_), by rw [List.length_append, hlen]; omega⟩
        obtain ⟨x, hx, hvx⟩ := List.mem_flatten.mp hv
        have ex := List.eq_of_mem_replicate hx
        subst ex
        rw [List.mem_singleton.mp hvx]
        exact pr7.mono (.new hq2)
      · rintro σ H2 ⟨ps', o7', rfl, fs', hl'⟩
        exact kn _ _ ⟨way, m', l, ps', _, _, _, _, rfl, fs', by omega, by omega, hm'1, hw0, hw1, fun h => absurd h (by omega)⟩
    -- the whole
    refine ⟨_, rfl, t, 8, rfl, T0, by decide, by decide, fun way H1 hw0 hw1 T1 E1 => ?_⟩
    refine ⟨_, rfl, t, 7, rfl, T1, by decide, by decide, fun a H2 ha0 ha1 T2 E2 => ?_⟩
    refine ⟨_, rfl, t, 6, rfl, T2, by decide, by decide, fun b H3 hb0 hb1 T3 E3 => ?_⟩
    refine ⟨_, _, rfl, rfl, by show 2 ≤ sizeLine; decide, fun p hp => ?_⟩
    have E4 : Ext t H (upd H3 p (.lst [.int a, .int (7 + b)])) := ((E1.trans E2).trans E3).new hp
    have T4 : Tape (upd H3 p (.lst [.int a, .int (7 + b)])) t := T3.new hp
    refine ⟨_, rfl, .inr ⟨g, rfl, ?_⟩⟩
    obtain ⟨m, hm, hm0, hm1⟩ : ∃ m : Int, atI [V.int a, V.int (7 + b)] (if g = true then 1 else 0) = some (.int m) ∧ 0 ≤ m ∧ m ≤ 12 := by
      cases g
      · exact ⟨a, rfl, by omega, by omega⟩
      · exact ⟨7 + b, rfl, by omega, by omega⟩
    refine ⟨p, _, _, _, rfl, rfl, SqL.of upd_same, hm, ?_⟩
    refine ⟨by show 0 ≤ sizeLine; decide, fun l hl => ?_⟩
    refine ⟨⟨way, m, l, [], none, none, none, none, rfl, FS.lay T4 E4 T0 hl .nil, Nat.zero_le _, hm0, hm1, hw0, hw1, fun _ => rfl⟩, fun _ _ h => ⟨h, fun _ _ h => ⟨h, fun _ _ h => ⟨h, fun _ _ h => ⟨h, fun _ _ h => ⟨h, ?_⟩⟩⟩⟩⟩⟩
    rintro σ H5 ⟨way, m, l, ps, o5, o6, o7, o8, rfl, fs, hl, hm0, hm1, _, _, _⟩
    refine ⟨_, rfl, _, rfl, by show 2 ≤ sizeLine; decide, fun p5 hp5 => ?_⟩
    exact q p5 l m ps _ (fs.ext.free hp5 (fs.tape.ne hp5)) upd_same (fs.new hp5) hl hm0 hm1
end
end Hue
set_option Elab.async false
set_option linter.all false
set_option maxRecDepth 100000
set_option maxHeartbeats 4000000
namespace Hue
open PySem L2
section
variable {X : Cx} {K : PySem.W.Frag}
theorem ix_listK (hK : X.K = K) : IxR X (rIxL K) := hK ▸ ix_list
theorem ix_tupK (hK : X.K = K) : IxR X (rIxT K) := hK ▸ ix_tup
theorem call_lenK (hK : X.K = K) : CallR X (.builtin "len") (fun xs H Q => ∃ p ys, xs = [.ref p] ∧ (SqL K H p ys ∨ SqT K H p ys) ∧ Q (.int ys.length) H) := hK ▸ call_len_seq
theorem op_inK (hK : X.K = K) : OpR X (compareOp .In) (rIn K false) := hK ▸ op_in_seq
theorem op_notInK (hK : X.K = K) : OpR X (compareOp .NotIn) (rIn K true) := hK ▸ op_notIn_seq
end
structure GS (t : Addr) (H0 H : Hp) (l : Addr) (vs : List V) : Prop where
  tape : Tape H t
  ext : Ext t H0 H
  fr : H0 l = none
  ne : t ≠ l
  at' : H l = some (.lst vs)
section
variable {t l : Addr} {H0 H H' : Hp} {ps : List V}
theorem GS.draw (h : GS t H0 H l ps) (T : Tape H' t) (e : Ext t H H') : GS t H0 H' l ps := ⟨T, h.ext.trans e, h.fr, h.ne, e _ _ h.ne.symm h.at'⟩
theorem GS.new {p : Addr} {o : HO} (h : GS t H0 H l ps) (n : H p = none) : GS t H0 (upd H p o) l ps :=
  ⟨h.tape.new n, h.ext.new n, h.fr, h.ne, by rw [upd_ne (ne_of_none h.at' n)]; exact h.at'⟩
theorem GS.set {qs : List V} (h : GS t H0 H l ps) : GS t H0 (upd H l (.lst qs)) l qs := ⟨h.tape.upd h.ne, h.ext.own h.fr, h.fr, h.ne, upd_same⟩
theorem GS.oth {D : Addr} {xs : List V} {o : HO} (h : GS t H0 H l ps) (n0 : H0 D = none) (hne : l ≠ D) (tne : t ≠ D) : GS t H0 (upd H D o) l ps :=
  ⟨h.tape.upd tne, h.ext.own n0, h.fr, h.ne, by rw [upd_ne hne]; exact h.at'⟩
theorem GS.lay {p : Addr} {qs : List V} (T : Tape H t) (e : Ext t H0 H) (n : H p = none) : GS t H0 (upd H p (.lst qs)) p qs := ⟨T.new n, e.new n, e.free n (T.ne n), (T.ne n).symm, upd_same⟩
theorem FS.up {H1 : Hp} {m : Int} (h : FS t H H' l ps m) (e : Ext t H0 H) : FS t H0 H' l ps m := ⟨h.tape, e.trans h.ext, e.free h.fr h.ne.symm, h.ne, h.at', h.prs⟩
end
def TieAt (H : Hp) (m : Int) (v : V) : Prop := ∃ q i j, v = .ref q ∧ H q = some (.tup [.int i, .int j]) ∧ 0 ≤ i ∧ i < j ∧ j < m
def Ties (H : Hp) (m : Int) (vs : List V) : Prop := ∀ v ∈ vs, TieAt H m v
theorem TieAt.mono {H H' : Hp} {m : Int} {v : V} (h : TieAt H m v) (k : KeepT H H') : TieAt H' m v := let ⟨q, i, j, e, h, r⟩ := h; ⟨q, i, j, e, k _ _ h, r⟩
theorem Ties.mono {H H' : Hp} {m : Int} {vs : List V} (h : Ties H m vs) (k : KeepT H H') : Ties H' m vs := fun v hv => (h v hv).mono k
def WebAt (H : Hp) (w : Addr) (m : Int) (vs : List V) : Prop := ∃ ts, H w = some (.tup [.int m, .ref ts]) ∧ H ts = some (.tup vs) ∧ Ties H m vs ∧ vs.length ≤ 63 ∧ 0 ≤ m ∧ m ≤ 12
theorem WebAt.mono {H H' : Hp} {w : Addr} {m : Int} {vs : List V} (h : WebAt H w m vs) (k : KeepT H H') : WebAt H' w m vs := let ⟨ts, a, b, c, r⟩ := h; ⟨ts, k _ _ a, k _ _ b, c.mono k, r⟩
def spWeb : Sp := fun vs H Q _ => ∃ (t : Addr) (g : Bool), vs = [.ref t, .bl g] ∧ Tape H t ∧ ∀ (w : Addr) (m : Int) (vs : List V) (H' : Hp), WebAt H' w m vs → Tape H' t → Ext t H H' → Q (.ref w) H'
theorem nd_tpt : ((["_law_turn"] : List Str) ++ (["_law_pairs", "_law_tape_here"] : List Str)).Nodup := by decide +kernel
section
variable {P : Program} {w : World} {K : PySem.W.Frag} {mg : Str → Option Value} {base : Heap}
abbrev CPairs (P : Program) (w : World) (K : PySem.W.Frag) (mg : Str → Option Value) (base : Heap) : Prop := Callee P w K mg base 2 "_law_pairs_by" ["_law_tape_here", "_law_great"] spPairs
theorem scWeb : FnScope ["_law_tape_here", "_law_great", "_law_many", "_law_pairs", "_law_ties", "_law_one", "_law_other"] ["_law_tape_here", "_law_great"] (defScope sWeb) := ⟨rfl, rfl, rfl, by decide +kernel, rfl, by decide +kernel, by decide +kernel⟩
def WSt (t : Addr) (g : Bool) (H0 : Hp) (B : Nat) (σ : St) (H : Hp) : Prop := ∃ (m : Int) (l : Addr) (ps : List V), σ = [some (.ref t), some (.bl g), some (.int m), some (.ref l), none, none, none] ∧ FS t H0 H l ps m ∧ ps.length ≤ B ∧ 0 ≤ m ∧ m ≤ 12
theorem ok_web {f : Addr} {fd : FuncData} (F : Fun K "_law_web" "_law_web" sWeb f fd) (T : Txt K mg) (CD : CDraw P w K mg base) (CP : CPairs P w K mg base) : FnOk P w K mg base CX0 3 f fd ["_law_tape_here", "_law_great"] spWeb := by
  refine F.ok scWeb (fun vs H Q E h => ?_) (fun cdv A outer s H vs Q E hr h => ?_)
  · obtain ⟨t, g, rfl, _⟩ := h; rfl
  · obtain ⟨t, g, rfl, T0, q⟩ := h
    have hr1 : Room 1 _ := hr.mono (by decide)
    have hu := hr.units0
    refine ⟨_, pss_cons (ps_asg (pe_def CP hr (by rfl) (pa_cons (pv 0) (pa_cons (pv 1) pa_nil))) (pg_tup rfl (pgs_cons (pg_name (i := 2) scWeb.nd rfl (Or.inl rfl)) (pgs_cons (pg_name (i := 3) scWeb.nd rfl (Or.inr rfl)) pgs_nil))))
      (pss_cons (ps_via (tTo (WSt t g H 60) (WSt t g H 60)) (ps_if (pt_cmpR (op_eqL hu) (pv 3) (pe_lst pa_nil) (nomark _))
          (pss_one (ps_asg (pe_def CP hr (by rfl) (pa_cons (pv 0) (pa_cons (pv 1) pa_nil))) (pg_tup rfl (pgs_cons (pg_name (i := 2) scWeb.nd rfl (Or.inl rfl)) (pgs_cons (pg_name (i := 3) scWeb.nd rfl (Or.inr rfl)) pgs_nil))))) pss_nil) ?i1)
      (pss_cons (ps_via (tTo (WSt t g H 60) (WSt t g H 63)) (ps_if (pw_and (pt_cmpR (op_neL hu) (pv 3) (pe_lst pa_nil) (nomark _)) (pw_and1 (pt_cmpR op_eq (pe_def CD hr1 (by rfl) (pa_cons (pv 0) (pa_cons pe_int pa_nil))) pe_int (nomark _)))).pt
          (pss_one (ps_set (i := 3) scWeb.nd rfl (Or.inr rfl) (pe_op op_cat (pv 3) (pe_comp ["_law_turn"] ["_law_pairs", "_law_tape_here"] [3, 0] (pi_range1 (by rfl) T.range (pa_cons (pe_op op_add pe_int (pe_def CD hr1 (by rfl) (pa_cons (pv 0) (pa_cons pe_int pa_nil)))) pa_nil)) (fun _ _ _ _ _ => pg_name (i := 0) nd_tpt rfl (Or.inl rfl)) (fun _ _ _ _ _ => pifs_nil)
              (fun _ _ _ _ _ => pe_ix (ix_listK (K := K) rfl) (pv 1) (pe_def CD hr1 (by rfl) (pa_cons (pv 2) (pa_cons (pe_callB (call_lenK (K := K) rfl) (by rfl) T.len b_len (pa_cons (pv 1) pa_nil)) pa_nil))) (fun _ _ => rfl)))))) pss_nil) ?i2)
      (pss_cons (ps_set (i := 4) scWeb.nd rfl (Or.inl rfl) (pe_lst pa_nil))
      (pss_cons (ps_for PassesOwn.never rfl (pi_list (pv 3)) (pg_tup rfl (pgs_cons (pg_name (i := 5) scWeb.nd rfl (Or.inl rfl)) (pgs_cons (pg_name (i := 6) scWeb.nd rfl (Or.inl rfl)) pgs_nil)))
          (pss_one (ps_expr (pe_bm PySem.F.plainAttrs_list PySem.F.slot_list_insert PySem.F.type_list_insert mt_insert (pv 4) (pa_cons (pe_def CD hr1 (by rfl) (pa_cons (pv 0) (pa_cons (pe_op op_add (pe_callB call_len_seq (by rfl) T.len b_len (pa_cons (pv 4) pa_nil)) pe_int) pa_nil)))
            (pa_cons (pe_tup (pa_cons (pe_callB (call_min2 rfl) (by rfl) T.min b_min (pa_cons (pv 5) (pa_cons (pv 6) pa_nil))) (pa_cons (pe_callB (call_max2 rfl) (by rfl) T.max b_max (pa_cons (pv 5) (pa_cons (pv 6) pa_nil))) pa_nil))) pa_nil))))))
      (pss_one (ps_ret (pe_tup (pa_cons (pv 2) (pa_cons (pe_callTy call_tuple_of (by rfl) T.tuple b_tuple (pa_cons (pv 4) pa_nil)) pa_nil))))))))), ?_⟩
    case i1 =>
      rintro D σ Hx ⟨⟨m, l, ps, rfl, fs, hl, hm0, hm1⟩, kn⟩
      refine ⟨_, rfl, by show 0 ≤ sizeLine; decide, fun p hp => ?_⟩
      have f1 := fs.new (o := .lst []) hp
      refine ⟨l, p, ps, [], rfl, rfl, SqL.of f1.at', SqL.of upd_same, .inr (.inr rfl), _, rfl, ?_⟩
      refine ite2 (fun _ => ?_) (fun _ => kn _ _ ⟨m, l, ps, rfl, f1, hl, hm0, hm1⟩)
      refine ⟨_, rfl, _, rfl, t, g, rfl, f1.tape, fun p2 l2 m2 ps2 H2 hp2 hH2 fs2 hl2 h0 h1 => ?_⟩
      refine ⟨p2, _, rfl, SqT.of hH2, rfl, _, _, rfl, _, _, rfl, rfl, ?_⟩
      exact kn _ _ ⟨m2, l2, ps2, rfl, FS.up (H1 := H) fs2 f1.ext, hl2, h0, h1⟩
    case i2 =>
      rintro D σ Hx ⟨⟨m, l, ps, rfl, fs, hl, hm0, hm1⟩, kn⟩
      refine ⟨_, rfl, by show 0 ≤ sizeLine; decide, fun p hp => ?_⟩
      have f1 := fs.new (o := .lst []) hp
      refine ⟨l, p, ps, [], rfl, rfl, SqL.of f1.at', SqL.of upd_same, .inr (.inr rfl), _, rfl, ?_⟩
      refine ite2 (fun hne => ?_) (fun _ => iteF (kn _ _ ⟨m, l, ps, rfl, f1, by omega, hm0, hm1⟩))
      have hps : 0 < ps.length := by
        cases ps with
        | nil => exact absurd hne (by decide)
        | cons _ _ => simp
      refine ⟨_, rfl, t, 4, rfl, f1.tape, by decide, by decide, fun r H2 hr0 hr1' T2 E2 => ?_⟩
      have f2 := f1.draw T2 E2
      refine ⟨rfl, _, rfl, ?_⟩
      refine ite2 (fun _ => ?_) (fun _ => kn _ _ ⟨m, l, ps, rfl, f2, by omega, hm0, hm1⟩)
      refine ⟨_, rfl, _, rfl, t, 3, rfl, f2.tape, by decide, by decide, fun b H3 hb0 hb1 T3 E3 => ?_⟩
      have f3 := f2.draw T3 E3
      refine ⟨_, _, rfl, rfl, 1 + b, rfl, by omega, by omega, fun Dl hD => comp_range (lo := 0) (n := (1 + b).toNat) (fun k ys H4 => FS t H H4 l ps m ∧ FS t H H4 Dl ys m ∧ ys.length ≤ k ∧ l ≠ Dl)
        ⟨f3.new hD, FS.lay f3.tape f3.ext T0 hD .nil, Nat.le_refl _, ne_of_none f3.at' hD⟩ ?_ ?_⟩
      · rintro k ys H4 hk ⟨fl, fd', hly, hne⟩
        refine compT ?_
        refine ⟨_, rfl, _, rfl, _, rfl, l, ps, rfl, .inl (SqL.of fl.at'), t, _, rfl, fl.tape, by omega, by omega, fun c H5 hc0 hc1 T5 E5 => ?_⟩
        have fl5 := fl.draw T5 E5
        have fd5 := fd'.draw T5 E5
        have hget : ps[c.toNat]? = some (ps[c.toNat]'(by omega)) := by simp
        refine ⟨l, ps, c, _, rfl, rfl, SqL.of fl5.at', (by have := atI_nat hget; rwa [Int.toNat_of_nonneg hc0] at this), ?_⟩
        exact ⟨fd5.at', small1000 (by omega), fl5.oth fd5.at' fd5.fr hne fd5.ne, fd5.set (fd5.prs.app (.one (fl5.prs _ (List.getElem_mem _)))), by rw [List.length_append, List.length_singleton]; omega, hne⟩
      · rintro ys H4 ⟨fl, fd', hly, hne⟩
        refine ⟨l, Dl, ps, ys, rfl, rfl, fl.at', fd'.at', sl3 (by omega), fun q2 hq2 => ?_⟩
        exact kn _ _ ⟨m, q2, ps ++ ys, rfl, FS.lay fl.tape fl.ext T0 hq2 (fl.prs.app fd'.prs), by rw [List.length_append]; omega, hm0, hm1⟩
    -- the whole
    refine ⟨_, rfl, _, rfl, t, g, rfl, T0, fun p2 l2 m2 ps2 H2 hp2 hH2 fs2 hl2 h0 h1 => ?_⟩
    refine ⟨p2, _, rfl, SqT.of hH2, rfl, _, _, rfl, _, _, rfl, rfl, ?_⟩
    refine ⟨⟨m2, l2, ps2, rfl, fs2, hl2, h0, h1⟩, fun _ _ h => ⟨h, ?_⟩⟩
    rintro σ H3 ⟨m, l, ps, rfl, fs, hl, hm0, hm1⟩
    refine ⟨by show 0 ≤ sizeLine; decide, fun d hd => ?_⟩
    have f4 := fs.new (o := .lst []) hd
    refine ⟨_, rfl, l, rfl, ⟨_, SqL.of f4.at'⟩, for_list (K := K) (a := l) (xs := ps) (fun i σ H4 => ∃ (vs : List V) (o5 o6 : Option V), σ = [some (.ref t), some (.bl g), some (.int m), some (.ref l), some (.ref d), o5, o6] ∧ FS t H H4 l ps m ∧ GS t H H4 d vs ∧ Ties H4 m vs ∧ vs.length = i)
      ⟨[], none, none, rfl, f4, GS.lay fs.tape fs.ext hd, (fun _ h => nomatch h), rfl⟩ (fun i σ H4 _ ⟨_, _, _, _, f, _⟩ => SqL.of f.at') ?_ ?_⟩
    · rintro i x σ H4 hx ⟨vs, o5, o6, rfl, fl, gs, ts, hvl⟩
      have hil : i < ps.length := (List.getElem?_eq_some_iff.mp hx).1
      obtain ⟨qa, a, b, rfl, hqa, ha0, ha1, hb0, hb1, hab⟩ := fl.prs x (List.mem_of_getElem? hx)
      have hne : l ≠ d := ne_of_none fs.at' hd
      refine ⟨qa, _, rfl, SqT.of hqa, rfl, _, _, rfl, _, _, rfl, rfl, ?_⟩
      refine ⟨_, rfl, .inl ⟨rfl, _, SqL.of gs.at'⟩, _, rfl, _, rfl, d, vs, rfl, .inl (SqL.of gs.at'), _, _, rfl, rfl, t, _, rfl, gs.tape, by omega, by omega, fun c H5 hc0 hc1 T5 E5 => ?_⟩
      have fl5 := fl.draw T5 E5
      have gs5 := gs.draw T5 E5
      have ts5 := ts.mono (E5.keepT gs.tape)
      refine ⟨_, rfl, _, rfl, a, b, rfl, _, rfl, _, rfl, a, b, rfl, by show 2 ≤ sizeLine; decide, fun p hp => ?_⟩
      have gs6 := gs5.new (o := .tup [.int (if b < a then b else a), .int (if b > a then b else a)]) hp
      have fl6 := fl5.new (o := .tup [.int (if b < a then b else a), .int (if b > a then b else a)]) hp
      have tn : TieAt (upd H5 p (.tup [.int (if b < a then b else a), .int (if b > a then b else a)])) m (.ref p) := ⟨p, _, _, rfl, upd_same, by split <;> omega, by split <;> split <;> omega, by split <;> omega⟩
      refine ⟨d, vs, c, _, rfl, rfl, gs6.at', hc0, by omega, small1000 (by omega), ?_⟩
      refine ⟨vs.take c.toNat ++ .ref p :: vs.drop c.toNat, _, _, rfl, fl6.oth gs6.at' gs6.fr hne gs6.ne, gs6.set, fun v hv => ?_, ?_⟩
      · refine TieAt.mono ?_ (.lst gs6.at')
        rcases List.mem_append.mp hv with hv | hv
        · exact (ts5 v (List.mem_of_mem_take hv)).mono (.new hp)
        · rcases List.mem_cons.mp hv with rfl | hv
          · exact tn
          · exact (ts5 v (List.mem_of_mem_drop hv)).mono (.new hp)
      · rw [List.length_append, List.length_cons, List.length_take, List.length_drop]; omega
    · rintro σ H4 ⟨vs, o5, o6, rfl, fl, gs, ts, hvl⟩
      refine ⟨_, rfl, _, rfl, d, vs, rfl, .inl ⟨SqL.of gs.at', fun l3 hl3 => ?_⟩⟩
      refine ⟨by show 2 ≤ sizeLine; decide, fun p3 hp3 => ?_⟩
      have g3 := (gs.new (o := .tup vs) hl3).new (o := .tup [.int m, .ref l3]) hp3
      refine q p3 m vs _ ⟨l3, upd_same, ?_, (ts.mono (.new hl3)).mono (.new hp3), by omega, hm0, hm1⟩ g3.tape g3.ext
      rw [upd_ne (ne_of_none (upd_same (H := H4) (a := l3) (o := .tup vs)) hp3)]
      exact upd_same
end
end Hue
set_option Elab.async false
set_option linter.all false
set_option maxRecDepth 100000
set_option maxHeartbeats 1500000
namespace Hue
open PySem L2
theorem keepN {H : Hp} {b p : Addr} {o u : HO} (h : H b = some o) (n : H p = none) : (upd H p u) b = some o := by rw [upd_ne (ne_of_none h n)]; exact h
theorem keepO {H : Hp} {b p : Addr} {o u : HO} (h : H b = some o) (n : b ≠ p) : (upd H p u) b = some o := by rw [upd_ne n]; exact h
def ktn (t c : String) : Option Bool := if (Value.type t == Value.type c) = true then some true else if PySem.W.kitMeta c = true then (fastBuiltinMro t).map (·.contains (.type c)) else none
theorem kit_n {K : PySem.W.Frag} (t c : String) : PySem.W.kitOne K (.type t) (.type c) = ktn t c := rfl
theorem kt_ll : ktn "list" "list" = some true := by decide +kernel
theorem kt_il : ktn "int" "list" = some false := by decide +kernel
theorem kt_it : ktn "int" "tuple" = some false := by decide +kernel
theorem kt_ii : ktn "int" "int" = some true := by decide +kernel
theorem kt_ib : ktn "int" "bool" = some false := by decide +kernel
theorem kt_nl : ktn "NoneType" "list" = some false := by decide +kernel
theorem kt_nt : ktn "NoneType" "tuple" = some false := by decide +kernel
theorem kt_tl : ktn "tuple" "list" = some false := by decide +kernel
theorem kt_tt : ktn "tuple" "tuple" = some true := by decide +kernel
theorem any_lst {K : PySem.W.Frag} : PySem.W.kitAny K (.type "list") (["list", "tuple"].map Value.type) = some true := by
  show (match PySem.W.kitOne K (.type "list") (.type "list") with | some true => some true | some false => PySem.W.kitAny K (.type "list") [.type "tuple"] | none => none) = some true
  rw [kit_n, kt_ll]
theorem any_two_f {K : PySem.W.Frag} {t : String} (h1 : ktn t "list" = some false) (h2 : ktn t "tuple" = some false) : PySem.W.kitAny K (.type t) (["list", "tuple"].map Value.type) = some false := by
  show (match PySem.W.kitOne K (.type t) (.type "list") with | some true => some true | some false => (match PySem.W.kitOne K (.type t) (.type "tuple") with | some true => some true | some false => some false | none => none) | none => none) = some false
  rw [kit_n, h1]
  show (match PySem.W.kitOne K (.type t) (.type "tuple") with | some true => some true | some false => some false | none => none) = some false
  rw [kit_n, h2]
theorem pss_no {X : Cx} {sts : List Stmt} : PSs X sts (fun _ _ _ => False) := fun _ _ _ _ _ _ h => h.elim
theorem pg_tupK {X : Cx} {K : PySem.W.Frag} {es : List Expr} {k : Nat} {t : TGs} {n : Nat} {pos : Pos} (hK : X.K = K) (hc : X.calm = true) (h : PGs X es t)
    (hn : (assignEach es X.env).length = n := by rfl) (hst : (assignEach es X.env).findIdx? (·.1) = none := by rfl) : PG X (.Tuple es k pos) (gTup K n t) := hK ▸ pg_tup hc h hn hst
theorem bl_t {Q : VK} {c : Prop} [Decidable c] {H : Hp} (h : c) (q : Q (.bl true) H) : Q (.bl (decide c)) H := by rw [decide_eq_true h]; exact q
theorem iteD {c A B : Prop} [Decidable c] (h : c) (a : A) : if decide c = true then A else B := by rw [if_pos (decide_eq_true h)]; exact a
theorem iteND {c A B : Prop} [Decidable c] (h : ¬ c) (a : B) : if decide c = true then A else B := by rw [if_neg (by rw [decide_eq_true_eq]; exact h)]; exact a
def Atom (v : V) : Prop := v = .non ∨ ∃ n : Int, v = .int n
def Sm : Nat → Hp → V → V → Prop
  | 0, _, x, y => x = y ∧ Atom x
  | n + 1, H, x, y => ∃ a b xs ys, x = .ref a ∧ y = .ref b ∧ H a = some (.lst xs) ∧ H b = some (.lst ys) ∧ xs.length = ys.length ∧ xs.length ≤ 900 ∧ ∀ (i : Nat) u v, xs[i]? = some u → ys[i]? = some v → Sm n H u v
theorem Sm.mono {H H' : Hp} (s : Same H H') : ∀ (n : Nat) {x y : V}, Sm n H x y → Sm n H' x y
  | 0, _, _, h => h
  | n + 1, _, _, ⟨a, b, xs, ys, e1, e2, h1, h2, l1, l2, q⟩ => ⟨a, b, xs, ys, e1, e2, s _ _ h1, s _ _ h2, l1, l2, fun i u v hu hv => (q i u v hu hv).mono s n⟩
theorem same_new {H H' : Hp} {p : Addr} {o : HO} (s : Same H H') (n : H' p = none) : Same H (upd H' p o) := fun b u e => keepN (s b u e) n
theorem same_own {H H' : Hp} {p : Addr} {o : HO} (s : Same H H') (n : H p = none) : Same H (upd H' p o) := fun b u e => keepO (s b u e) (ne_of_none e n)
end Hue
set_option Elab.async false
set_option linter.all false
set_option maxRecDepth 100000
set_option maxHeartbeats 4000000
namespace L2
open PySem PySem.Spec PyProof.Rows
section
variable {X : Cx}
end
end L2
set_option Elab.async false
set_option linter.all false
set_option maxRecDepth 100000
set_option maxHeartbeats 4000000
namespace L2
open PySem PySem.Spec PyProof.Rows
section
variable {κ : Type} [DecidableEq κ]
def valV (kvs : List (κ × V)) (k : κ) : Option V := (kvs.find? fun kv => decide (kv.1 = k)).map (·.2)
def putK (kvs : List (κ × V)) (k : κ) (v : V) : List (κ × V) :=
  if (kvs.any fun kv => decide (kv.1 = k)) = true then kvs.map (fun kv => if kv.1 = k then (kv.1, v) else kv) else kvs ++ [(k, v)]
def dropK (kvs : List (κ × V)) (k : κ) : List (κ × V) := kvs.filter fun kv => decide (kv.1 ≠ k)
theorem RelO.getD {o : Option V} {u : Option Value} {d : V} {d' : Value} (r : RelO o u) (rd : RelV d d') : RelV (o.getD d) (u.getD d') := by
  cases o with
  | none => cases u with
    | none => exact rd
    | some _ => exact (show False from r).elim
  | some _ => cases u with
    | none => exact (show False from r).elim
    | some _ => exact r
theorem KV.any {kvs : List (κ × V)} {vs : List (κ × Value)} (r : KV kvs vs) (k : κ) : (kvs.any fun kv => decide (kv.1 = k)) = vs.any fun kv => decide (kv.1 = k) := by
  unfold KV at r
  induction r with
  | nil => rfl
  | cons h t ih => rw [List.any_cons, List.any_cons, ih, h.1]
theorem KV.drop {kvs : List (κ × V)} {vs : List (κ × Value)} (r : KV kvs vs) (k : κ) : KV (dropK kvs k) (without vs k) := by
  unfold KV at r ⊢
  unfold dropK without
  induction r with
  | nil => exact .nil
  | @cons p q ps qs h t ih =>
    obtain ⟨h1, h2⟩ := h
    rw [List.filter_cons, List.filter_cons]
    by_cases e : p.1 = k
    · have a : ¬ decide (p.1 ≠ k) = true := by simp [e]
      have b : ¬ decide (q.1 ≠ k) = true := by simp [h1.symm.trans e]
      rw [if_neg a, if_neg b]; exact ih
    · have e' : ¬ q.1 = k := fun z => e (h1.trans z)
      have a : decide (p.1 ≠ k) = true := by simp [e]
      have b : decide (q.1 ≠ k) = true := by simp [e']
      rw [if_pos a, if_pos b]; exact .cons ⟨h1, h2⟩ ih
theorem KV.keys {kvs : List (κ × V)} {vs : List (κ × Value)} (r : KV kvs vs) : kvs.map (·.1) = vs.map (·.1) := by
  unfold KV at r
  induction r with
  | nil => rfl
  | cons h t ih => rw [List.map_cons, List.map_cons, ih, h.1]
theorem KV.length {kvs : List (κ × V)} {vs : List (κ × Value)} (r : KV kvs vs) : kvs.length = vs.length := Paired.length r
end
abbrev KT (H : Hp) : List (List Key × V) → List (List Key × Addr × Value) → Prop := Paired fun p q => p.1 = q.1 ∧ H q.2.1 = some (.tup (p.1.map kV)) ∧ RelV p.2 q.2.2
theorem KT.keeps {H H' : Hp} {kvs : List (List Key × V)} {xs : List (List Key × Addr × Value)} (r : KT H kvs xs) (ht : ∀ b ys, H b = some (.tup ys) → H' b = some (.tup ys)) : KT H' kvs xs :=
  Paired.mapP r fun _ _ z => ⟨z.1, ht _ _ z.2.1, z.2.2⟩
section
variable {P : Program} {w : World} {H : Hp} {h : Heap} {a : Addr}
end
def DGet (H : Hp) (a : Addr) (y : V) (r : Option V) : Prop :=
  (∃ kvs k, Rd H a (.dK kvs) ∧ y = kV k ∧ r = valV kvs k) ∨ ∃ kvs k b, Rd H a (.dT kvs) ∧ y = .ref b ∧ H b = some (.tup (k.map kV)) ∧ r = valV kvs k
def DPut (H : Hp) (a : Addr) (y v : V) (H' : Hp) : Prop :=
  (∃ kvs k, H a = some (.dK kvs) ∧ y = kV k ∧ kvs.length < sizeLine ∧ H' = upd H a (.dK (putK kvs k v))) ∨
  ∃ kvs k b, H a = some (.dT kvs) ∧ y = .ref b ∧ H b = some (.tup (k.map kV)) ∧ kvs.length < sizeLine ∧ H' = upd H a (.dT (putK kvs k v))
theorem DGet.k {H : Hp} {a : Addr} {kvs : List (Key × V)} {k : Key} (e : H a = some (.dK kvs)) : DGet H a (kV k) (valV kvs k) := .inl ⟨kvs, k, .inl e, rfl, rfl⟩
theorem DGet.t {H : Hp} {a b : Addr} {kvs : List (List Key × V)} {k : List Key} (e : H a = some (.dT kvs)) (eb : H b = some (.tup (k.map kV))) : DGet H a (.ref b) (valV kvs k) := .inr ⟨kvs, k, b, .inl e, rfl, eb, rfl⟩
theorem DPut.k {H : Hp} {a : Addr} {kvs : List (Key × V)} {k : Key} {v : V} (e : H a = some (.dK kvs)) (hl : kvs.length < sizeLine) : DPut H a (kV k) v (upd H a (.dK (putK kvs k v))) := .inl ⟨kvs, k, e, rfl, hl, rfl⟩
theorem DPut.t {H : Hp} {a b : Addr} {kvs : List (List Key × V)} {k : List Key} {v : V} (e : H a = some (.dT kvs)) (eb : H b = some (.tup (k.map kV))) (hl : kvs.length < sizeLine) :
    DPut H a (.ref b) v (upd H a (.dT (putK kvs k v))) := .inr ⟨kvs, k, b, e, rfl, eb, hl, rfl⟩
section
variable {X : Cx} {pins : List (Addr × Obj)} {σ : St} {H : Hp} {s : Shared} {a : Addr} {y v : V} {u r : Value} {o : Option V} {A : Around} {E : Value → Shared → Prop}
end
section
variable {X : Cx} {pins : List (Addr × Obj)} {σ : St} {H : Hp} {s : Shared} {a : Addr} {kvs : List (Key × V)} {k : Key} {u : Value} {A : Around} {E : Value → Shared → Prop}
end
section
variable {X : Cx} {o i e value : Expr} {pos pos' tpos : Pos} {td ty tv : TE}
end
section
variable {X : Cx} {pos : Pos}
end
section
variable {X : Cx} {pins : List (Addr × Obj)} {σ : St} {H : Hp} {s : Shared} {a : Addr} {y d : V} {u r : Value} {o : Option V} {A : Around} {E : Value → Shared → Prop}
end
section
variable {X : Cx} {o e f : Expr} {apos cpos : Pos} {td ty tx : TE}
end
section
variable {X : Cx} {pins : List (Addr × Obj)} {σ : St} {H : Hp} {s : Shared} {a : Addr} {kvs : List (Key × V)} {A : Around} {E : Value → Shared → Prop}
end
section
variable {X : Cx} {pins : List (Addr × Obj)} {σ : St} {H : Hp} {s : Shared} {a : Addr} {y : V} {u : Value} {A : Around} {E : Value → Shared → Prop}
end
end L2
namespace L2
open PySem PySem.Spec PyProof.Rows
section
variable {X : Cx}
end
section
variable {κ : Type} [DecidableEq κ]
end
end L2
set_option Elab.async false
set_option linter.all false
set_option maxRecDepth 100000
set_option maxHeartbeats 4000000
namespace L2
open PySem PySem.Spec PyProof.Rows
section
variable {prog : Program} {w : World} {A : Around} {E : Value → Shared → Prop} {s : Shared}
end
section
variable {X : Cx} {pins : List (Addr × Obj)} {σ : St} {H : Hp} {s : Shared} {a : Addr} {A : Around} {E : Value → Shared → Prop}
end
section
variable {X : Cx} {o e f : Expr} {apos cpos : Pos} {td ty tx : TE}
end
end L2
set_option Elab.async false
set_option linter.all false
set_option maxRecDepth 100000
set_option maxHeartbeats 4000000
namespace L2
open PySem PySem.Spec PyProof.Rows
section
variable {X : Cx}
def rIndex : V → List V → Hp → VK → Prop := fun x vs H Q => ∃ (l : Addr) (ns : List Int) (n : Int) (j : Nat), x = .ref l ∧ vs = [.int n] ∧ H l = some (.lst (ns.map V.int)) ∧ ns[j]? = some n ∧ (∀ m, m < j → ns[m]? ≠ some n) ∧ Q (.int (j : Nat)) H
theorem mt_index : MtM X "list.index" rIndex := by
  intro pins s σ H x vs v us Q I rx rv h
  obtain ⟨l, ns, n, j, rfl, rfl, hH, hj, hno, q⟩ := h
  cases rx
  obtain ⟨u, rfl, ru⟩ := rv.one
  obtain ⟨z, its, k, r, hl, e⟩ := I.lstM hH
  have hlen := hl
  rw [List.length_map] at hlen z
  have hjl : j < ns.length := (List.getElem?_eq_some_iff.mp hj).1
  have hjs : j < its.toArray.size := by rw [List.size_toArray]; omega
  have fl : (ns.map V.int).all flatV = true := List.all_eq_true.mpr fun v hv => by
    obtain ⟨n, _, rfl⟩ := List.mem_map.mp hv
    rfl
  have at' : ∀ m (hm : m < its.toArray.size), eqU (.int n) its.toArray[m] = (ns[m]'(by rw [List.size_toArray] at hm; omega) == n) := fun m hm => by
    have hm' : m < ns.length := by rw [List.size_toArray] at hm; omega
    obtain ⟨u', hu', ru'⟩ := r.get (show (ns.map V.int)[m]? = some (V.int ns[m]) by simp [hm'])
    have e2 : its.toArray[m] = u' := by
      have : its[m]? = some its.toArray[m] := by simp
      rw [hu'] at this
      exact (Option.some.inj this).symm
    rw [e2, eqU_of ru' rfl]
    rfl
  refine call_meets F.slot_list_index ⟨_, e, rfl⟩ F.entry_list_index (F.args_list_index_2 _ _)
    (SeqAt.list_indexAt l its.toArray k none #[] u (eqU (.int n)) j hjs ?_ ?_ ?_) ⟨e, ?_, ?_⟩
  · have : ns.length ≤ sizeLine := z
    have h2 := line63
    omega
  · rw [at' j hjs]
    have := (List.getElem?_eq_some_iff.mp hj).2
    simp [this]
  · intro m hm hmj
    rw [at' m hm]
    have hm' : m < ns.length := by rw [List.size_toArray] at hm; omega
    have := hno m hmj
    simpa [hm'] using this
  · intro y hy
    exact mem_eqAt ru rfl r fl y (by simpa using hy)
  · exact ⟨.int (j : Nat), H, I.tok _, ⟨_, rfl⟩, q⟩
end
end L2
set_option Elab.async false
set_option linter.all false
set_option maxRecDepth 100000
set_option maxHeartbeats 4000000
namespace L2
open PySem PySem.Spec PyProof.Rows
mutual
def Dat (H : Hp) : V → PyData → Prop
  | x, .none => x = .non
  | x, .bool b => x = .bl b
  | x, .int i => x = .int i
  | x, .str s => x = .str s
  | x, .list ds => ∃ a xs, x = .ref a ∧ H a = some (.lst xs) ∧ DatAll H xs ds
  | x, .tuple ds => ∃ a xs, x = .ref a ∧ H a = some (.tup xs) ∧ DatAll H xs ds
  | _, .dict _ => False
def DatAll (H : Hp) : List V → List PyData → Prop
  | [], [] => True
  | x :: xs, d :: ds => Dat H x d ∧ DatAll H xs ds
  | [], _ :: _ => False
  | _ :: _, [] => False
end
mutual
theorem Dat.mono {H H' : Hp} (k : ∀ b o, H b = some o → H' b = some o) : ∀ (x : V) (d : PyData), Dat H x d → Dat H' x d
  | _, .none, h => by unfold Dat at h ⊢; exact h
  | _, .bool _, h => by unfold Dat at h ⊢; exact h
  | _, .int _, h => by unfold Dat at h ⊢; exact h
  | _, .str _, h => by unfold Dat at h ⊢; exact h
  | x, .list ds, h => by
    unfold Dat at h ⊢
    obtain ⟨a, xs, e, h1, h2⟩ := h
    exact ⟨a, xs, e, k _ _ h1, DatAll.mono k xs ds h2⟩
  | x, .tuple ds, h => by
    unfold Dat at h ⊢
    obtain ⟨a, xs, e, h1, h2⟩ := h
    exact ⟨a, xs, e, k _ _ h1, DatAll.mono k xs ds h2⟩
  | _, .dict _, h => by unfold Dat at h; exact h.elim
theorem DatAll.mono {H H' : Hp} (k : ∀ b o, H b = some o → H' b = some o) : ∀ (xs : List V) (ds : List PyData), DatAll H xs ds → DatAll H' xs ds
  | [], [], _ => by unfold DatAll; trivial
  | x :: xs, d :: ds, h => by
    unfold DatAll at h ⊢
    exact ⟨Dat.mono k x d h.1, DatAll.mono k xs ds h.2⟩
  | [], _ :: _, h => by unfold DatAll at h; exact h.elim
  | _ :: _, [], h => by unfold DatAll at h; exact h.elim
end
theorem DatAll.length {H : Hp} : ∀ {xs : List V} {ds : List PyData}, DatAll H xs ds → xs.length = ds.length
  | [], [], _ => rfl
  | x :: xs, d :: ds, h => by unfold DatAll at h; simp [DatAll.length h.2]
  | [], _ :: _, h => by unfold DatAll at h; exact h.elim
  | _ :: _, [], h => by unfold DatAll at h; exact h.elim
theorem DatAll.get {H : Hp} : ∀ {xs : List V} {ds : List PyData} {i : Nat} {x : V}, DatAll H xs ds → xs[i]? = some x → ∃ d, ds[i]? = some d ∧ Dat H x d
  | x :: xs, d :: ds, 0, y, h, e => by
    unfold DatAll at h
    cases e
    exact ⟨d, rfl, h.1⟩
  | x :: xs, d :: ds, i + 1, y, h, e => by
    unfold DatAll at h
    exact DatAll.get (xs := xs) (ds := ds) (i := i) h.2 (by simpa using e)
  | [], [], i, y, _, e => by simp at e
  | [], _ :: _, i, y, h, e => by unfold DatAll at h; exact h.elim
  | _ :: _, [], i, y, h, e => by unfold DatAll at h; exact h.elim
theorem DatAll.app {H : Hp} : ∀ {xs : List V} {ds : List PyData} {ys : List V} {es : List PyData}, DatAll H xs ds → DatAll H ys es → DatAll H (xs ++ ys) (ds ++ es)
  | [], [], _, _, _, h => h
  | x :: xs, d :: ds, ys, es, h, h' => by
    unfold DatAll at h
    show DatAll H (x :: (xs ++ ys)) (d :: (ds ++ es))
    unfold DatAll
    exact ⟨h.1, h.2.app h'⟩
  | [], _ :: _, _, _, h, _ => by unfold DatAll at h; exact h.elim
  | _ :: _, [], _, _, h, _ => by unfold DatAll at h; exact h.elim
theorem DatAll.of {H : Hp} : ∀ {xs : List V}, (∀ x ∈ xs, ∃ d, Dat H x d) → ∃ ds, DatAll H xs ds
  | [], _ => ⟨[], by unfold DatAll; trivial⟩
  | x :: xs, h => by
    obtain ⟨d, hd⟩ := h x (List.mem_cons_self ..)
    obtain ⟨ds, hs⟩ := DatAll.of (xs := xs) fun y hy => h y (List.mem_cons_of_mem _ hy)
    exact ⟨d :: ds, by unfold DatAll; exact ⟨hd, hs⟩⟩
section
variable {X : Cx} {pins : List (Addr × Obj)} {σ : St} {H : Hp} {s : Shared}
mutual
theorem Inv.reads (I : Inv X pins σ H s) : ∀ (x : V) (d : PyData) (v : Value), Dat H x d → RelV x v → ∃ as, Reads s.heap v d as
  | _, .none, _, h, r => by unfold Dat at h; subst h; cases r; exact ⟨_, .none⟩
  | _, .bool _, _, h, r => by unfold Dat at h; subst h; cases r; exact ⟨_, .bool _⟩
  | _, .int _, _, h, r => by unfold Dat at h; subst h; obtain ⟨t, rfl⟩ := r; exact ⟨_, .int _ _⟩
  | _, .str _, _, h, r => by unfold Dat at h; subst h; obtain ⟨t, rfl⟩ := r; exact ⟨_, .str _ _⟩
  | x, .list ds, v, h, r => by
    unfold Dat at h
    obtain ⟨a, xs, rfl, h1, h2⟩ := h
    cases r
    obtain ⟨its, rv, pl, _⟩ := I.list (SqL.of h1)
    obtain ⟨o, n, ho, hc, _, hd⟩ := pl
    obtain ⟨as, ra⟩ := Inv.readsAll I xs ds its h2 rv
    exact ⟨_, .list ho hc hd (by simpa using ra)⟩
  | x, .tuple ds, v, h, r => by
    unfold Dat at h
    obtain ⟨a, xs, rfl, h1, h2⟩ := h
    cases r
    obtain ⟨its, rv, pl, _⟩ := I.tuple (SqT.of h1)
    obtain ⟨o, ho, hc, n, hd⟩ := pl
    obtain ⟨as, ra⟩ := Inv.readsAll I xs ds its h2 rv
    exact ⟨_, .tuple ho hc hd (by simpa using ra)⟩
  | _, .dict _, _, h, _ => by unfold Dat at h; exact h.elim
theorem Inv.readsAll (I : Inv X pins σ H s) : ∀ (xs : List V) (ds : List PyData) (vs : List Value), DatAll H xs ds → Vals xs vs → ∃ as, ReadsAll s.heap vs ds as
  | [], [], _, _, r => by cases r; exact ⟨_, .nil⟩
  | x :: xs, d :: ds, _, h, r => by
    unfold DatAll at h
    cases r with
    | cons r1 r2 =>
      obtain ⟨as, ra⟩ := Inv.reads I x d _ h.1 r1
      obtain ⟨bs, rb⟩ := Inv.readsAll I xs ds _ h.2 r2
      exact ⟨_, .cons ra rb⟩
  | [], _ :: _, _, h, _ => by unfold DatAll at h; exact h.elim
  | _ :: _, [], _, h, _ => by unfold DatAll at h; exact h.elim
end
end
mutual
theorem Dat.noDict {H : Hp} : ∀ (x : V) (d : PyData), Dat H x d → d.hasDict = false
  | _, .none, _ => by simp only [PyData.hasDict]
  | _, .bool _, _ => by simp only [PyData.hasDict]
  | _, .int _, _ => by simp only [PyData.hasDict]
  | _, .str _, _ => by simp only [PyData.hasDict]
  | x, .list ds, h => by
    unfold Dat at h
    obtain ⟨a, xs, e, h1, h2⟩ := h
    simp only [PyData.hasDict]
    exact DatAll.noDict xs ds h2
  | x, .tuple ds, h => by
    unfold Dat at h
    obtain ⟨a, xs, e, h1, h2⟩ := h
    simp only [PyData.hasDict]
    exact DatAll.noDict xs ds h2
  | _, .dict _, h => by unfold Dat at h; exact h.elim
theorem DatAll.noDict {H : Hp} : ∀ (xs : List V) (ds : List PyData), DatAll H xs ds → PyData.hasDictAll ds = false
  | [], [], _ => by simp only [PyData.hasDictAll]
  | x :: xs, d :: ds, h => by
    unfold DatAll at h
    simp only [PyData.hasDictAll, Bool.or_eq_false_iff]
    exact ⟨Dat.noDict x d h.1, DatAll.noDict xs ds h.2⟩
  | [], _ :: _, h => by unfold DatAll at h; exact h.elim
  | _ :: _, [], h => by unfold DatAll at h; exact h.elim
end
def strD : PyData → Str
  | .str x => x
  | d => d.shown
section
variable {X : Cx}
structure Fit (d : PyData) : Prop where
  sh : d.showable = true
  sz : d.shown.length ≤ sizeLine
  dp : d.depth ≤ 40
theorem call_strD (hg : X.A.guards = some []) (hu : X.A.units + 100 < cLine) : CallR X (.type "str") (fun xs H Q => ∃ x d, xs = [x] ∧ Dat H x d ∧ Fit d ∧ Q (.str (strD d)) H) := by
  intro pins s σ H xs us Q I r h
  obtain ⟨x, d, rfl, hd, f, q⟩ := h
  obtain ⟨u, rfl, ru⟩ := vals1 r
  have refs : ∀ a, u = .ref a → (∀ z, d ≠ .str z) → wpAny (model X.prog X.w) X.A (call (.type "str") [u]) (EP X pins σ Q) X.xe s := fun a e hn => by
    subst e
    obtain ⟨as, rd⟩ := I.reads x d _ hd ru
    refine str_of_reads rd f.sh (PyData.noDict_hsm (Dat.noDict x d hd)) hg (by have := f.dp; omega) (fun _ _ e => e) (fun h' u tk hk => ?_) f.sz
    refine ⟨.str d.shown, H, I.kept (t' := tk) hk, ⟨_, rfl⟩, ?_⟩
    have e : strD d = d.shown := by
      cases d with
      | str z => exact absurd rfl (hn z)
      | _ => rfl
    rw [← e]; exact q
  cases d with
  | none => unfold Dat at hd; subst hd; cases ru; exact P.str_of_none ⟨.str "None", H, I.tok _, ⟨_, rfl⟩, q⟩
  | bool b => unfold Dat at hd; subst hd; cases ru; exact P.str_of_bool ⟨.str (if b then "True" else "False"), H, I.tok _, ⟨_, rfl⟩, by cases b <;> exact q⟩
  | int i => unfold Dat at hd; subst hd; obtain ⟨t, rfl⟩ := ru; exact P.str_of_int (by have := f.sh; simpa [PyData.showable] using this) ⟨.str (toString i), H, I.tok _, ⟨_, rfl⟩, q⟩
  | str z => unfold Dat at hd; subst hd; obtain ⟨t, rfl⟩ := ru; exact P.str_of_str ⟨.str z, H, I, ⟨_, rfl⟩, q⟩
  | list ds =>
    have hd' := hd
    unfold Dat at hd'
    obtain ⟨a, xs, rfl, _⟩ := hd'
    exact refs a ru (fun z e => nomatch e)
  | tuple ds =>
    have hd' := hd
    unfold Dat at hd'
    obtain ⟨a, xs, rfl, _⟩ := hd'
    exact refs a ru (fun z e => nomatch e)
  | dict _ => unfold Dat at hd; exact hd.elim
end
section
variable {X : Cx} {a b c d : Expr} {ta tb tc td : TE} {pos : Pos}
end
section
variable {X : Cx} {a b : Expr} {ta : TE} {pos : Pos}
end
section
variable {X : Cx}
end
section
variable {prog : Program} {w : World} {A : Around} {E : Value → Shared → Prop} {s : Shared}
end
section
variable {X : Cx}
end
end L2
set_option Elab.async false
set_option linter.all false
set_option maxRecDepth 100000
set_option maxHeartbeats 4000000
namespace L2
open PySem PySem.Spec PyProof.Rows
theorem b_set : bootBuiltins "set" = some (.type "set") := by decide +kernel
section
variable {X : Cx}
end
section
variable {prog : Program} {w : World} {A : Around} {E : Value → Shared → Prop} {s : Shared}
def IsPr (h : Heap) (v : Value) (a b : Int) : Prop := ∃ p o n t u, v = .ref p ∧ h.get? p = some o ∧ o.cls = .type "tuple" ∧ o.data = .seq #[.int a t, .int b u] n
theorem IsPr.at {h h' : Heap} {v : Value} {a b : Int} (x : IsPr h v a b) (k : ∀ p o, h.get? p = some o → o.cls = .type "tuple" → h'.get? p = some o) : IsPr h' v a b := by
  obtain ⟨p, o, n, t1, t2, e, ho, hc, hd⟩ := x
  exact ⟨p, o, n, t1, t2, e, k p o ho hc, hc, hd⟩
end
section
variable {X : Cx}
end
section
variable {prog : Program} {w : World} {κ : Type} [DecidableEq κ] {knd : HeapKind prog w κ} {A : Around} {E : Value → Shared → Prop} {s : Shared}
end
section
variable {X : Cx}
end
end L2
set_option Elab.async false
set_option linter.all false
set_option maxRecDepth 100000
set_option maxHeartbeats 4000000
namespace L2
open PySem PySem.Spec PyProof.Rows
def Up (xs : Array Nat) : Prop := ∀ i j (hi : i < xs.size) (hj : j < xs.size), i < j → xs[i] < xs[j]
structure Tab (w : World) (t : SetTable) : Prop where
  up : Up t.place
  no : t.dummies = #[]
  led : t.led = !w.params.followText "set-order"
def SetX (prog : Program) (w : World) (h : Heap) (a : Addr) (L : List Int) : Prop :=
  ∃ o es ep t, h.get? a = some o ∧ o.ExactSet ∧ o.data = .set es ep t ∧ ElemsOf (intKind prog w) es.toList ∧ es.size < scanBound ∧ t.fits es.size = true ∧ Tab w t ∧ (es.toList.map fun e => numOf e.2).Perm L
section
variable {prog : Program} {w : World} {A : Around} {E : Value → Shared → Prop} {s : Shared}
theorem SetX.keep {h h' : Heap} {a : Addr} {L : List Int} (x : SetX prog w h a L) (k : ∀ o, h.get? a = some o → h'.get? a = some o) : SetX prog w h' a L := by
  obtain ⟨o, es, ep, t, ho, r⟩ := x
  exact ⟨o, es, ep, t, k o ho, r⟩
theorem int_num {k : Int} {v : Value} (h : (intKind prog w).is k v = true) : numOf v = k := by
  obtain ⟨t, rfl⟩ := Value.isInt_shape (k := k) (v := v) h
  rfl
end
section
variable {prog : Program} {w : World} {A : Around} {R : Result → Shared → Prop} {I : Addr} {fp wr : List Addr} {G : Array GenState → Array GenState → Prop} {n : Nat} {P : Nat → Value → Prop} {St : Nat → Shared → Prop}
end
section
variable {prog : Program} {w : World} {A : Around} {E : Value → Shared → Prop} {s : Shared}
end
end L2
set_option Elab.async false
set_option linter.all false
set_option maxRecDepth 100000
set_option maxHeartbeats 4000000
namespace L2
open PySem PySem.Spec PyProof.Rows
namespace SiF
end SiF
section
variable {prog : Program} {w : World} {A : Around} {E : Value → Shared → Prop}
end
end L2
set_option Elab.async false
set_option linter.all false
set_option maxRecDepth 100000
set_option maxHeartbeats 400000
namespace L2
open PySem PySem.Spec PyProof.Rows
def SetAt (w : World) (h : Heap) (a : Addr) (es : Array (Int × Value)) (ep : Nat) (t : SetTable) : Prop := ∃ o, h.get? a = some o ∧ o.cls = .type "set" ∧ o.data = .set es ep t ∧ t.fits es.size = true ∧ Tab w t
theorem SetAt.keep {w : World} {h h' : Heap} {a : Addr} {es : Array (Int × Value)} {ep : Nat} {t : SetTable} (x : SetAt w h a es ep t) (k : ∀ o, h.get? a = some o → h'.get? a = some o) : SetAt w h' a es ep t := let ⟨o, e, r⟩ := x; ⟨o, k o e, r⟩
def slotAt (t : SetTable) (i : Nat) : Nat := if i = 0 then 0 else t.place.getD (i - 1) 0 + 1
inductive Way (w : World) (h : Heap) (T0 S : Addr) (es : Array (Int × Value)) (ep : Nat) (t : SetTable) (fs : List (Int × Value)) (i : Nat) : Value → Prop where
  | text (hw : w.params.followText "set-order" = true) (hf : fs = (pickOrder (w.params.setOrder S ep) es).toList) : Way w h T0 S es ep t fs i (.int 0 0)
  | table (hw : w.params.followText "set-order" = false) (hd : (!t.plain && decide (es.size > 1)) = false) (hf : fs = es.toList) : Way w h T0 S es ep t fs i (.int (slotAt t i : Nat) 0)
  | drawn (hw : w.params.followText "set-order" = false) (pl : List Nat) (o : Obj) (n : Nat) (ho : h.get? T0 = some o) (hd : o.data = .seq (pl.map fun k => Value.int (k : Nat) 0).toArray n) (hl : pl.length = fs.length)
      (hf : ∀ (k : Nat) p, pl[k]? = some p → es[p]? = fs[k]?) : Way w h T0 S es ep t fs i (.ref T0)
def Sit (w : World) (h : Heap) (T0 I S : Addr) (es : Array (Int × Value)) (ep : Nat) (t : SetTable) (fs : List (Int × Value)) (i : Nat) : Prop :=
  ∃ o first, h.get? I = some o ∧ o.cls = .type "set_iterator" ∧ o.data = .fields #[first, .int (i : Nat) 0, .ref S, .int (es.size : Nat) 0, .int (ep : Nat) 0] ∧ Way w h T0 S es ep t fs i first
section
variable {prog : Program} {w : World} {A : Around} {E : Value → Shared → Prop} {s : Shared} {T0 I S : Addr} {es : Array (Int × Value)} {ep : Nat} {t : SetTable} {fs : List (Int × Value)} {i : Nat}
theorem Sit.typeIs (x : Sit w s.heap T0 I S es ep t fs i) : s.TypeIs (.ref I) "set_iterator" := let ⟨o, _, e, c, _⟩ := x; ⟨o, e, c⟩
theorem Sit.keep {h h' : Heap} (x : Sit w h T0 I S es ep t fs i) (k : ∀ b, b = I ∨ b = T0 → ∀ o, h.get? b = some o → h'.get? b = some o) : Sit w h' T0 I S es ep t fs i := by
  obtain ⟨o, first, ho, hc, hd, W⟩ := x
  refine ⟨o, first, k I (.inl rfl) _ ho, hc, hd, ?_⟩
  cases W with
  | text hw hf => exact .text hw hf
  | table hw hp hf => exact .table hw hp hf
  | drawn hw pl oT n hoT hdT hl hf => exact .drawn hw pl oT n (k T0 (.inr rfl) _ hoT) hdT hl hf
end
end L2
set_option Elab.async false
set_option linter.all false
set_option maxRecDepth 100000
set_option maxHeartbeats 800000
namespace L2
open PySem PySem.Spec PyProof.Rows
section
variable {prog : Program} {w : World} {A : Around} {E : Value → Shared → Prop} {s : Shared} {S : Addr} {es : Array (Int × Value)} {ep : Nat} {t : SetTable}
end
section
variable {prog : Program} {w : World} {A : Around} {E : Value → Shared → Prop} {s : Shared}
end
section
variable {X : Cx}
end
end L2
set_option Elab.async false
set_option linter.all false
set_option maxRecDepth 100000
set_option maxHeartbeats 1500000
namespace Hue
open PySem L2
theorem iteFF {b : Bool} {A B : Prop} (h : b = false) (hB : B) : if b = true then A else B := by subst h; exact iteF hB
theorem iteTT {b : Bool} {A B : Prop} (h : b = true) (hA : A) : if b = true then A else B := by subst h; exact iteT hA
theorem iteNT {c A B : Prop} [Decidable c] (h : ¬ c) (a : A) : if (!decide c) = true then A else B := by
  rw [decide_eq_false h]
  exact iteT a
theorem ix_or {X : Cx} {r1 r2 : R2} (h1 : IxR X r1) (h2 : IxR X r2) : IxR X (fun x y H Q => r1 x y H Q ∨ r2 x y H Q) := fun a b pins s σ H x y v u Q I rx ry h hs => h.elim (fun h => h1 a b pins s σ H x y v u Q I rx ry h hs) (fun h => h2 a b pins s σ H x y v u Q I rx ry h hs)
def rIxS (K : PySem.W.Frag) : R2 := fun x y H Q => rIxL K x y H Q ∨ rIxT K x y H Q
theorem ix_seqK {X : Cx} {K : PySem.W.Frag} (hK : X.K = K) : IxR X (rIxS K) := ix_or (ix_listK hK) (ix_tupK hK)
def WebE (H : Hp) (w : Addr) (m : Int) (es : List (Int × Int)) : Prop := ∃ (ta : Addr) (ts : List V), H w = some (.tup [.int m, .ref ta]) ∧ H ta = some (.tup ts) ∧ ts.length = es.length ∧
  (∀ (k : Nat) v, ts[k]? = some v → ∃ q e, v = .ref q ∧ es[k]? = some e ∧ H q = some (.tup [.int e.1, .int e.2])) ∧ (∀ e ∈ es, 0 ≤ e.1 ∧ e.1 < e.2 ∧ e.2 < m) ∧ es.length ≤ 63 ∧ 0 ≤ m ∧ m ≤ 13
theorem WebE.mono {H H' : Hp} {w : Addr} {m : Int} {es : List (Int × Int)} (h : WebE H w m es) (k : KeepT H H') : WebE H' w m es :=
  let ⟨ta, ts, a, b, c, d, r⟩ := h
  ⟨ta, ts, k _ _ a, k _ _ b, c, fun i v hv => let ⟨q, e, e1, e2, e3⟩ := d i v hv; ⟨q, e, e1, e2, k _ _ e3⟩, r⟩
theorem ties_pure {H : Hp} {m : Int} : ∀ (ts : List V), Ties H m ts → ∃ es : List (Int × Int), ts.length = es.length ∧ (∀ (k : Nat) v, ts[k]? = some v → ∃ q e, v = .ref q ∧ es[k]? = some e ∧ H q = some (.tup [.int e.1, .int e.2])) ∧ (∀ e ∈ es, 0 ≤ e.1 ∧ e.1 < e.2 ∧ e.2 < m)
  | [], _ => ⟨[], rfl, fun k v h => by simp at h, fun _ h => nomatch h⟩
  | v :: ts, h => by
    obtain ⟨es, h1, h2, h3⟩ := ties_pure ts (fun u hu => h u (List.mem_cons_of_mem _ hu))
    obtain ⟨q, i, j, e1, e2, e3⟩ := h v (List.mem_cons_self ..)
    refine ⟨(i, j) :: es, by simp [h1], fun k u hu => ?_, fun e he => ?_⟩
    · cases k with
      | zero =>
        simp at hu
        subst hu
        exact ⟨q, (i, j), e1, rfl, e2⟩
      | succ k => exact h2 k u (by simpa using hu)
    · rcases List.mem_cons.mp he with rfl | he
      · exact e3
      · exact h3 e he
theorem WebAt.pure {H : Hp} {w : Addr} {m : Int} {ts : List V} (h : WebAt H w m ts) : ∃ es, WebE H w m es ∧ es.length = ts.length := by
  obtain ⟨ta, a, b, c, d, r⟩ := h
  obtain ⟨es, h1, h2, h3⟩ := ties_pure ts c
  exact ⟨es, ⟨ta, ts, a, b, h1, h2, h3, by omega, r.1, Int.le_trans r.2 (by decide)⟩, h1.symm⟩
theorem sameKT {H H' : Hp} (s : Same H H') : KeepT H H' := fun b xs h => s b _ h
def SeqA (H : Hp) (a : Addr) (row : List V) : Prop := H a = some (.lst row) ∨ H a = some (.tup row)
theorem SeqA.same {H H' : Hp} {a : Addr} {row : List V} (h : SeqA H a row) (s : Same H H') : SeqA H' a row := h.imp (s _ _) (s _ _)
theorem pi_or {X : Cx} {tg l : Expr} {w1 w2 : TI} (h1 : PI X tg l w1) (h2 : PI X tg l w2) : PI X tg l (fun σ H R => w1 σ H R ∨ w2 σ H R) := fun pins s σ H R I h => h.elim (h1 pins s σ H R I) (h2 pins s σ H R I)
end Hue
set_option Elab.async false
set_option linter.all false
set_option maxRecDepth 100000
set_option maxHeartbeats 1000000
namespace Hue
def lowO (ms : List Nat) (e : Nat × Nat) : Nat := min (ms.getD e.1 0) (ms.getD e.2 0)
def highO (ms : List Nat) (e : Nat × Nat) : Nat := max (ms.getD e.1 0) (ms.getD e.2 0)
def bring (ms : List Nat) (e : Nat × Nat) : List Nat := ms.map fun x => if x = highO ms e then lowO ms e else x
def marks (n : Nat) (es : List (Nat × Nat)) : List Nat := es.foldl bring (List.range n)
structure Mk (n : Nat) (ms : List Nat) : Prop where
  len : ms.length = n
  le : ∀ i (h : i < ms.length), ms[i] ≤ i
  fix : ∀ i (h : i < ms.length), ms[ms[i]]? = some ms[i]
theorem mk_range (n : Nat) : Mk n (List.range n) := ⟨by simp, fun i h => by simp, fun i h => by
    have hi : i < n := by simpa using h
    simp [List.getElem?_range, hi]⟩
theorem mk_bring {n : Nat} {ms : List Nat} (M : Mk n ms) {e : Nat × Nat} (h1 : e.1 < n) (h2 : e.2 < n) : Mk n (bring ms e) := by
  have l1 : e.1 < ms.length := by rw [M.len]; exact h1
  have l2 : e.2 < ms.length := by rw [M.len]; exact h2
  have g1 : ms.getD e.1 0 = ms[e.1] := by simp [List.getD, l1]
  have g2 : ms.getD e.2 0 = ms[e.2] := by simp [List.getD, l2]
  have fl : ms[lowO ms e]? = some (lowO ms e) := by
    unfold lowO
    rw [g1, g2]
    rcases Nat.le_total ms[e.1] ms[e.2] with z | z
    · rw [Nat.min_eq_left z]; exact M.fix _ l1
    · rw [Nat.min_eq_right z]; exact M.fix _ l2
  have hlh : lowO ms e ≤ highO ms e := by unfold lowO highO; omega
  have at' : ∀ i (h : i < (bring ms e).length), (bring ms e)[i] = if ms[i]'(by simpa [bring] using h) = highO ms e then lowO ms e else ms[i]'(by simpa [bring] using h) := fun i h => by simp [bring]
  refine ⟨by rw [bring, List.length_map, M.len], fun i h => ?_, fun i h => ?_⟩
  · rw [at' i h]
    have hi : i < ms.length := by simpa [bring] using h
    have := M.le i hi
    split
    · rename_i q; omega
    · exact this
  · have hi : i < ms.length := by simpa [bring] using h
    have key : ∀ v, ms[v]? = some v → (v ≠ highO ms e ∨ v = lowO ms e) → (bring ms e)[v]? = some v := by
      intro v hv q
      unfold bring
      rw [List.getElem?_map, hv]
      show some (if v = highO ms e then lowO ms e else v) = some v
      rcases q with q | q
      · rw [if_neg q]
      · split
        · rw [← q]
        · rfl
    rw [at' i h]
    split
    · exact key _ fl (.inr rfl)
    · rename_i q
      exact key _ (M.fix i hi) (.inl q)
theorem mk_marks {n : Nat} : ∀ {es : List (Nat × Nat)} {ms : List Nat}, Mk n ms → (∀ e ∈ es, e.1 < n ∧ e.2 < n) → Mk n (es.foldl bring ms)
  | [], _, M, _ => M
  | e :: es, ms, M, h => mk_marks (es := es) (ms := bring ms e) (mk_bring M (h e (List.mem_cons_self ..)).1 (h e (List.mem_cons_self ..)).2) fun f hf => h f (List.mem_cons_of_mem _ hf)
def Cl (es : List (Nat × Nat)) (C : Nat → Prop) : Prop := ∀ e ∈ es, C e.1 ↔ C e.2
theorem bring_at {ms : List Nat} {e : Nat × Nat} {p : Nat} (h : p < ms.length) : (bring ms e).getD p 0 = if ms.getD p 0 = highO ms e then lowO ms e else ms.getD p 0 := by
  unfold bring
  simp [List.getD, h]
theorem bring_len {ms : List Nat} {e : Nat × Nat} : (bring ms e).length = ms.length := by simp [bring]
theorem lh_cases (ms : List Nat) (e : Nat × Nat) : (lowO ms e = ms.getD e.1 0 ∧ highO ms e = ms.getD e.2 0) ∨ (lowO ms e = ms.getD e.2 0 ∧ highO ms e = ms.getD e.1 0) := by
  unfold lowO highO
  rcases Nat.le_total (ms.getD e.1 0) (ms.getD e.2 0) with z | z
  · exact .inl ⟨Nat.min_eq_left z, Nat.max_eq_right z⟩
  · exact .inr ⟨Nat.min_eq_right z, Nat.max_eq_left z⟩
theorem cl_bring {n : Nat} {C : Nat → Prop} : ∀ {es : List (Nat × Nat)} {ms : List Nat}, ms.length = n → (∀ e ∈ es, e.1 < n ∧ e.2 < n) → Cl es C → (∀ p, p < n → (C p ↔ C (ms.getD p 0))) → ∀ p, p < n → (C p ↔ C ((es.foldl bring ms).getD p 0))
  | [], _, _, _, _, h => h
  | e :: es, ms, hl, hn, hc, h => by
    refine cl_bring (es := es) (ms := bring ms e) (by rw [bring_len, hl]) (fun f hf => hn f (List.mem_cons_of_mem _ hf)) (fun f hf => hc f (List.mem_cons_of_mem _ hf)) fun p hp => ?_
    have he := hn e (List.mem_cons_self ..)
    have c1 := h e.1 he.1
    have c2 := h e.2 he.2
    have c0 := hc e (List.mem_cons_self ..)
    have hp0 := h p hp
    rw [bring_at (by omega)]
    split
    · rename_i z
      rw [z] at hp0
      rcases lh_cases ms e with ⟨a, b⟩ | ⟨a, b⟩
      · rw [a]; rw [b] at hp0; exact hp0.trans (c2.symm.trans (c0.symm.trans c1))
      · rw [a]; rw [b] at hp0; exact hp0.trans (c1.symm.trans (c0.trans c2))
    · exact hp0
theorem cl_marks {n : Nat} {es : List (Nat × Nat)} {C : Nat → Prop} (hn : ∀ e ∈ es, e.1 < n ∧ e.2 < n) (hc : Cl es C) {p : Nat} (hp : p < n) : C p ↔ C ((marks n es).getD p 0) := by
  refine cl_bring (ms := List.range n) (by simp) hn hc (fun q hq => ?_) p hp
  simp [List.getD, hq]
theorem eq_bring {n : Nat} {a b : Nat} : ∀ {es : List (Nat × Nat)} {ms : List Nat}, ms.length = n → a < n → b < n → ms.getD a 0 = ms.getD b 0 → (es.foldl bring ms).getD a 0 = (es.foldl bring ms).getD b 0
  | [], _, _, _, _, h => h
  | e :: es, ms, hl, ha, hb, h => by
    refine eq_bring (es := es) (ms := bring ms e) (by rw [bring_len, hl]) ha hb ?_
    rw [bring_at (by omega), bring_at (by omega), h]
theorem ends_mark {n : Nat} : ∀ {es : List (Nat × Nat)} {ms : List Nat}, ms.length = n → (∀ e ∈ es, e.1 < n ∧ e.2 < n) → ∀ e ∈ es, (es.foldl bring ms).getD e.1 0 = (es.foldl bring ms).getD e.2 0
  | f :: es, ms, hl, hn, e, he => by
    rcases List.mem_cons.mp he with rfl | he
    · have hb := hn e (List.mem_cons_self ..)
      refine eq_bring (es := es) (ms := bring ms e) (by rw [bring_len, hl]) hb.1 hb.2 ?_
      rw [bring_at (by omega), bring_at (by omega)]
      rcases lh_cases ms e with ⟨a, b⟩ | ⟨a, b⟩
      · rw [a, b]; simp
      · rw [a, b]; simp
    · exact ends_mark (es := es) (ms := bring ms f) (by rw [bring_len, hl]) (fun g hg => hn g (List.mem_cons_of_mem _ hg)) e he
theorem marks_ends {n : Nat} {es : List (Nat × Nat)} (hn : ∀ e ∈ es, e.1 < n ∧ e.2 < n) : ∀ e ∈ es, (marks n es).getD e.1 0 = (marks n es).getD e.2 0 := ends_mark (by simp) hn
abbrev Sds := List (Option Nat)
def sAt (s : Sds) (p : Nat) : Option Nat := s.getD p none
def st1 (s : Sds) (a b : Nat) : Sds := match sAt s a, sAt s b with | some v, none => s.set b (some (1 - v)) | _, _ => s
def st2 (s : Sds) (e : Nat × Nat) : Sds := st1 (st1 s e.1 e.2) e.2 e.1
def rnd (es : List (Nat × Nat)) (s : Sds) : Sds := es.foldl st2 s
def rnds (es : List (Nat × Nat)) : Nat → Sds → Sds
  | 0, s => s
  | k + 1, s => rnd es (rnds es k s)
def beg (n : Nat) (es : List (Nat × Nat)) (s : Sds) (p : Nat) : Sds := if sAt s p = none then rnds es n (s.set p (some 0)) else s
def sidesTo (n : Nat) (es : List (Nat × Nat)) : Nat → Sds
  | 0 => List.replicate n none
  | k + 1 => beg n es (sidesTo n es k) k
theorem sAt_set {s : Sds} {p q : Nat} {v : Option Nat} (h : p < s.length) : sAt (s.set p v) q = if p = q then v else sAt s q := by
  unfold sAt
  simp only [List.getD_eq_getElem?_getD, List.getElem?_set]
  split
  · rename_i z; subst z; simp [h]
  · rfl
structure Grow (s s' : Sds) : Prop where
  len : s'.length = s.length
  keep : ∀ p v, sAt s p = some v → sAt s' p = some v
theorem Grow.refl (s : Sds) : Grow s s := ⟨rfl, fun _ _ h => h⟩
theorem Grow.trans {a b c : Sds} (x : Grow a b) (y : Grow b c) : Grow a c := ⟨y.len.trans x.len, fun p v h => y.keep p v (x.keep p v h)⟩
theorem grow1 (s : Sds) (a b : Nat) : Grow s (st1 s a b) := by
  unfold st1
  split
  · rename_i v h1 h2
    refine ⟨by simp, fun p u h => ?_⟩
    by_cases hb : b < s.length
    · rw [sAt_set hb]
      split
      · rename_i z; rw [z] at h2; rw [h] at h2; cases h2
      · exact h
    · rw [List.set_eq_of_length_le (by omega)]; exact h
  · exact Grow.refl _
theorem grow2 (s : Sds) (e : Nat × Nat) : Grow s (st2 s e) := (grow1 _ _ _).trans (grow1 _ _ _)
theorem growR : ∀ (es : List (Nat × Nat)) (s : Sds), Grow s (rnd es s)
  | [], s => Grow.refl s
  | e :: es, s => (grow2 s e).trans (growR es (st2 s e))
theorem growN (es : List (Nat × Nat)) : ∀ (k : Nat) (s : Sds), Grow s (rnds es k s)
  | 0, s => Grow.refl s
  | k + 1, s => (growN es k s).trans (growR es _)
theorem all1 {s : Sds} {a b : Nat} {F : Nat → Nat → Prop} (h : ∀ p v, sAt s p = some v → F p v) (hf : ∀ v, F a v → F b (1 - v)) : ∀ p v, sAt (st1 s a b) p = some v → F p v := by
  unfold st1
  split
  · rename_i u h1 h2
    intro p v hp
    by_cases hb : b < s.length
    · rw [sAt_set hb] at hp
      split at hp
      · rename_i z
        cases hp
        rw [← z]; exact hf u (h a u h1)
      · exact h p v hp
    · rw [List.set_eq_of_length_le (by omega)] at hp; exact h p v hp
  · exact h
theorem all2 {s : Sds} {e : Nat × Nat} {F : Nat → Nat → Prop} (h : ∀ p v, sAt s p = some v → F p v) (h1 : ∀ v, F e.1 v → F e.2 (1 - v)) (h2 : ∀ v, F e.2 v → F e.1 (1 - v)) : ∀ p v, sAt (st2 s e) p = some v → F p v := all1 (all1 h h1) h2
theorem allR {F : Nat → Nat → Prop} : ∀ {es : List (Nat × Nat)} {s : Sds}, (∀ p v, sAt s p = some v → F p v) → (∀ e ∈ es, (∀ v, F e.1 v → F e.2 (1 - v)) ∧ ∀ v, F e.2 v → F e.1 (1 - v)) → ∀ p v, sAt (rnd es s) p = some v → F p v
  | [], _, h, _ => h
  | e :: es, s, h, he => allR (es := es) (s := st2 s e) (all2 h (he e (List.mem_cons_self ..)).1 (he e (List.mem_cons_self ..)).2) fun f hf => he f (List.mem_cons_of_mem _ hf)
theorem allN {F : Nat → Nat → Prop} {es : List (Nat × Nat)} (he : ∀ e ∈ es, (∀ v, F e.1 v → F e.2 (1 - v)) ∧ ∀ v, F e.2 v → F e.1 (1 - v)) : ∀ (k : Nat) {s : Sds}, (∀ p v, sAt s p = some v → F p v) → ∀ p v, sAt (rnds es k s) p = some v → F p v
  | 0, _, h => h
  | k + 1, _, h => allR (allN he k h) he
def Set' (s : Sds) (p : Nat) : Prop := ∃ v, sAt s p = some v
theorem st2_both {s : Sds} {e : Nat × Nat} (h1 : e.1 < s.length) (h2 : e.2 < s.length) (h : Set' s e.1 ∨ Set' s e.2) : Set' (st2 s e) e.1 ∧ Set' (st2 s e) e.2 := by
  have one : ∀ (s : Sds) (a b : Nat), b < s.length → Set' s a → Set' (st1 s a b) b := by
    intro s a b hb ⟨v, hv⟩
    unfold st1
    cases hs : sAt s b with
    | none => simp only [hv]; exact ⟨1 - v, by rw [sAt_set hb, if_pos rfl]⟩
    | some u => simp only [hv]; exact ⟨u, hs⟩
  have kp : ∀ {s s' : Sds} {p : Nat}, Grow s s' → Set' s p → Set' s' p := fun g ⟨v, hv⟩ => ⟨v, g.keep _ _ hv⟩
  have g1 := grow1 s e.1 e.2
  have g2 := grow1 (st1 s e.1 e.2) e.2 e.1
  rcases h with h | h
  · exact ⟨kp (g1.trans g2) h, kp g2 (one s e.1 e.2 h2 h)⟩
  · exact ⟨one _ e.2 e.1 (by rw [g1.len]; exact h1) (kp g1 h), kp (g1.trans g2) h⟩
theorem Set'.keep {s s' : Sds} {p : Nat} (g : Grow s s') (h : Set' s p) : Set' s' p := let ⟨v, hv⟩ := h; ⟨v, g.keep _ _ hv⟩
theorem rnd_both : ∀ {es : List (Nat × Nat)} {s : Sds}, (∀ e ∈ es, e.1 < s.length ∧ e.2 < s.length) → ∀ e ∈ es, (Set' s e.1 ∨ Set' s e.2) → Set' (rnd es s) e.1 ∧ Set' (rnd es s) e.2
  | f :: es, s, hn, e, he, h => by
    have g := grow2 s f
    rcases List.mem_cons.mp he with rfl | he
    · obtain ⟨a, b⟩ := st2_both (hn e (List.mem_cons_self ..)).1 (hn e (List.mem_cons_self ..)).2 h
      exact ⟨a.keep (growR es _), b.keep (growR es _)⟩
    · exact rnd_both (es := es) (s := st2 s f) (fun x hx => by rw [g.len]; exact hn x (List.mem_cons_of_mem _ hx)) e he (h.imp (·.keep g) (·.keep g))
def bare (s : Sds) : Nat := (s.filter Option.isNone).length
theorem bare_le (s : Sds) : bare s ≤ s.length := List.length_filter_le _ _
theorem bare_grow : ∀ {s s' : Sds}, s'.length = s.length → (∀ (p v : Nat), s[p]? = some (some v) → s'[p]? = some (some v)) → bare s' ≤ bare s
  | [], [], _, _ => Nat.le_refl _
  | x :: s, y :: s', hl, h => by
    have ih := bare_grow (s := s) (s' := s') (by simpa using hl) (fun p v hp => by simpa using h (p + 1) v (by simpa using hp))
    unfold bare at ih ⊢
    cases x with
    | none =>
      cases y with
      | none => simpa using ih
      | some v => simp; omega
    | some u =>
      have := h 0 u rfl
      simp at this
      subst this
      simpa using ih
theorem bare_less : ∀ {s s' : Sds} {q : Nat}, s'.length = s.length → (∀ (p v : Nat), s[p]? = some (some v) → s'[p]? = some (some v)) → s[q]? = some none → (∃ v, s'[q]? = some (some v)) → bare s' < bare s
  | x :: s, y :: s', q, hl, h, hq, hv => by
    have ht : ∀ (p v : Nat), s[p]? = some (some v) → s'[p]? = some (some v) := fun p v hp => by simpa using h (p + 1) v (by simpa using hp)
    cases q with
    | zero =>
      obtain ⟨v, hv⟩ := hv
      have e1 : x = none := by simpa using hq
      have e2 : y = some v := by simpa using hv
      subst e1 e2
      have := bare_grow (s := s) (s' := s') (by simpa using hl) ht
      unfold bare at this ⊢
      simp; omega
    | succ q =>
      have ih := bare_less (s := s) (s' := s') (q := q) (by simpa using hl) ht (by simpa using hq) (by simpa using hv)
      unfold bare at ih ⊢
      cases x with
      | none =>
        cases y with
        | none => simpa using ih
        | some v => simp; omega
      | some u =>
        have := h 0 u rfl
        simp at this
        subst this
        simpa using ih
theorem at_some {s : Sds} {p : Nat} {v : Nat} : sAt s p = some v ↔ s[p]? = some (some v) := by
  unfold sAt
  rw [List.getD_eq_getElem?_getD]
  cases h : s[p]? with
  | none => simp
  | some x => simp
theorem grow_at {s s' : Sds} (g : Grow s s') : ∀ (p v : Nat), s[p]? = some (some v) → s'[p]? = some (some v) := fun p v h => at_some.mp (g.keep p v (at_some.mpr h))
def Closed (es : List (Nat × Nat)) (s : Sds) : Prop := Cl es (Set' s)
theorem not_set {s : Sds} {p : Nat} (hp : p < s.length) (h : ¬ Set' s p) : s[p]? = some none := by
  rw [List.getElem?_eq_getElem hp]
  cases e : s[p] with
  | none => rfl
  | some v => exact absurd ⟨v, at_some.mpr (by rw [List.getElem?_eq_getElem hp, e])⟩ h
theorem set_at {s : Sds} {p : Nat} (h : Set' s p) : ∃ v, s[p]? = some (some v) := let ⟨v, hv⟩ := h; ⟨v, at_some.mp hv⟩
theorem rnd_less {es : List (Nat × Nat)} {s : Sds} (hn : ∀ e ∈ es, e.1 < s.length ∧ e.2 < s.length) (h : ¬ Closed es s) : bare (rnd es s) < bare s := by
  have g := growR es s
  have : ∃ e ∈ es, (Set' s e.1 ∧ ¬ Set' s e.2) ∨ (Set' s e.2 ∧ ¬ Set' s e.1) := by
    refine Classical.byContradiction fun no => h fun e he => ?_
    constructor
    · intro a; exact Classical.byContradiction fun b => no ⟨e, he, .inl ⟨a, b⟩⟩
    · intro a; exact Classical.byContradiction fun b => no ⟨e, he, .inr ⟨a, b⟩⟩
  obtain ⟨e, he, q⟩ := this
  have hb := hn e he
  rcases q with ⟨a, b⟩ | ⟨a, b⟩
  · exact bare_less g.len (grow_at g) (not_set hb.2 b) (set_at (rnd_both hn e he (.inl a)).2)
  · exact bare_less g.len (grow_at g) (not_set hb.1 b) (set_at (rnd_both hn e he (.inr a)).1)
theorem st_closed {s : Sds} {e : Nat × Nat} (h : Set' s e.1 ↔ Set' s e.2) : st2 s e = s := by
  have one : ∀ (s : Sds) (a b : Nat), (Set' s a → Set' s b) → st1 s a b = s := by
    intro s a b h
    unfold st1
    split
    · rename_i v h1 h2
      obtain ⟨u, hu⟩ := h ⟨v, h1⟩
      rw [hu] at h2; cases h2
    · rfl
  unfold st2
  rw [one s e.1 e.2 h.mp, one s e.2 e.1 h.mpr]
theorem rnd_closed : ∀ {es : List (Nat × Nat)} {s : Sds}, Closed es s → rnd es s = s
  | [], _, _ => rfl
  | e :: es, s, h => by
    show rnd es (st2 s e) = s
    rw [st_closed (h e (List.mem_cons_self ..))]
    exact rnd_closed fun f hf => h f (List.mem_cons_of_mem _ hf)
theorem rnds_closed {es : List (Nat × Nat)} {s : Sds} (hn : ∀ e ∈ es, e.1 < s.length ∧ e.2 < s.length) : ∀ k, Closed es (rnds es k s) ∨ bare (rnds es k s) + k ≤ bare s
  | 0 => .inr (Nat.le_refl _)
  | k + 1 => by
    by_cases hc : Closed es (rnds es k s)
    · exact .inl (by show Closed es (rnd es (rnds es k s)); rw [rnd_closed hc]; exact hc)
    · rcases rnds_closed hn k with h | h
      · exact absurd h hc
      · have g := growN es k s
        have := rnd_less (s := rnds es k s) (fun e he => by rw [g.len]; exact hn e he) hc
        exact .inr (by show bare (rnd es (rnds es k s)) + (k + 1) ≤ bare s; omega)
theorem rnds_all {es : List (Nat × Nat)} {s : Sds} {n : Nat} (hl : s.length = n) (hn : ∀ e ∈ es, e.1 < n ∧ e.2 < n) : Closed es (rnds es n s) := by
  have hn' : ∀ e ∈ es, e.1 < s.length ∧ e.2 < s.length := fun e he => by rw [hl]; exact hn e he
  rcases rnds_closed hn' n with h | h
  · exact h
  · have := bare_le s
    have h0 : bare (rnds es n s) = 0 := by omega
    have g := growN es n s
    have full : ∀ p, p < n → Set' (rnds es n s) p := fun p hp => Classical.byContradiction fun z => by
      have e := not_set (by rw [g.len, hl]; exact hp) z
      have hm := List.mem_of_getElem? e
      have : none ∈ (rnds es n s).filter Option.isNone := List.mem_filter.mpr ⟨hm, rfl⟩
      have : (rnds es n s).filter Option.isNone = [] := List.length_eq_zero_iff.mp h0
      simp_all
    exact fun e he => ⟨fun _ => full _ (hn e he).2, fun _ => full _ (hn e he).1⟩
structure Way (n : Nat) (es : List (Nat × Nat)) (k : Nat) (s : Sds) : Prop where
  len : s.length = n
  cl : Closed es s
  done : ∀ p, p < k → Set' s p
  mark : ∀ p v, sAt s p = some v → (marks n es).getD p 0 < k
  two : ∀ p v, sAt s p = some v → v < 2
theorem way {n : Nat} {es : List (Nat × Nat)} (hn : ∀ e ∈ es, e.1 < n ∧ e.2 < n) : ∀ k, k ≤ n → Way n es k (sidesTo n es k)
  | 0, _ => by
    have e : ∀ p, sAt (List.replicate n none) p = none := fun p => by
      unfold sAt
      rw [List.getD_eq_getElem?_getD, List.getElem?_replicate]
      split <;> rfl
    have ns : ∀ p, ¬ Set' (List.replicate n none) p := fun p ⟨v, h⟩ => by rw [e] at h; cases h
    exact ⟨by simp [sidesTo], fun e _ => ⟨fun h => absurd h (ns _), fun h => absurd h (ns _)⟩, fun p h => absurd h (Nat.not_lt_zero p), fun p v h => absurd ⟨v, h⟩ (ns p), fun p v h => absurd ⟨v, h⟩ (ns p)⟩
  | k + 1, hk => by
    have W := way hn k (by omega)
    have M : Mk n (marks n es) := mk_marks (mk_range n) hn
    show Way n es (k + 1) (beg n es (sidesTo n es k) k)
    unfold beg
    split
    · rename_i z
      generalize sidesTo n es k = s at W z
      have hks : k < s.length := by rw [W.len]; omega
      have ns : ¬ Set' s k := fun ⟨v, h⟩ => by rw [z] at h; cases h
      have hl : (s.set k (some 0)).length = n := by simp [W.len]
      have g := growN es n (s.set k (some 0))
      have ds : ∀ p, p < k + 1 → Set' (s.set k (some 0)) p := fun p hp => by
        by_cases e : k = p
        · exact ⟨0, by rw [sAt_set hks, if_pos e]⟩
        · obtain ⟨v, hv⟩ := W.done p (by omega)
          exact ⟨v, by rw [sAt_set hks, if_neg e]; exact hv⟩
      have hme := marks_ends hn
      refine ⟨by rw [g.len, hl], rnds_all hl hn, fun p hp => (ds p hp).keep g, ?_, ?_⟩
      · refine allN (F := fun p _ => (marks n es).getD p 0 < k + 1) (fun e he => ⟨fun v h => by rw [← hme e he]; exact h, fun v h => by rw [hme e he]; exact h⟩) n fun p v hp => ?_
        rw [sAt_set hks] at hp
        split at hp
        · rename_i e
          have hkm : k < (marks n es).length := by rw [M.len]; omega
          have := M.le k hkm
          rw [← e]
          simp [List.getD, hkm]; omega
        · have := W.mark p v hp; omega
      · refine allN (F := fun _ v => v < 2) (fun e he => ⟨fun v h => by omega, fun v h => by omega⟩) n fun p v hp => ?_
        rw [sAt_set hks] at hp
        split at hp
        · cases hp; omega
        · exact W.two p v hp
    · rename_i z
      refine ⟨W.len, W.cl, fun p hp => ?_, fun p v h => by have := W.mark p v h; omega, W.two⟩
      by_cases e : p = k
      · subst e
        cases h : sAt (sidesTo n es p) p with
        | none => exact absurd h z
        | some v => exact ⟨v, h⟩
      · exact W.done p (by omega)
theorem beg_fixed {n : Nat} {es : List (Nat × Nat)} (hn : ∀ e ∈ es, e.1 < n ∧ e.2 < n) {k : Nat} (hk : k < n) (z : sAt (sidesTo n es k) k = none) : (marks n es).getD k 0 = k := by
  have W := way hn k (by omega)
  have M : Mk n (marks n es) := mk_marks (mk_range n) hn
  have hkm : k < (marks n es).length := by rw [M.len]; omega
  have le := M.le k hkm
  have e : (marks n es).getD k 0 = (marks n es)[k] := by simp [List.getD, hkm]
  rcases Nat.lt_or_ge (marks n es)[k] k with h | h
  · have c := (cl_marks hn W.cl hk).mpr (by rw [e]; exact W.done _ h)
    obtain ⟨v, hv⟩ := c
    rw [z] at hv; cases hv
  · rw [e]; omega
theorem sides_uniq {n : Nat} {es : List (Nat × Nat)} (hn : ∀ e ∈ es, e.1 < n ∧ e.2 < n) {c : Nat → Nat} (h2 : ∀ p, p < n → c p < 2) (hp : ∀ e ∈ es, c e.1 ≠ c e.2) (h0 : ∀ f, f < n → (marks n es).getD f 0 = f → c f = 0) :
    ∀ k, k ≤ n → ∀ p v, sAt (sidesTo n es k) p = some v → v = c p
  | 0, _, p, v, h => by
    unfold sidesTo sAt at h
    rw [List.getD_eq_getElem?_getD, List.getElem?_replicate] at h
    split at h <;> cases h
  | k + 1, hk, p, v, h => by
    have ih := sides_uniq hn h2 hp h0 k (by omega)
    have h' : sAt (beg n es (sidesTo n es k) k) p = some v := h
    unfold beg at h'
    split at h'
    · rename_i z
      have W := way hn k (by omega)
      have hks : k < (sidesTo n es k).length := by rw [W.len]; omega
      refine allN (F := fun p v => v = c p) (fun e he => ?_) n (s := (sidesTo n es k).set k (some 0)) (fun q u hq => ?_) p v h'
      · have a := h2 e.1 (hn e he).1
        have b := h2 e.2 (hn e he).2
        have d := hp e he
        exact ⟨fun v h => by omega, fun v h => by omega⟩
      · rw [sAt_set hks] at hq
        split at hq
        · rename_i e
          cases hq
          rw [← e]
          exact (h0 k (by omega) (beg_fixed hn (by omega) z)).symm
        · exact ih q u hq
    · exact ih p v h'
theorem sides_first {n : Nat} {es : List (Nat × Nat)} (hn : ∀ e ∈ es, e.1 < n ∧ e.2 < n) {f : Nat} (hf : f < n) (hm : (marks n es).getD f 0 = f) : ∀ k, f < k → k ≤ n → sAt (sidesTo n es k) f = some 0
  | k + 1, hk, hkn => by
    show sAt (beg n es (sidesTo n es k) k) f = some 0
    have W := way hn k (by omega)
    have hks : k < (sidesTo n es k).length := by rw [W.len]; omega
    unfold beg
    by_cases e : f = k
    · subst e
      have z : sAt (sidesTo n es f) f = none := by
        cases h : sAt (sidesTo n es f) f with
        | none => rfl
        | some v => have := W.mark f v h; omega
      rw [if_pos z]
      exact (growN es n _).keep f 0 (by rw [sAt_set hks, if_pos rfl])
    · have ih := sides_first hn hf hm k (by omega) (by omega)
      split
      · refine (growN es n _).keep f 0 ?_
        rw [sAt_set hks, if_neg (fun z => e z.symm)]
        exact ih
      · exact ih
end Hue
set_option Elab.async false
set_option linter.all false
set_option maxRecDepth 100000
set_option maxHeartbeats 1000000
namespace L2
open PySem PySem.Spec PyProof.Rows
section
variable {X : Cx}
end
end L2
set_option Elab.async false
set_option linter.all false
set_option maxRecDepth 100000
set_option maxHeartbeats 2000000
namespace L2
open PySem PySem.Spec PyProof.Rows
open PySem.AutoSeq1 (wpAny_loadPart')
open PySem.MeetsSeq PySem.MeetsSeq2 PySem.MeetsSeq3
section
variable {prog : Program} {w : World} {A : Around} {E : Value → Shared → Prop} {s : Shared} {a₀ : Array Keyed}
end
end L2
set_option Elab.async false
set_option linter.all false
set_option maxRecDepth 100000
set_option maxHeartbeats 2000000
namespace L2
open PySem PySem.Spec PyProof.Rows
open PySem.AutoSeq1 (wpAny_loadPart')
section
variable {prog : Program} {w : World} {A : Around} {E : Value → Shared → Prop} {s : Shared}
end
section
variable {X : Cx}
theorem b_any : bootBuiltins "any" = some (.builtin "any") := by decide +kernel
theorem call_anyB (hc : X.calm = true) : CallR X (.builtin "any") (fun xs H Q => ∃ (a : Addr) (bs : List Bool), xs = [.ref a] ∧ SqL X.K H a (bs.map V.bl) ∧ Q (.bl (bs.any id)) H) := by
  intro pins s σ H xs us Q I r h
  obtain ⟨a, bs, rfl, hq, q⟩ := h
  obtain ⟨u, rfl, ru⟩ := vals1 r
  cases ru
  obtain ⟨its, rv, pl, hz⟩ := I.list hq
  have hl := rv.length
  rw [List.length_map] at hl
  refine call_any_walk (wpAny_pyIter_list pl.isList ?_)
  have hlt : a < s.heap.objs.size := by obtain ⟨o, n, e, _⟩ := pl; exact Heap.lt_size e
  refine ⟨s.heap.objs.size, _, _, _, _, _, fun i => bs.getD i false, rfl, Walks.list (by exact I.ok.hd hc) s.heap.objs.size a (Nat.ne_of_lt hlt) its.toArray, ⟨⟨_, Heap.get?_push_size _ rfl, rfl, rfl⟩, pl.isList.push _⟩, ?_, fun h' tk hk => ?_⟩
  · intro i v s' Q' E' hv hQ'
    have hv' : its[i]? = some v := by simpa using hv
    have hi : i < its.length := (List.getElem?_eq_some_iff.mp hv').1
    have hb : (bs.map V.bl)[i]? = some (.bl (bs[i]'(by omega))) := by simp
    obtain ⟨u', eu, ru'⟩ := rv.get hb
    rw [hv'] at eu
    cases eu
    cases ru'
    have hg : bs.getD i false = bs[i]'(by omega) := by simp [List.getD, show i < bs.length by omega]
    have hQ2 : Q' (bs.getD i false) s' := hQ'
    rw [hg] at hQ2
    exact wpAny_truthy_bool hQ2
  · have I1 : Inv X pins σ H { s with heap := h', toks := tk } := I.kept fun b o e => hk b o (by simp; exact Nat.ne_of_lt (Heap.lt_size e)) (Heap.get?_push_of_some _ e)
    refine ⟨.bl _, H, I1, rfl, ?_⟩
    have e : (List.range its.toArray.size).any (fun i => bs.getD i false) = bs.any id := by
      rw [List.size_toArray, ← hl, Bool.eq_iff_iff, List.any_eq_true, List.any_eq_true]
      constructor
      · rintro ⟨j, hj, e⟩
        have hj1 : j < bs.length := List.mem_range.mp hj
        exact ⟨bs[j], List.getElem_mem hj1, by simpa [List.getD, hj1] using e⟩
      · rintro ⟨b, hb, e⟩
        obtain ⟨j, hj, e2⟩ := List.mem_iff_getElem.mp hb
        exact ⟨j, List.mem_range.mpr hj, by simpa [List.getD, hj, e2] using e⟩
    rw [e]
    exact q
end
end L2
set_option Elab.async false
set_option linter.all false
set_option maxRecDepth 100000
set_option maxHeartbeats 2000000
namespace Hue
open PySem L2
def fixed (n : Nat) (ms : List Nat) : List Nat := (List.range n).filter fun f => decide (ms.getD f 0 = f)
def placesOf (n : Nat) (ms : List Nat) (f : Nat) : List Nat := (List.range n).filter fun p => decide (ms.getD p 0 = f)
structure RL (H0 H : Hp) (l : Addr) (ds : List Addr) (f : Nat → List V) : Prop where
  same : Same H0 H
  at' : H l = some (.lst (ds.map V.ref))
  fr : H0 l = none
  own : ∀ (j : Nat) d, ds[j]? = some d → H d = some (.lst (f j)) ∧ H0 d = none ∧ d ≠ l
  nd : ds.Nodup
section
variable {H0 H : Hp} {l D p : Addr} {ds : List Addr} {f : Nat → List V} {o : HO}
theorem RL.has (h : RL H0 H l ds f) {d : Addr} (hd : d ∈ ds) : ∃ (j : Nat), ds[j]? = some d ∧ H d = some (.lst (f j)) ∧ H0 d = none ∧ d ≠ l := by
  obtain ⟨j, hj⟩ := List.getElem?_of_mem hd
  exact ⟨j, hj, h.own j d hj⟩
theorem RL.notin (h : RL H0 H l ds f) (n : H p = none) : p ∉ ds := fun hp => by
  obtain ⟨j, _, e, _⟩ := h.has hp
  rw [n] at e; cases e
theorem RL.new (h : RL H0 H l ds f) (n : H p = none) : RL H0 (upd H p o) l ds f :=
  ⟨same_new h.same n, keepN h.at' n, h.fr, fun j d hj => ⟨keepN (h.own j d hj).1 n, (h.own j d hj).2⟩, h.nd⟩
theorem RL.oth (h : RL H0 H l ds f) (n0 : H0 D = none) (hl : D ≠ l) (hd : D ∉ ds) : RL H0 (upd H D o) l ds f :=
  ⟨same_own h.same n0, keepO h.at' hl.symm, h.fr, fun j d hj => ⟨keepO (h.own j d hj).1 (fun e => hd (e ▸ List.mem_of_getElem? hj)), (h.own j d hj).2⟩, h.nd⟩
theorem RL.nil (s : Same H0 H) (n : H l = none) : RL H0 (upd H l (.lst [])) l [] f :=
  ⟨same_new s n, upd_same, s.free n, fun _ _ h => by simp at h, List.nodup_nil⟩
theorem RL.add (h : RL H0 H l ds f) (hD : H D = some (.lst (f ds.length))) (n0 : H0 D = none) (hl : D ≠ l) (hd : D ∉ ds) : RL H0 (upd H l (.lst (ds.map V.ref ++ [V.ref D]))) l (ds ++ [D]) f := by
  refine ⟨same_own h.same h.fr, by rw [upd_same, List.map_append]; rfl, h.fr, fun j d hj => ?_, ?_⟩
  · by_cases hjl : j < ds.length
    · rw [List.getElem?_append_left hjl] at hj
      obtain ⟨a, b, c⟩ := h.own j d hj
      exact ⟨keepO a c, b, c⟩
    · rw [List.getElem?_append_right (by omega)] at hj
      have : j - ds.length = 0 := by
        cases q : j - ds.length with
        | zero => rfl
        | succ k => rw [q] at hj; simp at hj
      rw [this] at hj
      have e1 : D = d := by simpa using hj
      have e2 : j = ds.length := by omega
      subst e1 e2
      exact ⟨keepO hD hl, n0, hl⟩
  · exact List.nodup_append.mpr ⟨h.nd, by simp, fun x hx y hy => by
      rw [List.mem_singleton.mp hy]
      exact fun e => hd (e ▸ hx)⟩
end
def natV (n : Nat) : V := V.int (n : Int)
def WebN (H : Hp) (w : Addr) (n : Nat) (es : List (Nat × Nat)) : Prop := ∃ (ta : Addr) (ts : List V), H w = some (.tup [.int n, .ref ta]) ∧ H ta = some (.tup ts) ∧ ts.length = es.length ∧
  (∀ (k : Nat) v, ts[k]? = some v → ∃ q e, v = .ref q ∧ es[k]? = some e ∧ H q = some (.tup [natV e.1, natV e.2])) ∧ (∀ e ∈ es, e.1 < n ∧ e.2 < n) ∧ es.length ≤ 200 ∧ n ≤ 24
theorem WebN.mono {H H' : Hp} {w : Addr} {n : Nat} {es : List (Nat × Nat)} (h : WebN H w n es) (k : KeepT H H') : WebN H' w n es :=
  let ⟨ta, ts, a, b, c, d, r⟩ := h
  ⟨ta, ts, k _ _ a, k _ _ b, c, fun i v hv => let ⟨q, e, e1, e2, e3⟩ := d i v hv; ⟨q, e, e1, e2, k _ _ e3⟩, r⟩
def partOf (n : Nat) (ms : List Nat) (j : Nat) : List V := (placesOf n ms ((fixed n ms).getD j 0)).map natV
def spParts : Sp := fun vs H Q _ => ∃ (w : Addr) (n : Nat) (es : List (Nat × Nat)), vs = [.ref w] ∧ WebN H w n es ∧ ∀ (l : Addr) (ds : List Addr) (H' : Hp), RL H H' l ds (partOf n (marks n es)) → ds.length = (fixed n (marks n es)).length → Q (.ref l) H'
theorem rng_nat (n : Nat) : rngV 0 n = (List.range n).map natV := by unfold rngV natV; simp
theorem natV_at {ms : List Nat} {i : Nat} (h : i < ms.length) : atI (ms.map natV) (i : Int) = some (natV (ms.getD i 0)) := atI_nat (by rw [List.getElem?_map]; simp [List.getD, h])
theorem marks_take {n : Nat} {es : List (Nat × Nat)} {k : Nat} {e : Nat × Nat} (h : es[k]? = some e) : marks n (es.take (k + 1)) = bring (marks n (es.take k)) e := by
  unfold marks
  rw [List.take_add_one, h, List.foldl_append]; rfl
theorem RL.up {H H2 H3 : Hp} {l : Addr} {ds : List Addr} {f : Nat → List V} (h : RL H2 H3 l ds f) (s : Same H H2) : RL H H3 l ds f :=
  ⟨s.trans h.same, h.at', s.free h.fr, fun j d hj => ⟨(h.own j d hj).1, s.free (h.own j d hj).2.1, (h.own j d hj).2.2⟩, h.nd⟩
def plTo (ms : List Nat) (v k : Nat) : List Nat := (List.range k).filter fun p => decide (ms.getD p 0 = v)
theorem pl_yes {ms : List Nat} {v k : Nat} (h : ms.getD k 0 = v) : plTo ms v (k + 1) = plTo ms v k ++ [k] := by
  unfold plTo; rw [List.range_succ, List.filter_append, List.filter_cons_of_pos (by simpa using h)]; rfl
theorem pl_no {ms : List Nat} {v k : Nat} (h : ¬ ms.getD k 0 = v) : plTo ms v (k + 1) = plTo ms v k := by
  unfold plTo; rw [List.range_succ, List.filter_append, List.filter_cons_of_neg (by simpa using h)]; simp
theorem pl_le (ms : List Nat) (v k : Nat) : (plTo ms v k).length ≤ k := by unfold plTo; exact Nat.le_trans (List.length_filter_le _ _) (by simp)
def fixTo (ms : List Nat) (k : Nat) : List Nat := (List.range k).filter fun p => decide (ms.getD p 0 = p)
theorem fix_yes {ms : List Nat} {k : Nat} (h : ms.getD k 0 = k) : (fixTo ms (k + 1)).length = (fixTo ms k).length + 1 := by
  unfold fixTo; rw [List.range_succ, List.filter_append, List.filter_cons_of_pos (by simpa using h)]; simp
theorem fix_no {ms : List Nat} {k : Nat} (h : ¬ ms.getD k 0 = k) : (fixTo ms (k + 1)).length = (fixTo ms k).length := by
  unfold fixTo; rw [List.range_succ, List.filter_append, List.filter_cons_of_neg (by simpa using h)]; simp
theorem fix_le (ms : List Nat) (k : Nat) : (fixTo ms k).length ≤ k := by unfold fixTo; exact Nat.le_trans (List.length_filter_le _ _) (by simp)
theorem fix_at {n : Nat} {ms : List Nat} {k : Nat} (hk : k < n) (h : ms.getD k 0 = k) : (fixed n ms).getD (fixTo ms k).length 0 = k := by
  obtain ⟨j, rfl⟩ : ∃ j, n = k + (j + 1) := ⟨n - k - 1, by omega⟩
  have e : fixed (k + (j + 1)) ms = fixTo ms k ++ k :: ((List.map (k + ·) (List.map Nat.succ (List.range j))).filter fun p => decide (ms.getD p 0 = p)) := by
    unfold fixed fixTo
    rw [List.range_add, List.filter_append, List.range_succ_eq_map, List.map_cons, List.filter_cons_of_pos (by simpa using h)]
    rfl
  rw [e]
  simp [List.getD]
theorem low_V (ms : List Nat) (e : Nat × Nat) : (if (((ms.getD e.2 0 : Nat) : Int) < ((ms.getD e.1 0 : Nat) : Int)) then ((ms.getD e.2 0 : Nat) : Int) else ((ms.getD e.1 0 : Nat) : Int)) = ((lowO ms e : Nat) : Int) := by unfold lowO; split <;> omega
theorem high_V (ms : List Nat) (e : Nat × Nat) : (if (((ms.getD e.2 0 : Nat) : Int) > ((ms.getD e.1 0 : Nat) : Int)) then ((ms.getD e.2 0 : Nat) : Int) else ((ms.getD e.1 0 : Nat) : Int)) = ((highO ms e : Nat) : Int) := by unfold highO; split <;> omega
theorem eqN {a b : Nat} (h : decide (natV a = natV b) = true) : a = b := by
  have := of_decide_eq_true h
  unfold natV at this
  injection this with this
  omega
abbrev sParts : Stmt := top 12
theorem nd_fhl : ((["first"] : List Str) ++ (["high", "low"] : List Str)).Nodup := by decide +kernel
theorem nd_flw : ((["first"] : List Str) ++ (["least", "web"] : List Str)).Nodup := by decide +kernel
theorem nd_pfl : ((["place"] : List Str) ++ (["first", "least"] : List Str)).Nodup := by decide +kernel
theorem int_at {ts : List Int} {i : Nat} {x : V} (hx : (ts.map V.int)[i]? = some x) : ∃ t, ts[i]? = some t ∧ V.int t = x := by
  rw [List.getElem?_map] at hx
  cases e : ts[i]? with
  | none => rw [e] at hx; cases hx
  | some t => rw [e] at hx; exact ⟨t, rfl, by simpa using hx⟩
theorem SeqA.or {K : PySem.W.Frag} {H : Hp} {a : Addr} {row : List V} (h : SeqA H a row) : SqL K H a row ∨ SqT K H a row := h.imp SqL.of SqT.of
abbrev sAre : Stmt := top 14
theorem seq_comp {K : PySem.W.Frag} {i : Nat} {σ σ' : St} {H : Hp} {a : Addr} {xs : List V} {g : TG} {tt : TT} {te : TE} {Qf : Addr → List V → Hp → Prop} (e : σ[i]? = some (some (.ref a))) (ha : SeqA H a xs) (Pv : Addr → Nat → List V → Hp → Prop)
    (h0 : ∀ D, H D = none → Pv D 0 [] (upd H D (.lst []))) (hk : ∀ D j ys H', H D = none → Pv D j ys H' → Same H H') (hs : ∀ D j x ys H', H D = none → xs[j]? = some x → Pv D j ys H' → CompTurn g tt te D σ' ys (Pv D (j + 1)) x H')
    (hd : ∀ D ys H', H D = none → Pv D xs.length ys H' → Qf D ys H') :
    iList K (tVar i) σ H (fun J H1 => ∀ D, H1 D = none → ∃ W : Nat → Nat → List V → Hp → Prop, (∃ m, W 0 m [] (upd H1 D (.lst []))) ∧ CompW J g tt te D σ' (Qf D) W) ∨
    iTup K (tVar i) σ H (fun J H1 => ∀ D, H1 D = none → ∃ W : Nat → Nat → List V → Hp → Prop, (∃ m, W 0 m [] (upd H1 D (.lst []))) ∧ CompW J g tt te D σ' (Qf D) W) := by
  rcases ha with ha | ha
  · exact .inl ⟨_, e, a, rfl, ⟨_, SqL.of ha⟩, fun D hD => comp_list (K := K) (a := a) (xs := xs) (Pv D) (h0 D hD) (fun j ys H' _ h => SqL.of (hk D j ys H' hD h _ _ ha)) (fun j x ys H' hx h => hs D j x ys H' hD hx h) (fun ys H' h => hd D ys H' hD h)⟩
  · exact .inr ⟨_, e, a, rfl, ⟨_, SqT.of ha⟩, fun D hD => comp_tup (K := K) (a := a) (xs := xs) (Pv D) (h0 D hD) (fun j ys H' _ h => SqT.of (hk D j ys H' hD h _ _ ha)) (fun j x ys H' hx h => hs D j x ys H' hD hx h) (fun ys H' h => hd D ys H' hD h)⟩
def in01 (r : Int) : Bool := decide (r = 0 ∨ r = 1)
theorem inV01 (r : Int) : inV (.int r) [.int 0, .int 1] = in01 r := by
  unfold in01
  rw [Bool.eq_iff_iff, decide_eq_true_eq]
  simp [inV, eqV]
  constructor <;> (rintro (h | h) <;> omega)
theorem SeqA.ix {K : PySem.W.Frag} {H : Hp} {a : Addr} {xs : List V} {i : Int} {v : V} {Q : VK} (h : SeqA H a xs) (e : atI xs i = some v) (q : Q v H) : rIxS K (.ref a) (.int i) H Q := by
  rcases h with h | h
  · exact .inl ⟨a, xs, i, v, rfl, rfl, SqL.of h, e, q⟩
  · exact .inr ⟨a, xs, i, v, rfl, rfl, SqT.of h, e, q⟩
theorem flat_ints (ps : List Int) : (ps.map V.int).all flatV = true := by
  rw [List.all_map, List.all_eq_true]; intro _ _; rfl
theorem head_places {n : Nat} {ms : List Nat} (M : Mk n ms) {f : Nat} (hf : f < n) (h : ms.getD f 0 = f) : ∃ r, placesOf n ms f = f :: r := by
  unfold placesOf
  have hk : ∀ k, k ≤ f → (List.range k).filter (fun p => decide (ms.getD p 0 = f)) = [] := by
    intro k hk
    rw [List.filter_eq_nil_iff]
    intro p hp
    have hp' := List.mem_range.mp hp
    have hl : p < ms.length := by rw [M.len]; omega
    have := M.le p hl
    have g : ms.getD p 0 = ms[p] := by simp [List.getD, hl]
    rw [g]
    simp; omega
  have e : List.range n = List.range f ++ (List.range (n - f)).map (f + ·) := by
    rw [← List.range_add, Nat.add_sub_cancel' (Nat.le_of_lt hf)]
  rw [e, List.filter_append, hk f (Nat.le_refl _), List.nil_append]
  obtain ⟨k, hk⟩ : ∃ k, n - f = k + 1 := ⟨n - f - 1, by omega⟩
  rw [hk, List.range_succ_eq_map, List.map_cons, Nat.add_zero, List.filter_cons, if_pos (by rw [h]; simp)]
  exact ⟨_, rfl⟩
def SidesR (n : Nat) (es : List (Nat × Nat)) (rs : List Int) : Prop := rs.length = n ∧ (∀ r ∈ rs, r = 0 ∨ r = 1) ∧ (∀ e ∈ es, rs.getD e.1 0 ≠ rs.getD e.2 0) ∧ ∀ f, f < n → (marks n es).getD f 0 = f → rs.getD f 0 = 0
def spAre : Sp := fun vs H Q _ => ∃ (w a : Addr) (n : Nat) (es : List (Nat × Nat)) (rs : List Int), vs = [.ref w, .ref a] ∧ WebN H w n es ∧ SeqA H a (rs.map V.int) ∧ rs.length ≤ 200 ∧ ∀ b H', Same H H' → (b = true ↔ SidesR n es rs) → Q (.bl b) H'
theorem ints_get {rs : List Int} {i : Nat} (h : i < rs.length) : atI (rs.map V.int) (i : Int) = some (.int (rs.getD i 0)) := atI_nat (by rw [List.getElem?_map]; simp [List.getD, h])
theorem nd_sd : ((["side"] : List Str) ++ ([] : List Str)).Nodup := by decide +kernel
theorem nd_oor : ((["one", "other"] : List Str) ++ (["row"] : List Str)).Nodup := by decide +kernel
theorem nd_ptr : ((["part"] : List Str) ++ (["row"] : List Str)).Nodup := by decide +kernel
section
variable {P : Program} {w : World} {K : PySem.W.Frag} {mg : Str → Option Value} {base : Heap}
theorem scParts : FnScope ["web", "least", "one", "other", "low", "high"] ["web"] (defScope sParts) := ⟨rfl, rfl, rfl, by decide +kernel, rfl, by decide +kernel, by decide +kernel⟩
theorem ok_parts {f : Addr} {fd : FuncData} (F : Fun K "parts" "parts" sParts f fd) (T : Txt K mg) : FnOk P w K mg base CX0 1 f fd ["web"] spParts := by
  refine F.ok scParts (fun vs H Q E h => ?_) (fun cdv A outer s H vs Q E hr h => ?_)
  · obtain ⟨_, _, _, rfl, _⟩ := h; rfl
  · obtain ⟨w0, n, es, rfl, W, q⟩ := h
    refine ⟨_, pss_cons (ps_set (i := 1) scParts.nd rfl (Or.inr rfl) (pe_callTy (call_listRng rfl) (by rfl) T.list b_list (pa_cons (pe_callTy call_rng1 (by rfl) T.range b_range (pa_cons (pe_ix ix_tup (pv 0) pe_int (fun _ _ => rfl)) pa_nil)) pa_nil)))
      (pss_cons (ps_for PassesOwn.never rfl (pi_tup (pe_ix ix_tup (pv 0) pe_int (fun _ _ => rfl))) (pg_tup (n := 2) rfl (pgs_cons (pg_name (i := 2) scParts.nd rfl (Or.inl rfl)) (pgs_cons (pg_name (i := 3) scParts.nd rfl (Or.inl rfl)) pgs_nil)))
        (pss_cons (ps_set (i := 4) scParts.nd rfl (Or.inr rfl) (pe_callB (call_min2 rfl) (by rfl) T.min b_min (pa_cons (pe_ix ix_list (pv 1) (pv 2) (fun _ _ => rfl)) (pa_cons (pe_ix ix_list (pv 1) (pv 3) (fun _ _ => rfl)) pa_nil))))
        (pss_cons (ps_set (i := 5) scParts.nd rfl (Or.inr rfl) (pe_callB (call_max2 rfl) (by rfl) T.max b_max (pa_cons (pe_ix ix_list (pv 1) (pv 2) (fun _ _ => rfl)) (pa_cons (pe_ix ix_list (pv 1) (pv 3) (fun _ _ => rfl)) pa_nil))))
        (pss_one (ps_set (i := 1) scParts.nd rfl (Or.inr rfl) (pe_comp ["first"] ["high", "low"] [5, 4] (pi_list (pv 1)) (fun _ _ _ _ _ => pg_name (i := 0) nd_fhl rfl (Or.inl rfl)) (fun _ _ _ _ _ => pifs_nil)
          (fun _ _ _ _ _ => pe_ifExp (pt_cmpR op_eq (pv 0) (pv 1) (nomark _)) (pv 2) (pv 0))))))))
      (pss_one (ps_ret (pe_comp ["first"] ["least", "web"] [1, 0] (pi_range1 (by rfl) T.range (pa_cons (pe_ix ix_tup (pv 0) pe_int (fun _ _ => rfl)) pa_nil)) (fun _ _ _ _ _ => pg_name (i := 0) nd_flw rfl (Or.inr rfl))
        (fun _ _ _ _ _ => pifs_one (pt_cmpR op_eq (pe_ix (ix_listK (K := K) rfl) (pv 1) (pv 0) (fun _ _ => rfl)) (pv 0) (nomark _)))
        (fun _ _ _ _ _ => pe_comp ["place"] ["first", "least"] [0, 1] (pi_range1 (by rfl) T.range (pa_cons (pe_ix (ix_tupK (K := K) rfl) (pv 2) pe_int (fun _ _ => rfl)) pa_nil)) (fun _ _ _ _ _ => pg_name (i := 0) nd_pfl rfl (Or.inl rfl))
          (fun _ _ _ _ _ => pifs_one (pt_cmpR op_eq (pe_ix (ix_listK (K := K) rfl) (pv 2) (pv 0) (fun _ _ => rfl)) (pv 1) (nomark _))) (fun _ _ _ _ _ => pv 0)))))), ?_⟩
    obtain ⟨ta, ts, hw, ht, htl, he, hb, h200, hn⟩ := W
    refine ⟨_, rfl, w0, _, _, _, rfl, rfl, SqT.of hw, (rfl : atI [V.int n, V.ref ta] 0 = some (.int n)), _, rfl, fun p hp => ?_⟩
    refine ⟨p, 0, n, rfl, upd_same, by decide, by decide, by omega, by omega, by omega, fun l hl => ?_⟩
    have s1 : Same H (upd (upd H p (.rng 0 n)) l (.lst (rngV 0 ((n : Int) - 0).toNat))) := same_new (same_new (Same.refl _) hp) hl
    have nl : H l = none := (same_new (o := .rng 0 n) (Same.refl H) hp).free hl
    refine ⟨_, rfl, w0, _, _, _, rfl, rfl, SqT.of (s1 _ _ hw), (rfl : atI [V.int n, V.ref ta] 1 = some (.ref ta)), ta, rfl, ⟨_, SqT.of (s1 _ _ ht)⟩, for_tup (K := K) (a := ta) (xs := ts)
      (fun i σ H2 => ∃ (l : Addr) (o2 o3 o4 o5 : Option V), σ = [some (.ref w0), some (.ref l), o2, o3, o4, o5] ∧ Same H H2 ∧ H2 l = some (.lst ((marks n (es.take i)).map natV)))
      ⟨l, none, none, none, none, rfl, s1, by rw [upd_same, show ((n : Int) - 0).toNat = n by omega, rng_nat]; rfl⟩ (fun i σ H2 _ h => ?_) ?_ ?_⟩
    · obtain ⟨_, _, _, _, _, _, h, _⟩ := h
      exact SqT.of (h _ _ ht)
    · rintro i x σ H2 hx ⟨l, o2, o3, o4, o5, rfl, s2, l2⟩
      obtain ⟨qv, e, rfl, ee, hq⟩ := he i x hx
      obtain ⟨b1, b2⟩ := hb e (List.mem_of_getElem? ee)
      have M : Mk n (marks n (es.take i)) := mk_marks (mk_range n) fun f hf => hb f (List.mem_of_mem_take hf)
      rw [marks_take ee]
      obtain ⟨ms, ems⟩ : ∃ ms, marks n (es.take i) = ms := ⟨_, rfl⟩
      rw [ems] at M l2 ⊢
      have a1 := natV_at (ms := ms) (i := e.1) (by rw [M.len]; exact b1)
      have a2 := natV_at (ms := ms) (i := e.2) (by rw [M.len]; exact b2)
      refine ⟨qv, _, rfl, SqT.of (s2 _ _ hq), rfl, _, _, rfl, _, _, rfl, rfl, ?_⟩
      refine ⟨_, rfl, _, rfl, l, _, _, _, rfl, rfl, SqL.of l2, a1, _, rfl, _, rfl, l, _, _, _, rfl, rfl, SqL.of l2, a2, _, _, rfl, ?_⟩
      rw [low_V]
      refine ⟨_, rfl, _, rfl, l, _, _, _, rfl, rfl, SqL.of l2, a1, _, rfl, _, rfl, l, _, _, _, rfl, rfl, SqL.of l2, a2, _, _, rfl, ?_⟩
      rw [high_V]
      have l3 := l2
      have s3 := s2
      obtain ⟨H3, e3⟩ : ∃ H3, H2 = H3 := ⟨_, rfl⟩
      rw [e3] at l3 s3 ⊢
      refine ⟨_, rfl, l, rfl, ⟨_, SqL.of l3⟩, fun D hD => comp_list (K := K) (a := l) (xs := ms.map natV) (fun k ys H4 => Same H3 H4 ∧ H4 D = some (.lst ys) ∧ ys = ((bring ms e).take k).map natV)
        ⟨same_new (Same.refl _) hD, upd_same, rfl⟩ (fun k ys H4 _ h => SqL.of (h.1 _ _ l3)) ?_ ?_⟩
      · rintro k v ys H4 hv ⟨s4, d4, rfl⟩
        have hk : k < ms.length := by have := (List.getElem?_eq_some_iff.mp hv).1; simpa using this
        have ev : v = natV (ms[k]'hk) := by
          rw [List.getElem?_map, List.getElem?_eq_getElem hk] at hv
          simpa using hv.symm
        subst ev
        have eb : (bring ms e).take (k + 1) = (bring ms e).take k ++ [if ms[k]'hk = highO ms e then lowO ms e else ms[k]'hk] := by
          rw [List.take_add_one, bring, List.getElem?_map, List.getElem?_eq_getElem hk]; rfl
        have hlen : (((bring ms e).take k).map natV).length ≤ 24 := by
          have := M.len
          rw [List.length_map, List.length_take]; omega
        rw [eb, List.map_append]
        refine ⟨_, rfl, _, rfl, rfl, _, rfl, ite2 (fun c => ?_) (fun c => ?_)⟩
        · have c' : ms[k]'hk = highO ms e := eqN c
          refine ⟨_, rfl, d4, small1000 (by omega), same_own s4 hD, upd_same, ?_⟩
          rw [if_pos c']; rfl
        · have c' : ¬ ms[k]'hk = highO ms e := fun z => c (by rw [z]; exact decide_eq_true rfl)
          refine ⟨_, rfl, d4, small1000 (by omega), same_own s4 hD, upd_same, ?_⟩
          rw [if_neg c']; rfl
      · rintro ys H4 ⟨s4, d4, rfl⟩
        refine ⟨D, _, _, _, _, rfl, s3.trans s4, ?_⟩
        rw [d4, List.length_map, show ms.length = (bring ms e).length by simp [bring], List.take_length]
    · rintro σ H2 ⟨l, o2, o3, o4, o5, rfl, s2, l2⟩
      rw [htl, List.take_length] at l2
      have M : Mk n (marks n es) := mk_marks (mk_range n) hb
      obtain ⟨ms, ems⟩ : ∃ ms, marks n es = ms := ⟨_, rfl⟩
      rw [ems] at M l2 q
      refine ⟨_, rfl, w0, _, _, _, rfl, rfl, SqT.of (s2 _ _ hw), (rfl : atI [V.int n, V.ref ta] 0 = some (.int n)), _, rfl, by omega, by omega, fun L hL => comp_range (lo := 0) (n := ((n : Nat) : Int).toNat)
        (fun k ys H3 => ∃ ds : List Addr, ys = ds.map V.ref ∧ RL H2 H3 L ds (partOf n ms) ∧ ds.length = (fixTo ms k).length) ⟨[], rfl, RL.nil (Same.refl _) hL, rfl⟩ ?_ ?_⟩
      · rintro k ys H3 hk ⟨ds, rfl, R, hdl⟩
        have hk' : k < n := by simpa using hk
        have lk : k < ms.length := by rw [M.len]; exact hk'
        have ak := natV_at lk
        have hdk := fix_le ms k
        refine ⟨_, rfl, _, rfl, l, _, _, _, rfl, rfl, SqL.of (R.same _ _ l2), (by rw [Int.zero_add]; exact ak), _, rfl, rfl, _, rfl, ite2 (fun c => ?_) (fun c => ?_)⟩
        · have c' : ms.getD k 0 = k := eqN (by rw [Int.zero_add] at c; exact c)
          refine ⟨_, rfl, w0, _, _, _, rfl, rfl, SqT.of (R.same _ _ (s2 _ _ hw)), (rfl : atI [V.int n, V.ref ta] 0 = some (.int n)), _, rfl, by omega, by omega, fun D hD => ?_⟩
          have nD : H2 D = none := R.same.free hD
          have DL : D ≠ L := (ne_of_none R.at' hD).symm
          have Dd : D ∉ ds := R.notin hD
          refine comp_range (lo := 0) (n := ((n : Nat) : Int).toNat) (fun j zs H4 => RL H2 H4 L ds (partOf n ms) ∧ H4 D = some (.lst zs) ∧ zs = (plTo ms k j).map natV) ⟨R.new hD, upd_same, rfl⟩ ?_ ?_
          · rintro j zs H4 hj ⟨R4, d4, rfl⟩
            have hj' : j < n := by simpa using hj
            have aj := natV_at (ms := ms) (i := j) (by rw [M.len]; exact hj')
            have hpl := pl_le ms k j
            refine ⟨_, rfl, _, rfl, l, _, _, _, rfl, rfl, SqL.of (R4.same _ _ l2), (by rw [Int.zero_add]; exact aj), _, rfl, rfl, _, rfl, ite2 (fun c2 => ?_) (fun c2 => ?_)⟩
            · have c2' : ms.getD j 0 = k := eqN (by rw [Int.zero_add] at c2; exact c2)
              refine ⟨_, rfl, d4, small1000 (by rw [List.length_map]; omega), R4.oth nD DL Dd, upd_same, ?_⟩
              rw [pl_yes c2', List.map_append, Int.zero_add]; rfl
            · have c2' : ¬ ms.getD j 0 = k := fun z => c2 (by rw [Int.zero_add, z]; exact decide_eq_true rfl)
              exact ⟨R4, d4, by rw [pl_no c2']⟩
          · rintro zs H4 ⟨R4, d4, rfl⟩
            have e5 : (plTo ms k ((n : Nat) : Int).toNat).map natV = partOf n ms ds.length := by
              unfold partOf placesOf
              rw [hdl, fix_at hk' c']
              simp [plTo]
            rw [e5] at d4
            exact ⟨R4.at', small1000 (by rw [List.length_map]; omega), ds ++ [D], by rw [List.map_append]; rfl, R4.add d4 nD DL Dd, by rw [List.length_append, List.length_singleton, hdl, fix_yes c']⟩
        · have c' : ¬ ms.getD k 0 = k := fun z => c (by rw [Int.zero_add, z]; exact decide_eq_true rfl)
          exact ⟨ds, rfl, R, by rw [hdl, fix_no c']⟩
      · rintro ys H3 ⟨ds, rfl, R, hdl⟩
        refine q L ds H3 (R.up s2) (by rw [hdl]; unfold fixed fixTo; simp)
theorem scAre : FnScope ["web", "row"] ["web", "row"] (defScope sAre) := ⟨rfl, rfl, rfl, by decide +kernel, rfl, by decide +kernel, by decide +kernel⟩
theorem ok_are {f : Addr} {fd : FuncData} (F : Fun K "are_sides" "are_sides" sAre f fd) (T : Txt K mg) (za : mg "any" = none) (CP : Callee P w K mg base 1 "parts" ["web"] spParts) : FnOk P w K mg base CX0 2 f fd ["web", "row"] spAre := by
  refine F.ok scAre (fun vs H Q E h => ?_) (fun cdv A outer s H vs Q E hr h => ?_)
  · obtain ⟨_, _, _, _, _, rfl, _⟩ := h; rfl
  · obtain ⟨w0, a, n, es, rs, rfl, W, ha, h200, q⟩ := h
    refine ⟨_, pss_cons (ps_if (pw_or (pt_cmpR op_ne (pe_callB call_len_seq (by rfl) T.len b_len (pa_cons (pv 1) pa_nil)) (pe_ix ix_tup (pv 0) pe_int (fun _ _ => rfl)) (nomark _))
        (pw_or1 (pt_not (pt_val (pe_callB (call_allB rfl) (by rfl) T.all b_all (pa_cons (pe_comp ["side"] [] [] (pi_or (pi_list (pv 1)) (pi_tup (pv 1))) (fun _ _ _ _ _ => pg_name (i := 0) nd_sd rfl (Or.inl rfl)) (fun _ _ _ _ _ => pifs_nil) (fun _ _ _ _ _ => pe_cmpR (op_inK (K := K) rfl) (pv 0) (pe_tup (pa_cons pe_int (pa_cons pe_int pa_nil))) (by with_unfolding_all rfl))) pa_nil)))))).pt (pss_one (ps_ret pe_bl)) pss_nil)
      (pss_cons (ps_if (pt_val (pe_callB (call_anyB rfl) (by rfl) za b_any (pa_cons (pe_comp ["one", "other"] ["row"] [1] (pi_tup (pe_ix ix_tup (pv 0) pe_int (fun _ _ => rfl))) (fun _ _ _ _ _ => pg_tupK (K := K) (n := 2) rfl rfl (pgs_cons (pg_name (i := 0) nd_oor rfl (Or.inl rfl)) (pgs_cons (pg_name (i := 1) nd_oor rfl (Or.inl rfl)) pgs_nil))) (fun _ _ _ _ _ => pifs_nil) (fun _ _ _ _ _ => pe_cmpR op_eq (pe_ix (ix_seqK (K := K) rfl) (pv 2) (pv 0) (fun _ _ => rfl)) (pe_ix (ix_seqK (K := K) rfl) (pv 2) (pv 1) (fun _ _ => rfl)) (nomark _))) pa_nil))) (pss_one (ps_ret pe_bl)) pss_nil)
      (pss_one (ps_ret (pe_callB (call_allB rfl) (by rfl) T.all b_all (pa_cons (pe_comp ["part"] ["row"] [1] (pi_list (pe_def CP hr (by rfl) (pa_cons (pv 0) pa_nil))) (fun _ _ _ _ _ => pg_name (i := 0) nd_ptr rfl (Or.inl rfl)) (fun _ _ _ _ _ => pifs_nil) (fun _ _ _ _ _ => pe_cmpR op_eq (pe_ix (ix_seqK (K := K) rfl) (pv 1) (pe_ix (ix_listK (K := K) rfl) (pv 0) pe_int (fun _ _ => rfl)) (fun _ _ => rfl)) pe_int (nomark _))) pa_nil))))), ?_⟩
    obtain ⟨ta, ts, hw, ht, htl, he, hb, hE, hn⟩ := id W
    refine ⟨_, rfl, a, _, rfl, ha.or, _, rfl, w0, _, _, _, rfl, rfl, SqT.of hw, (rfl : atI [V.int (n : Int), V.ref ta] 0 = some (.int (n : Int))), rfl, _, rfl, ?_⟩
    rw [List.length_map]
    by_cases zl : rs.length = n
    case neg =>
      refine iteNT (fun z => zl (by injection z with z; omega)) (iteT (q false _ (Same.refl _) ⟨(fun z => by cases z), fun z => absurd z.1 zl⟩))
    refine iteNS (by rw [zl]) ?_
    refine seq_comp (K := K) (i := 1) rfl ha (fun D i ys H2 => Same H H2 ∧ H2 D = some (.lst ys) ∧ ys = ((rs.take i).map in01).map V.bl) (fun D hD => ⟨same_new (Same.refl _) hD, upd_same, rfl⟩) (fun D i ys H2 _ h => h.1) ?_ ?_
    · rintro D i y ys H2 hD hy ⟨s2, d2, rfl⟩
      obtain ⟨r, hr', rfl⟩ := int_at hy
      have hi : i < rs.length := (List.getElem?_eq_some_iff.mp hr').1
      refine compT (i := 0) ⟨_, rfl, by show 2 ≤ sizeLine; decide, fun p hp => ?_⟩
      refine ⟨p, _, rfl, .inr (SqT.of upd_same), rfl, rfl, ?_⟩
      show _ ∧ _ ∧ _
      rw [inV01]
      exact ⟨keepN d2 hp, small1000 (by simp only [List.length_map, List.length_take]; omega), same_own (same_new s2 hp) hD, upd_same, by rw [List.take_add_one, hr']; simp⟩
    · rintro D ys H2 hD ⟨s2, d2, rfl⟩
      rw [List.length_map, List.take_length] at d2
      refine ⟨D, _, rfl, SqL.of d2, _, rfl, ?_⟩
      cases ea : (rs.map in01).all id with
      | false =>
        refine iteT (q false _ s2 ⟨(fun z => by cases z), fun z => ?_⟩)
        have : (rs.map in01).all id = true := by
          rw [List.all_map, List.all_eq_true]
          intro r hr
          exact decide_eq_true (z.2.1 r hr)
        rw [this] at ea; cases ea
      | true =>
        have h01 : ∀ r ∈ rs, r = 0 ∨ r = 1 := by
          rw [List.all_map, List.all_eq_true] at ea
          exact fun r hr => of_decide_eq_true (ea r hr)
        refine iteF ?_
        have ht2 := s2 _ _ ht
        have ha2 := ha.same s2
        refine ⟨_, rfl, w0, _, _, _, rfl, rfl, SqT.of (s2 _ _ hw), (rfl : atI [V.int (n : Int), V.ref ta] 1 = some (.ref ta)), ta, rfl, ⟨_, SqT.of ht2⟩, fun G hG => comp_tup (K := K) (a := ta) (xs := ts) (fun i ys H3 => Same H2 H3 ∧ H3 G = some (.lst ys) ∧ ys = ((es.take i).map fun e => decide (rs.getD e.1 0 = rs.getD e.2 0)).map V.bl) ⟨same_new (Same.refl _) hG, upd_same, rfl⟩ (fun i ys H3 _ h => SqT.of (h.1 _ _ ht2)) ?_ ?_⟩
        · rintro i x ys H3 hx ⟨s3, d3, rfl⟩
          obtain ⟨qv, e, rfl, ee, hq⟩ := he i x hx
          have hi : i < ts.length := (List.getElem?_eq_some_iff.mp hx).1
          obtain ⟨b1, b2⟩ := hb e (List.mem_of_getElem? ee)
          refine ⟨qv, _, rfl, SqT.of (s3 _ _ (s2 _ _ hq)), rfl, _, _, rfl, _, _, rfl, rfl, iteT ?_⟩
          refine ⟨_, rfl, _, rfl, (ha2.same s3).ix (ints_get (by omega)) ?_⟩
          refine ⟨_, rfl, _, rfl, (ha2.same s3).ix (ints_get (by omega)) ⟨rfl, ?_⟩⟩
          rw [dec_int]
          refine ⟨d3, small1000 (by simp only [List.length_map, List.length_take]; omega), same_own s3 hG, upd_same, ?_⟩
          rw [List.take_add_one, ee]
          simp
          rfl
        · rintro ys H3 ⟨s3, d3, rfl⟩
          rw [htl, List.take_length] at d3
          refine ⟨G, _, rfl, SqL.of d3, _, rfl, ?_⟩
          have s13 := s2.trans s3
          cases eb : (es.map fun e => decide (rs.getD e.1 0 = rs.getD e.2 0)).any id with
          | true =>
            refine iteT (q false _ s13 ⟨(fun z => by cases z), fun z => ?_⟩)
            rw [List.any_map, List.any_eq_true] at eb
            obtain ⟨e, hm, h⟩ := eb
            exact absurd (of_decide_eq_true h) (z.2.2.1 e hm)
          | false =>
            have hpr : ∀ e ∈ es, rs.getD e.1 0 ≠ rs.getD e.2 0 := fun e hm h => by
              have : (es.map fun e => decide (rs.getD e.1 0 = rs.getD e.2 0)).any id = true := by
                rw [List.any_map, List.any_eq_true]; exact ⟨e, hm, decide_eq_true h⟩
              rw [this] at eb; cases eb
            refine iteF ?_
            refine ⟨_, rfl, w0, n, es, rfl, W.mono (sameKT s13), fun l ds H4 R hdl => ?_⟩
            have M : Mk n (marks n es) := mk_marks (mk_range n) hb
            have ha4 := (ha2.same s3).same R.same
            have fat : ∀ j, j < ds.length → ∃ f, (fixed n (marks n es))[j]? = some f ∧ f < n ∧ (marks n es).getD f 0 = f := fun j hj => by
              have hj' : j < (fixed n (marks n es)).length := by omega
              have hm := List.mem_filter.mp (List.getElem_mem hj')
              exact ⟨_, List.getElem?_eq_getElem hj', List.mem_range.mp hm.1, of_decide_eq_true hm.2⟩
            refine ⟨l, rfl, ⟨_, SqL.of R.at'⟩, fun Z hZ => comp_list (K := K) (a := l) (xs := ds.map V.ref) (fun i ys H5 => Same H4 H5 ∧ H5 Z = some (.lst ys) ∧ ys = (((fixed n (marks n es)).take i).map fun f => decide (rs.getD f 0 = 0)).map V.bl) ⟨same_new (Same.refl _) hZ, upd_same, rfl⟩ (fun i ys H5 _ h => SqL.of (h.1 _ _ R.at')) ?_ ?_⟩
            · rintro i x ys H5 hx ⟨s5, d5, rfl⟩
              rw [List.getElem?_map] at hx
              cases ed : ds[i]? with
              | none => rw [ed] at hx; cases hx
              | some dd =>
                rw [ed] at hx
                have ex : x = .ref dd := by simpa using hx.symm
                subst ex
                obtain ⟨hdd, _, _⟩ := R.own i dd ed
                have hi : i < ds.length := (List.getElem?_eq_some_iff.mp ed).1
                obtain ⟨f, ef, hf, hmf⟩ := fat i hi
                obtain ⟨rr, er⟩ := head_places M hf hmf
                have ep : partOf n (marks n es) i = natV f :: rr.map natV := by
                  unfold partOf
                  rw [List.getD_eq_getElem?_getD, ef]
                  show (placesOf n (marks n es) f).map natV = _
                  rw [er]; rfl
                rw [ep] at hdd
                refine compT (i := 0) ⟨_, rfl, _, rfl, dd, _, _, _, rfl, rfl, SqL.of (s5 _ _ hdd), (atI_nat (j := 0) (xs := natV f :: rr.map natV) rfl), (ha4.same s5).ix (ints_get (by omega)) ⟨rfl, ?_⟩⟩
                rw [dec_int]
                have hfl : (fixed n (marks n es)).length ≤ n := Nat.le_trans (List.length_filter_le _ _) (by simp)
                refine ⟨d5, small1000 (by simp only [List.length_map, List.length_take]; omega), same_own s5 hZ, upd_same, ?_⟩
                rw [List.take_add_one, ef]
                simp
                rfl
            · rintro ys H5 ⟨s5, d5, rfl⟩
              rw [List.length_map, hdl, List.take_length] at d5
              refine ⟨Z, _, rfl, SqL.of d5, q _ _ ((s13.trans R.same).trans s5) ?_⟩
              rw [List.all_map, List.all_eq_true]
              constructor
              · intro h
                refine ⟨zl, h01, hpr, fun f hf hm => ?_⟩
                exact of_decide_eq_true (h f (List.mem_filter.mpr ⟨List.mem_range.mpr hf, decide_eq_true hm⟩))
              · intro h f hf
                have hm := List.mem_filter.mp hf
                exact decide_eq_true (h.2.2.2 f (List.mem_range.mp hm.1) (of_decide_eq_true hm.2))
end
end Hue
set_option Elab.async false
set_option linter.all false
set_option maxRecDepth 100000
set_option maxHeartbeats 4000000
namespace L2
open PySem PySem.Spec PyProof.Rows
section
variable {prog : Program} {w : World} {A : Around} {E : Value → Shared → Prop} {s : Shared}
theorem SetX.kind {h : Heap} {a : Addr} {L : List Int} (x : SetX prog w h a L) : h.SetOf (intKind prog w) a (fun k => decide (k ∈ L)) L.length := by
  obtain ⟨o, es, ep, t, ho, hx, hd, hel, hb, hf, hT, hp⟩ := x
  refine ⟨o, es, ep, t, ho, hx, hd, hel, fun k => ?_, hb, hf, by rw [← hp.length_eq]; simp⟩
  rw [decide_eq_true_eq, ← hp.mem_iff, List.mem_map]
  constructor
  · rintro ⟨e, he, rfl⟩
    obtain ⟨⟨k, hk, _⟩, _⟩ := hel e he
    exact ⟨e, he, by rw [int_num hk]; exact hk⟩
  · rintro ⟨e, he, hk⟩
    exact ⟨e, he, int_num hk⟩
end
section
variable {X : Cx}
theorem op_inSet : OpR X (compareOp .In) (fun x y H Q => ∃ (k : Int) (p : Addr) (S : Int → Bool) (n : Nat), x = .int k ∧ y = .ref p ∧ H p = some (.set S n) ∧ Q (.bl (S k)) H) := by
  intro pins s σ H x y v u Q I rx ry h
  obtain ⟨k, p, S, n, rfl, rfl, hp, q⟩ := h
  obtain ⟨t, rfl⟩ := rx
  cases ry
  have hS : s.heap.SetOf (intKind X.prog X.w) p S n := I.hok p _ hp
  exact wpAny_inSet_of (k := k) (intKind_is _ _ _ _) rfl hS ⟨.bl _, H, I.tok _, rfl, q⟩
end
end L2
set_option Elab.async false
set_option linter.all false
set_option maxRecDepth 100000
set_option maxHeartbeats 4000000
namespace L2
open PySem PySem.Spec PyProof.Rows
section
variable {X : Cx}
theorem call_set0 : CallR X (.type "set") (fun xs H Q => xs = [] ∧ ∀ l, H l = none → Q (.ref l) (upd H l (.set (fun _ => false) 0))) := by
  intro pins s σ H xs us Q I r h
  obtain ⟨rfl, q⟩ := h
  cases r
  refine call_set_0 fun led => ?_
  refine ⟨.ref s.heap.objs.size, _, I.laid (t' := s.toks) (o := .set (fun _ => false) 0) (fun b o e => Heap.get?_push_of_some _ e) (Nat.le_refl _) ?_, rfl, q _ (I.hok.fresh (Nat.le_refl _))⟩
  exact (setObjOf_fresh led).setOf (Heap.get?_push_size _ rfl) (by decide)
def rSAdd : V → List V → Hp → VK → Prop := fun x vs H Q => ∃ (l : Addr) (S : Int → Bool) (n : Nat) (k : Int), x = .ref l ∧ vs = [.int k] ∧ H l = some (.set S n) ∧ n ≤ 900 ∧ Q .non (upd H l (.set (fun j => S j || decide (j = k)) (if S k then n else n + 1)))
theorem mt_add : MtM X "set.add" rSAdd := by
  intro pins s σ H x vs v us Q I rx rv h
  obtain ⟨l, S, n, k, rfl, rfl, hp, hn, q⟩ := h
  cases rx
  obtain ⟨u, rfl, ru⟩ := rv.one
  obtain ⟨t, rfl⟩ := ru
  have hS : s.heap.SetOf (intKind X.prog X.w) l S n := I.hok l _ hp
  refine call_set_add (k := k) (intKind_is _ _ _ _) rfl hS (by show n + 1 < 4096; omega) fun h' hsb hS' => ?_
  refine ⟨.non, _, I.write (x := l) (e := l) (t' := s.toks + 1) (by rw [hp]; trivial) (.inl rfl) (fun b u hb e => (hsb.2 b hb).trans e) (let ⟨o, _, _, _, ho, _⟩ := hS'; ⟨o, ho⟩) ?_, rfl, q⟩
  exact hS'
theorem op_eqLN (hu : X.A.units < cLine) : OpR X (compareOp .Eq) (fun x y H Q => ∃ a xs, x = .ref a ∧ y = .non ∧ SqL X.K H a xs ∧ Q (.bl false) H) := by
  intro pins s σ H x y v u Q I rx ry h
  obtain ⟨a, xs, rfl, rfl, hq, q⟩ := h
  cases rx
  cases ry
  obtain ⟨its, r, p, _⟩ := I.list hq
  exact SeqAt.RcAt.list_none p.isList hu _ _ _ _ ⟨.bl false, H, I, rfl, q⟩
theorem op_eqT0 (hu : X.A.units < cLine) : OpR X (compareOp .Eq) (fun x y H Q => ∃ a b xs, x = .ref a ∧ y = .ref b ∧ SqT X.K H a xs ∧ SqT X.K H b [] ∧ Q (.bl xs.isEmpty) H) := by
  intro pins s σ H x y v u Q I rx ry h
  obtain ⟨a, b, xs, rfl, rfl, ha, hb, q⟩ := h
  cases rx
  cases ry
  obtain ⟨its1, r1, p1, _⟩ := I.tuple ha
  obtain ⟨its2, r2, p2, _⟩ := I.tuple hb
  cases r2
  refine SeqAt.eq_tupleAt (e := fun _ => true) (show s.heap.IsTuple a its1.toArray from p1) (show s.heap.IsTuple b _ from p2) hu (fun j _ h2 => by simp at h2) ?_
  refine ⟨.bl xs.isEmpty, H, I, ?_, q⟩
  show Value.bool _ = Value.bool _
  congr 1
  cases xs with
  | nil => cases r1; rfl
  | cons x xs => cases r1; simp
end
end L2
set_option Elab.async false
set_option linter.all false
set_option maxRecDepth 100000
set_option maxHeartbeats 2000000
namespace Hue
open PySem L2
abbrev sNum : Stmt := top 5
abbrev sHasT : Stmt := top 9
abbrev sChkT : Stmt := top 10
abbrev sFar : Stmt := top 11
abbrev sGoes : Stmt := top 15
abbrev sRing : Stmt := top 16
abbrev sLGoes : Stmt := top 25
abbrev sLRing : Stmt := top 26
def spNumI : Sp := fun vs H Q _ => ∃ n : Int, vs = [.int n] ∧ Q (.bl true) H
def InP (m p : Int) : Prop := 0 ≤ p ∧ p < m
instance (m p : Int) : Decidable (InP m p) := inferInstanceAs (Decidable (_ ∧ _))
def spHasT : Sp := fun vs H Q _ => ∃ (w : Addr) (n : Nat) (es : List (Nat × Nat)) (p : Int), vs = [.ref w, .int p] ∧ WebN H w n es ∧ Q (.bl (decide (InP es.length p))) H
def spChkT : Sp := fun vs H Q _ => ∃ (w : Addr) (n : Nat) (es : List (Nat × Nat)) (t : Nat), vs = [.ref w, natV t] ∧ WebN H w n es ∧ t < es.length ∧ Q .non H
def farN (e : Nat × Nat) (p : Nat) : Nat := if p = e.1 then e.2 else e.1
def spFar : Sp := fun vs H Q _ => ∃ (w : Addr) (n : Nat) (es : List (Nat × Nat)) (t : Nat) (e : Nat × Nat) (p : Nat), vs = [.ref w, natV t, natV p] ∧ WebN H w n es ∧ es[t]? = some e ∧ (p = e.1 ∨ p = e.2) ∧ Q (natV (farN e p)) H
def goesB (es : List (Nat × Nat)) : List Nat → Nat → List Nat → Option Nat
  | [], p, _ => some p
  | t :: ts, p, seen => match es[t]? with
    | none => none
    | some e => if p ∈ seen ∨ ¬ (p = e.1 ∨ p = e.2) then none else goesB es ts (farN e p) (p :: seen)
def spGoes : Sp := fun vs H Q _ => ∃ (w a : Addr) (n : Nat) (es : List (Nat × Nat)) (ts : List Nat) (s : Nat), vs = [.ref w, .ref a, natV s] ∧ WebN H w n es ∧ SeqA H a (ts.map natV) ∧ (∀ t ∈ ts, t < es.length) ∧ ts.length ≤ 200 ∧ ∀ H', Same H H' → Q (.bl (decide (goesB es ts s [] = some s))) H'
theorem natV_inj {a b : Nat} (h : natV a = natV b) : a = b := by
  unfold natV at h; injection h with h; omega
theorem natV_iff {a b : Nat} : natV a = natV b ↔ a = b := ⟨natV_inj, fun h => by rw [h]⟩
theorem inV_two (p : Nat) (e : Nat × Nat) : inV (natV p) [natV e.1, natV e.2] = decide (p = e.1 ∨ p = e.2) := by
  rw [Bool.eq_iff_iff, decide_eq_true_eq]
  simp [inV, eqV, natV]
  constructor <;> (rintro (h | h) <;> omega)
theorem inV_nats (p : Nat) (ls : List Nat) : inV (natV p) (ls.map natV) = decide (p ∈ ls) := by
  unfold inV
  rw [Bool.eq_iff_iff, List.any_eq_true, decide_eq_true_eq]
  constructor
  · rintro ⟨y, hy, e⟩
    obtain ⟨n, hn, rfl⟩ := List.mem_map.mp hy
    have : n = p := by simp [eqV, natV] at e; omega
    rw [← this]; exact hn
  · intro h
    exact ⟨natV p, List.mem_map.mpr ⟨p, h, rfl⟩, by simp [eqV, natV]⟩
theorem flat_nats (ls : List Nat) : (ls.map natV).all flatV = true := by
  rw [List.all_map, List.all_eq_true]; intro _ _; rfl
theorem nat_at {ts : List Nat} {i : Nat} {x : V} (hx : (ts.map natV)[i]? = some x) : ∃ t, ts[i]? = some t ∧ natV t = x := by
  rw [List.getElem?_map] at hx
  cases e : ts[i]? with
  | none => rw [e] at hx; cases hx
  | some t => rw [e] at hx; exact ⟨t, rfl, by simpa using hx⟩
theorem WebN.at {H : Hp} {w : Addr} {n : Nat} {es : List (Nat × Nat)} (h : WebN H w n es) : ∃ (ta : Addr) (ts : List V), H w = some (.tup [.int n, .ref ta]) ∧ H ta = some (.tup ts) ∧ ts.length = es.length ∧ ∀ (t : Nat) (e : Nat × Nat), es[t]? = some e → ∃ q, atI ts (t : Int) = some (.ref q) ∧ H q = some (.tup [natV e.1, natV e.2]) := by
  obtain ⟨ta, ts, a, b, c, d, _⟩ := h
  refine ⟨ta, ts, a, b, c, fun t e he => ?_⟩
  have ht : t < ts.length := by rw [c]; exact (List.getElem?_eq_some_iff.mp he).1
  have et : ts[t]? = some ts[t] := List.getElem?_eq_getElem ht
  obtain ⟨q, e', e1, e2, hq⟩ := d t _ et
  rw [he] at e2
  cases e2
  rw [e1] at et
  exact ⟨q, atI_nat et, hq⟩
theorem seq_for {K : PySem.W.Frag} {i : Nat} {σ : St} {H : Hp} {a : Addr} {xs : List V} {g : TG} {tb : TS} {D : Ends} (e : σ[i]? = some (some (.ref a))) (ha : SeqA H a xs) (Pv : Nat → St → Hp → Prop) (h0 : Pv 0 σ H) (hk : ∀ j σ' H', Pv j σ' H' → ∀ o, H a = some o → H' a = some o)
    (hs : ∀ j x σ' H', xs[j]? = some x → Pv j σ' H' → g x σ' H' fun σ2 H2 => tb { D with nx := Pv (j + 1), ct := Pv (j + 1), bk := D.nx } σ2 H2) (hd : ∀ σ' H', Pv xs.length σ' H' → D.nx σ' H') :
    iList K (tVar i) σ H (fun J H1 => ∃ W : Nat → Nat → St → Hp → Prop, (∃ m, W 0 m σ H1) ∧ ∀ i m σ H, W i m σ H → (J.stop i H ∧ D.nx σ H) ∨ (J.go i H ∧ ∃ N : St → Hp → Prop, (∀ σ' H', N σ' H' → ∃ m', m' < m ∧ W (i + 1) m' σ' H') ∧ ∀ x H', J.yld i H x H' → g x σ H' fun σ2 H2 => tb { D with nx := N, ct := N, bk := D.nx } σ2 H2)) ∨
    iTup K (tVar i) σ H (fun J H1 => ∃ W : Nat → Nat → St → Hp → Prop, (∃ m, W 0 m σ H1) ∧ ∀ i m σ H, W i m σ H → (J.stop i H ∧ D.nx σ H) ∨ (J.go i H ∧ ∃ N : St → Hp → Prop, (∀ σ' H', N σ' H' → ∃ m', m' < m ∧ W (i + 1) m' σ' H') ∧ ∀ x H', J.yld i H x H' → g x σ H' fun σ2 H2 => tb { D with nx := N, ct := N, bk := D.nx } σ2 H2)) := by
  rcases ha with ha | ha
  · exact .inl ⟨_, e, a, rfl, ⟨_, SqL.of ha⟩, for_list (K := K) (a := a) (xs := xs) Pv h0 (fun j σ' H' _ h => SqL.of (hk j σ' H' h _ ha)) hs hd⟩
  · exact .inr ⟨_, e, a, rfl, ⟨_, SqT.of ha⟩, for_tup (K := K) (a := a) (xs := xs) Pv h0 (fun j σ' H' _ h => SqT.of (hk j σ' H' h _ ha)) hs hd⟩
section
variable {P : Program} {w : World} {K : PySem.W.Frag} {mg : Str → Option Value} {base : Heap}
theorem scNum : FnScope ["thing"] ["thing"] (defScope sNum) := ⟨rfl, rfl, rfl, by decide +kernel, rfl, by decide +kernel, by decide +kernel⟩
theorem ok_numI {f : Addr} {fd : FuncData} (F : Fun K "is_number" "is_number" sNum f fd) (T : Txt K mg) : FnOk P w K mg base CX0 1 f fd ["thing"] spNumI := by
  refine F.ok scNum (fun vs H Q E h => ?_) (fun cdv A outer s H vs Q E hr h => ?_)
  · obtain ⟨_, rfl, _⟩ := h; rfl
  · obtain ⟨n, rfl, q⟩ := h
    refine ⟨_, pss_one (ps_ret (pe_and (pe_callB call_isi1 (by rfl) T.isi b_isi (pa_cons (pv 0) (pa_cons (pe_bltn (v := .ty "int") (by rfl) T.int b_int rfl) pa_nil)))
      (pe_one (pe_not (pe_callB call_isi1 (by rfl) T.isi b_isi (pa_cons (pv 0) (pa_cons (pe_bltn (v := .ty "bool") (by rfl) T.bool b_bool rfl) pa_nil))))))), ?_⟩
    exact ⟨_, rfl, _, "int", _, _, rfl, .int n, (kit_n _ _).trans kt_ii, _, rfl, iteT ⟨_, rfl, _, "bool", _, _, rfl, .int n, (kit_n _ _).trans kt_ib, _, rfl, q⟩⟩
theorem scHasT : FnScope ["web", "tie"] ["web", "tie"] (defScope sHasT) := ⟨rfl, rfl, rfl, by decide +kernel, rfl, by decide +kernel, by decide +kernel⟩
theorem ok_hasT {f : Addr} {fd : FuncData} (F : Fun K "has_tie" "has_tie" sHasT f fd) (T : Txt K mg) (CN : Callee P w K mg base 1 "is_number" ["thing"] spNumI) : FnOk P w K mg base CX0 2 f fd ["web", "tie"] spHasT := by
  refine F.ok scHasT (fun vs H Q E h => ?_) (fun cdv A outer s H vs Q E hr h => ?_)
  · obtain ⟨_, _, _, _, rfl, _⟩ := h; rfl
  · obtain ⟨w0, n, es, p, rfl, ⟨ta, ts, hw, ht, htl, _⟩, q⟩ := h
    refine ⟨_, pss_one (ps_ret (pe_and (pe_def CN hr (by rfl) (pa_cons (pv 1) pa_nil)) (pe_one (pe_chain op_le op_lt pe_int (pv 1) (pe_callB call_len_seq (by rfl) T.len b_len (pa_cons (pe_ix ix_tup (pv 0) pe_int (fun _ _ => rfl)) pa_nil)))))), ?_⟩
    refine ⟨_, rfl, p, rfl, _, rfl, iteT ⟨_, rfl, _, _, rfl, rfl, _, rfl, ite2 (fun z => ⟨_, rfl, w0, _, _, _, rfl, rfl, SqT.of hw, (rfl : atI [V.int (n : Int), V.ref ta] 1 = some (.ref ta)), ta, ts, rfl, .inr (SqT.of ht), _, _, rfl, rfl, ?_⟩) (fun z => ?_)⟩⟩
    · have z' : 0 ≤ p := by simpa using z
      show Q (.bl (decide (p < (ts.length : Int)))) H
      rw [htl, show decide (p < (es.length : Int)) = decide (InP es.length p) by unfold InP; simp [z']]
      exact q
    · have z' : ¬ 0 ≤ p := by simpa using z
      rw [show decide (InP es.length p) = false by unfold InP; simp [z']] at q
      simpa [z'] using q
theorem scChkT : FnScope ["web", "tie"] ["web", "tie"] (defScope sChkT) := ⟨rfl, rfl, rfl, by decide +kernel, rfl, by decide +kernel, by decide +kernel⟩
theorem ok_chkT {f : Addr} {fd : FuncData} (F : Fun K "check_tie" "check_tie" sChkT f fd) (CN : Callee P w K mg base 2 "has_tie" ["web", "tie"] spHasT) : FnOk P w K mg base CX0 3 f fd ["web", "tie"] spChkT := by
  refine F.ok scChkT (fun vs H Q E h => ?_) (fun cdv A outer s H vs Q E hr h => ?_)
  · obtain ⟨_, _, _, _, rfl, _⟩ := h; rfl
  · obtain ⟨w0, n, es, t, rfl, W, z, q⟩ := h
    refine ⟨_, pss_one (ps_if (pt_not (pt_val (pe_def CN hr (by rfl) (pa_cons (pv 0) (pa_cons (pv 1) pa_nil))))) pss_no pss_nil), ?_⟩
    refine ⟨_, rfl, _, rfl, w0, n, es, (t : Int), rfl, W, _, rfl, ?_⟩
    rw [decide_eq_true (show InP es.length (t : Int) from ⟨by omega, by omega⟩)]; exact iteF q
theorem scFar : FnScope ["web", "tie", "place", "one", "other"] ["web", "tie", "place"] (defScope sFar) := ⟨rfl, rfl, rfl, by decide +kernel, rfl, by decide +kernel, by decide +kernel⟩
theorem ok_far {f : Addr} {fd : FuncData} (F : Fun K "far_end" "far_end" sFar f fd) (CC : Callee P w K mg base 3 "check_tie" ["web", "tie"] spChkT) : FnOk P w K mg base CX0 4 f fd ["web", "tie", "place"] spFar := by
  refine F.ok scFar (fun vs H Q E h => ?_) (fun cdv A outer s H vs Q E hr h => ?_)
  · obtain ⟨_, _, _, _, _, _, rfl, _⟩ := h; rfl
  · obtain ⟨w0, n, es, t, e, p, rfl, W, hk, hp, q⟩ := h
    refine ⟨_, pss_cons (ps_expr (pe_def CC hr (by rfl) (pa_cons (pv 0) (pa_cons (pv 1) pa_nil))))
      (pss_cons (ps_asg (pe_ix ix_tup (pe_ix ix_tup (pv 0) pe_int (fun _ _ => rfl)) (pv 1) (fun _ _ => rfl)) (pg_tup (n := 2) rfl (pgs_cons (pg_name (i := 3) scFar.nd rfl (Or.inl rfl)) (pgs_cons (pg_name (i := 4) scFar.nd rfl (Or.inl rfl)) pgs_nil))))
      (pss_cons (ps_if (pt_cmpR op_eq (pv 2) (pv 3) (nomark _)) (pss_one (ps_ret (pv 4))) pss_nil)
      (pss_cons (ps_if (pt_cmpR op_eq (pv 2) (pv 4) (nomark _)) (pss_one (ps_ret (pv 3))) pss_nil) pss_no))), ?_⟩
    have hkl : t < es.length := (List.getElem?_eq_some_iff.mp hk).1
    refine ⟨_, rfl, _, rfl, w0, n, es, t, rfl, W, hkl, ?_⟩
    obtain ⟨ta, ts, hw, ht, htl, hat⟩ := W.at
    obtain ⟨qv, et, hq⟩ := hat t e hk
    refine ⟨_, rfl, w0, _, _, _, rfl, rfl, SqT.of hw, (rfl : atI [V.int (n : Int), V.ref ta] 1 = some (.ref ta)), _, rfl, ta, ts, _, _, rfl, rfl, SqT.of ht, et, qv, _, rfl, SqT.of hq, rfl, _, _, rfl, _, _, rfl, rfl, ?_⟩
    refine ⟨_, rfl, _, rfl, rfl, _, rfl, ?_⟩
    unfold farN at q
    by_cases h1 : p = e.1
    · rw [if_pos h1] at q
      exact iteD (by rw [h1]) ⟨_, rfl, q⟩
    · have h2 : p = e.2 := hp.resolve_left h1
      rw [if_neg h1] at q
      exact iteND (fun z => h1 (natV_inj z)) ⟨_, rfl, _, rfl, rfl, _, rfl, iteD (by rw [h2]) ⟨_, rfl, q⟩⟩
theorem scGoes : FnScope ["web", "ties", "start", "seen", "place", "tie"] ["web", "ties", "start"] (defScope sGoes) := ⟨rfl, rfl, rfl, by decide +kernel, rfl, by decide +kernel, by decide +kernel⟩
theorem ok_goes {f : Addr} {fd : FuncData} (F : Fun K "goes_round" "goes_round" sGoes f fd) (zt : mg "set" = none) (CF : Callee P w K mg base 4 "far_end" ["web", "tie", "place"] spFar) : FnOk P w K mg base CX0 5 f fd ["web", "ties", "start"] spGoes := by
  refine F.ok scGoes (fun vs H Q E h => ?_) (fun cdv A outer s H vs Q E hr h => ?_)
  · obtain ⟨_, _, _, _, _, _, rfl, _⟩ := h; rfl
  · obtain ⟨w0, a, n, es, ts, s0, rfl, W, ha, hin, h200, q⟩ := h
    refine ⟨_, pss_cons (ps_set (i := 3) scGoes.nd rfl (Or.inl rfl) (pe_callTy0 call_set0 (by rfl) zt b_set))
      (pss_cons (ps_set (i := 4) scGoes.nd rfl (Or.inl rfl) (pv 2))
      (pss_cons (ps_for PassesOwn.never rfl (pi_or (pi_list (pv 1)) (pi_tup (pv 1))) (pg_name (i := 5) scGoes.nd rfl (Or.inl rfl))
        (pss_cons (ps_if (pw_or (pt_cmpR op_inSet (pv 4) (pv 3) (by with_unfolding_all rfl)) (pw_or1 (pt_cmpR op_notIn_seq (pv 4) (pe_ix ix_tup (pe_ix ix_tup (pv 0) pe_int (fun _ _ => rfl)) (pv 5) (fun _ _ => rfl)) (by with_unfolding_all rfl)))).pt (pss_one (ps_ret pe_bl)) pss_nil)
        (pss_cons (ps_expr (pe_bm PySem.F.plainAttrs_set PySem.F.slot_set_add PySem.F.type_set_add mt_add (pv 3) (pa_cons (pv 4) pa_nil)))
        (pss_one (ps_set (i := 4) scGoes.nd rfl (Or.inl rfl) (pe_def CF hr (by rfl) (pa_cons (pv 0) (pa_cons (pv 5) (pa_cons (pv 4) pa_nil)))))))))
      (pss_one (ps_ret (pe_cmpR op_eq (pv 4) (pv 2) (nomark _)))))), ?_⟩
    refine ⟨rfl, fun G hG => ?_⟩
    refine ⟨_, rfl, ?_⟩
    have s1 : Same H (upd H G (.set (fun _ => false) 0)) := same_new (Same.refl _) hG
    refine seq_for (K := K) (i := 1) rfl (ha.same s1) (fun i σ H2 => ∃ (p : Nat) (seen : List Nat) (S : Int → Bool) (m : Nat) (o5 : Option V), σ = [some (.ref w0), some (.ref a), some (natV s0), some (.ref G), some (natV p), o5] ∧ Same H H2 ∧ H2 G = some (.set S m) ∧ m ≤ i ∧ (∀ k : Nat, S k = decide (k ∈ seen)) ∧ goesB es ts s0 [] = goesB es (ts.drop i) p seen) ⟨s0, [], _, 0, none, rfl, s1, upd_same, Nat.le_refl _, fun k => by simp, by simp⟩ (fun i σ H2 h o ho => ?_) ?_ ?_
    · obtain ⟨_, _, _, _, _, _, s2, _⟩ := h
      by_cases e : a = G
      · subst e
        rcases ha with ha | ha <;> (rw [hG] at ha; cases ha)
      · rw [upd_ne e] at ho
        exact s2 _ _ ho
    · rintro i x σ H2 hx ⟨p, seen, S, m, o5, rfl, s2, g2, hm, hS, heq⟩
      obtain ⟨t, ht', rfl⟩ := nat_at hx
      have hi : i < ts.length := (List.getElem?_eq_some_iff.mp ht').1
      have htl := hin t (List.mem_of_getElem? ht')
      have W2 := W.mono (sameKT s2)
      obtain ⟨ta, us, hw, hta, _, hat⟩ := W2.at
      have ee : es[t]? = some es[t] := List.getElem?_eq_getElem htl
      obtain ⟨qv, et, hq⟩ := hat t _ ee
      have hdrop : ts.drop i = t :: ts.drop (i + 1) := by
        rw [List.drop_eq_getElem_cons hi]
        congr 1
        rw [List.getElem?_eq_getElem hi] at ht'
        exact Option.some.inj ht'
      rw [hdrop, goesB, ee] at heq
      refine ⟨_, rfl, _, rfl, (p : Int), G, S, m, rfl, rfl, g2, _, rfl, ?_⟩
      rw [hS p]
      have bad : (p ∈ seen ∨ ¬ (p = es[t].1 ∨ p = es[t].2)) → Q (.bl false) H2 := fun z => by
        have e0 : goesB es ts s0 [] = none := by rw [heq]; simp only; rw [if_pos z]
        have := q H2 s2
        rw [e0] at this
        simpa using this
      by_cases z1 : p ∈ seen
      · exact iteD z1 (iteT (bad (.inl z1)))
      · refine iteND z1 ⟨_, rfl, _, rfl, w0, _, _, _, rfl, rfl, SqT.of hw, (rfl : atI [V.int (n : Int), V.ref ta] 1 = some (.ref ta)), _, rfl, ta, us, _, _, rfl, rfl, SqT.of hta, et, qv, _, rfl, .inr (SqT.of hq), rfl, rfl, _, rfl, ?_⟩
        show if (!inV (natV p) [natV es[t].1, natV es[t].2]) = true then _ else _
        rw [inV_two]
        by_cases z2 : p = es[t].1 ∨ p = es[t].2
        · refine iteNS z2 ?_
          refine ⟨_, rfl, .inr (.inr (.inr ⟨rfl, S, m, g2⟩)), _, rfl, G, S, m, (p : Int), rfl, rfl, g2, by omega, ?_⟩
          have s3 : Same H (upd H2 G (.set (fun j => S j || decide (j = (p : Int))) (if S p then m else m + 1))) := same_own s2 hG
          refine ⟨_, rfl, _, rfl, _, rfl, w0, n, es, t, es[t], p, rfl, W.mono (sameKT s3), ee, z2, ?_⟩
          refine ⟨farN es[t] p, p :: seen, _, _, _, rfl, s3, upd_same, by split <;> omega, fun k => ?_, ?_⟩
          · rw [hS k, Bool.eq_iff_iff, Bool.or_eq_true, decide_eq_true_eq, decide_eq_true_eq, decide_eq_true_eq, List.mem_cons]
            constructor <;> (rintro (h | h)) <;> first | exact .inr h | exact .inl (by omega) | exact .inl h | exact .inr (by omega)
          · rw [heq]
            simp only
            rw [if_neg (fun z => z.elim z1 (fun y => y z2))]
        · exact iteNT z2 (bad (.inr z2))
    · rintro σ H2 ⟨p, seen, S, m, o5, rfl, s2, g2, hm, hS, heq⟩
      rw [List.length_map, List.drop_length, goesB] at heq
      refine ⟨_, rfl, _, rfl, rfl, ?_⟩
      have := q H2 s2
      rw [heq] at this
      rw [show decide (natV p = natV s0) = decide (some p = some s0) by rw [decide_eq_decide, natV_iff]; simp]
      exact this
end
end Hue
set_option Elab.async false
set_option linter.all false
set_option maxRecDepth 100000
set_option maxHeartbeats 2000000
namespace Hue
open PySem L2
def tsOf (rs : List Int) : List Nat := rs.map Int.toNat
def RingR (es : List (Nat × Nat)) (rs : List Int) : Prop := 3 ≤ rs.length ∧ rs.length % 2 = 1 ∧ (∀ t ∈ rs, InP es.length t) ∧ ∃ e : Nat × Nat, es[(tsOf rs).getD 0 0]? = some e ∧ (goesB es (tsOf rs) e.1 [] = some e.1 ∨ goesB es (tsOf rs) e.2 [] = some e.2)
def spRing : Sp := fun vs H Q _ => ∃ (w a : Addr) (n : Nat) (es : List (Nat × Nat)) (rs : List Int), vs = [.ref w, .ref a] ∧ WebN H w n es ∧ SeqA H a (rs.map V.int) ∧ rs.length ≤ 200 ∧ ∀ b H', Same H H' → (b = true ↔ RingR es rs) → Q (.bl b) H'
def spRingL : Sp := fun vs H Q _ => ∃ (w a : Addr) (n : Nat) (es : List (Nat × Nat)) (rs : List Int), vs = [.ref w, .ref a] ∧ WebN H w n es ∧ SeqA H a (rs.map V.int) ∧ rs.length ≤ 200 ∧ (∀ t ∈ rs, InP es.length t) ∧ ∀ b H', Same H H' → (b = true ↔ RingR es rs) → Q (.bl b) H'
theorem ts_map {m : Int} {rs : List Int} (h : ∀ t ∈ rs, InP m t) : rs.map V.int = (tsOf rs).map natV := by
  unfold tsOf
  rw [List.map_map]
  refine List.map_congr_left fun t ht => ?_
  have := (h t ht).1
  show V.int t = V.int ((t.toNat : Nat) : Int)
  rw [Int.toNat_of_nonneg this]
theorem ts_in {k : Nat} {rs : List Int} (h : ∀ t ∈ rs, InP k t) : ∀ t ∈ tsOf rs, t < k := fun t ht => by
  obtain ⟨x, hx, rfl⟩ := List.mem_map.mp ht
  obtain ⟨h1, h2⟩ := h x hx
  omega
theorem nd_tw : ((["tie"] : List Str) ++ (["web"] : List Str)).Nodup := by decide +kernel
theorem nd_stw : ((["start"] : List Str) ++ (["ties", "web"] : List Str)).Nodup := by decide +kernel
theorem nd_btw : ((["_law_begin"] : List Str) ++ (["_law_ties", "_law_web_here"] : List Str)).Nodup := by decide +kernel
section
variable {P : Program} {w : World} {K : PySem.W.Frag} {mg : Str → Option Value} {base : Heap}
theorem scRing : FnScope ["web", "ties"] ["web", "ties"] (defScope sRing) := ⟨rfl, rfl, rfl, by decide +kernel, rfl, by decide +kernel, by decide +kernel⟩
theorem ok_ring {f : Addr} {fd : FuncData} (F : Fun K "is_odd_ring" "is_odd_ring" sRing f fd) (T : Txt K mg) (za : mg "any" = none) (CH : Callee P w K mg base 2 "has_tie" ["web", "tie"] spHasT) (CG : Callee P w K mg base 5 "goes_round" ["web", "ties", "start"] spGoes) : FnOk P w K mg base CX0 6 f fd ["web", "ties"] spRing := by
  refine F.ok scRing (fun vs H Q E h => ?_) (fun cdv A outer s H vs Q E hr h => ?_)
  · obtain ⟨_, _, _, _, _, rfl, _⟩ := h; rfl
  · obtain ⟨w0, a, n, es, rs, rfl, W, ha, h200, q⟩ := h
    have hr2 : Room 2 _ := hr.mono (by decide)
    refine ⟨_, pss_cons (ps_if (pw_or (pt_cmpR op_lt (pe_callB call_len_seq (by rfl) T.len b_len (pa_cons (pv 1) pa_nil)) pe_int (nomark _)) (pw_or1 (pt_cmpR op_eq (pe_op op_mod (pe_callB call_len_seq (by rfl) T.len b_len (pa_cons (pv 1) pa_nil)) pe_int) pe_int (nomark _)))).pt (pss_one (ps_ret pe_bl)) pss_nil)
      (pss_cons (ps_if (pt_not (pt_val (pe_callB (call_allB rfl) (by rfl) T.all b_all (pa_cons (pe_comp ["tie"] ["web"] [0] (pi_or (pi_list (pv 1)) (pi_tup (pv 1))) (fun _ _ _ _ _ => pg_name (i := 0) nd_tw rfl (Or.inl rfl)) (fun _ _ _ _ _ => pifs_nil) (fun _ _ _ _ _ => pe_def CH hr2 (by rfl) (pa_cons (pv 1) (pa_cons (pv 0) pa_nil)))) pa_nil)))) (pss_one (ps_ret pe_bl)) pss_nil)
      (pss_one (ps_ret (pe_callB (call_anyB rfl) (by rfl) za b_any (pa_cons (pe_comp ["start"] ["ties", "web"] [1, 0] (pi_tup (pe_ix ix_tup (pe_ix ix_tup (pv 0) pe_int (fun _ _ => rfl)) (pe_ix (ix_seqK (K := K) rfl) (pv 1) pe_int (fun _ _ => rfl)) (fun _ _ => rfl))) (fun _ _ _ _ _ => pg_name (i := 0) nd_stw rfl (Or.inl rfl)) (fun _ _ _ _ _ => pifs_nil) (fun _ _ _ _ _ => pe_def CG hr (by rfl) (pa_cons (pv 2) (pa_cons (pv 1) (pa_cons (pv 0) pa_nil))))) pa_nil))))), ?_⟩
    have no : ∀ H', Same H H' → ¬ RingR es rs → Q (.bl false) H' := fun H' s z => q false H' s ⟨(fun y => by cases y), fun y => absurd y z⟩
    refine ⟨_, rfl, a, _, rfl, ha.or, _, _, rfl, rfl, _, rfl, ?_⟩
    rw [List.length_map]
    by_cases z3 : (rs.length : Int) < 3
    · exact iteD z3 (iteT (no _ (Same.refl _) fun y => by have := y.1; omega))
    refine iteND z3 ⟨_, rfl, a, _, rfl, ha.or, _, _, rfl, rfl, (show (0 : Int) < 2 by decide), rfl, _, rfl, ?_⟩
    rw [List.length_map]
    by_cases z4 : (rs.length : Int) % 2 = 0
    · exact iteD (show V.int ((rs.length : Int) % 2) = V.int 0 by rw [z4]) (no _ (Same.refl _) fun y => by have := y.2.1; omega)
    refine iteND (fun z => z4 (by injection z)) ?_
    refine seq_comp (K := K) (i := 1) rfl ha (fun D i ys H2 => Same H H2 ∧ H2 D = some (.lst ys) ∧ ys = ((rs.take i).map fun t => decide (InP es.length t)).map V.bl) (fun D hD => ⟨same_new (Same.refl _) hD, upd_same, rfl⟩) (fun D i ys H2 _ h => h.1) ?_ ?_
    · rintro D i y ys H2 hD hy ⟨s2, d2, rfl⟩
      obtain ⟨t, ht', rfl⟩ := int_at hy
      have hi : i < rs.length := (List.getElem?_eq_some_iff.mp ht').1
      refine compT (i := 0) ⟨_, rfl, _, rfl, w0, n, es, t, rfl, W.mono (sameKT s2), d2, small1000 (by simp only [List.length_map, List.length_take]; omega), same_own s2 hD, upd_same, ?_⟩
      rw [List.take_add_one, ht']; simp
    · rintro D ys H2 hD ⟨s2, d2, rfl⟩
      rw [List.length_map, List.take_length] at d2
      refine ⟨D, _, rfl, SqL.of d2, _, rfl, ?_⟩
      cases ea : (rs.map fun t => decide (InP es.length t)).all id with
      | false =>
        refine iteT (no _ s2 fun y => ?_)
        have : (rs.map fun t => decide (InP es.length t)).all id = true := by
          rw [List.all_map, List.all_eq_true]; intro t ht; exact decide_eq_true (y.2.2.1 t ht)
        rw [this] at ea; cases ea
      | true =>
        have hin : ∀ t ∈ rs, InP es.length t := by
          rw [List.all_map, List.all_eq_true] at ea
          exact fun t ht => of_decide_eq_true (ea t ht)
        refine iteF ?_
        have W2 := W.mono (sameKT s2)
        have ha2 := ha.same s2
        obtain ⟨ta, us, hw, hta, _, hat⟩ := W2.at
        have h0 : 0 < rs.length := by omega
        have e0 : rs.getD 0 0 = ((tsOf rs).getD 0 0 : Nat) := by
          have h1 := (hin (rs[0]'h0) (List.getElem_mem h0)).1
          simp [tsOf, List.getD, h0]; omega
        have ht0 : (tsOf rs).getD 0 0 < es.length := ts_in hin _ (by
          have : 0 < (tsOf rs).length := by simpa [tsOf] using h0
          rw [List.getD_eq_getElem?_getD, List.getElem?_eq_getElem this]; exact List.getElem_mem this)
        have ee : es[(tsOf rs).getD 0 0]? = some (es[(tsOf rs).getD 0 0]'ht0) := List.getElem?_eq_getElem ht0
        obtain ⟨qv, et, hq⟩ := hat _ _ ee
        generalize es[(tsOf rs).getD 0 0]'ht0 = e at ee hq
        have i0 := ints_get (rs := rs) (i := 0) h0
        rw [e0] at i0
        refine ⟨_, rfl, w0, _, _, _, rfl, rfl, SqT.of hw, (rfl : atI [V.int (n : Int), V.ref ta] 1 = some (.ref ta)), _, rfl, ha2.ix (i := 0) i0 ⟨ta, us, _, _, rfl, rfl, SqT.of hta, et, qv, rfl, ⟨_, SqT.of hq⟩, fun G hG => ?_⟩⟩
        refine comp_tup (K := K) (a := qv) (xs := [natV e.1, natV e.2]) (fun i ys H3 => Same H2 H3 ∧ H3 G = some (.lst ys) ∧ ys = (([e.1, e.2].take i).map fun p => decide (goesB es (tsOf rs) p [] = some p)).map V.bl) ⟨same_new (Same.refl _) hG, upd_same, rfl⟩ (fun i ys H3 _ h => SqT.of (h.1 _ _ hq)) ?_ ?_
        · rintro i y ys H3 hy ⟨s3, d3, rfl⟩
          obtain ⟨p, hp, rfl⟩ := nat_at (ts := [e.1, e.2]) hy
          have hi : i < 2 := (List.getElem?_eq_some_iff.mp hp).1
          refine compT (i := 0) ⟨_, rfl, _, rfl, _, rfl, w0, a, n, es, tsOf rs, p, rfl, W2.mono (sameKT s3), by rw [← ts_map hin]; exact ha2.same s3, ts_in hin, by simpa [tsOf] using h200, fun H4 s4 => ?_⟩
          refine ⟨s4 _ _ d3, small1000 (by simp only [List.length_map, List.length_take]; omega), same_own (s3.trans s4) hG, upd_same, ?_⟩
          rw [List.take_add_one, hp]; simp
        · rintro ys H3 ⟨s3, d3, rfl⟩
          refine ⟨G, _, rfl, SqL.of d3, q _ _ (s2.trans s3) ?_⟩
          simp only [List.length_cons, List.length_nil, List.take, List.map_cons, List.map_nil, List.any_cons, List.any_nil, Bool.or_false, id, Bool.or_eq_true, decide_eq_true_eq]
          constructor
          · intro h; exact ⟨by omega, by omega, hin, e, ee, h⟩
          · rintro ⟨_, _, _, e', e1, h⟩
            rw [ee] at e1
            cases e1
            exact h
theorem scLGoes : FnScope ["_law_web_here", "_law_ties", "_law_begin", "_law_met", "_law_here", "_law_tie", "_law_one", "_law_other"] ["_law_web_here", "_law_ties", "_law_begin"] (defScope sLGoes) := ⟨rfl, rfl, rfl, by decide +kernel, rfl, by decide +kernel, by decide +kernel⟩
theorem ok_lgoes {f : Addr} {fd : FuncData} (F : Fun K "_law_goes_round" "_law_goes_round" sLGoes f fd) : FnOk P w K mg base CX0 1 f fd ["_law_web_here", "_law_ties", "_law_begin"] spGoes := by
  refine F.ok scLGoes (fun vs H Q E h => ?_) (fun cdv A outer s H vs Q E hr h => ?_)
  · obtain ⟨_, _, _, _, _, _, rfl, _⟩ := h; rfl
  · obtain ⟨w0, a, n, es, ts, s0, rfl, W, ha, hin, h200, q⟩ := h
    refine ⟨_, pss_cons (ps_set (i := 3) scLGoes.nd rfl (Or.inl rfl) (pe_lst pa_nil))
      (pss_cons (ps_set (i := 4) scLGoes.nd rfl (Or.inl rfl) (pv 2))
      (pss_cons (ps_for PassesOwn.never rfl (pi_or (pi_list (pv 1)) (pi_tup (pv 1))) (pg_name (i := 5) scLGoes.nd rfl (Or.inl rfl))
        (pss_cons (ps_asg (pe_ix ix_tup (pe_ix ix_tup (pv 0) pe_int (fun _ _ => rfl)) (pv 5) (fun _ _ => rfl)) (pg_tup (n := 2) rfl (pgs_cons (pg_name (i := 6) scLGoes.nd rfl (Or.inl rfl)) (pgs_cons (pg_name (i := 7) scLGoes.nd rfl (Or.inl rfl)) pgs_nil))))
        (pss_cons (ps_if (pw_or (pt_cmpR op_notIn_seq (pv 4) (pe_tup (pa_cons (pv 6) (pa_cons (pv 7) pa_nil))) (by with_unfolding_all rfl)) (pw_or1 (pt_cmpR op_in_seq (pv 4) (pv 3) (by with_unfolding_all rfl)))).pt (pss_one (ps_ret pe_bl)) pss_nil)
        (pss_cons (ps_expr (pe_bm PySem.F.plainAttrs_list PySem.F.slot_list_append PySem.F.type_list_append mt_append (pv 3) (pa_cons (pv 4) pa_nil)))
        (pss_one (ps_set (i := 4) scLGoes.nd rfl (Or.inl rfl) (pe_ifExp (pt_cmpR op_eq (pv 4) (pv 6) (nomark _)) (pv 7) (pv 6))))))))
      (pss_one (ps_ret (pe_cmpR op_eq (pv 4) (pv 2) (nomark _)))))), ?_⟩
    refine ⟨by show 0 ≤ sizeLine; decide, fun G hG => ?_⟩
    refine ⟨_, rfl, ?_⟩
    have s1 : Same H (upd H G (.lst [])) := same_new (Same.refl _) hG
    refine seq_for (K := K) (i := 1) rfl (ha.same s1) (fun i σ H2 => ∃ (p : Nat) (met : List Nat) (o5 o6 o7 : Option V), σ = [some (.ref w0), some (.ref a), some (natV s0), some (.ref G), some (natV p), o5, o6, o7] ∧ Same H H2 ∧ H2 G = some (.lst (met.map natV)) ∧ met.length ≤ i ∧ goesB es ts s0 [] = goesB es (ts.drop i) p met.reverse) ⟨s0, [], none, none, none, rfl, s1, upd_same, Nat.le_refl _, by simp⟩ (fun i σ H2 h o ho => ?_) ?_ ?_
    · obtain ⟨_, _, _, _, _, _, s2, _⟩ := h
      by_cases e : a = G
      · subst e
        rcases ha with ha | ha <;> (rw [hG] at ha; cases ha)
      · rw [upd_ne e] at ho
        exact s2 _ _ ho
    · rintro i x σ H2 hx ⟨p, met, o5, o6, o7, rfl, s2, g2, hm, heq⟩
      obtain ⟨t, ht', rfl⟩ := nat_at hx
      have hi : i < ts.length := (List.getElem?_eq_some_iff.mp ht').1
      have htl := hin t (List.mem_of_getElem? ht')
      have W2 := W.mono (sameKT s2)
      obtain ⟨ta, us, hw, hta, _, hat⟩ := W2.at
      have ee : es[t]? = some es[t] := List.getElem?_eq_getElem htl
      obtain ⟨qv, et, hq⟩ := hat t _ ee
      have hdrop : ts.drop i = t :: ts.drop (i + 1) := by
        rw [List.drop_eq_getElem_cons hi]
        congr 1
        rw [List.getElem?_eq_getElem hi] at ht'
        exact Option.some.inj ht'
      rw [hdrop, goesB, ee] at heq
      generalize es[t] = e at ee hq heq
      refine ⟨_, rfl, w0, _, _, _, rfl, rfl, SqT.of hw, (rfl : atI [V.int (n : Int), V.ref ta] 1 = some (.ref ta)), _, rfl, ta, us, _, _, rfl, rfl, SqT.of hta, et, qv, _, rfl, SqT.of hq, rfl, _, _, rfl, _, _, rfl, rfl, ?_⟩
      have bad : ∀ H3, Same H H3 → (p ∈ met.reverse ∨ ¬ (p = e.1 ∨ p = e.2)) → Q (.bl false) H3 := fun H3 s3 z => by
        have e0 : goesB es ts s0 [] = none := by rw [heq]; simp only; rw [if_pos z]
        have := q H3 s3
        rw [e0] at this
        simpa using this
      refine ⟨_, rfl, _, rfl, _, rfl, by show 2 ≤ sizeLine; decide, fun pp hpp => ?_⟩
      have s3 := same_new (o := .tup [natV e.1, natV e.2]) s2 hpp
      have g3 := keepN (u := .tup [natV e.1, natV e.2]) g2 hpp
      refine ⟨pp, _, rfl, .inr (SqT.of upd_same), rfl, rfl, _, rfl, ?_⟩
      show if (!inV (natV p) [natV e.1, natV e.2]) = true then _ else _
      rw [inV_two]
      by_cases z2 : p = e.1 ∨ p = e.2
      · refine iteNS z2 ⟨_, rfl, _, rfl, G, _, rfl, .inl (SqL.of g3), rfl, flat_nats met, _, rfl, ?_⟩
        show if inV (natV p) (met.map natV) = true then _ else _
        rw [inV_nats]
        by_cases z1 : p ∈ met
        · exact iteD z1 (bad _ s3 (.inl (List.mem_reverse.mpr z1)))
        · refine iteND z1 ?_
          refine ⟨_, rfl, .inl ⟨rfl, _, SqL.of g3⟩, _, rfl, G, _, _, rfl, rfl, g3, small1000 (by rw [List.length_map]; omega), ?_⟩
          have s4 := same_own (o := .lst (met.map natV ++ [natV p])) s3 hG
          refine ⟨_, rfl, _, rfl, rfl, _, rfl, ?_⟩
          have nxt : goesB es ts s0 [] = goesB es (ts.drop (i + 1)) (farN e p) (met ++ [p]).reverse := by
            rw [heq]
            simp only
            rw [if_neg (fun z => z.elim (fun y => z1 (List.mem_reverse.mp y)) (fun y => y z2)), List.reverse_append]; rfl
          unfold farN at nxt
          by_cases h1 : p = e.1
          · rw [if_pos h1] at nxt
            exact iteD (by rw [h1]) ⟨_, rfl, e.2, met ++ [p], _, _, _, rfl, s4, by rw [upd_same, List.map_append]; rfl, by rw [List.length_append]; simp; omega, nxt⟩
          · rw [if_neg h1] at nxt
            exact iteND (fun z => h1 (natV_inj z)) ⟨_, rfl, e.1, met ++ [p], _, _, _, rfl, s4, by rw [upd_same, List.map_append]; rfl, by rw [List.length_append]; simp; omega, nxt⟩
      · exact iteNT z2 (iteT (bad _ s3 (.inr z2)))
    · rintro σ H2 ⟨p, met, o5, o6, o7, rfl, s2, g2, hm, heq⟩
      rw [List.length_map, List.drop_length, goesB] at heq
      refine ⟨_, rfl, _, rfl, rfl, ?_⟩
      have := q H2 s2
      rw [heq] at this
      rw [show decide (natV p = natV s0) = decide (some p = some s0) by rw [decide_eq_decide, natV_iff]; simp]
      exact this
theorem scLRing : FnScope ["_law_web_here", "_law_ties"] ["_law_web_here", "_law_ties"] (defScope sLRing) := ⟨rfl, rfl, rfl, by decide +kernel, rfl, by decide +kernel, by decide +kernel⟩
theorem ok_lring {f : Addr} {fd : FuncData} (F : Fun K "_law_is_ring" "_law_is_ring" sLRing f fd) (T : Txt K mg) (za : mg "any" = none) (CG : Callee P w K mg base 1 "_law_goes_round" ["_law_web_here", "_law_ties", "_law_begin"] spGoes) : FnOk P w K mg base CX0 2 f fd ["_law_web_here", "_law_ties"] spRingL := by
  refine F.ok scLRing (fun vs H Q E h => ?_) (fun cdv A outer s H vs Q E hr h => ?_)
  · obtain ⟨_, _, _, _, _, rfl, _⟩ := h; rfl
  · obtain ⟨w0, a, n, es, rs, rfl, W, ha, h200, hin, q⟩ := h
    refine ⟨_, pss_cons (ps_if (pw_or (pt_cmpR op_lt (pe_callB call_len_seq (by rfl) T.len b_len (pa_cons (pv 1) pa_nil)) pe_int (nomark _)) (pw_or1 (pt_cmpR op_eq (pe_op op_mod (pe_callB call_len_seq (by rfl) T.len b_len (pa_cons (pv 1) pa_nil)) pe_int) pe_int (nomark _)))).pt (pss_one (ps_ret pe_bl)) pss_nil)
      (pss_one (ps_ret (pe_callB (call_anyB rfl) (by rfl) za b_any (pa_cons (pe_comp ["_law_begin"] ["_law_ties", "_law_web_here"] [1, 0] (pi_tup (pe_ix ix_tup (pe_ix ix_tup (pv 0) pe_int (fun _ _ => rfl)) (pe_ix (ix_seqK (K := K) rfl) (pv 1) pe_int (fun _ _ => rfl)) (fun _ _ => rfl))) (fun _ _ _ _ _ => pg_name (i := 0) nd_btw rfl (Or.inl rfl)) (fun _ _ _ _ _ => pifs_nil) (fun _ _ _ _ _ => pe_def CG hr (by rfl) (pa_cons (pv 2) (pa_cons (pv 1) (pa_cons (pv 0) pa_nil))))) pa_nil)))), ?_⟩
    have no : ∀ H', Same H H' → ¬ RingR es rs → Q (.bl false) H' := fun H' s z => q false H' s ⟨(fun y => by cases y), fun y => absurd y z⟩
    refine ⟨_, rfl, a, _, rfl, ha.or, _, _, rfl, rfl, _, rfl, ?_⟩
    rw [List.length_map]
    by_cases z3 : (rs.length : Int) < 3
    · exact iteD z3 (iteT (no _ (Same.refl _) fun y => by have := y.1; omega))
    refine iteND z3 ⟨_, rfl, a, _, rfl, ha.or, _, _, rfl, rfl, (show (0 : Int) < 2 by decide), rfl, _, rfl, ?_⟩
    rw [List.length_map]
    by_cases z4 : (rs.length : Int) % 2 = 0
    · exact iteD (show V.int ((rs.length : Int) % 2) = V.int 0 by rw [z4]) (no _ (Same.refl _) fun y => by have := y.2.1; omega)
    refine iteND (fun z => z4 (by injection z)) ?_
    obtain ⟨ta, us, hw, hta, _, hat⟩ := W.at
    have h0 : 0 < rs.length := by omega
    have e0 : rs.getD 0 0 = ((tsOf rs).getD 0 0 : Nat) := by
      have h1 := (hin (rs[0]'h0) (List.getElem_mem h0)).1
      simp [tsOf, List.getD, h0]; omega
    have ht0 : (tsOf rs).getD 0 0 < es.length := ts_in hin _ (by
      have : 0 < (tsOf rs).length := by simpa [tsOf] using h0
      rw [List.getD_eq_getElem?_getD, List.getElem?_eq_getElem this]; exact List.getElem_mem this)
    have ee : es[(tsOf rs).getD 0 0]? = some (es[(tsOf rs).getD 0 0]'ht0) := List.getElem?_eq_getElem ht0
    obtain ⟨qv, et, hq⟩ := hat _ _ ee
    generalize es[(tsOf rs).getD 0 0]'ht0 = e at ee hq
    have i0 := ints_get (rs := rs) (i := 0) h0
    rw [e0] at i0
    refine ⟨_, rfl, w0, _, _, _, rfl, rfl, SqT.of hw, (rfl : atI [V.int (n : Int), V.ref ta] 1 = some (.ref ta)), _, rfl, ha.ix (i := 0) i0 ⟨ta, us, _, _, rfl, rfl, SqT.of hta, et, qv, rfl, ⟨_, SqT.of hq⟩, fun G hG => ?_⟩⟩
    refine comp_tup (K := K) (a := qv) (xs := [natV e.1, natV e.2]) (fun i ys H3 => Same H H3 ∧ H3 G = some (.lst ys) ∧ ys = (([e.1, e.2].take i).map fun p => decide (goesB es (tsOf rs) p [] = some p)).map V.bl) ⟨same_new (Same.refl _) hG, upd_same, rfl⟩ (fun i ys H3 _ h => SqT.of (h.1 _ _ hq)) ?_ ?_
    · rintro i y ys H3 hy ⟨s3, d3, rfl⟩
      obtain ⟨p, hp, rfl⟩ := nat_at (ts := [e.1, e.2]) hy
      have hi : i < 2 := (List.getElem?_eq_some_iff.mp hp).1
      refine compT (i := 0) ⟨_, rfl, _, rfl, _, rfl, w0, a, n, es, tsOf rs, p, rfl, W.mono (sameKT s3), by rw [← ts_map hin]; exact ha.same s3, ts_in hin, by simpa [tsOf] using h200, fun H4 s4 => ?_⟩
      refine ⟨s4 _ _ d3, small1000 (by simp only [List.length_map, List.length_take]; omega), same_own (s3.trans s4) hG, upd_same, ?_⟩
      rw [List.take_add_one, hp]; simp
    · rintro ys H3 ⟨s3, d3, rfl⟩
      refine ⟨G, _, rfl, SqL.of d3, q _ _ s3 ?_⟩
      simp only [List.length_cons, List.length_nil, List.take, List.map_cons, List.map_nil, List.any_cons, List.any_nil, Bool.or_false, id, Bool.or_eq_true, decide_eq_true_eq]
      constructor
      · intro h; exact ⟨by omega, by omega, hin, e, ee, h⟩
      · rintro ⟨_, _, _, e', e1, h⟩
        rw [ee] at e1
        cases e1
        exact h
end
end Hue
set_option Elab.async false
set_option linter.all false
set_option maxRecDepth 100000
set_option maxHeartbeats 2000000
namespace Hue
open PySem L2
abbrev sLSides : Stmt := top 24
def optV : Option Nat → V
  | none => .non
  | some v => natV v
theorem optV_inj {x y : Option Nat} (h : optV x = optV y) : x = y := by
  cases x <;> cases y
  · rfl
  · cases h
  · cases h
  · rw [natV_inj h]
theorem optV_non {x : Option Nat} : optV x = .non ↔ x = none := by
  cases x
  · exact ⟨fun _ => rfl, fun _ => rfl⟩
  · exact ⟨(fun h => by cases h), (fun h => by cases h)⟩
theorem opt_at {s : Sds} {p : Nat} (h : p < s.length) : atI (s.map optV) (p : Int) = some (optV (sAt s p)) := atI_nat (by rw [List.getElem?_map]; unfold sAt; simp [List.getD, h])
theorem ixN_ok {n : Nat} {k : Int} (h0 : 0 ≤ k) (h1 : k < n) : ixN n k = some k.toNat := by unfold ixN; rw [if_pos h0, if_pos h1]
theorem opt_set (s : Sds) (p : Nat) (v : Option Nat) : (s.map optV).set p (optV v) = (s.set p v).map optV := by rw [List.map_set]
def clashB (es : List (Nat × Nat)) (s : Sds) : Bool := es.any fun e => decide (sAt s e.1 = sAt s e.2)
def spLSides : Sp := fun vs H Q _ => ∃ (w : Addr) (n : Nat) (es : List (Nat × Nat)), vs = [.ref w] ∧ WebN H w n es ∧ (∀ L H', Same H H' → H L = none → H' L = some (.lst ((sidesTo n es n).map optV)) → if clashB es (sidesTo n es n) = true then Q .non H' else Q (.ref L) H')
theorem nd_ols : ((["_law_one", "_law_other"] : List Str) ++ (["_law_sides_here"] : List Str)).Nodup := by decide +kernel
theorem sides_len {n : Nat} {es : List (Nat × Nat)} (hn : ∀ e ∈ es, e.1 < n ∧ e.2 < n) {k : Nat} (hk : k ≤ n) : (sidesTo n es k).length = n := (way hn k hk).len
def Two (s : Sds) : Prop := ∀ p v, sAt s p = some v → v < 2
theorem Two.st {s : Sds} (h : Two s) (e : Nat × Nat) : Two (st2 s e) := all2 (F := fun _ v => v < 2) h (fun v h => by omega) (fun v h => by omega)
theorem ixN_nat {n k : Nat} (h : k < n) : ixN n (k : Int) = some k := by rw [ixN_ok (by omega) (by omega)]; simp
theorem opt_sub {s : Sds} {p a : Nat} (h : a < 2) : (s.map optV).set p (V.int (1 - (a : Int))) = (s.set p (some (1 - a))).map optV := by
  rw [← opt_set]
  congr 1
  show V.int _ = V.int _
  congr 1; omega
theorem rep_non (n : Nat) : (List.replicate n [V.non]).flatten = (List.replicate n none : Sds).map optV := by
  induction n with
  | zero => rfl
  | succ n ih => rw [List.replicate_succ, List.flatten_cons, ih]; rfl
theorem rnd_take {es : List (Nat × Nat)} {i : Nat} {e : Nat × Nat} {r : Sds} (h : es[i]? = some e) : (es.take (i + 1)).foldl st2 r = st2 ((es.take i).foldl st2 r) e := by
  rw [List.take_add_one, h, Option.toList_some, List.foldl_append]; rfl
section
variable {P : Program} {w : World} {K : PySem.W.Frag} {mg : Str → Option Value} {base : Heap}
theorem scLSides : FnScope ["_law_web_here", "_law_sides_here", "_law_place", "_law_turn", "_law_one", "_law_other"] ["_law_web_here"] (defScope sLSides) := ⟨rfl, rfl, rfl, by decide +kernel, rfl, by decide +kernel, by decide +kernel⟩
theorem ok_lsides {f : Addr} {fd : FuncData} (F : Fun K "_law_sides" "_law_sides" sLSides f fd) (T : Txt K mg) (za : mg "any" = none) : FnOk P w K mg base CX0 1 f fd ["_law_web_here"] spLSides := by
  refine F.ok scLSides (fun vs H Q E h => ?_) (fun cdv A outer s H vs Q E hr h => ?_)
  · obtain ⟨_, _, _, rfl, _⟩ := h; rfl
  · obtain ⟨w0, n, es, rfl, W, q⟩ := h
    refine ⟨_, @pss_cons _ _ _ _ _ (ps_set (i := 1) scLSides.nd rfl (Or.inr rfl) (pe_op op_rep (pe_lst (pa_cons pe_non pa_nil)) (pe_ix ix_tup (pv 0) pe_int (fun _ _ => rfl))))
      (pss_cons (ps_for PassesOwn.never rfl (pi_range1 (by rfl) T.range (pa_cons (pe_ix ix_tup (pv 0) pe_int (fun _ _ => rfl)) pa_nil)) (pg_name (i := 2) scLSides.nd rfl (Or.inl rfl))
        (pss_one (ps_if (pt_cmpR op_isN (pe_ix ix_list (pv 1) (pv 2) (fun _ _ => rfl)) pe_non (nomark _))
          (pss_cons (ps_asg pe_int (pg_sub (pv 1) (pv 2) set_list))
          (pss_one (ps_for PassesOwn.never rfl (pi_range1 (by rfl) T.range (pa_cons (pe_ix ix_tup (pv 0) pe_int (fun _ _ => rfl)) pa_nil)) (pg_name (i := 3) scLSides.nd rfl (Or.inl rfl))
            (pss_one (ps_for PassesOwn.never rfl (pi_tup (pe_ix ix_tup (pv 0) pe_int (fun _ _ => rfl))) (pg_tup (n := 2) rfl (pgs_cons (pg_name (i := 4) scLSides.nd rfl (Or.inl rfl)) (pgs_cons (pg_name (i := 5) scLSides.nd rfl (Or.inl rfl)) pgs_nil)))
              (pss_cons (ps_if (pw_and (pt_cmpR op_notN (pe_ix ix_list (pv 1) (pv 4) (fun _ _ => rfl)) pe_non (nomark _)) (pw_and1 (pt_cmpR op_isN (pe_ix ix_list (pv 1) (pv 5) (fun _ _ => rfl)) pe_non (nomark _)))).pt
                (pss_one (ps_asg (pe_op op_sub pe_int (pe_ix ix_list (pv 1) (pv 4) (fun _ _ => rfl))) (pg_sub (pv 1) (pv 5) set_list))) pss_nil)
              (pss_one (ps_if (pw_and (pt_cmpR op_notN (pe_ix ix_list (pv 1) (pv 5) (fun _ _ => rfl)) pe_non (nomark _)) (pw_and1 (pt_cmpR op_isN (pe_ix ix_list (pv 1) (pv 4) (fun _ _ => rfl)) pe_non (nomark _)))).pt
                (pss_one (ps_asg (pe_op op_sub pe_int (pe_ix ix_list (pv 1) (pv 5) (fun _ _ => rfl))) (pg_sub (pv 1) (pv 4) set_list))) pss_nil)))))))) pss_nil)))
      (pss_cons (ps_if (pt_val (pe_callB (call_anyB rfl) (by rfl) za b_any (pa_cons (pe_comp ["_law_one", "_law_other"] ["_law_sides_here"] [1] (pi_tup (pe_ix ix_tup (pv 0) pe_int (fun _ _ => rfl))) (fun _ _ _ _ _ => pg_tupK (K := K) (n := 2) rfl rfl (pgs_cons (pg_name (i := 0) nd_ols rfl (Or.inl rfl)) (pgs_cons (pg_name (i := 1) nd_ols rfl (Or.inl rfl)) pgs_nil))) (fun _ _ _ _ _ => pifs_nil) (fun _ _ _ _ _ => pe_cmpR op_eq (pe_ix (ix_listK (K := K) rfl) (pv 2) (pv 0) (fun _ _ => rfl)) (pe_ix (ix_listK (K := K) rfl) (pv 2) (pv 1) (fun _ _ => rfl)) (nomark _))) pa_nil))) (pss_one (ps_ret pe_non)) pss_nil)
      (pss_one (ps_ret (pv 1))))), ?_⟩
    obtain ⟨ta, ts, hw, ht, htl, he, hb, hE, hn24⟩ := id W
    refine ⟨by show 1 ≤ sizeLine; decide, fun p0 hp0 => ?_⟩
    have s0 : Same H (upd H p0 (.lst [V.non])) := same_new (Same.refl _) hp0
    refine ⟨_, rfl, w0, _, _, _, rfl, rfl, SqT.of (s0 _ _ hw), (rfl : atI [V.int (n : Int), V.ref ta] 0 = some (.int (n : Int))), p0, (n : Int), [V.non], rfl, rfl, upd_same, by omega, by omega, sl3 (by simp; omega), fun L hL => ?_⟩
    have s1 := same_new (o := .lst (List.replicate ((n : Int)).toNat [V.non]).flatten) s0 hL
    have gL : (upd (upd H p0 (.lst [V.non])) L (.lst (List.replicate ((n : Int)).toNat [V.non]).flatten)) L = some (.lst ((sidesTo n es 0).map optV)) := by rw [upd_same, Int.toNat_natCast, rep_non]; rfl
    have nL : H L = none := s0.free hL
    generalize (upd (upd H p0 (.lst [V.non])) L (.lst (List.replicate ((n : Int)).toNat [V.non]).flatten)) = H1 at s1 gL
    have eN : ((n : Int) - 0).toNat = n := by omega
    refine ⟨_, rfl, w0, _, _, _, rfl, rfl, SqT.of (s1 _ _ hw), (rfl : atI [V.int (n : Int), V.ref ta] 0 = some (.int (n : Int))), (n : Int), rfl, by omega, by omega, for_range (lo := 0) (n := ((n : Int)).toNat) (fun k σ H2 => ∃ o2 o3 o4 o5 : Option V, σ = [some (.ref w0), some (.ref L), o2, o3, o4, o5] ∧ Same H H2 ∧ H2 L = some (.lst ((sidesTo n es k).map optV)))
      ⟨none, none, none, none, rfl, s1, gL⟩ ?_ ?_⟩
    · rintro k σ H2 hk ⟨o2, o3, o4, o5, rfl, s2, g2⟩
      have hkn : k < n := by omega
      have Wk := way hb k (by omega)
      have ek : (0 : Int) + (k : Int) = (k : Int) := by omega
      have hkl : k < (sidesTo n es k).length := by rw [Wk.len]; exact hkn
      refine ⟨_, rfl, _, rfl, L, _, _, _, rfl, rfl, SqL.of g2, by rw [ek]; exact opt_at hkl, rfl, _, rfl, ?_⟩
      by_cases z : sAt (sidesTo n es k) k = none
      case neg =>
        refine iteND (fun h => z (optV_non.mp h)) ⟨_, _, _, _, rfl, s2, ?_⟩
        rw [sidesTo, beg, if_neg z]; exact g2
      refine iteD (optV_non.mpr z) ?_
      refine ⟨_, rfl, _, rfl, L, _, _, k, rfl, rfl, g2, by rw [ek]; exact ixN_nat (by rw [List.length_map]; exact hkl), ?_⟩
      have s3 := same_own (o := .lst (((sidesTo n es k).map optV).set k (V.int 0))) s2 nL
      have g3 : (upd H2 L (.lst (((sidesTo n es k).map optV).set k (V.int 0)))) L = some (.lst (((sidesTo n es k).set k (some 0)).map optV)) := by rw [upd_same, ← opt_set]; rfl
      generalize (upd H2 L (.lst (((sidesTo n es k).map optV).set k (V.int 0)))) = H3 at s3 g3
      have enx : sidesTo n es (k + 1) = rnds es n ((sidesTo n es k).set k (some 0)) := by rw [sidesTo, beg, if_pos z]
      rw [enx]
      have hl1 : ((sidesTo n es k).set k (some 0)).length = n := by rw [List.length_set]; exact Wk.len
      have tw1 : Two ((sidesTo n es k).set k (some 0)) := fun p v h => by
        rw [sAt_set hkl] at h
        split at h
        · cases h; omega
        · exact Wk.two p v h
      generalize ((sidesTo n es k).set k (some 0)) = r0 at g3 hl1 tw1
      refine ⟨_, rfl, w0, _, _, _, rfl, rfl, SqT.of (s3 _ _ hw), (rfl : atI [V.int (n : Int), V.ref ta] 0 = some (.int (n : Int))), (n : Int), rfl, by omega, by omega, for_range (lo := 0) (n := ((n : Int)).toNat) (fun j σ H4 => ∃ o3 o4 o5 : Option V, σ = [some (.ref w0), some (.ref L), some (.int (0 + (k : Int))), o3, o4, o5] ∧ Same H H4 ∧ H4 L = some (.lst ((rnds es j r0).map optV)))
        ⟨_, _, _, rfl, s3, g3⟩ ?_ ?_⟩
      · rintro j σ H4 hj ⟨o3', o4', o5', rfl, s4, g4⟩
        have twj : Two (rnds es j r0) := allN (F := fun _ v => v < 2) (fun e he => ⟨fun v h => by omega, fun v h => by omega⟩) j tw1
        have lj : (rnds es j r0).length = n := (growN es j r0).len.trans hl1
        show _
        refine ⟨_, rfl, w0, _, _, _, rfl, rfl, SqT.of (s4 _ _ hw), (rfl : atI [V.int (n : Int), V.ref ta] 1 = some (.ref ta)), ta, rfl, ⟨_, SqT.of (s4 _ _ ht)⟩, for_tup (K := K) (a := ta) (xs := ts) (fun i σ H5 => ∃ o4 o5 : Option V, σ = [some (.ref w0), some (.ref L), some (.int (0 + (k : Int))), some (.int (0 + (j : Int))), o4, o5] ∧ Same H H5 ∧ H5 L = some (.lst (((es.take i).foldl st2 (rnds es j r0)).map optV)))
          ⟨_, _, rfl, s4, g4⟩ (fun i σ H5 _ h => by obtain ⟨_, _, _, s5, _⟩ := h; exact SqT.of (s5 _ _ ht)) ?_ ?_⟩
        · rintro i x σ H5 hx ⟨o4'', o5'', rfl, s5, g5⟩
          obtain ⟨qv, e, rfl, ee, hq⟩ := he i x hx
          obtain ⟨b1, b2⟩ := hb e (List.mem_of_getElem? ee)
          rw [rnd_take ee]
          have tws : Two ((es.take i).foldl st2 (rnds es j r0)) := allR (F := fun _ v => v < 2) (es := es.take i) twj fun e he => ⟨fun v h => by omega, fun v h => by omega⟩
          have ls : ((es.take i).foldl st2 (rnds es j r0)).length = n := (growR (es.take i) (rnds es j r0)).len.trans lj
          generalize ((es.take i).foldl st2 (rnds es j r0)) = r at g5 tws ls
          have l1 : e.1 < r.length := by omega
          have l2 : e.2 < r.length := by omega
          have a1 := opt_at l1
          have a2 := opt_at l2
          refine ⟨qv, _, rfl, SqT.of (s5 _ _ hq), rfl, _, _, rfl, _, _, rfl, rfl, ?_⟩
          refine ⟨_, rfl, _, rfl, L, _, _, _, rfl, rfl, SqL.of g5, a1, rfl, _, rfl, ?_⟩
          cases h1 : sAt r e.1 with
          | none =>
            rw [h1] at a1
            refine iteNS rfl (iteF ?_)
            refine ⟨_, rfl, _, rfl, L, _, _, _, rfl, rfl, SqL.of g5, a2, rfl, _, rfl, ?_⟩
            cases h2 : sAt r e.2 with
            | none =>
              have er : st2 r e = r := by simp [st2, st1, h1, h2]
              refine iteNS rfl (iteF ⟨_, _, rfl, s5, ?_⟩)
              rw [er]; exact g5
            | some b =>
              rw [h2] at a2
              have er : st2 r e = r.set e.1 (some (1 - b)) := by simp [st2, st1, h1, h2]
              refine iteNT (fun z => by cases z) ⟨_, rfl, _, rfl, L, _, _, _, rfl, rfl, SqL.of g5, a1, rfl, _, rfl, iteD rfl ?_⟩
              refine ⟨_, rfl, _, rfl, L, _, _, _, rfl, rfl, SqL.of g5, a2, _, _, rfl, rfl, _, rfl, _, rfl, L, _, _, e.1, rfl, rfl, g5, ixN_nat (by rw [List.length_map]; exact l1), _, _, rfl, same_own s5 nL, ?_⟩
              rw [upd_same, er, opt_sub (tws _ _ h2)]
          | some b =>
            rw [h1] at a1
            refine iteNT (fun z => by cases z) ⟨_, rfl, _, rfl, L, _, _, _, rfl, rfl, SqL.of g5, a2, rfl, _, rfl, ?_⟩
            cases h2 : sAt r e.2 with
            | none =>
              rw [h2] at a2
              have hne : e.2 ≠ e.1 := fun z => by rw [z, h1] at h2; cases h2
              have k1 : sAt (r.set e.2 (some (1 - b))) e.1 = some b := by rw [sAt_set l2, if_neg hne]; exact h1
              have k2 : sAt (r.set e.2 (some (1 - b))) e.2 = some (1 - b) := by rw [sAt_set l2, if_pos rfl]
              have er : st2 r e = r.set e.2 (some (1 - b)) := by
                have e1 : st1 r e.1 e.2 = r.set e.2 (some (1 - b)) := by simp [st1, h1, h2]
                unfold st2
                rw [e1]
                simp [st1, k1, k2]
              refine iteD rfl ?_
              refine ⟨_, rfl, _, rfl, L, _, _, _, rfl, rfl, SqL.of g5, a1, _, _, rfl, rfl, _, rfl, _, rfl, L, _, _, e.2, rfl, rfl, g5, ixN_nat (by rw [List.length_map]; exact l2), ?_⟩
              have s6 := same_own (o := .lst ((r.map optV).set e.2 (V.int (1 - (b : Int))))) s5 nL
              have g6 : (upd H5 L (.lst ((r.map optV).set e.2 (V.int (1 - (b : Int)))))) L = some (.lst ((r.set e.2 (some (1 - b))).map optV)) := by rw [upd_same, opt_sub (tws _ _ h1)]
              generalize (upd H5 L (.lst ((r.map optV).set e.2 (V.int (1 - (b : Int)))))) = H6 at s6 g6
              have m2 : atI ((r.set e.2 (some (1 - b))).map optV) (e.2 : Int) = some (natV (1 - b)) := by rw [opt_at (by rw [List.length_set]; exact l2), k2]; rfl
              have m1 : atI ((r.set e.2 (some (1 - b))).map optV) (e.1 : Int) = some (natV b) := by rw [opt_at (by rw [List.length_set]; exact l1), k1]; rfl
              refine ⟨_, rfl, _, rfl, L, _, _, _, rfl, rfl, SqL.of g6, m2, rfl, _, rfl, iteNT (fun z => by cases z) ⟨_, rfl, _, rfl, L, _, _, _, rfl, rfl, SqL.of g6, m1, rfl, _, rfl, iteND (fun z => by cases z) ⟨_, _, rfl, s6, ?_⟩⟩⟩
              rw [er]; exact g6
            | some c =>
              rw [h2] at a2
              have er : st2 r e = r := by simp [st2, st1, h1, h2]
              refine iteND (fun z => by cases z) ⟨_, rfl, _, rfl, L, _, _, _, rfl, rfl, SqL.of g5, a2, rfl, _, rfl, iteNT (fun z => by cases z) ⟨_, rfl, _, rfl, L, _, _, _, rfl, rfl, SqL.of g5, a1, rfl, _, rfl, iteND (fun z => by cases z) ⟨_, _, rfl, s5, ?_⟩⟩⟩
              rw [er]; exact g5
        · rintro σ H5 ⟨o4'', o5'', rfl, s5, g5⟩
          rw [htl, List.take_length] at g5
          exact ⟨_, _, _, rfl, s5, g5⟩
      · rintro σ H4 ⟨o3', o4', o5', rfl, s4, g4⟩
        rw [Int.toNat_natCast] at g4
        exact ⟨_, _, _, _, rfl, s4, g4⟩
    · rintro σ H2 ⟨o2, o3, o4, o5, rfl, s2, g2⟩
      rw [Int.toNat_natCast] at g2
      have len : (sidesTo n es n).length = n := sides_len hb (Nat.le_refl _)
      refine ⟨_, rfl, w0, _, _, _, rfl, rfl, SqT.of (s2 _ _ hw), (rfl : atI [V.int (n : Int), V.ref ta] 1 = some (.ref ta)), ta, rfl, ⟨_, SqT.of (s2 _ _ ht)⟩, fun G hG => comp_tup (K := K) (a := ta) (xs := ts) (fun i ys H3 => Same H2 H3 ∧ H3 G = some (.lst ys) ∧ ys = ((es.take i).map fun e => decide (sAt (sidesTo n es n) e.1 = sAt (sidesTo n es n) e.2)).map V.bl) ⟨same_new (Same.refl _) hG, upd_same, rfl⟩ (fun i ys H3 _ h => SqT.of (h.1 _ _ (s2 _ _ ht))) ?_ ?_⟩
      · rintro i x ys H3 hx ⟨s3, d3, rfl⟩
        obtain ⟨qv, e, rfl, ee, hq⟩ := he i x hx
        have hi : i < ts.length := (List.getElem?_eq_some_iff.mp hx).1
        obtain ⟨b1, b2⟩ := hb e (List.mem_of_getElem? ee)
        have g3 := s3 _ _ g2
        refine ⟨qv, _, rfl, SqT.of (s3 _ _ (s2 _ _ hq)), rfl, _, _, rfl, _, _, rfl, rfl, iteT ?_⟩
        refine ⟨_, rfl, _, rfl, L, _, _, _, rfl, rfl, SqL.of g3, opt_at (by omega), _, rfl, _, rfl, L, _, _, _, rfl, rfl, SqL.of g3, opt_at (by omega), ?_⟩
        refine ⟨by cases sAt (sidesTo n es n) e.1 <;> cases sAt (sidesTo n es n) e.2 <;> rfl, d3, small1000 (by simp only [List.length_map, List.length_take]; omega), same_own s3 hG, upd_same, ?_⟩
        rw [List.take_add_one, ee]
        simp
        exact ⟨fun h => optV_inj h, fun h => by rw [h]⟩
      · rintro ys H3 ⟨s3, d3, rfl⟩
        rw [htl, List.take_length] at d3
        refine ⟨G, _, rfl, SqL.of d3, _, rfl, ?_⟩
        have := q L H3 (s2.trans s3) nL (s3 _ _ g2)
        rw [List.any_map]
        show if es.any (fun e => decide (sAt (sidesTo n es n) e.1 = sAt (sidesTo n es n) e.2)) = true then _ else _
        unfold clashB at this
        cases ec : es.any (fun e => decide (sAt (sidesTo n es n) e.1 = sAt (sidesTo n es n) e.2)) with
        | true => rw [ec] at this; exact iteT this
        | false => rw [ec] at this; exact iteF ⟨_, rfl, this⟩
end
end Hue
set_option Elab.async false
set_option linter.all false
set_option maxRecDepth 100000
set_option maxHeartbeats 4000000
namespace L2
open PySem PySem.Spec PyProof.Rows
structure Sz (k b : Nat) (d : PyData) : Prop where
  dp : d.depth ≤ k
  bk : d.bulk ≤ b
  sh : d.showable = true
  lf : d.leavesShort 100 = true
theorem Sz.mono {k b k' b' : Nat} {d : PyData} (h : Sz k b d) (hk : k ≤ k') (hb : b ≤ b') : Sz k' b' d := ⟨Nat.le_trans h.dp hk, Nat.le_trans h.bk hb, h.sh, h.lf⟩
theorem Sz.fit {k b : Nat} {d : PyData} (h : Sz k b d) (hk : k ≤ 40) (hb : b ≤ 100000) : Fit d := ⟨h.sh, by
  have := PyData.shown_le_bulk 100 (by decide) d h.lf
  have h2 := h.bk
  rw [sizeLine_eq]
  omega, Nat.le_trans h.dp hk⟩
structure SzA (k b n : Nat) (ds : List PyData) : Prop where
  dp : PyData.depthAll ds ≤ k
  bk : PyData.bulkAll ds ≤ n * (b + 1)
  sh : PyData.showableAll ds = true
  lf : PyData.leavesShortAll 100 ds = true
theorem SzA.nil {k b : Nat} : SzA k b 0 [] := ⟨by simp [PyData.depthAll], by simp [PyData.bulkAll], by simp [PyData.showableAll], by simp [PyData.leavesShortAll]⟩
theorem SzA.cons {k b n : Nat} {d : PyData} {ds : List PyData} (h : Sz k b d) (h' : SzA k b n ds) : SzA k b (n + 1) (d :: ds) := by
  refine ⟨?_, ?_, ?_, ?_⟩
  · simp only [PyData.depthAll]; have := h.dp; have := h'.dp; omega
  · simp only [PyData.bulkAll]
    have := h.bk
    have := h'.bk
    rw [Nat.succ_mul]
    omega
  · simp only [PyData.showableAll, h.sh, h'.sh]; rfl
  · simp only [PyData.leavesShortAll, h.lf, h'.lf]; rfl
theorem SzA.list {k b n : Nat} {ds : List PyData} (h : SzA k b n ds) : Sz (k + 1) (n * (b + 1)) (.list ds) := ⟨by simp only [PyData.depth]; have := h.dp; omega, by simp only [PyData.bulk]; exact h.bk, by simp only [PyData.showable]; exact h.sh, by simp only [PyData.leavesShort]; exact h.lf⟩
theorem SzA.tuple {k b n : Nat} {ds : List PyData} (h : SzA k b n ds) : Sz (k + 1) (n * (b + 1)) (.tuple ds) := ⟨by simp only [PyData.depth]; have := h.dp; omega, by simp only [PyData.bulk]; exact h.bk, by simp only [PyData.showable]; exact h.sh, by simp only [PyData.leavesShort]; exact h.lf⟩
def DN (k b : Nat) (H : Hp) (x : V) : Prop := ∃ d, Dat H x d ∧ Sz k b d
theorem DN.mono {k b k' b' : Nat} {H H' : Hp} {x : V} (h : DN k b H x) (s : ∀ c o, H c = some o → H' c = some o) (hk : k ≤ k') (hb : b ≤ b') : DN k' b' H' x := let ⟨d, a, z⟩ := h; ⟨d, Dat.mono s x d a, z.mono hk hb⟩
theorem DN.all {k b : Nat} {H : Hp} : ∀ {xs : List V}, (∀ x ∈ xs, DN k b H x) → ∃ ds, DatAll H xs ds ∧ SzA k b xs.length ds
  | [], _ => ⟨[], by unfold DatAll; trivial, .nil⟩
  | x :: xs, h => by
    obtain ⟨d, hd, hz⟩ := h x (List.mem_cons_self ..)
    obtain ⟨ds, hs, hzs⟩ := DN.all (xs := xs) fun y hy => h y (List.mem_cons_of_mem _ hy)
    exact ⟨d :: ds, by unfold DatAll; exact ⟨hd, hs⟩, .cons hz hzs⟩
theorem DN.non {k b : Nat} {H : Hp} : DN k b H .non := ⟨.none, by unfold Dat; rfl, by simp [PyData.depth], by simp [PyData.bulk], by simp [PyData.showable], by simp [PyData.leavesShort]⟩
theorem DN.bl {k b : Nat} {H : Hp} (c : Bool) : DN k b H (.bl c) := ⟨.bool c, by unfold Dat; rfl, by simp [PyData.depth], by simp [PyData.bulk], by simp [PyData.showable], by simp [PyData.leavesShort]⟩
theorem DN.int {k b : Nat} {H : Hp} {i : Int} (h : i.natAbs.log2 < 90) : DN k b H (.int i) := ⟨.int i, by unfold Dat; rfl, by simp [PyData.depth], by simp [PyData.bulk], by simp only [PyData.showable, decide_eq_true_eq]; omega, by
  have := int_text_length_le (a := i) (k := 90) (by decide) h
  simp only [PyData.leavesShort, PyData.shown]
  refine decide_eq_true ?_
  show (Str.ofString (toString i)).length ≤ 100
  rw [PySem.ofString_length]
  omega⟩
theorem small_log {i : Int} (h0 : -1000000 ≤ i) (h1 : i ≤ 1000000) : i.natAbs.log2 < 90 := by
  by_cases z : i.natAbs = 0
  · rw [z]; decide
  · refine (Nat.log2_lt z).mpr (Nat.lt_of_le_of_lt (show i.natAbs ≤ 1000000 by omega) (by decide))
theorem DN.str {k b : Nat} {H : Hp} {x : Str} (h : x.cps.size ≤ b) (hc : (x.cps.toList.all fun c => decide (c < 16 ^ 8)) = true) : DN k b H (.str x) := ⟨.str x, by unfold Dat; rfl, by simp [PyData.depth], by simp only [PyData.bulk]; exact h, by simp [PyData.showable], by simp only [PyData.leavesShort]; exact hc⟩
theorem DN.tup {k b n : Nat} {H : Hp} {p : Addr} {xs : List V} (hp : H p = some (.tup xs)) (h : ∀ x ∈ xs, DN k b H x) (hn : xs.length ≤ n) : DN (k + 1) (n * (b + 1)) H (.ref p) := by
  obtain ⟨ds, hd, hz⟩ := DN.all h
  exact ⟨.tuple ds, by unfold Dat; exact ⟨p, xs, rfl, hp, hd⟩, hz.tuple.mono (Nat.le_refl _) (Nat.mul_le_mul_right _ hn)⟩
theorem DN.lst {k b n : Nat} {H : Hp} {p : Addr} {xs : List V} (hp : H p = some (.lst xs)) (h : ∀ x ∈ xs, DN k b H x) (hn : xs.length ≤ n) : DN (k + 1) (n * (b + 1)) H (.ref p) := by
  obtain ⟨ds, hd, hz⟩ := DN.all h
  exact ⟨.list ds, by unfold Dat; exact ⟨p, xs, rfl, hp, hd⟩, hz.list.mono (Nat.le_refl _) (Nat.mul_le_mul_right _ hn)⟩
def hid (o : Option Addr) (H : Hp) : Hp := fun b => if o = some b then none else H b
def Live (o : Option Addr) (H : Hp) : Prop := ∀ t, o = some t → ∃ u, H t = some u
theorem hid_at {o : Option Addr} {H : Hp} {p : Addr} {u : HO} (n : o ≠ some p) (h : H p = some u) : hid o H p = some u := by unfold hid; rw [if_neg n]; exact h
theorem hid_same {o : Option Addr} {H H' : Hp} (s : Same H H') : ∀ b u, hid o H b = some u → hid o H' b = some u := fun b u h => by
  unfold hid at h ⊢
  split at h
  · cases h
  · rename_i n; rw [if_neg n]; exact s b u h
theorem Live.ne {o : Option Addr} {H : Hp} {p : Addr} (l : Live o H) (n : H p = none) : o ≠ some p := fun e => by
  obtain ⟨u, h⟩ := l p e
  rw [n] at h; cases h
theorem Live.same {o : Option Addr} {H H' : Hp} (l : Live o H) (s : Same H H') : Live o H' := fun t e => let ⟨u, h⟩ := l t e; ⟨u, s t u h⟩
theorem same_up {H : Hp} {p : Addr} {u : HO} (n : H p = none) : Same H (upd H p u) := fun b o e => by rw [upd_ne (ne_of_none e n)]; exact e
section
variable {X : Cx} {o : Option Addr} {C : St → Hp → Prop} {k b n : Nat} {e : Expr} {es : List Expr} {pos : Pos}
end
end L2
set_option Elab.async false
set_option linter.all false
set_option maxRecDepth 100000
set_option maxHeartbeats 2000000
namespace Hue
open PySem L2
abbrev sWhole : Stmt := top 28
abbrev sListed : Stmt := top 6
abbrev sPair : Stmt := top 7
abbrev sShow : Stmt := top 17
abbrev sDue : Stmt := top 29
def kdD : PyData → String
  | .none => "NoneType"
  | .bool _ => "bool"
  | .int _ => "int"
  | .str _ => "str"
  | .list _ => "list"
  | .tuple _ => "tuple"
  | .dict _ => "dict"
theorem Dat.ty {K : PySem.W.Frag} {H : Hp} : ∀ {x : V} {d : PyData}, Dat H x d → TyOf K H x (.type (kdD d))
  | _, .none, h => by unfold Dat at h; subst h; exact .non
  | _, .bool b, h => by unfold Dat at h; subst h; exact .bl b
  | _, .int i, h => by unfold Dat at h; subst h; exact .int i
  | _, .str x, h => by unfold Dat at h; subst h; exact .str x
  | _, .list _, h => by unfold Dat at h; obtain ⟨a, xs, rfl, h1, _⟩ := h; exact .lst h1
  | _, .tuple _, h => by unfold Dat at h; obtain ⟨a, xs, rfl, h1, _⟩ := h; exact .tup h1
  | _, .dict _, h => by unfold Dat at h; exact h.elim
def isTupD : PyData → Bool
  | .tuple _ => true
  | _ => false
def isIntD : PyData → Bool
  | .int _ | .bool _ => true
  | _ => false
def isBlD : PyData → Bool
  | .bool _ => true
  | _ => false
def numD : PyData → Bool
  | .int _ => true
  | _ => false
theorem kt_tup {K : PySem.W.Frag} {d : PyData} {H : Hp} {x : V} (h : Dat H x d) : PySem.W.kitOne K (.type (kdD d)) (.type "tuple") = some (isTupD d) := by
  rw [kit_n]
  cases d with
  | dict _ => unfold Dat at h; exact h.elim
  | _ => simp only [kdD, isTupD]; decide +kernel
theorem kt_int {K : PySem.W.Frag} {d : PyData} {H : Hp} {x : V} (h : Dat H x d) : PySem.W.kitOne K (.type (kdD d)) (.type "int") = some (isIntD d) := by
  rw [kit_n]
  cases d with
  | dict _ => unfold Dat at h; exact h.elim
  | _ => simp only [kdD, isIntD]; decide +kernel
theorem kt_bl {K : PySem.W.Frag} {d : PyData} {H : Hp} {x : V} (h : Dat H x d) : PySem.W.kitOne K (.type (kdD d)) (.type "bool") = some (isBlD d) := by
  rw [kit_n]
  cases d with
  | dict _ => unfold Dat at h; exact h.elim
  | _ => simp only [kdD, isBlD]; decide +kernel
theorem num_eq (d : PyData) : (isIntD d && !isBlD d) = numD d := by cases d <;> rfl
theorem dat_tup {H : Hp} {x : V} {d : PyData} (h : Dat H x d) (e : isTupD d = true) : ∃ ds a xs, d = .tuple ds ∧ x = .ref a ∧ H a = some (.tup xs) ∧ DatAll H xs ds := by
  cases d with
  | tuple ds => unfold Dat at h; obtain ⟨a, xs, e1, h1, h2⟩ := h; exact ⟨ds, a, xs, rfl, e1, h1, h2⟩
  | _ => cases e
theorem dat_int {H : Hp} {x : V} {d : PyData} (h : Dat H x d) (e : numD d = true) : ∃ i, d = .int i ∧ x = .int i := by
  cases d with
  | int i => unfold Dat at h; exact ⟨i, rfl, h⟩
  | _ => cases e
theorem two_of {H : Hp} {xs : List V} {ds : List PyData} (h : DatAll H xs ds) (e : xs.length = 2) : ∃ x y dx dy, xs = [x, y] ∧ ds = [dx, dy] ∧ Dat H x dx ∧ Dat H y dy := by
  have l := h.length
  match xs, ds, e, l with
  | [x, y], [dx, dy], _, _ =>
    unfold DatAll at h
    obtain ⟨h1, h⟩ := h
    unfold DatAll at h
    exact ⟨x, y, dx, dy, rfl, rfl, h1, h.1⟩
def spNum : Sp := fun vs H Q _ => ∃ x d, vs = [x] ∧ Dat H x d ∧ Q (.bl (numD d)) H
def pairD : PyData → Bool
  | .tuple ds => ds.length == 2
  | _ => false
def spPair : Sp := fun vs H Q _ => ∃ x d, vs = [x] ∧ Dat H x d ∧ Q (.bl (pairD d)) H
def seqD : PyData → Bool
  | .list _ | .tuple _ => true
  | _ => false
theorem kt_seq {K : PySem.W.Frag} {d : PyData} {H : Hp} {x : V} (h : Dat H x d) : PySem.W.kitAny K (.type (kdD d)) (["list", "tuple"].map Value.type) = some (seqD d) := by
  cases d with
  | dict _ => unfold Dat at h; exact h.elim
  | list _ => exact any_lst
  | tuple _ =>
    show (match PySem.W.kitOne K (.type "tuple") (.type "list") with | some true => some true | some false => (match PySem.W.kitOne K (.type "tuple") (.type "tuple") with | some true => some true | some false => some false | none => none) | none => none) = some true
    rw [kit_n, kt_tl]
    show (match PySem.W.kitOne K (.type "tuple") (.type "tuple") with | some true => some true | some false => some false | none => none) = some true
    rw [kit_n, kt_tt]
  | none => exact any_two_f kt_nl kt_nt
  | bool _ => exact any_two_f (show ktn "bool" "list" = some false by decide +kernel) (show ktn "bool" "tuple" = some false by decide +kernel)
  | int _ => exact any_two_f kt_il kt_it
  | str _ => exact any_two_f (show ktn "str" "list" = some false by decide +kernel) (show ktn "str" "tuple" = some false by decide +kernel)
def spListed : Sp := fun vs H Q _ => ∃ x d, vs = [x] ∧ Dat H x d ∧ ∀ H', Same H H' → Q (.bl (seqD d)) H'
theorem dat_num {H : Hp} {n : Int} : ∀ {d : PyData}, Dat H (.int n) d → d = .int n
  | .none, h => by unfold Dat at h; cases h
  | .bool _, h => by unfold Dat at h; cases h
  | .int i, h => by unfold Dat at h; injection h with h; rw [h]
  | .str _, h => by unfold Dat at h; cases h
  | .list _, h => by unfold Dat at h; obtain ⟨_, _, z, _⟩ := h; cases z
  | .tuple _, h => by unfold Dat at h; obtain ⟨_, _, z, _⟩ := h; cases z
  | .dict _, h => by unfold Dat at h; exact h.elim
theorem datAll_ints {H : Hp} : ∀ {xs : List V} {ds : List PyData}, DatAll H xs ds → ds.all numD = true → ∃ ps : List Int, xs = ps.map V.int ∧ ds = ps.map PyData.int
  | [], [], _, _ => ⟨[], rfl, rfl⟩
  | x :: xs, d :: ds, h, a => by
    unfold DatAll at h
    rw [List.all_cons, Bool.and_eq_true] at a
    obtain ⟨i, e1, e2⟩ := dat_int h.1 a.1
    obtain ⟨ps, h1, h2⟩ := datAll_ints h.2 a.2
    exact ⟨i :: ps, by rw [e2, h1]; rfl, by rw [e1, h2]; rfl⟩
  | [], _ :: _, h, _ => by unfold DatAll at h; exact h.elim
  | _ :: _, [], h, _ => by unfold DatAll at h; exact h.elim
theorem eqV_int (a b : Int) : eqV (.int a) (.int b) = decide (a = b) := by
  rw [Bool.eq_iff_iff]; simp [eqV]
theorem eqVs_iff : ∀ (as bs : List Int), eqVs (as.map V.int) (bs.map V.int) = true ↔ as = bs
  | [], [] => by simp [eqVs]
  | [], b :: bs => by simp [eqVs]
  | a :: as, [] => by simp [eqVs]
  | a :: as, b :: bs => by
    have ih := eqVs_iff as bs
    unfold eqVs at ih ⊢
    rw [Bool.and_eq_true] at ih ⊢
    simp only [List.map_cons, List.zip_cons_cons, List.all_cons, Bool.and_eq_true, List.length_cons, eqV_int, decide_eq_true_eq] at ih ⊢
    constructor
    · rintro ⟨h1, h2, h3⟩
      rw [h2, ih.mp ⟨by simpa using h1, h3⟩]
    · intro e
      injection e with e1 e2
      have := ih.mpr e2
      exact ⟨by simpa using this.1, e1, this.2⟩
theorem sides_iff {n : Nat} {es : List (Nat × Nat)} (hb : ∀ e ∈ es, e.1 < n ∧ e.2 < n) {rs : List Int} : (clashB es (sidesTo n es n) = false ∧ rs.map V.int = (sidesTo n es n).map optV) ↔ SidesR n es rs := by
  have Wn := way hb n (Nat.le_refl _)
  constructor
  · rintro ⟨hc, e⟩
    have hl : rs.length = n := by
      have := congrArg List.length e
      rw [List.length_map, List.length_map, Wn.len] at this
      exact this
    have at' : ∀ p, p < n → ∃ v : Nat, sAt (sidesTo n es n) p = some v ∧ rs.getD p 0 = (v : Int) ∧ v < 2 := fun p hp => by
      obtain ⟨v, hv⟩ := Wn.done p hp
      refine ⟨v, hv, ?_, Wn.two p v hv⟩
      have h1 : (rs.map V.int)[p]? = some (V.int (rs.getD p 0)) := by rw [List.getElem?_map]; simp [List.getD, show p < rs.length by omega]
      have h2 : ((sidesTo n es n).map optV)[p]? = some (natV v) := by
        rw [List.getElem?_map, at_some.mp hv]; rfl
      rw [e, h2] at h1
      have := Option.some.inj h1
      unfold natV at this
      injection this with this
      exact this.symm
    refine ⟨hl, fun r hr => ?_, fun e he => ?_, fun f hf hm => ?_⟩
    · obtain ⟨p, hp, rfl⟩ := List.mem_iff_getElem.mp hr
      obtain ⟨v, _, h2, h3⟩ := at' p (by omega)
      simp [List.getD, hp] at h2
      omega
    · obtain ⟨v1, a1, c1, _⟩ := at' e.1 (hb e he).1
      obtain ⟨v2, a2, c2, _⟩ := at' e.2 (hb e he).2
      intro z
      have : clashB es (sidesTo n es n) = true := List.any_eq_true.mpr ⟨e, he, decide_eq_true (by rw [a1, a2]; congr 1; omega)⟩
      rw [this] at hc; cases hc
    · obtain ⟨v, a1, c1, _⟩ := at' f hf
      have := sides_first hb hf hm n hf (Nat.le_refl _)
      rw [this] at a1
      cases a1
      rw [c1]; rfl
  · rintro ⟨hl, h01, hp, h0⟩
    have g01 : ∀ p, p < n → rs.getD p 0 = 0 ∨ rs.getD p 0 = 1 := fun p hp => by
      have : p < rs.length := by omega
      rw [List.getD_eq_getElem?_getD, List.getElem?_eq_getElem this]
      exact h01 _ (List.getElem_mem this)
    have un := sides_uniq (c := fun p => (rs.getD p 0).toNat) hb (fun p hp => by have := g01 p hp; show (rs.getD p 0).toNat < 2; omega) (fun e he => by
      have a1 := g01 e.1 (hb e he).1
      have a2 := g01 e.2 (hb e he).2
      have a3 := hp e he
      show (rs.getD e.1 0).toNat ≠ (rs.getD e.2 0).toNat
      omega) (fun f hf hm => by show (rs.getD f 0).toNat = 0; rw [h0 f hf hm]; rfl) n (Nat.le_refl _)
    constructor
    · cases hc : clashB es (sidesTo n es n) with
      | false => rfl
      | true =>
        obtain ⟨e, he, z⟩ := List.any_eq_true.mp hc
        have z := of_decide_eq_true z
        obtain ⟨v1, a1⟩ := Wn.done e.1 (hb e he).1
        obtain ⟨v2, a2⟩ := Wn.done e.2 (hb e he).2
        have b1 := un _ _ a1
        have b2 := un _ _ a2
        rw [a1, a2] at z
        cases z
        have c1 := g01 e.1 (hb e he).1
        have c2 := g01 e.2 (hb e he).2
        have a3 := hp e he
        omega
    · refine List.ext_getElem? fun p => ?_
      by_cases hp : p < n
      · obtain ⟨v, hv⟩ := Wn.done p hp
        have b := un _ _ hv
        rw [List.getElem?_map, List.getElem?_map, at_some.mp hv]
        have : p < rs.length := by omega
        rw [List.getElem?_eq_getElem this]
        have c := g01 p hp
        simp only [List.getD_eq_getElem?_getD, List.getElem?_eq_getElem this, Option.getD_some] at b c
        show some (V.int rs[p]) = some (V.int (v : Int))
        congr 2; omega
      · rw [List.getElem?_eq_none (by rw [List.length_map]; omega), List.getElem?_eq_none (by rw [List.length_map, Wn.len]; omega)]
def NumsD (b : PyData) (rs : List Int) : Prop := b = .list (rs.map PyData.int) ∨ b = .tuple (rs.map PyData.int)
def ShowR (n : Nat) (es : List (Nat × Nat)) (d : PyData) : Prop := ∃ (wd : Str) (b : PyData) (rs : List Int), d = .tuple [.str wd, b] ∧ NumsD b rs ∧ ((wd = "sides" ∧ SidesR n es rs) ∨ (wd = "ring" ∧ RingR es rs))
def WordOk (d : PyData) : Prop := ∀ a b, d = .tuple [a, b] → seqD b = true → (∃ wd, a = .str wd) ∨ a = .none
def RowOk (d : PyData) : Prop := ∀ a b ds, d = .tuple [a, b] → (b = .list ds ∨ b = .tuple ds) → ds.length ≤ 200
def spShow : Sp := fun vs H Q _ => ∃ (w : Addr) (n : Nat) (es : List (Nat × Nat)) (x : V) (d : PyData), vs = [.ref w, x] ∧ WebN H w n es ∧ Dat H x d ∧ WordOk d ∧ RowOk d ∧ ∀ b H', Same H H' → (b = true ↔ ShowR n es d) → Q (.bl b) H'
theorem dat_seq {H : Hp} {x : V} {d : PyData} (h : Dat H x d) (e : seqD d = true) : ∃ ds a xs, (d = .list ds ∨ d = .tuple ds) ∧ x = .ref a ∧ SeqA H a xs ∧ DatAll H xs ds := by
  cases d with
  | tuple ds => unfold Dat at h; obtain ⟨a, xs, e1, h1, h2⟩ := h; exact ⟨ds, a, xs, .inr rfl, e1, .inr h1, h2⟩
  | list ds => unfold Dat at h; obtain ⟨a, xs, e1, h1, h2⟩ := h; exact ⟨ds, a, xs, .inl rfl, e1, .inl h1, h2⟩
  | _ => cases e
theorem nums_inj {ds : List PyData} {b : PyData} {rs : List Int} (h : b = .list ds ∨ b = .tuple ds) (n : NumsD b rs) : ds = rs.map PyData.int := by
  rcases h with rfl | rfl <;> rcases n with n | n <;> first | (injection n) | (cases n)
theorem mapDI {ps qs : List Int} (e : ps.map PyData.int = qs.map PyData.int) : ps = qs := by
  have := congrArg (List.map fun v => match v with | PyData.int n => n | _ => 0) e
  simpa [List.map_map, Function.comp_def] using this
theorem nd_itt : ((["item"] : List Str) ++ ([] : List Str)).Nodup := by decide +kernel
section
variable {P : Program} {w : World} {K : PySem.W.Frag} {mg : Str → Option Value} {base : Heap}
theorem ok_num {f : Addr} {fd : FuncData} (F : Fun K "is_number" "is_number" sNum f fd) (T : Txt K mg) : FnOk P w K mg base CX0 1 f fd ["thing"] spNum := by
  refine F.ok scNum (fun vs H Q E h => ?_) (fun cdv A outer s H vs Q E hr h => ?_)
  · obtain ⟨_, _, rfl, _⟩ := h; rfl
  · obtain ⟨x, d, rfl, hd, q⟩ := h
    refine ⟨_, pss_one (ps_ret (pe_and (pe_callB call_isi1 (by rfl) T.isi b_isi (pa_cons (pv 0) (pa_cons (pe_bltn (v := .ty "int") (by rfl) T.int b_int rfl) pa_nil)))
      (pe_one (pe_not (pe_callB call_isi1 (by rfl) T.isi b_isi (pa_cons (pv 0) (pa_cons (pe_bltn (v := .ty "bool") (by rfl) T.bool b_bool rfl) pa_nil))))))), ?_⟩
    have e := num_eq d
    refine ⟨_, rfl, _, "int", _, _, rfl, Dat.ty hd, kt_int hd, _, rfl, ite2 (fun z => ?_) (fun z => ?_)⟩
    · refine ⟨_, rfl, _, "bool", _, _, rfl, Dat.ty hd, kt_bl hd, _, rfl, ?_⟩
      rw [z, Bool.true_and] at e
      show Q (.bl (!isBlD d)) H
      rw [e]; exact q
    · rw [show isIntD d = false by simpa using z, Bool.false_and] at e
      show Q (.bl false) H
      rw [e]; exact q
theorem scWhole : FnScope ["_law_thing"] ["_law_thing"] (defScope sWhole) := ⟨rfl, rfl, rfl, by decide +kernel, rfl, by decide +kernel, by decide +kernel⟩
theorem ok_whole {f : Addr} {fd : FuncData} (F : Fun K "_law_whole" "_law_whole" sWhole f fd) (T : Txt K mg) : FnOk P w K mg base CX0 1 f fd ["_law_thing"] spNum := by
  refine F.ok scWhole (fun vs H Q E h => ?_) (fun cdv A outer s H vs Q E hr h => ?_)
  · obtain ⟨_, _, rfl, _⟩ := h; rfl
  · obtain ⟨x, d, rfl, hd, q⟩ := h
    refine ⟨_, pss_one (ps_ret (pe_and (pe_callB call_isi1 (by rfl) T.isi b_isi (pa_cons (pv 0) (pa_cons (pe_bltn (v := .ty "int") (by rfl) T.int b_int rfl) pa_nil)))
      (pe_one (pe_not (pe_callB call_isi1 (by rfl) T.isi b_isi (pa_cons (pv 0) (pa_cons (pe_bltn (v := .ty "bool") (by rfl) T.bool b_bool rfl) pa_nil))))))), ?_⟩
    have e := num_eq d
    refine ⟨_, rfl, _, "int", _, _, rfl, Dat.ty hd, kt_int hd, _, rfl, ite2 (fun z => ?_) (fun z => ?_)⟩
    · refine ⟨_, rfl, _, "bool", _, _, rfl, Dat.ty hd, kt_bl hd, _, rfl, ?_⟩
      rw [z, Bool.true_and] at e
      show Q (.bl (!isBlD d)) H
      rw [e]; exact q
    · rw [show isIntD d = false by simpa using z, Bool.false_and] at e
      show Q (.bl false) H
      rw [e]; exact q
theorem scPair : FnScope ["thing"] ["thing"] (defScope sPair) := ⟨rfl, rfl, rfl, by decide +kernel, rfl, by decide +kernel, by decide +kernel⟩
theorem ok_pair {f : Addr} {fd : FuncData} (F : Fun K "is_pair" "is_pair" sPair f fd) (T : Txt K mg) : FnOk P w K mg base CX0 1 f fd ["thing"] spPair := by
  refine F.ok scPair (fun vs H Q E h => ?_) (fun cdv A outer s H vs Q E hr h => ?_)
  · obtain ⟨_, _, rfl, _⟩ := h; rfl
  · obtain ⟨x, d, rfl, hd, q⟩ := h
    refine ⟨_, pss_one (ps_ret (pe_and (pe_callB call_isi1 (by rfl) T.isi b_isi (pa_cons (pv 0) (pa_cons (pe_bltn (v := .ty "tuple") (by rfl) T.tuple b_tuple rfl) pa_nil)))
      (pe_one (pe_cmpR op_eq (pe_callB call_len_seq (by rfl) T.len b_len (pa_cons (pv 0) pa_nil)) pe_int (nomark _))))), ?_⟩
    refine ⟨_, rfl, _, "tuple", _, _, rfl, Dat.ty hd, kt_tup hd, _, rfl, ite2 (fun z => ?_) (fun z => ?_)⟩
    · obtain ⟨ds, a, xs, rfl, rfl, ha, hA⟩ := dat_tup hd z
      refine ⟨_, rfl, a, xs, rfl, .inr (SqT.of ha), rfl, ?_⟩
      have e : decide (V.int (xs.length : Nat) = V.int 2) = pairD (.tuple ds) := by
        show _ = (ds.length == 2)
        rw [hA.length, dec_int]
        rw [Bool.eq_iff_iff]
        simp
        omega
      rw [e]; exact q
    · have e : pairD d = false := by
        cases d with
        | tuple ds => exact absurd rfl z
        | _ => rfl
      rw [e] at q; exact q
theorem scListed : FnScope ["thing"] ["thing"] (defScope sListed) := ⟨rfl, rfl, rfl, by decide +kernel, rfl, by decide +kernel, by decide +kernel⟩
theorem ok_listed {f : Addr} {fd : FuncData} (F : Fun K "is_listed" "is_listed" sListed f fd) (T : Txt K mg) : FnOk P w K mg base CX0 1 f fd ["thing"] spListed := by
  refine F.ok scListed (fun vs H Q E h => ?_) (fun cdv A outer s H vs Q E hr h => ?_)
  · obtain ⟨_, _, rfl, _⟩ := h; rfl
  · obtain ⟨x, d, rfl, hd, q⟩ := h
    refine ⟨_, pss_one (ps_ret (pe_callB call_isiT (by rfl) T.isi b_isi (pa_cons (pv 0) (pa_cons (pe_tup (pa_cons (pe_bltn (v := .ty "list") (by rfl) T.list b_list rfl) (pa_cons (pe_bltn (v := .ty "tuple") (by rfl) T.tuple b_tuple rfl) pa_nil))) pa_nil)))), ?_⟩
    exact ⟨_, rfl, by show 2 ≤ sizeLine; decide, fun p hp => ⟨_, p, ["list", "tuple"], _, _, rfl, upd_same, Dat.ty (Dat.mono (same_new (Same.refl _) hp) x d hd), kt_seq hd, q _ (same_new (Same.refl _) hp)⟩⟩
theorem scShow : FnScope ["web", "thing", "word", "row"] ["web", "thing"] (defScope sShow) := ⟨rfl, rfl, rfl, by decide +kernel, rfl, by decide +kernel, by decide +kernel⟩
theorem ok_show {f : Addr} {fd : FuncData} (F : Fun K "shows_sides" "shows_sides" sShow f fd) (T : Txt K mg) (CP : Callee P w K mg base 1 "is_pair" ["thing"] spPair) (CL : Callee P w K mg base 1 "is_listed" ["thing"] spListed) (CN : Callee P w K mg base 1 "is_number" ["thing"] spNum)
    (CA : Callee P w K mg base 2 "are_sides" ["web", "row"] spAre) (CR : Callee P w K mg base 6 "is_odd_ring" ["web", "ties"] spRing) : FnOk P w K mg base CX0 7 f fd ["web", "thing"] spShow := by
  refine F.ok scShow (fun vs H Q E h => ?_) (fun cdv A outer s H vs Q E hr h => ?_)
  · obtain ⟨_, _, _, _, _, rfl, _⟩ := h; rfl
  · obtain ⟨w0, n, es, x, d, rfl, W, hd, hwo, hro, q⟩ := h
    have hr1 : Room 1 _ := hr.mono (by decide)
    have hr2 : Room 2 _ := hr.mono (by decide)
    refine ⟨_, pss_cons (ps_if (pw_or (pt_not (pt_val (pe_def CP hr1 (by rfl) (pa_cons (pv 1) pa_nil)))) (pw_or1 (pt_not (pt_val (pe_def CL hr1 (by rfl) (pa_cons (pe_ix ix_tup (pv 1) pe_int (fun _ _ => rfl)) pa_nil)))))).pt (pss_one (ps_ret pe_bl)) pss_nil)
      (pss_cons (ps_asg (pv 1) (pg_tup (n := 2) rfl (pgs_cons (pg_name (i := 2) scShow.nd rfl (Or.inl rfl)) (pgs_cons (pg_name (i := 3) scShow.nd rfl (Or.inl rfl)) pgs_nil))))
      (pss_cons (ps_if (pt_not (pt_val (pe_callB (call_allB rfl) (by rfl) T.all b_all (pa_cons (pe_comp ["item"] [] [] (pi_or (pi_list (pv 3)) (pi_tup (pv 3))) (fun _ _ _ _ _ => pg_name (i := 0) nd_itt rfl (Or.inl rfl)) (fun _ _ _ _ _ => pifs_nil) (fun _ _ _ _ _ => pe_def CN hr1 (by rfl) (pa_cons (pv 0) pa_nil))) pa_nil)))) (pss_one (ps_ret pe_bl)) pss_nil)
      (pss_cons (ps_if (pt_cmpR op_eq (pv 2) pe_str (nomark _)) (pss_one (ps_ret (pe_def CA hr2 (by rfl) (pa_cons (pv 0) (pa_cons (pv 3) pa_nil))))) pss_nil)
      (pss_one (ps_ret (pe_and (pe_cmpR op_eq (pv 2) pe_str (nomark _)) (pe_one (pe_def CR hr (by rfl) (pa_cons (pv 0) (pa_cons (pv 3) pa_nil)))))))))), ?_⟩
    have no : ∀ H', Same H H' → ¬ ShowR n es d → Q (.bl false) H' := fun H' s z => q false H' s ⟨(fun y => by cases y), fun y => absurd y z⟩
    refine ⟨_, rfl, x, d, rfl, hd, _, rfl, ?_⟩
    cases ep : pairD d with
    | false =>
      refine iteT (no _ (Same.refl _) fun z => ?_)
      obtain ⟨wd, b, rs, rfl, _⟩ := z
      cases ep
    | true =>
      obtain ⟨ds, a, xs, rfl, rfl, ha, hD⟩ := dat_tup hd (by cases d <;> first | rfl | cases ep)
      obtain ⟨v1, v2, d1, d2, rfl, rfl, hd1, hd2⟩ := two_of hD (by have := hD.length; simp [pairD] at ep; omega)
      refine iteF ⟨_, rfl, a, _, _, _, rfl, rfl, SqT.of ha, (rfl : atI [v1, v2] 1 = some v2), v2, d2, rfl, hd2, fun H1 s1 => ⟨_, rfl, ?_⟩⟩
      cases es' : seqD d2 with
      | false =>
        refine iteT (no _ s1 fun z => ?_)
        obtain ⟨wd, b, rs, e, hn, _⟩ := z
        injection e with e
        injection e with e1 e2
        injection e2 with e2 e3
        subst e2
        rcases hn with rfl | rfl <;> cases es'
      | true =>
        refine iteF ?_
        obtain ⟨ds2, a2, xs2, e2, rfl, ha2, hD2⟩ := dat_seq hd2 es'
        have h200 := hro _ _ ds2 rfl e2
        have hl2 := hD2.length
        have hword := hwo _ _ rfl es'
        refine ⟨_, rfl, a, _, rfl, SqT.of (s1 _ _ ha), rfl, _, _, rfl, _, _, rfl, rfl, ?_⟩
        refine seq_comp (K := K) (i := 3) rfl (ha2.same s1) (fun D i ys H2 => Same H1 H2 ∧ H2 D = some (.lst ys) ∧ ys = ((ds2.take i).map numD).map V.bl) (fun D hD => ⟨same_new (Same.refl _) hD, upd_same, rfl⟩) (fun D i ys H2 _ h => h.1) ?_ ?_
        · rintro D i y ys H2 hDn hy ⟨s2, dd, rfl⟩
          obtain ⟨dt, hdt, hyd⟩ := hD2.get hy
          have hi : i < ds2.length := (List.getElem?_eq_some_iff.mp hdt).1
          refine compT (i := 0) ⟨_, rfl, y, dt, rfl, Dat.mono (s1.trans s2) y dt hyd, dd, small1000 (by simp only [List.length_map, List.length_take]; omega), same_own s2 hDn, upd_same, ?_⟩
          rw [List.take_add_one, hdt]; simp
        · rintro D ys H2 hDn ⟨s2, dd, rfl⟩
          rw [hl2, List.take_length] at dd
          have s12 := s1.trans s2
          refine ⟨D, _, rfl, SqL.of dd, _, rfl, ?_⟩
          rw [List.all_map]
          cases ea : ds2.all (id ∘ numD) with
          | false =>
            refine iteT (no _ s12 fun z => ?_)
            obtain ⟨wd, b, rs, e, hn, _⟩ := z
            injection e with e
            injection e with e1 e2'
            injection e2' with e2' e3
            subst e2'
            rw [nums_inj e2 hn] at ea
            have : (rs.map PyData.int).all (id ∘ numD) = true := by rw [List.all_map, List.all_eq_true]; intro _ _; rfl
            rw [this] at ea; cases ea
          | true =>
            obtain ⟨rs, e1, e3⟩ := datAll_ints hD2 ea
            subst e1 e3
            refine iteF ?_
            have haq := ha2.same s12
            have h200' : rs.length ≤ 200 := by simpa using h200
            have hN : NumsD d2 rs := e2
            have iff : ∀ wd, d1 = .str wd → (ShowR n es (.tuple [d1, d2]) ↔ ((wd = "sides" ∧ SidesR n es rs) ∨ (wd = "ring" ∧ RingR es rs))) := fun wd ew => by
              subst ew
              constructor
              · rintro ⟨wd', b, rs', e, hn, z⟩
                injection e with e
                injection e with f1 f2
                injection f2 with f2 f3
                injection f1 with f1
                subst f1 f2
                have := mapDI ((nums_inj e2 hn).symm)
                rw [← this]; rw [this] at z ⊢; exact z
              · intro z; exact ⟨wd, d2, rs, rfl, hN, z⟩
            rcases hword with ⟨wd, ew⟩ | ew
            · have ev : v1 = .str wd := by rw [ew] at hd1; unfold Dat at hd1; exact hd1
              subst ev
              rw [iff wd ew] at q
              refine ⟨_, rfl, rfl, _, rfl, ?_⟩
              by_cases z1 : wd = "sides"
              · subst z1
                refine iteD rfl ⟨_, rfl, _, rfl, w0, a2, n, es, rs, rfl, W.mono (sameKT s12), haq, h200', fun b H3 s3 hb => q b H3 (s12.trans s3) (hb.trans ⟨fun h => .inl ⟨rfl, h⟩, fun h => h.elim (fun y => y.2) (fun y => absurd y.1 (by decide))⟩)⟩
              · refine iteND (fun z => z1 (by injection z)) ⟨_, rfl, rfl, _, rfl, ?_⟩
                by_cases z2 : wd = "ring"
                · subst z2
                  refine iteD rfl ⟨_, rfl, _, rfl, w0, a2, n, es, rs, rfl, W.mono (sameKT s12), haq, h200', fun b H3 s3 hb => q b H3 (s12.trans s3) (hb.trans ⟨fun h => .inr ⟨rfl, h⟩, fun h => h.elim (fun y => absurd y.1 (by decide)) (fun y => y.2)⟩)⟩
                · refine iteND (fun z => z2 (by injection z)) ?_
                  exact q false _ s12 ⟨(fun y => by cases y), fun y => y.elim (fun y => absurd y.1 z1) (fun y => absurd y.1 z2)⟩
            · have ev : v1 = .non := by rw [ew] at hd1; unfold Dat at hd1; exact hd1
              subst ev
              refine ⟨_, rfl, rfl, _, rfl, iteND (by decide) ⟨_, rfl, rfl, _, rfl, iteND (by decide) ?_⟩⟩
              refine no _ s12 fun z => ?_
              obtain ⟨wd, b, rs', e, _⟩ := z
              injection e with e
              injection e with f1 f2
              rw [ew] at f1; cases f1
end
end Hue
set_option Elab.async false
set_option linter.all false
set_option maxRecDepth 100000
set_option maxHeartbeats 2000000
namespace Hue
open PySem L2
def isStrD : PyData → Bool
  | .str _ => true
  | _ => false
theorem kt_str {K : PySem.W.Frag} {d : PyData} {H : Hp} {x : V} (h : Dat H x d) : PySem.W.kitOne K (.type (kdD d)) (.type "str") = some (isStrD d) := by
  rw [kit_n]
  cases d with
  | dict _ => unfold Dat at h; exact h.elim
  | _ => simp only [kdD, isStrD]; decide +kernel
theorem seq_compE {K : PySem.W.Frag} {tl : TE} {σ σ' : St} {H : Hp} {a : Addr} {xs : List V} {g : TG} {tt : TT} {te : TE} {Qf : Addr → List V → Hp → Prop} (e : ∀ R : VK, R (.ref a) H → tl σ H R) (ha : SeqA H a xs) (Pv : Addr → Nat → List V → Hp → Prop)
    (h0 : ∀ D, H D = none → Pv D 0 [] (upd H D (.lst []))) (hk : ∀ D j ys H', H D = none → Pv D j ys H' → Same H H') (hs : ∀ D j x ys H', H D = none → xs[j]? = some x → Pv D j ys H' → CompTurn g tt te D σ' ys (Pv D (j + 1)) x H')
    (hd : ∀ D ys H', H D = none → Pv D xs.length ys H' → Qf D ys H') :
    iList K tl σ H (fun J H1 => ∀ D, H1 D = none → ∃ W : Nat → Nat → List V → Hp → Prop, (∃ m, W 0 m [] (upd H1 D (.lst []))) ∧ CompW J g tt te D σ' (Qf D) W) ∨
    iTup K tl σ H (fun J H1 => ∀ D, H1 D = none → ∃ W : Nat → Nat → List V → Hp → Prop, (∃ m, W 0 m [] (upd H1 D (.lst []))) ∧ CompW J g tt te D σ' (Qf D) W) := by
  rcases ha with ha | ha
  · exact .inl (e _ ⟨a, rfl, ⟨_, SqL.of ha⟩, fun D hD => comp_list (K := K) (a := a) (xs := xs) (Pv D) (h0 D hD) (fun j ys H' _ h => SqL.of (hk D j ys H' hD h _ _ ha)) (fun j x ys H' hx h => hs D j x ys H' hD hx h) (fun ys H' h => hd D ys H' hD h)⟩)
  · exact .inr (e _ ⟨a, rfl, ⟨_, SqT.of ha⟩, fun D hD => comp_tup (K := K) (a := a) (xs := xs) (Pv D) (h0 D hD) (fun j ys H' _ h => SqT.of (hk D j ys H' hD h _ _ ha)) (fun j x ys H' hx h => hs D j x ys H' hD hx h) (fun ys H' h => hd D ys H' hD h)⟩)
theorem nd_lone : ((["_law_one"] : List Str) ++ ([] : List Str)).Nodup := by decide +kernel
theorem nd_ltw : ((["_law_tie"] : List Str) ++ (["_law_web_here"] : List Str)).Nodup := by decide +kernel
theorem vals_of {n : Nat} {es : List (Nat × Nat)} (hb : ∀ e ∈ es, e.1 < n ∧ e.2 < n) : ∃ ns : List Int, (sidesTo n es n).map optV = ns.map V.int := by
  have Wn := way hb n (Nat.le_refl _)
  refine ⟨(sidesTo n es n).map fun o => ((o.getD 0 : Nat) : Int), ?_⟩
  rw [List.map_map]
  refine List.map_congr_left fun o ho => ?_
  obtain ⟨p, hp, rfl⟩ := List.mem_iff_getElem.mp ho
  obtain ⟨v, hv⟩ := Wn.done p (by rw [← Wn.len]; exact hp)
  have := at_some.mp hv
  rw [List.getElem?_eq_getElem hp] at this
  rw [Option.some.inj this]
  rfl
section
variable {P : Program} {w : World} {K : PySem.W.Frag} {mg : Str → Option Value} {base : Heap}
theorem scDue : FnScope ["_law_web_here", "_law_thing"] ["_law_web_here", "_law_thing"] (defScope sDue) := ⟨rfl, rfl, rfl, by decide +kernel, rfl, by decide +kernel, by decide +kernel⟩
theorem ok_due {f : Addr} {fd : FuncData} (F : Fun K "_law_due" "_law_due" sDue f fd) (T : Txt K mg) (CW : Callee P w K mg base 1 "_law_whole" ["_law_thing"] spNum) (CS : Callee P w K mg base 1 "_law_sides" ["_law_web_here"] spLSides) (CR : Callee P w K mg base 2 "_law_is_ring" ["_law_web_here", "_law_ties"] spRingL) : FnOk P w K mg base CX0 3 f fd ["_law_web_here", "_law_thing"] spShow := by
  refine F.ok scDue (fun vs H Q E h => ?_) (fun cdv A outer s H vs Q E hr h => ?_)
  · obtain ⟨_, _, _, _, _, rfl, _⟩ := h; rfl
  · obtain ⟨w0, n, es, x, d, rfl, W, hd, hwo, hro, q⟩ := h
    have hr1 : Room 1 _ := hr.mono (by decide)
    have hu := hr.units0
    refine ⟨_, pss_cons (ps_if (pw_or (pt_not (pt_val (pe_callB call_isi1 (by rfl) T.isi b_isi (pa_cons (pv 1) (pa_cons (pe_bltn (v := .ty "tuple") (by rfl) T.tuple b_tuple rfl) pa_nil))))) (pw_or (pt_cmpR op_ne (pe_callB call_len_seq (by rfl) T.len b_len (pa_cons (pv 1) pa_nil)) pe_int (nomark _)) (pw_or1 (pt_not (pt_val (pe_callB call_isi1 (by rfl) T.isi b_isi (pa_cons (pe_ix ix_tup (pv 1) pe_int (fun _ _ => rfl)) (pa_cons (pe_bltn (v := .ty "str") (by rfl) T.str b_str rfl) pa_nil)))))))).pt (pss_one (ps_ret pe_bl)) pss_nil)
      (pss_cons (ps_if (pw_or (pt_not (pt_val (pe_callB call_isiT (by rfl) T.isi b_isi (pa_cons (pe_ix ix_tup (pv 1) pe_int (fun _ _ => rfl)) (pa_cons (pe_tup (pa_cons (pe_bltn (v := .ty "list") (by rfl) T.list b_list rfl) (pa_cons (pe_bltn (v := .ty "tuple") (by rfl) T.tuple b_tuple rfl) pa_nil))) pa_nil)))))
          (pw_or1 (pt_not (pt_val (pe_callB (call_allB rfl) (by rfl) T.all b_all (pa_cons (pe_comp ["_law_one"] [] [] (pi_or (pi_list (pe_ix ix_tup (pv 1) pe_int (fun _ _ => rfl))) (pi_tup (pe_ix ix_tup (pv 1) pe_int (fun _ _ => rfl)))) (fun _ _ _ _ _ => pg_name (i := 0) nd_lone rfl (Or.inl rfl)) (fun _ _ _ _ _ => pifs_nil) (fun _ _ _ _ _ => pe_def CW hr1 (by rfl) (pa_cons (pv 0) pa_nil))) pa_nil)))))).pt (pss_one (ps_ret pe_bl)) pss_nil)
      (pss_cons (ps_if (pt_cmpR op_eq (pe_ix ix_tup (pv 1) pe_int (fun _ _ => rfl)) pe_str (nomark _)) (pss_one (ps_ret (pe_cmpR ((op_eqL hu).or (op_eqLN hu)) (pe_callTy call_list_of (by rfl) T.list b_list (pa_cons (pe_ix ix_tup (pv 1) pe_int (fun _ _ => rfl)) pa_nil)) (pe_def CS hr1 (by rfl) (pa_cons (pv 0) pa_nil)) (nomark _)))) pss_nil)
      (pss_cons (ps_if (pw_or (pt_cmpR op_ne (pe_ix ix_tup (pv 1) pe_int (fun _ _ => rfl)) pe_str (nomark _)) (pw_or1 (pt_not (pt_val (pe_callB (call_allB rfl) (by rfl) T.all b_all (pa_cons (pe_comp ["_law_tie"] ["_law_web_here"] [0] (pi_or (pi_list (pe_ix ix_tup (pv 1) pe_int (fun _ _ => rfl))) (pi_tup (pe_ix ix_tup (pv 1) pe_int (fun _ _ => rfl)))) (fun _ _ _ _ _ => pg_name (i := 0) nd_ltw rfl (Or.inl rfl)) (fun _ _ _ _ _ => pifs_nil) (fun _ _ _ _ _ => pe_chain op_le op_lt pe_int (pv 0) (pe_callB (call_lenK (K := K) rfl) (by rfl) T.len b_len (pa_cons (pe_ix (ix_tupK (K := K) rfl) (pv 1) pe_int (fun _ _ => rfl)) pa_nil)))) pa_nil)))))).pt (pss_one (ps_ret pe_bl)) pss_nil)
      (pss_one (ps_ret (pe_def CR hr (by rfl) (pa_cons (pv 0) (pa_cons (pe_ix ix_tup (pv 1) pe_int (fun _ _ => rfl)) pa_nil)))))))), ?_⟩
    have no : ∀ H', Same H H' → ¬ ShowR n es d → Q (.bl false) H' := fun H' s z => q false H' s ⟨(fun y => by cases y), fun y => absurd y z⟩
    refine ⟨_, rfl, _, "tuple", _, _, rfl, Dat.ty hd, kt_tup hd, _, rfl, ?_⟩
    cases et : isTupD d with
    | false =>
      refine iteT (no _ (Same.refl _) fun z => ?_)
      obtain ⟨wd, b, rs, rfl, _⟩ := z
      cases et
    | true =>
      obtain ⟨ds, a, xs, rfl, rfl, ha, hD⟩ := dat_tup hd et
      have hdl := hD.length
      refine iteF ⟨_, rfl, a, _, rfl, .inr (SqT.of ha), rfl, _, rfl, ?_⟩
      by_cases zl : xs.length = 2
      case neg =>
        refine iteNT (fun z => zl (by injection z with z; omega)) (iteT (no _ (Same.refl _) fun z => ?_))
        obtain ⟨wd, b, rs, e, _⟩ := z
        injection e with e
        rw [e] at hdl
        exact zl hdl
      obtain ⟨v1, v2, d1, d2, rfl, rfl, hd1, hd2⟩ := two_of hD zl
      refine iteNS rfl ⟨_, rfl, a, _, _, _, rfl, rfl, SqT.of ha, (rfl : atI [v1, v2] 0 = some v1), _, "str", _, _, rfl, Dat.ty hd1, kt_str hd1, _, rfl, ?_⟩
      cases es1 : isStrD d1 with
      | false =>
        refine iteT (no _ (Same.refl _) fun z => ?_)
        obtain ⟨wd, b, rs, e, _⟩ := z
        injection e with e
        injection e with f1 f2
        rw [f1] at es1; cases es1
      | true =>
        obtain ⟨wd, ew⟩ : ∃ wd, d1 = .str wd := by cases d1 <;> first | exact ⟨_, rfl⟩ | cases es1
        have ev : v1 = .str wd := by rw [ew] at hd1; unfold Dat at hd1; exact hd1
        subst ev ew
        refine iteF ?_
        refine ⟨_, rfl, a, _, _, _, rfl, rfl, SqT.of ha, (rfl : atI [V.str wd, v2] 1 = some v2), by show 2 ≤ sizeLine; decide, fun p hp => ?_⟩
        have s1 : Same H (upd H p (.tup [.ty "list", .ty "tuple"])) := same_new (Same.refl _) hp
        have gp : (upd H p (.tup [.ty "list", .ty "tuple"])) p = some (.tup [.ty "list", .ty "tuple"]) := upd_same
        generalize (upd H p (.tup [.ty "list", .ty "tuple"])) = H1 at s1 gp
        refine ⟨_, p, ["list", "tuple"], _, _, rfl, gp, Dat.ty (Dat.mono s1 v2 d2 hd2), kt_seq hd2, _, rfl, ?_⟩
        cases es' : seqD d2 with
        | false =>
          refine iteT (no _ s1 fun z => ?_)
          obtain ⟨wd', b, rs, e, hn, _⟩ := z
          injection e with e
          injection e with e1 e2
          injection e2 with e2 e3
          subst e2
          rcases hn with rfl | rfl <;> cases es'
        | true =>
          refine iteF ?_
          obtain ⟨ds2, a2, xs2, e2, rfl, ha2, hD2⟩ := dat_seq hd2 es'
          have h200 := hro _ _ ds2 rfl e2
          have hl2 := hD2.length
          refine seq_compE (K := K) (fun R h => ⟨_, rfl, a, _, _, _, rfl, rfl, SqT.of (s1 _ _ ha), (rfl : atI [V.str wd, V.ref a2] 1 = some (.ref a2)), h⟩) (ha2.same s1) (fun D i ys H2 => Same H1 H2 ∧ H2 D = some (.lst ys) ∧ ys = ((ds2.take i).map numD).map V.bl) (fun D hD => ⟨same_new (Same.refl _) hD, upd_same, rfl⟩) (fun D i ys H2 _ h => h.1) ?_ ?_
          · rintro D i y ys H2 hDn hy ⟨s2, dd, rfl⟩
            obtain ⟨dt, hdt, hyd⟩ := hD2.get hy
            have hi : i < ds2.length := (List.getElem?_eq_some_iff.mp hdt).1
            refine compT (i := 0) ⟨_, rfl, y, dt, rfl, Dat.mono (s1.trans s2) y dt hyd, dd, small1000 (by simp only [List.length_map, List.length_take]; omega), same_own s2 hDn, upd_same, ?_⟩
            rw [List.take_add_one, hdt]; simp
          · rintro D ys H2 hDn ⟨s2, dd, rfl⟩
            rw [hl2, List.take_length] at dd
            have s12 := s1.trans s2
            refine ⟨D, _, rfl, SqL.of dd, _, rfl, ?_⟩
            rw [List.all_map]
            cases ea : ds2.all (id ∘ numD) with
            | false =>
              refine iteT (no _ s12 fun z => ?_)
              obtain ⟨wd', b, rs, e, hn, _⟩ := z
              injection e with e
              injection e with e1 e2'
              injection e2' with e2' e3
              subst e2'
              rw [nums_inj e2 hn] at ea
              have : (rs.map PyData.int).all (id ∘ numD) = true := by rw [List.all_map, List.all_eq_true]; intro _ _; rfl
              rw [this] at ea; cases ea
            | true =>
              obtain ⟨rs, e1, e3⟩ := datAll_ints hD2 ea
              subst e1 e3
              refine iteF ?_
              have haq := ha2.same s12
              have h200' : rs.length ≤ 200 := by simpa using h200
              have iff : ShowR n es (.tuple [.str wd, d2]) ↔ ((wd = "sides" ∧ SidesR n es rs) ∨ (wd = "ring" ∧ RingR es rs)) := by
                constructor
                · rintro ⟨wd', b, rs', e, hn, z⟩
                  injection e with e
                  injection e with f1 f2
                  injection f2 with f2 f3
                  injection f1 with f1
                  subst f1 f2
                  have := mapDI ((nums_inj e2 hn).symm)
                  rw [this] at z; exact z
                · intro z; exact ⟨wd, d2, rs, rfl, e2, z⟩
              rw [iff] at q
              clear no
              have ha1 := s12 _ _ ha
              refine ⟨_, rfl, a, _, _, _, rfl, rfl, SqT.of ha1, (rfl : atI [V.str wd, V.ref a2] 0 = some (.str wd)), rfl, _, rfl, ?_⟩
              by_cases z1 : wd = "sides"
              · subst z1
                refine iteD rfl ⟨_, rfl, a, _, _, _, rfl, rfl, SqT.of ha1, (rfl : atI [V.str "sides", V.ref a2] 1 = some (.ref a2)), a2, _, rfl, haq.or, fun l hl => ?_⟩
                have s3 := same_new (o := .lst (rs.map V.int)) s12 hl
                have gl : (upd H2 l (.lst (rs.map V.int))) l = some (.lst (rs.map V.int)) := upd_same
                generalize (upd H2 l (.lst (rs.map V.int))) = H3 at s3 gl
                have hb := W.choose_spec.choose_spec.2.2.2.2.1
                refine ⟨_, rfl, w0, n, es, rfl, W.mono (sameKT s3), fun L H4 s4 nL hL => ?_⟩
                have si := sides_iff hb (rs := rs)
                have fin : ∀ b : Bool, (b = true ↔ SidesR n es rs) → Q (.bl b) H4 := fun b hb => q b H4 (s3.trans s4) (hb.trans ⟨fun h => .inl ⟨rfl, h⟩, fun h => h.elim (fun y => y.2) (fun y => absurd y.1 (by decide))⟩)
                cases hc : clashB es (sidesTo n es n) with
                | true =>
                  refine iteT (.inr ⟨l, _, rfl, rfl, SqL.of (s4 _ _ gl), fin false ⟨(fun y => by cases y), fun y => ?_⟩⟩)
                  have := (si.mpr y).1
                  rw [this] at hc; cases hc
                | false =>
                  obtain ⟨ns, ens⟩ := vals_of hb
                  rw [ens] at hL si
                  refine iteF (.inl ⟨l, L, _, _, rfl, rfl, SqL.of (s4 _ _ gl), SqL.of hL, .inl ⟨flat_ints _, flat_ints _⟩, fin _ ?_⟩)
                  show eqVs (rs.map V.int) (ns.map V.int) = true ↔ _
                  rw [eqVs_iff, ← si]
                  exact ⟨fun h => ⟨hc, by rw [h]⟩, fun h => by
                    have := congrArg (List.map fun v => match v with | V.int n => n | _ => 0) h.2
                    simpa [List.map_map, Function.comp_def] using this⟩
              · refine iteND (fun z => z1 (by injection z)) ?_
                refine ⟨_, rfl, a, _, _, _, rfl, rfl, SqT.of ha1, (rfl : atI [V.str wd, V.ref a2] 0 = some (.str wd)), rfl, _, rfl, ?_⟩
                have no : ∀ H', Same H H' → ¬ (wd = "ring" ∧ RingR es rs) → Q (.bl false) H' := fun H' s z => q false H' s ⟨(fun y => by cases y), fun y => y.elim (fun y => absurd y.1 z1) (fun y => absurd y z)⟩
                by_cases z2 : wd = "ring"
                case neg => exact iteNT (fun z => z2 (by injection z)) (iteT (no _ s12 fun y => z2 y.1))
                subst z2
                refine iteNS rfl ?_
                obtain ⟨ta, ts, hw, ht, htl, _⟩ := id W
                refine seq_compE (K := K) (fun R h => ⟨_, rfl, a, _, _, _, rfl, rfl, SqT.of ha1, (rfl : atI [V.str "ring", V.ref a2] 1 = some (.ref a2)), h⟩) haq (fun D i ys H3 => Same H2 H3 ∧ H3 D = some (.lst ys) ∧ ys = ((rs.take i).map fun t => decide (InP es.length t)).map V.bl) (fun D hD => ⟨same_new (Same.refl _) hD, upd_same, rfl⟩) (fun D i ys H3 _ h => h.1) ?_ ?_
                · rintro D i y ys H3 hDn hy ⟨s3, d3, rfl⟩
                  obtain ⟨t, ht', rfl⟩ := int_at hy
                  have hi : i < rs.length := (List.getElem?_eq_some_iff.mp ht').1
                  have fin : ∀ b : Bool, b = decide (InP es.length t) → H3 D = some (.lst (((rs.take i).map fun t => decide (InP es.length t)).map V.bl)) ∧ (((rs.take i).map fun t => decide (InP es.length t)).map V.bl).length < sizeLine ∧ (Same H2 (upd H3 D (.lst (((rs.take i).map fun t => decide (InP es.length t)).map V.bl ++ [V.bl b]))) ∧ (upd H3 D (.lst (((rs.take i).map fun t => decide (InP es.length t)).map V.bl ++ [V.bl b]))) D = some (.lst (((rs.take i).map fun t => decide (InP es.length t)).map V.bl ++ [V.bl b])) ∧ ((rs.take i).map fun t => decide (InP es.length t)).map V.bl ++ [V.bl b] = ((rs.take (i + 1)).map fun t => decide (InP es.length t)).map V.bl) := fun b e =>
                    ⟨d3, small1000 (by simp only [List.length_map, List.length_take]; omega), same_own s3 hDn, upd_same, by rw [List.take_add_one, ht', e]; simp⟩
                  refine compT (i := 0) ⟨_, rfl, _, _, rfl, rfl, _, rfl, ?_⟩
                  by_cases z0 : 0 ≤ t
                  · refine iteD z0 ⟨_, rfl, w0, _, _, _, rfl, rfl, SqT.of (s3 _ _ (s12 _ _ hw)), (rfl : atI [V.int (n : Int), V.ref ta] 1 = some (.ref ta)), ta, _, rfl, .inr (SqT.of (s3 _ _ (s12 _ _ ht))), _, _, rfl, rfl, fin _ ?_⟩
                    rw [htl]; unfold InP; simp [z0]
                  · exact iteND z0 (fin false (by unfold InP; simp [z0]))
                · rintro D ys H3 hDn ⟨s3, d3, rfl⟩
                  rw [List.length_map, List.take_length] at d3
                  have s13 := s12.trans s3
                  refine ⟨D, _, rfl, SqL.of d3, _, rfl, ?_⟩
                  cases ea' : (rs.map fun t => decide (InP es.length t)).all id with
                  | false =>
                    refine iteT (no _ s13 fun y => ?_)
                    have : (rs.map fun t => decide (InP es.length t)).all id = true := by
                      rw [List.all_map, List.all_eq_true]; intro t ht; exact decide_eq_true (y.2.2.2.1 t ht)
                    rw [this] at ea'; cases ea'
                  | true =>
                    have hin : ∀ t ∈ rs, InP es.length t := by
                      rw [List.all_map, List.all_eq_true] at ea'
                      exact fun t ht => of_decide_eq_true (ea' t ht)
                    refine iteF ⟨_, rfl, _, rfl, a, _, _, _, rfl, rfl, SqT.of (s3 _ _ ha1), (rfl : atI [V.str "ring", V.ref a2] 1 = some (.ref a2)), w0, a2, n, es, rs, rfl, W.mono (sameKT s13), haq.same s3, h200', hin, fun b H4 s4 hb => q b H4 (s13.trans s4) (hb.trans ⟨fun h => .inr ⟨rfl, h⟩, fun h => h.elim (fun y => absurd y.1 (by decide)) (fun y => y.2)⟩)⟩
end
end Hue
set_option Elab.async false
set_option linter.all false
set_option maxRecDepth 100000
set_option maxHeartbeats 2000000
namespace Hue
open PySem L2
abbrev sOdd : Stmt := top 30
abbrev sSays : Stmt := top 32
theorem kt_bb : ktn "bool" "bool" = some true := by decide +kernel
theorem hid_ext {t : Addr} {H H' : Hp} (e : Ext t H H') : ∀ b u, hid (some t) H b = some u → hid (some t) H' b = some u := fun b u h => by
  unfold hid at h ⊢
  split at h
  · cases h
  · rename_i n
    rw [if_neg n]
    exact e b u (fun z => n (by rw [z])) h
theorem ext_same {t : Addr} {H H' H'' : Hp} (e : Ext t H H') (s : Same H' H'') : Ext t H H'' := fun b o n h => s b o (e b o n h)
def spSays : Sp := fun vs H Q _ => ∃ (w : Addr) (n : Nat) (es : List (Nat × Nat)) (x : V) (d : PyData), vs = [.ref w, x] ∧ WebN H w n es ∧ Dat H x d ∧ WordOk d ∧ RowOk d ∧ Sz 8 20000 d ∧ ∀ H', Same H H' → Q (.bl true) H'
def NoRow (d : PyData) : Prop := ∀ a b, d = .tuple [a, b] → seqD b = false
def HD (t : Addr) (Pd : PyData → Prop) (H : Hp) (v : V) : Prop := ∃ d, Dat (hid (some t) H) v d ∧ Pd d
def OddP (d : PyData) : Prop := Sz 3 60 d ∧ NoRow d
theorem HD.same {t : Addr} {Pd : PyData → Prop} {H H' : Hp} {v : V} (h : HD t Pd H v) (s : Same H H') : HD t Pd H' v := let ⟨d, a, b⟩ := h; ⟨d, Dat.mono (hid_same s) v d a, b⟩
theorem HD.ext {t : Addr} {Pd : PyData → Prop} {H H' : Hp} {v : V} (h : HD t Pd H v) (s : Ext t H H') : HD t Pd H' v := let ⟨d, a, b⟩ := h; ⟨d, Dat.mono (hid_ext s) v d a, b⟩
theorem HD.imp {t : Addr} {Pd Pd' : PyData → Prop} {H : Hp} {v : V} (h : HD t Pd H v) (i : ∀ d, Pd d → Pd' d) : HD t Pd' H v := let ⟨d, a, b⟩ := h; ⟨d, a, i d b⟩
def tHD (t : Addr) (S : St → Hp → Prop) (Pd : PyData → Prop) : TE := fun σ H Q => (S σ H ∧ Tape H t) ∧ ∀ v H', Same H H' → HD t Pd H' v → Q v H'
def tHDs (t : Addr) (S : St → Hp → Prop) (Pd : PyData → Prop) (n : Nat) : TA := fun σ H Q => (S σ H ∧ Tape H t) ∧ ∀ vs H', Same H H' → vs.length = n → (∀ v ∈ vs, HD t Pd H' v) → Q vs H'
theorem tape_same {t : Addr} {H H' : Hp} (T : Tape H t) (s : Same H H') : Tape H' t := T.keep fun o h => s _ _ h
section
variable {X : Cx} {t : Addr} {S : St → Hp → Prop} {Pd : PyData → Prop} {e : Expr} {es : List Expr} {pos : Pos} {n : Nat}
theorem hd_c {v : V} (h : PE X e (tC v)) (d : PyData) (hd : ∀ H, Dat H v d) (hp : Pd d) : PE X e (tHD t S Pd) := pe_via _ h fun σ H Q hw => hw.2 v H (Same.refl H) ⟨d, hd _, hp⟩
theorem hds_nil : PA X [] (tHDs t S Pd 0) := fun pos pins s σ H Q I hw => pa_nil pos pins s σ H Q I (hw.2 [] H (Same.refl H) rfl (fun _ h => nomatch h))
theorem hds_cons (hS : ∀ σ H H', Same H H' → S σ H → S σ H') (h1 : PE X e (tHD t S Pd)) (h2 : PA X es (tHDs t S Pd n)) (hs : starEach (e :: es) X.env = (false, eval e X.env) :: starEach es X.env := by rfl) : PA X (e :: es) (tHDs t S Pd (n + 1)) := fun pos pins s σ H Q I hw =>
  pa_cons h1 h2 hs pos pins s σ H Q I ⟨hw.1, fun v H1 s1 d1 => ⟨⟨hS σ H H1 s1 hw.1.1, tape_same hw.1.2 s1⟩, fun vs H2 s2 hl d2 => hw.2 (v :: vs) H2 (s1.trans s2) (by simp [hl]) fun u hu => by
    rcases List.mem_cons.mp hu with rfl | hu
    · exact d1.same s2
    · exact d2 u hu⟩⟩
theorem ne_tape {t p : Addr} {H : Hp} (T : Tape H t) (hp : H p = none) : (some t : Option Addr) ≠ some p := fun e => T.ne hp (by injection e with e; exact e.symm)
theorem mk_lst {t p : Addr} {H : Hp} {xs : List V} {ds : List PyData} (T : Tape H t) (hp : H p = none) (hA : DatAll (hid (some t) (upd H p (.lst xs))) xs ds) : Dat (hid (some t) (upd H p (.lst xs))) (.ref p) (.list ds) := by
  unfold Dat; exact ⟨p, xs, rfl, hid_at (ne_tape T hp) upd_same, hA⟩
theorem mk_tup {t p : Addr} {H : Hp} {xs : List V} {ds : List PyData} (T : Tape H t) (hp : H p = none) (hA : DatAll (hid (some t) (upd H p (.tup xs))) xs ds) : Dat (hid (some t) (upd H p (.tup xs))) (.ref p) (.tuple ds) := by
  unfold Dat; exact ⟨p, xs, rfl, hid_at (ne_tape T hp) upd_same, hA⟩
end
theorem norow_l (ds : List PyData) : NoRow (.list ds) := fun a b e => by cases e
def spOdd : Sp := fun vs H Q _ => ∃ (t w : Addr) (n : Nat) (es : List (Nat × Nat)), vs = [.ref t, .ref w] ∧ Tape H t ∧ WebN H w n es ∧ ∀ v H', Tape H' t → Ext t H H' → HD t OddP H' v → Q v H'
def OSt (w0 ta : Addr) (n : Nat) (ts : List V) (σ : St) (H : Hp) : Prop := σ[1]? = some (some (.ref w0)) ∧ H w0 = some (.tup [.int n, .ref ta]) ∧ H ta = some (.tup ts) ∧ ts.length ≤ 200
theorem OSt.same {w0 ta : Addr} {n : Nat} {ts : List V} (σ : St) (H H' : Hp) (s : Same H H') (h : OSt w0 ta n ts σ H) : OSt w0 ta n ts σ H' := let ⟨a, b, c, d⟩ := h; ⟨a, s _ _ b, s _ _ c, d⟩
section
variable {P : Program} {w : World} {K : PySem.W.Frag} {mg : Str → Option Value} {base : Heap}
theorem scSays : FnScope ["_law_web_here", "_law_thing", "_law_kept", "_law_found"] ["_law_web_here", "_law_thing"] (defScope sSays) := ⟨rfl, rfl, rfl, by decide +kernel, rfl, by decide +kernel, by decide +kernel⟩
theorem ok_says {f : Addr} {fd : FuncData} (F : Fun K "_law_says" "_law_says" sSays f fd) (T : Txt K mg) (CW : Callee P w K mg base 7 "shows_sides" ["web", "thing"] spShow) (CU : Callee P w K mg base 3 "_law_due" ["_law_web_here", "_law_thing"] spShow) : FnOk P w K mg base CX0 8 f fd ["_law_web_here", "_law_thing"] spSays := by
  refine F.ok scSays (fun vs H Q E h => ?_) (fun cdv A outer s H vs Q E hr h => ?_)
  · obtain ⟨_, _, _, _, _, rfl, _⟩ := h; rfl
  · obtain ⟨w0, n, es, x, d, rfl, W, hd, hwo, hro, hz, q⟩ := h
    have hf : Fit d := hz.fit (by decide) (by decide)
    have hr3 : Room 3 _ := hr.mono (by decide)
    have hu : (A.deeper (PyProof.Rows.envOfC "_law_says" (defScope sSays) s.heap.objs.size f cdv)).units + 100 < cLine := by have := hr.un; omega
    refine ⟨_, pss_cons (ps_set (i := 2) scSays.nd rfl (Or.inl rfl) (pe_callTy (call_strD hr.gd hu) (by rfl) T.str b_str (pa_cons (pv 1) pa_nil)))
      (pss_cons (ps_set (i := 3) scSays.nd rfl (Or.inl rfl) (pe_def CW hr (by rfl) (pa_cons (pv 0) (pa_cons (pv 1) pa_nil))))
      (pss_one (ps_ret (pe_and (pe_callB call_isi1 (by rfl) T.isi b_isi (pa_cons (pv 3) (pa_cons (pe_bltn (v := .ty "bool") (by rfl) T.bool b_bool rfl) pa_nil)))
        (pe_and (pe_cmpR op_eq (pv 3) (pe_def CU hr3 (by rfl) (pa_cons (pv 0) (pa_cons (pv 1) pa_nil))) (nomark _)) (pe_one (pe_cmpR op_eq (pe_callTy (call_strD hr.gd hu) (by rfl) T.str b_str (pa_cons (pv 1) pa_nil)) (pv 2) (nomark _)))))))), ?_⟩
    refine ⟨_, rfl, x, d, rfl, hd, hf, _, rfl, _, rfl, w0, n, es, x, d, rfl, W, hd, hwo, hro, fun b H1 s1 hb => ?_⟩
    refine ⟨_, rfl, _, "bool", _, _, rfl, .bl _, (kit_n _ _).trans kt_bb, _, rfl, iteT ?_⟩
    refine ⟨_, rfl, _, rfl, _, rfl, w0, n, es, x, d, rfl, W.mono (sameKT s1), Dat.mono s1 x d hd, hwo, hro, fun b2 H2 s2 hb2 => ?_⟩
    have e : b = b2 := Bool.eq_iff_iff.mpr (hb.trans hb2.symm)
    subst e
    refine ⟨rfl, _, rfl, iteD rfl ?_⟩
    exact ⟨_, rfl, x, d, rfl, Dat.mono (s1.trans s2) x d hd, hf, _, rfl, rfl, bl_t rfl (q H2 (s1.trans s2))⟩
theorem scOdd : FnScope ["_law_tape_here", "_law_web_here", "_law_some"] ["_law_tape_here", "_law_web_here"] (defScope sOdd) := ⟨rfl, rfl, rfl, by decide +kernel, rfl, by decide +kernel, by decide +kernel⟩
end
end Hue
set_option Elab.async false
set_option linter.all false
set_option maxRecDepth 100000
set_option maxHeartbeats 2000000
namespace Hue
open PySem L2
theorem szA_of {k b : Nat} : ∀ {ds : List PyData}, (∀ d ∈ ds, Sz k b d) → SzA k b ds.length ds
  | [], _ => .nil
  | d :: ds, h => .cons (h d (List.mem_cons_self ..)) (szA_of fun x hx => h x (List.mem_cons_of_mem _ hx))
theorem HD.all {t : Addr} {Pd : PyData → Prop} {H : Hp} : ∀ {vs : List V}, (∀ v ∈ vs, HD t Pd H v) → ∃ ds, DatAll (hid (some t) H) vs ds ∧ (∀ d ∈ ds, Pd d) ∧ ds.length = vs.length
  | [], _ => ⟨[], by unfold DatAll; trivial, (fun _ h => nomatch h), rfl⟩
  | v :: vs, h => by
    obtain ⟨d, a, b⟩ := h v (List.mem_cons_self ..)
    obtain ⟨ds, a', b', c'⟩ := HD.all (vs := vs) fun x hx => h x (List.mem_cons_of_mem _ hx)
    refine ⟨d :: ds, by unfold DatAll; exact ⟨a, a'⟩, fun x hx => ?_, by simp [c']⟩
    rcases List.mem_cons.mp hx with rfl | hx
    · exact b
    · exact b' x hx
def L0 (d : PyData) : Prop := Sz 0 4 d ∧ seqD d = false
def L1 (d : PyData) : Prop := Sz 1 12 d ∧ NoRow d
theorem norow_leaf {d : PyData} (h : seqD d = false) : NoRow d := fun a b e => by rw [e] at h; cases h
theorem L0.up {d : PyData} (h : L0 d) : L1 d := ⟨h.1.mono (by decide) (by decide), norow_leaf h.2⟩
theorem L1.up {d : PyData} (h : L1 d) : OddP d := ⟨h.1.mono (by decide) (by decide), h.2⟩
def Plain1 (X : Cx) (e : Expr) : Prop := ∀ es, starEach (e :: es) X.env = (false, eval e X.env) :: starEach es X.env
def leafC (wh : Str) : Expr → Bool
  | .Constant .none _ _ => true
  | .Constant (.bool _) _ _ => true
  | .Constant (.int i) _ _ => decide (0 ≤ i) && decide (i ≤ 1000000)
  | .Constant (.str y) _ _ => decide (y.cps.size ≤ 4) && (y.cps.toList.all fun c => decide (c < 16 ^ 8))
  | .UnaryOp .USub (.Constant (.int i) _ _) _ => decide (0 ≤ i) && decide (i ≤ 1000000)
  | .Call (.Name l _) [.Subscript (.Name y _) (.Constant (.int i) _ _) _] [] _ => decide (l = "len") && (decide (y = wh) && decide (i = 1))
  | _ => false
def dispC (f : Expr → Bool) (n : Nat) : Expr → Bool
  | .Tuple es _ _ => es.all f && decide (es.length ≤ n)
  | .List es _ => es.all f && decide (es.length ≤ n)
  | _ => false
def lstC (f : Expr → Bool) (n : Nat) : Expr → Bool
  | .List es _ => es.all f && decide (es.length ≤ n)
  | _ => false
section
variable {X : Cx} {t : Addr} {S : St → Hp → Prop}
theorem sz_dn {k b : Nat} {v : V} {d : PyData} (h : DN k b (fun _ => none) v) (hd : Dat (fun _ => none) v d) (u : ∀ d', Dat (fun _ => none) v d' → d' = d) : Sz k b d := by
  obtain ⟨d', a, z⟩ := h
  rw [← u d' a]; exact z
theorem sz_int {k b : Nat} {i : Int} (h0 : -1000000 ≤ i) (h1 : i ≤ 1000000) : Sz k b (.int i) := sz_dn (v := .int i) (.int (small_log h0 h1)) (by unfold Dat; rfl) fun d' h => dat_num h
theorem hds_all {f : Expr → Bool} {Pd : PyData → Prop} (hS : ∀ σ H H', Same H H' → S σ H → S σ H') (hf : ∀ e, f e = true → PE X e (tHD t S Pd) ∧ Plain1 X e) : ∀ (es : List Expr), es.all f = true → PA X es (tHDs t S Pd es.length)
  | [], _ => hds_nil
  | e :: es, h => by
    rw [List.all_cons, Bool.and_eq_true] at h
    exact hds_cons hS (hf e h.1).1 (hds_all hS hf es h.2) ((hf e h.1).2 es)
theorem hd_lst {es : List Expr} {pos : Pos} {Pd Pd' : PyData → Prop} {n : Nat} (h : PA X es (tHDs t S Pd n)) (hn : n ≤ 1000) (hp : ∀ ds : List PyData, (∀ d ∈ ds, Pd d) → ds.length = n → Pd' (.list ds)) : PE X (.List es pos) (tHD t S Pd') := pe_via _ (pe_lst h) fun σ H Q hw => by
  refine ⟨hw.1, fun vs H1 s1 hl d1 => ⟨by rw [hl]; exact sl3 hn, fun p hp' => ?_⟩⟩
  have T1 := tape_same hw.1.2 s1
  obtain ⟨ds, hA, hd, hdl⟩ := HD.all fun v hv => (d1 v hv).same (same_up (u := .lst vs) hp')
  exact hw.2 _ _ (s1.trans (same_up hp')) ⟨.list ds, mk_lst T1 hp' hA, hp ds hd (by rw [hdl, hl])⟩
theorem hd_tup {es : List Expr} {pos : Pos} {x1 : Nat} {Pd Pd' : PyData → Prop} {n : Nat} (h : PA X es (tHDs t S Pd n)) (hn : n ≤ 1000) (hp : ∀ ds : List PyData, (∀ d ∈ ds, Pd d) → ds.length = n → Pd' (.tuple ds)) : PE X (.Tuple es x1 pos) (tHD t S Pd') := pe_via _ (pe_tup h) fun σ H Q hw => by
  refine ⟨hw.1, fun vs H1 s1 hl d1 => ⟨by rw [hl]; exact sl3 hn, fun p hp' => ?_⟩⟩
  have T1 := tape_same hw.1.2 s1
  obtain ⟨ds, hA, hd, hdl⟩ := HD.all fun v hv => (d1 v hv).same (same_up (u := .tup vs) hp')
  exact hw.2 _ _ (s1.trans (same_up hp')) ⟨.tuple ds, mk_tup T1 hp' hA, hp ds hd (by rw [hdl, hl])⟩
theorem hd_imp {e : Expr} {Pd Pd' : PyData → Prop} (h : PE X e (tHD t S Pd)) (i : ∀ d, Pd d → Pd' d) : PE X e (tHD t S Pd') := pe_via _ h fun σ H Q hw => ⟨hw.1, fun v H1 s1 d1 => hw.2 v H1 s1 (d1.imp i)⟩
end
section
variable {X : Cx} {t w0 ta : Addr} {n : Nat} {ts : List V}
theorem leaf_ok (hN : X.N[1]? = some ("_law_web_here" : Str)) (hv : Vis X.env.scope ("_law_web_here" : Str)) (hl : Gl X "len") (hm : X.mg "len" = none) {e : Expr} (h : leafC "_law_web_here" e = true) : PE X e (tHD t (OSt w0 ta n ts) L0) ∧ Plain1 X e := by
  unfold leafC at h
  split at h
  · exact ⟨hd_c pe_non .none (fun _ => by unfold Dat; rfl) ⟨by constructor <;> decide, rfl⟩, fun _ => rfl⟩
  · rename_i c _ _
    exact ⟨hd_c pe_bl (.bool c) (fun _ => by unfold Dat; rfl) ⟨by cases c <;> constructor <;> decide, rfl⟩, fun _ => rfl⟩
  · simp only [Bool.and_eq_true, decide_eq_true_eq] at h
    exact ⟨hd_c pe_int (.int _) (fun _ => by unfold Dat; rfl) ⟨sz_int (by omega) h.2, rfl⟩, fun _ => rfl⟩
  · simp only [Bool.and_eq_true, decide_eq_true_eq] at h
    exact ⟨hd_c pe_str (.str _) (fun _ => by unfold Dat; rfl) ⟨sz_dn (v := .str _) (.str h.1 h.2) (by unfold Dat; rfl) (fun d' hd => by cases d' <;> (unfold Dat at hd) <;> first | (cases hd; done) | (injection hd with hd; rw [hd]) | (obtain ⟨_, _, z, _⟩ := hd; cases z) | exact hd.elim), rfl⟩, fun _ => rfl⟩
  · simp only [Bool.and_eq_true, decide_eq_true_eq] at h
    refine ⟨pe_via _ (pe_un un_neg pe_int) fun σ H Q hw => ⟨_, rfl, hw.2 _ H (Same.refl H) ⟨.int _, by unfold Dat; rfl, sz_int (by omega) (by omega), rfl⟩⟩, fun _ => rfl⟩
  · simp only [Bool.and_eq_true, decide_eq_true_eq] at h
    obtain ⟨e1, e2, e3⟩ := h
    subst e1 e2 e3
    refine ⟨pe_via _ (pe_callB call_len_seq hl hm b_len (pa_cons (pe_ix ix_tup (pe_var (i := 1) hN hv (by decide) (by decide)) pe_int (fun _ _ => rfl)) pa_nil)) fun σ H Q hw => ?_, fun _ => rfl⟩
    obtain ⟨⟨⟨h1, h2, h3, h4⟩, Tp⟩, q⟩ := hw
    exact ⟨_, h1, w0, _, _, _, rfl, rfl, SqT.of h2, (rfl : atI [V.int (n : Int), V.ref ta] 1 = some (.ref ta)), ta, ts, rfl, .inr (SqT.of h3), q _ H (Same.refl H) ⟨.int ts.length, by unfold Dat; rfl, sz_int (by omega) (by omega), rfl⟩⟩
  · cases h
def c0 : Expr → Bool := leafC "_law_web_here"
def c1 (e : Expr) : Bool := c0 e || dispC c0 2 e
def c2 (e : Expr) : Bool := c1 e || lstC c1 2 e
theorem c2_ok (hN : X.N[1]? = some ("_law_web_here" : Str)) (hv : Vis X.env.scope ("_law_web_here" : Str)) (hl : Gl X "len") (hm : X.mg "len" = none) : ∀ e, c2 e = true → PE X e (tHD t (OSt w0 ta n ts) OddP) ∧ Plain1 X e := by
  have h0 : ∀ e, c0 e = true → PE X e (tHD t (OSt w0 ta n ts) L0) ∧ Plain1 X e := fun e h => leaf_ok hN hv hl hm h
  have h1 : ∀ e, c1 e = true → PE X e (tHD t (OSt w0 ta n ts) L1) ∧ Plain1 X e := fun e h => by
    rcases Bool.or_eq_true_iff.mp h with h | h
    · exact ⟨hd_imp (h0 e h).1 fun _ => L0.up, (h0 e h).2⟩
    · unfold dispC at h
      split at h
      · simp only [Bool.and_eq_true, decide_eq_true_eq] at h
        refine ⟨hd_tup (hds_all OSt.same h0 _ h.1) (by omega) fun ds hd hdl => ⟨((szA_of fun d hx => (hd d hx).1).tuple).mono (by decide) (by rw [hdl]; omega), fun a b e => ?_⟩, fun _ => rfl⟩
        injection e with e
        exact (hd b (by rw [e]; simp)).2
      · simp only [Bool.and_eq_true, decide_eq_true_eq] at h
        exact ⟨hd_lst (hds_all OSt.same h0 _ h.1) (by omega) fun ds hd hdl => ⟨((szA_of fun d hx => (hd d hx).1).list).mono (by decide) (by rw [hdl]; omega), norow_l ds⟩, fun _ => rfl⟩
      · cases h
  intro e h
  rcases Bool.or_eq_true_iff.mp h with h | h
  · exact ⟨hd_imp (h1 e h).1 fun _ => L1.up, (h1 e h).2⟩
  · unfold lstC at h
    split at h
    · simp only [Bool.and_eq_true, decide_eq_true_eq] at h
      exact ⟨hd_lst (hds_all OSt.same h1 _ h.1) (by omega) fun ds hd hdl => ⟨((szA_of fun d hx => (hd d hx).1).list).mono (by decide) (by rw [hdl]; omega), norow_l ds⟩, fun _ => rfl⟩
    · cases h
theorem ps_disp {px p1 p3 : Pos} {es : List Expr} (hND : X.N.Nodup) (hi : X.N[2]? = some ("_law_some" : Str)) (hx : Loc X.env.scope ("_law_some" : Str)) (hN : X.N[1]? = some ("_law_web_here" : Str)) (hv : Vis X.env.scope ("_law_web_here" : Str)) (hl : Gl X "len") (hm : X.mg "len" = none) (h : es.all c2 = true)
    (hs : swapsWith (.List es p1) (some (.Name "_law_some" px)) p3.line X.env = pure false) (hf : X.fn ("_law_some" : Str) = true ∨ X.env.scope.names.lookup ("_law_some" : Str) = some NameKind.local) :
    PS X (.Assign [.Name "_law_some" px] (.List es p1) p3) (tAsg (tLst (tHDs t (OSt w0 ta n ts) OddP es.length)) (gName 2)) := ps_set hND hi hx (pe_lst (hds_all OSt.same (c2_ok hN hv hl hm) es h)) hs hf
end
section
variable {P : Program} {w : World} {K : PySem.W.Frag} {mg : Str → Option Value} {base : Heap}
theorem ok_odd {f : Addr} {fd : FuncData} (F : Fun K "_law_odd" "_law_odd" sOdd f fd) (T : Txt K mg) (CD : CDraw P w K mg base) : FnOk P w K mg base CX0 2 f fd ["_law_tape_here", "_law_web_here"] spOdd := by
  refine F.ok scOdd (fun vs H Q E h => ?_) (fun cdv A outer s H vs Q E hr h => ?_)
  · obtain ⟨_, _, _, _, rfl, _⟩ := h; rfl
  · obtain ⟨t, w0, n, es, rfl, Tp, W, q⟩ := h
    obtain ⟨ta, ts, hw, ht, htl, _, _, hE, _⟩ := W
    refine ⟨_, @pss_cons _ _ _ _ _ (@ps_disp _ t w0 ta n ts _ _ _ _ scOdd.nd rfl (Or.inl rfl) rfl (Or.inl rfl) (by rfl) T.len (by rfl) (by rfl) (Or.inl rfl))
      (pss_one (ps_ret (pe_ix ix_list (pv 2) (pe_def CD hr (by rfl) (pa_cons (pv 0) (pa_cons (pe_callB call_len_seq (by rfl) T.len b_len (pa_cons (pv 2) pa_nil)) pa_nil))) (fun _ _ => rfl)))), ?_⟩
    refine ⟨⟨⟨rfl, hw, ht, by omega⟩, Tp⟩, fun vs H1 s1 hl d1 => ?_⟩
    have hl : vs.length = 18 := hl
    refine ⟨sl3 (by omega), fun L hL => ?_⟩
    have s2 := same_new (o := .lst vs) s1 hL
    have T1 := tape_same Tp s1
    have Lt : L ≠ t := T1.ne hL
    have T2 := T1.new (o := .lst vs) hL
    refine ⟨_, rfl, _, rfl, _, rfl, L, _, rfl, .inl (SqL.of upd_same), t, _, rfl, T2, by rw [hl]; decide, by rw [hl]; decide, fun r H3 r0 r1 T3 x3 => ?_⟩
    have hr' : r.toNat < vs.length := by omega
    have ea : atI vs r = some (vs[r.toNat]'hr') := by
      have := atI_nat (xs := vs) (List.getElem?_eq_getElem hr')
      rwa [Int.toNat_of_nonneg r0] at this
    exact ⟨L, _, _, _, rfl, rfl, SqL.of (x3 _ _ Lt upd_same), ea, q _ H3 T3 (fun b u ne h => x3 b u ne (s2 _ _ h)) (((d1 _ (List.getElem_mem hr')).same (same_up hL)).ext x3)⟩
end
end Hue
set_option Elab.async false
set_option linter.all false
set_option maxRecDepth 100000
set_option maxHeartbeats 2000000
namespace Hue
open PySem L2
abbrev sDrawn : Stmt := top 23
def lenAt (L : Addr) (H : Hp) : Nat := match H L with
  | some (.lst xs) => xs.length
  | _ => 0
theorem erase_map {α β : Type} (f : α → β) : ∀ (l : List α) (i : Nat), (l.map f).eraseIdx i = (l.eraseIdx i).map f
  | [], _ => rfl
  | _ :: _, 0 => rfl
  | a :: l, i + 1 => congrArg (f a :: ·) (erase_map f l i)
theorem idx_ok {r : Int} {n : Nat} (h0 : 0 ≤ r) (h1 : r < n) : seqIndex? r n = some r.toNat := by
  exact PySem.StrLaws.seqIndex_nonneg h0 h1
theorem same_extT {t : Addr} {H H' : Hp} (s : Same H H') : Ext t H H' := fun b o _ e => s b o e
theorem WebE.toN {H : Hp} {w : Addr} {m : Int} {es : List (Int × Int)} (h : WebE H w m es) : WebN H w m.toNat (es.map fun e => (e.1.toNat, e.2.toNat)) ∧ m.toNat ≤ 13 ∧ (es.map fun e => (e.1.toNat, e.2.toNat)).length ≤ 63 := by
  obtain ⟨ta, ts, a, b, c, d, hb, h63, h0, h13⟩ := h
  refine ⟨⟨ta, ts, by rw [Int.toNat_of_nonneg h0]; exact a, b, by rw [c, List.length_map], fun k v hv => ?_, fun e he => ?_, by rw [List.length_map]; omega, by omega⟩, by omega, by rw [List.length_map]; omega⟩
  · obtain ⟨q, e, e1, e2, e3⟩ := d k v hv
    have := hb e (List.mem_of_getElem? e2)
    refine ⟨q, (e.1.toNat, e.2.toNat), e1, by rw [List.getElem?_map, e2]; rfl, ?_⟩
    show H q = some (.tup [.int ((e.1.toNat : Nat) : Int), .int ((e.2.toNat : Nat) : Int)])
    rw [Int.toNat_of_nonneg (by omega), Int.toNat_of_nonneg (by omega)]; exact e3
  · obtain ⟨f, hf, rfl⟩ := List.mem_map.mp he
    have := hb f hf
    dsimp only
    omega
def TN (H : Hp) (n : Nat) (v : V) : Prop := ∃ (q : Addr) (e : Nat × Nat), v = .ref q ∧ H q = some (.tup [natV e.1, natV e.2]) ∧ e.1 < n ∧ e.2 < n
theorem TN.mono {H H' : Hp} {n : Nat} {v : V} (h : TN H n v) (k : KeepT H H') : TN H' n v := let ⟨q, e, a, b, c⟩ := h; ⟨q, e, a, k _ _ b, c⟩
theorem ties_nat {H : Hp} {n : Nat} : ∀ (vs : List V), (∀ v ∈ vs, TN H n v) → ∃ es : List (Nat × Nat), vs.length = es.length ∧ (∀ (k : Nat) v, vs[k]? = some v → ∃ q e, v = .ref q ∧ es[k]? = some e ∧ H q = some (.tup [natV e.1, natV e.2])) ∧ (∀ e ∈ es, e.1 < n ∧ e.2 < n)
  | [], _ => ⟨[], rfl, fun k v h => by simp at h, fun _ h => nomatch h⟩
  | v :: ts, h => by
    obtain ⟨es, h1, h2, h3⟩ := ties_nat ts (fun u hu => h u (List.mem_cons_of_mem _ hu))
    obtain ⟨q, e, e1, e2, e3⟩ := h v (List.mem_cons_self ..)
    refine ⟨e :: es, by simp [h1], fun k u hu => ?_, fun f hf => ?_⟩
    · cases k with
      | zero =>
        simp at hu
        subst hu
        exact ⟨q, e, e1, rfl, e2⟩
      | succ k => exact h2 k u (by simpa using hu)
    · rcases List.mem_cons.mp hf with rfl | hf
      · exact e3
      · exact h3 f hf
def spDrawn : Sp := fun vs H Q _ => ∃ (t : Addr) (g : Bool), vs = [.ref t, .bl g] ∧ Tape H t ∧ ∀ (w : Addr) (n : Nat) (es : List (Nat × Nat)) (H' : Hp), WebN H' w n es → n ≤ 13 → es.length ≤ 63 → Tape H' t → Ext t H H' → Q (.ref w) H'
theorem nd_kml : ((["_law_k"] : List Str) ++ (["_law_many"] : List Str)).Nodup := by decide +kernel
section
variable {P : Program} {w : World} {K : PySem.W.Frag} {mg : Str → Option Value} {base : Heap}
theorem scDrawn : FnScope ["_law_tape_here", "_law_great", "_law_many", "_law_left", "_law_names", "_law_pairs", "_law_ties", "_law_one", "_law_other", "_law_pair"] ["_law_tape_here", "_law_great"] (defScope sDrawn) := ⟨rfl, rfl, rfl, by decide +kernel, rfl, by decide +kernel, by decide +kernel⟩
theorem ok_drawn {f : Addr} {fd : FuncData} (F : Fun K "_law_drawn" "_law_drawn" sDrawn f fd) (T : Txt K mg) (CD : CDraw P w K mg base) (CW : Callee P w K mg base 3 "_law_web" ["_law_tape_here", "_law_great"] spWeb) : FnOk P w K mg base CX0 4 f fd ["_law_tape_here", "_law_great"] spDrawn := by
  refine F.ok scDrawn (fun vs H Q E h => ?_) (fun cdv A outer s H vs Q E hr h => ?_)
  · obtain ⟨_, _, rfl, _⟩ := h; rfl
  · obtain ⟨t, g, rfl, Tp, q⟩ := h
    have hr1 : Room 1 _ := hr.mono (by decide)
    refine ⟨_, pss_cons (ps_if (pt_cmpR op_gt (pe_def CD hr1 (by rfl) (pa_cons (pv 0) (pa_cons pe_int pa_nil))) pe_int (nomark _)) (pss_one (ps_ret (pe_def CW hr (by rfl) (pa_cons (pv 0) (pa_cons (pv 1) pa_nil))))) pss_nil)
      (pss_cons (ps_set (i := 2) scDrawn.nd rfl (Or.inr rfl) (pe_op op_add pe_int (pe_def CD hr1 (by rfl) (pa_cons (pv 0) (pa_cons (pe_op op_add pe_int (pe_op op_mul pe_int (pe_callTy call_int1 (by rfl) T.int b_int (pa_cons (pv 1) pa_nil)))) pa_nil)))))
      (pss_cons (ps_set (i := 3) scDrawn.nd rfl (Or.inl rfl) (pe_callTy (call_listRng rfl) (by rfl) T.list b_list (pa_cons (pe_callTy call_rng1 (by rfl) T.range b_range (pa_cons (pe_op op_add (pv 2) pe_int) pa_nil)) pa_nil)))
      (pss_cons (ps_set (i := 4) scDrawn.nd rfl (Or.inl rfl) (pe_lst pa_nil))
      (pss_cons (ps_while PassesOwn.never (pt_cmpR (op_neL hr.units0) (pv 3) (pe_lst pa_nil) (nomark _))
        (pss_one (ps_expr (pe_bm PySem.F.plainAttrs_list PySem.F.slot_list_append PySem.F.type_list_append mt_append (pv 4) (pa_cons
          (pe_bm PySem.F.plainAttrs_list PySem.F.slot_list_pop PySem.F.type_list_pop mt_popAt (pv 3) (pa_cons (pe_def CD hr1 (by rfl) (pa_cons (pv 0) (pa_cons (pe_callB call_len_seq (by rfl) T.len b_len (pa_cons (pv 3) pa_nil)) pa_nil))) pa_nil)) pa_nil)))))
      (pss_cons (ps_set (i := 5) scDrawn.nd rfl (Or.inl rfl) (pe_op op_cat (pe_comp ["_law_k"] ["_law_many"] [2] (pi_range1 (by rfl) T.range (pa_cons (pv 2) pa_nil)) (fun _ _ _ _ _ => pg_name (i := 0) nd_kml rfl (Or.inl rfl)) (fun _ _ _ _ _ => pifs_nil) (fun _ _ _ _ _ => pe_tup (pa_cons (pv 0) (pa_cons (pe_op op_mod (pe_op op_add (pv 0) pe_int) (pv 1)) pa_nil))))
        (pe_lst (pa_cons (pe_tup (pa_cons (pv 2) (pa_cons (pe_def CD hr1 (by rfl) (pa_cons (pv 0) (pa_cons (pv 2) pa_nil))) pa_nil))) (pa_cons (pe_tup (pa_cons (pv 2) (pa_cons (pe_op op_add (pv 2) pe_int) pa_nil))) pa_nil)))))
      (pss_cons (ps_set (i := 6) scDrawn.nd rfl (Or.inl rfl) (pe_lst pa_nil))
      (pss_cons (ps_for PassesOwn.never rfl (pi_list (pv 5)) (pg_tup (n := 2) rfl (pgs_cons (pg_name (i := 7) scDrawn.nd rfl (Or.inl rfl)) (pgs_cons (pg_name (i := 8) scDrawn.nd rfl (Or.inl rfl)) pgs_nil)))
        (pss_cons (ps_set (i := 9) scDrawn.nd rfl (Or.inl rfl) (pe_tup (pa_cons (pe_callB (call_min2 rfl) (by rfl) T.min b_min (pa_cons (pe_ix ix_list (pv 4) (pv 7) (fun _ _ => rfl)) (pa_cons (pe_ix ix_list (pv 4) (pv 8) (fun _ _ => rfl)) pa_nil))) (pa_cons (pe_callB (call_max2 rfl) (by rfl) T.max b_max (pa_cons (pe_ix ix_list (pv 4) (pv 7) (fun _ _ => rfl)) (pa_cons (pe_ix ix_list (pv 4) (pv 8) (fun _ _ => rfl)) pa_nil))) pa_nil))))
        (pss_one (ps_expr (pe_bm PySem.F.plainAttrs_list PySem.F.slot_list_insert PySem.F.type_list_insert mt_insert (pv 6) (pa_cons (pe_def CD hr1 (by rfl) (pa_cons (pv 0) (pa_cons (pe_op op_add (pe_callB call_len_seq (by rfl) T.len b_len (pa_cons (pv 6) pa_nil)) pe_int) pa_nil))) (pa_cons (pv 9) pa_nil)))))))
      (pss_one (ps_ret (pe_tup (pa_cons (pe_op op_add (pv 2) pe_int) (pa_cons (pe_callTy call_tuple_of (by rfl) T.tuple b_tuple (pa_cons (pv 6) pa_nil)) pa_nil)))))))))))), ?_⟩
    refine ⟨_, rfl, t, 4, rfl, Tp, by decide, by decide, fun r H1 r0 r1 T1 x1 => ⟨_, _, rfl, rfl, _, rfl, ?_⟩⟩
    refine ite2 (fun _ => ?_) (fun _ => ?_)
    · refine ⟨_, rfl, _, rfl, t, g, rfl, T1, fun w0 m ts H2 W2 T2 x2 => ?_⟩
      obtain ⟨es, We, _⟩ := W2.pure
      obtain ⟨Wn, h13, h63⟩ := We.toN
      exact q w0 _ _ H2 Wn h13 h63 T2 (x1.trans x2)
    refine ⟨_, rfl, _, rfl, .inr ⟨g, rfl, _, _, rfl, rfl, .inl ⟨by decide, by decide⟩, _, _, rfl, rfl, t, _, rfl, T1, by split <;> omega, by split <;> omega, fun r' H2 r0' r1' T2 x2 => ⟨_, _, rfl, rfl, ?_⟩⟩⟩
    obtain ⟨c, hc, c3, c11⟩ : ∃ c : Nat, (3 : Int) + r' = (c : Int) ∧ 3 ≤ c ∧ c ≤ 11 := ⟨(3 + r').toNat, by omega, by omega, by revert r1'; split <;> omega⟩
    show gName 2 (V.int (3 + r')) _ _ _
    rw [hc]
    have x02 := x1.trans x2
    refine ⟨_, rfl, _, _, rfl, rfl, _, rfl, fun p hp => ?_⟩
    refine ⟨p, 0, _, rfl, upd_same, by decide, by decide, by omega, by omega, by omega, fun L hL => ?_⟩
    refine ⟨by show 0 ≤ sizeLine; decide, fun Nm hNm => ?_⟩
    have en : ((c : Int) + 2 - 0).toNat = c + 2 := by omega
    have T3 : Tape (upd H2 p (.rng 0 ((c : Int) + 2))) t := T2.new hp
    have T4 := T3.new (o := .lst (rngV 0 ((c : Int) + 2 - 0).toNat)) hL
    have T5 := T4.new (o := .lst []) hNm
    have x3 : Ext t H (upd H2 p (.rng 0 ((c : Int) + 2))) := x02.new hp
    have x4 := x3.new (o := .lst (rngV 0 ((c : Int) + 2 - 0).toNat)) hL
    have x5 := x4.new (o := .lst []) hNm
    have Lt : L ≠ t := T3.ne hL
    have Nt : Nm ≠ t := T4.ne hNm
    have nL : H L = none := x3.free hL Lt
    have nN : H Nm = none := x4.free hNm Nt
    have LN : L ≠ Nm := ne_of_none upd_same hNm
    refine while_by (fun σ H2 => ∃ ls ns : List Nat, σ = [some (.ref t), some (.bl g), some (.int (c : Int)), some (.ref L), some (.ref Nm), none, none, none, none, none] ∧ Tape H2 t ∧ Ext t H H2 ∧ H2 L = some (.lst (ls.map natV)) ∧ H2 Nm = some (.lst (ns.map natV)) ∧ (∀ x ∈ ls, x < c + 2) ∧ (∀ x ∈ ns, x < c + 2) ∧ ls.length + ns.length = c + 2)
      (fun _ H2 => lenAt L H2) ⟨List.range (c + 2), [], rfl, T5, x5, keepN (by rw [upd_same, en, rng_nat]) hNm, upd_same, (fun x hx => List.mem_range.mp hx), (fun x hx => by cases hx), by simp⟩ ?_ ?_
    · rintro σ H6 ⟨ls, ns, rfl, Tt, xx, hL2, hN2, bl, bn, hlen⟩
      refine ⟨_, rfl, by show 0 ≤ sizeLine; decide, fun z hz => ?_⟩
      have T6 := Tt.new (o := .lst []) hz
      have x6 := xx.new (o := .lst []) hz
      have hL3 := keepN (u := .lst []) hL2 hz
      have hN3 := keepN (u := .lst []) hN2 hz
      refine ⟨L, z, _, [], rfl, rfl, SqL.of hL3, SqL.of upd_same, .inr (.inr rfl), _, rfl, ?_⟩
      cases ls with
      | nil =>
        refine iteF ?_
        have hnl : ns.length = c + 2 := by simpa using hlen
        generalize (upd H6 z (.lst [])) = H7 at T6 x6 hN3
        have m0 : (0 : Int) < (c : Int) + 2 := by omega
        refine ⟨_, rfl, (c : Int), rfl, by omega, by omega, fun D hD => comp_range (lo := 0) (n := ((c : Int)).toNat) (fun k ys H8 => Same H7 H8 ∧ H8 D = some (.lst ys) ∧ Pairs H8 ((c : Int) + 2) ys ∧ ys.length = k) ⟨same_new (Same.refl _) hD, upd_same, Pairs.nil, rfl⟩ ?_ ?_⟩
        · rintro k ys H8 hk ⟨s8, d8, p8, l8⟩
          refine compT (i := 0) ⟨_, rfl, _, rfl, _, _, rfl, rfl, _, rfl, _, _, rfl, rfl, (show (0 : Int) < (c : Int) by omega), by show 2 ≤ sizeLine; decide, fun g hg => ?_⟩
          have hmod : ((0 + (k : Int)) + 1) % (c : Int) = if (k : Int) + 1 < c then (k : Int) + 1 else (k : Int) + 1 - c := by
            rw [Int.zero_add]; exact mod2 (by omega) (by omega)
          have pn : PairAt (upd H8 g (.tup [.int (0 + (k : Int)), .int (((0 + (k : Int)) + 1) % (c : Int))])) ((c : Int) + 2) (.ref g) := by
            refine pairAt_new (by omega) (by omega) ?_ ?_ ?_ <;> (rw [hmod]; split <;> omega)
          refine ⟨keepN d8 hg, small1000 (by omega), same_own (same_new s8 hg) hD, upd_same, ?_, by rw [List.length_append, l8]; rfl⟩
          exact ((p8.mono (KeepT.new hg)).app (.one pn)).mono (KeepT.lst (keepN d8 hg))
        · rintro ys H8 ⟨s8, d8, p8, l8⟩
          rw [Int.toNat_natCast] at l8
          have T8 := tape_same T6 s8
          have Dt : D ≠ t := T6.ne hD
          refine ⟨_, rfl, _, rfl, _, rfl, t, _, rfl, T8, by omega, by omega, fun r2 H9 r20 r21 T9 x9 => ⟨by show 2 ≤ sizeLine; decide, fun g1 hg1 => ?_⟩⟩
          have p9 := p8.mono (x9.keepT T8)
          have d9 := x9 _ _ Dt d8
          have pn1 : PairAt (upd H9 g1 (.tup [.int (c : Int), .int r2])) ((c : Int) + 2) (.ref g1) := pairAt_new (by omega) (by omega) (by omega) (by omega) (by omega)
          have sA : Same H9 (upd H9 g1 (.tup [.int (c : Int), .int r2])) := same_new (Same.refl _) hg1
          generalize (upd H9 g1 (.tup [.int (c : Int), .int r2])) = HA at pn1 sA
          refine ⟨_, rfl, _, rfl, _, _, rfl, rfl, by show 2 ≤ sizeLine; decide, fun g2 hg2 => ?_⟩
          have pn2 : PairAt (upd HA g2 (.tup [.int (c : Int), .int ((c : Int) + 1)])) ((c : Int) + 2) (.ref g2) := pairAt_new (by omega) (by omega) (by omega) (by omega) (by omega)
          have sB := same_new (o := .tup [.int (c : Int), .int ((c : Int) + 1)]) sA hg2
          have pn1' := pn1.mono (KeepT.new (o := .tup [.int (c : Int), .int ((c : Int) + 1)]) hg2)
          generalize (upd HA g2 (.tup [.int (c : Int), .int ((c : Int) + 1)])) = HB at pn2 sB pn1'
          refine ⟨by show 2 ≤ sizeLine; decide, fun M hM => ?_⟩
          have sC := same_new (o := .lst [.ref g1, .ref g2]) sB hM
          refine ⟨D, M, _, _, rfl, rfl, sC _ _ d9, upd_same, sl3 (by simp; omega), fun Pp hP => ?_⟩
          have sD := same_new (o := .lst (ys ++ [.ref g1, .ref g2])) sC hP
          have gP : (upd (upd HB M (.lst [.ref g1, .ref g2])) Pp (.lst (ys ++ [.ref g1, .ref g2]))) Pp = some (.lst (ys ++ [.ref g1, .ref g2])) := upd_same
          have pD : Pairs (upd (upd HB M (.lst [.ref g1, .ref g2])) Pp (.lst (ys ++ [.ref g1, .ref g2]))) ((c : Int) + 2) (ys ++ [.ref g1, .ref g2]) := by
            intro v hv
            have kk : KeepT HB (upd (upd HB M (.lst [.ref g1, .ref g2])) Pp (.lst (ys ++ [.ref g1, .ref g2]))) := (KeepT.new hM).trans (KeepT.new hP)
            rcases List.mem_append.mp hv with hv | hv
            · exact (p9.mono (fun b xs h => sB _ _ h) v hv).mono kk
            · simp only [List.mem_cons, List.not_mem_nil, or_false] at hv
              rcases hv with rfl | rfl
              · exact pn1'.mono kk
              · exact pn2.mono kk
          have lP : (ys ++ [V.ref g1, V.ref g2]).length = c + 2 := by rw [List.length_append, l8]; rfl
          have TD := tape_same T9 sD
          have xD : Ext t H (upd (upd HB M (.lst [.ref g1, .ref g2])) Pp (.lst (ys ++ [.ref g1, .ref g2]))) := fun b u ne h => sD _ _ (x9 b u ne (s8 _ _ (x6 b u ne h)))
          have nP : Pp ≠ t := (tape_same T9 sC).ne hP
          have hND := sD _ _ (x9 _ _ Nt (s8 _ _ hN3))
          generalize (ys ++ [V.ref g1, V.ref g2]) = ps at gP pD lP TD xD hND
          generalize (upd (upd HB M (.lst [.ref g1, .ref g2])) Pp (.lst ps)) = HD' at gP pD TD xD hND
          refine ⟨by show 0 ≤ sizeLine; decide, fun d hd => ?_⟩
          have dt : d ≠ t := TD.ne hd
          have nd : H d = none := xD.free hd dt
          have dP : Pp ≠ d := ne_of_none gP hd
          have dN : Nm ≠ d := ne_of_none hND hd
          refine ⟨_, rfl, Pp, rfl, ⟨_, SqL.of (keepN gP hd)⟩, for_list (K := K) (a := Pp) (xs := ps) (fun i σ HE => ∃ (vs : List V) (o7 o8 o9 : Option V), σ = [some (.ref t), some (.bl g), some (.int (c : Int)), some (.ref L), some (.ref Nm), some (.ref Pp), some (.ref d), o7, o8, o9] ∧ Tape HE t ∧ Ext t H HE ∧ HE Pp = some (.lst ps) ∧ Pairs HE ((c : Int) + 2) ps ∧ HE Nm = some (.lst (ns.map natV)) ∧ HE d = some (.lst vs) ∧ (∀ v ∈ vs, TN HE (c + 2) v) ∧ vs.length = i)
            ⟨[], none, none, none, rfl, TD.new hd, xD.new hd, keepN gP hd, pD.mono (KeepT.new hd), keepN hND hd, upd_same, (fun _ h => nomatch h), rfl⟩ (fun i σ HE _ h => by obtain ⟨_, _, _, _, _, _, _, gp, _⟩ := h; exact SqL.of gp) ?_ ?_⟩
          · rintro i x σ HE hx ⟨vs, o7, o8, o9, rfl, TE', xE, gE, pE, nE, dE, tE, lE⟩
            have hi : i < ps.length := (List.getElem?_eq_some_iff.mp hx).1
            obtain ⟨qa, a, b, rfl, hqa, a0, a1, b0, b1, hab⟩ := pE x (List.mem_of_getElem? hx)
            have aa : atI (ns.map natV) a = some (natV (ns.getD a.toNat 0)) := by
              have := natV_at (ms := ns) (i := a.toNat) (by omega)
              rwa [Int.toNat_of_nonneg a0] at this
            have ab : atI (ns.map natV) b = some (natV (ns.getD b.toNat 0)) := by
              have := natV_at (ms := ns) (i := b.toNat) (by omega)
              rwa [Int.toNat_of_nonneg b0] at this
            have na : ns.getD a.toNat 0 < c + 2 := by
              have h : a.toNat < ns.length := by omega
              rw [List.getD_eq_getElem?_getD, List.getElem?_eq_getElem h]; exact bn _ (List.getElem_mem h)
            have nb : ns.getD b.toNat 0 < c + 2 := by
              have h : b.toNat < ns.length := by omega
              rw [List.getD_eq_getElem?_getD, List.getElem?_eq_getElem h]; exact bn _ (List.getElem_mem h)
            refine ⟨qa, _, rfl, SqT.of hqa, rfl, _, _, rfl, _, _, rfl, rfl, ?_⟩
            refine ⟨_, rfl, _, rfl, Nm, _, _, _, rfl, rfl, SqL.of nE, aa, _, rfl, _, rfl, Nm, _, _, _, rfl, rfl, SqL.of nE, ab, _, _, rfl, ?_⟩
            rw [low_V ns (a.toNat, b.toNat)]
            refine ⟨_, rfl, _, rfl, Nm, _, _, _, rfl, rfl, SqL.of nE, aa, _, rfl, _, rfl, Nm, _, _, _, rfl, rfl, SqL.of nE, ab, _, _, rfl, ?_⟩
            rw [high_V ns (a.toNat, b.toNat)]
            refine ⟨by show 2 ≤ sizeLine; decide, fun gg hgg => ?_⟩
            have tn : TN (upd HE gg (.tup [.int ((lowO ns (a.toNat, b.toNat) : Nat) : Int), .int ((highO ns (a.toNat, b.toNat) : Nat) : Int)])) (c + 2) (.ref gg) := ⟨gg, (lowO ns (a.toNat, b.toNat), highO ns (a.toNat, b.toNat)), rfl, upd_same, by unfold lowO; dsimp only; omega, by unfold highO; dsimp only; omega⟩
            have sF : Same HE (upd HE gg (.tup [.int ((lowO ns (a.toNat, b.toNat) : Nat) : Int), .int ((highO ns (a.toNat, b.toNat) : Nat) : Int)])) := same_new (Same.refl _) hgg
            generalize (upd HE gg (.tup [.int ((lowO ns (a.toNat, b.toNat) : Nat) : Int), .int ((highO ns (a.toNat, b.toNat) : Nat) : Int)])) = HF at tn sF
            have TF := tape_same TE' sF
            refine ⟨_, rfl, .inl ⟨rfl, _, SqL.of (sF _ _ dE)⟩, _, rfl, _, rfl, d, vs, rfl, .inl (SqL.of (sF _ _ dE)), _, _, rfl, rfl, t, _, rfl, TF, by omega, by omega, fun cc HG cc0 cc1 TG xG => ?_⟩
            have kG := xG.keepT TF
            have dG := xG _ _ dt (sF _ _ dE)
            refine ⟨_, rfl, d, vs, cc, _, rfl, rfl, dG, cc0, by omega, small1000 (by omega), vs.take cc.toNat ++ .ref gg :: vs.drop cc.toNat, _, _, _, rfl, TG.upd dt.symm, ?_, keepO (xG _ _ nP (sF _ _ gE)) dP, (pE.mono (fun b xs h => kG _ _ (sF _ _ h))).mono (KeepT.lst dG), keepO (xG _ _ Nt (sF _ _ nE)) dN, upd_same, fun v hv => ?_, ?_⟩
            · exact Ext.own (t := t) (H0 := H) (H := HG) (fun b u ne h => xG b u ne (sF _ _ (xE b u ne h))) nd
            · refine TN.mono ?_ (KeepT.lst dG)
              have old : ∀ v ∈ vs, TN HG (c + 2) v := fun v hv => (tE v hv).mono (fun b xs h => kG _ _ (sF _ _ h))
              rcases List.mem_append.mp hv with hv | hv
              · exact old v (List.mem_of_mem_take hv)
              · rcases List.mem_cons.mp hv with rfl | hv
                · exact tn.mono kG
                · exact old v (List.mem_of_mem_drop hv)
            · rw [List.length_append, List.length_cons, List.length_take, List.length_drop]; omega
          · rintro σ HE ⟨vs, o7, o8, o9, rfl, TE', xE, gE, pE, nE, dE, tE, lE⟩
            refine ⟨_, rfl, _, _, rfl, rfl, _, rfl, d, vs, rfl, .inl ⟨SqL.of dE, fun Tu hTu => ?_⟩⟩
            refine ⟨by show 2 ≤ sizeLine; decide, fun R hR => ?_⟩
            obtain ⟨es, e1, e2, e3⟩ := ties_nat vs tE
            refine q R (c + 2) es _ ⟨Tu, vs, by rw [upd_same]; congr 3, keepN upd_same hR, e1, fun k v hv => ?_, e3, by omega, by omega⟩ (by omega) (by omega) ((TE'.new hTu).new hR) ((xE.new hTu).new hR)
            obtain ⟨qv, e, f1, f2, f3⟩ := e2 k v hv
            exact ⟨qv, e, f1, f2, keepN (keepN f3 hTu) hR⟩
      | cons y ys =>
        refine iteT ?_
        have hpos : 0 < (y :: ys).length := by simp
        refine ⟨_, rfl, .inl ⟨rfl, _, SqL.of hN3⟩, _, rfl, .inl ⟨rfl, _, SqL.of hL3⟩, _, rfl, _, rfl, L, _, rfl, .inl (SqL.of hL3), ?_⟩
        refine ⟨t, _, rfl, T6, by rw [List.length_map]; omega, by rw [List.length_map]; omega, fun r3 H8 r30 r31 T8 x8 => ?_⟩
        rw [List.length_map] at r31
        have hL8 := x8 _ _ Lt hL3
        have hN8 := x8 _ _ Nt hN3
        have hr3 : r3.toNat < (y :: ys).length := by omega
        refine ⟨L, _, r3, r3.toNat, natV ((y :: ys)[r3.toNat]'hr3), rfl, rfl, hL8, by omega, by omega, idx_ok r30 (by rw [List.length_map]; exact r31), by rw [List.getElem?_map, List.getElem?_eq_getElem hr3]; rfl, ?_⟩
        refine ⟨Nm, _, _, rfl, rfl, keepO hN8 LN.symm, small1000 (by rw [List.length_map]; omega), ⟨(y :: ys).eraseIdx r3.toNat, ns ++ [(y :: ys)[r3.toNat]'hr3], rfl, (T8.upd Lt.symm).upd Nt.symm, ((x6.trans x8).own nL).own nN, ?_, ?_, fun x hx => bl x (List.mem_of_mem_eraseIdx hx), fun x hx => ?_, ?_⟩, ?_⟩
        · rw [upd_ne LN, upd_same, erase_map]
        · rw [upd_same, List.map_append]; rfl
        · rcases List.mem_append.mp hx with hx | hx
          · exact bn x hx
          · rw [List.mem_singleton.mp hx]; exact bl _ (List.getElem_mem hr3)
        · rw [List.length_eraseIdx_of_lt hr3, List.length_append, List.length_singleton]; omega
        · unfold lenAt
          rw [upd_ne LN, upd_same, hL2]
          dsimp only
          rw [erase_map, List.length_map, List.length_map, List.length_eraseIdx_of_lt hr3]; omega
    · rintro σ H6 Q1 Q2 hQ ⟨v, e, sz, k⟩
      exact ⟨v, e, sz, fun p hp => by
        obtain ⟨a, b, xs, ys, e1, e2, e3, e4, e5, z, ez, qz⟩ := k p hp
        exact ⟨a, b, xs, ys, e1, e2, e3, e4, e5, z, ez, hQ _ _ qz⟩⟩
end
end Hue
set_option Elab.async false
set_option linter.all false
set_option maxRecDepth 100000
set_option maxHeartbeats 2000000
namespace Hue
open PySem L2
abbrev sRingOf : Stmt := top 27
def spRingOf : Sp := fun vs H Q _ => ∃ (t w : Addr) (n : Nat) (es : List (Nat × Nat)), vs = [.ref t, .ref w] ∧ Tape H t ∧ WebN H w n es ∧ n ≤ 13 ∧ es.length ≤ 63 ∧ ∀ (l : Addr) (rs : List Int) (H' : Hp), H' l = some (.lst (rs.map V.int)) → H l = none → l ≠ t → rs.length ≤ 13 → (∀ r ∈ rs, 0 ≤ r ∧ r ≤ 1000) → Tape H' t → Ext t H H' → Q (.ref l) H'
theorem first_at {x : Int} : ∀ {ms : List Int}, x ∈ ms → ∃ j : Nat, ms[j]? = some x ∧ ∀ m : Nat, m < j → ms[m]? ≠ some x
  | y :: ms, h => by
    by_cases e : y = x
    · exact ⟨0, by rw [e]; rfl, fun m hm => by omega⟩
    · have h' : x ∈ ms := (List.mem_cons.mp h).resolve_left (fun z => e z.symm)
      obtain ⟨j, h1, h2⟩ := first_at h'
      refine ⟨j + 1, by simpa using h1, fun m hm => ?_⟩
      cases m with
      | zero => simpa using e
      | succ m => simpa using h2 m (by omega)
def upI (ms : List Nat) : List Int := ms.map fun (x : Nat) => (x : Int)
theorem natV_up (ms : List Nat) : ms.map natV = (upI ms).map V.int := by
  unfold upI; rw [List.map_map]; rfl
theorem cut_ints (zs : List Int) (lo hi : Option Int) : ∃ rs : List Int, cutV (zs.map V.int) lo hi = rs.map V.int ∧ rs.length ≤ zs.length ∧ ∀ r ∈ rs, r ∈ zs := by
  refine ⟨(zs.drop (HT.sIx (zs.map V.int).length 0 lo)).take (HT.sIx (zs.map V.int).length (zs.map V.int).length hi - HT.sIx (zs.map V.int).length 0 lo), ?_, ?_, fun r hr => List.mem_of_mem_drop (List.mem_of_mem_take hr)⟩
  · unfold cutV; rw [List.map_take, List.map_drop]
  · rw [List.length_take, List.length_drop]; omega
theorem nd_thtw : ((["_law_tie"] : List Str) ++ (["_law_here", "_law_ties", "_law_web_here"] : List Str)).Nodup := by decide +kernel
section
variable {P : Program} {w : World} {K : PySem.W.Frag} {mg : Str → Option Value} {base : Heap}
theorem scRingOf : FnScope ["_law_tape_here", "_law_web_here", "_law_here", "_law_met", "_law_ties", "_law_turn", "_law_some", "_law_tie", "_law_one", "_law_other"] ["_law_tape_here", "_law_web_here"] (defScope sRingOf) := ⟨rfl, rfl, rfl, by decide +kernel, rfl, by decide +kernel, by decide +kernel⟩
theorem ok_ringOf {f : Addr} {fd : FuncData} (F : Fun K "_law_ring_of" "_law_ring_of" sRingOf f fd) (T : Txt K mg) (CD : CDraw P w K mg base) : FnOk P w K mg base CX0 2 f fd ["_law_tape_here", "_law_web_here"] spRingOf := by
  refine F.ok scRingOf (fun vs H Q E h => ?_) (fun cdv A outer s H vs Q E hr h => ?_)
  · obtain ⟨_, _, _, _, rfl, _⟩ := h; rfl
  · obtain ⟨t, w0, n, es, rfl, Tp, W, h13, h63, q⟩ := h
    have hu := hr.units0
    refine ⟨_, pss_cons (ps_if (pt_cmpR (op_eqT0 hu) (pe_ix ix_tup (pv 1) pe_int (fun _ _ => rfl)) (pe_tup pa_nil) (nomark _)) (pss_one (ps_ret (pe_lst pa_nil))) pss_nil)
      (pss_cons (ps_set (i := 2) scRingOf.nd rfl (Or.inr rfl) (pe_ix ix_tup (pe_ix ix_tup (pe_ix ix_tup (pv 1) pe_int (fun _ _ => rfl)) (pe_def CD hr (by rfl) (pa_cons (pv 0) (pa_cons (pe_callB call_len_seq (by rfl) T.len b_len (pa_cons (pe_ix ix_tup (pv 1) pe_int (fun _ _ => rfl)) pa_nil)) pa_nil))) (fun _ _ => rfl)) (pe_def CD hr (by rfl) (pa_cons (pv 0) (pa_cons pe_int pa_nil))) (fun _ _ => rfl)))
      (pss_cons (ps_asg (pe_tup (pa_cons (pe_lst (pa_cons (pv 2) pa_nil)) (pa_cons (pe_lst pa_nil) pa_nil))) (pg_tup (n := 2) rfl (pgs_cons (pg_name (i := 3) scRingOf.nd rfl (Or.inl rfl)) (pgs_cons (pg_name (i := 4) scRingOf.nd rfl (Or.inr rfl)) pgs_nil))))
      (pss_cons (ps_for PassesOwn.never rfl (pi_range1 (by rfl) T.range (pa_cons (pe_ix ix_tup (pv 1) pe_int (fun _ _ => rfl)) pa_nil)) (pg_name (i := 5) scRingOf.nd rfl (Or.inl rfl))
        (pss_cons (ps_setComp (i := 6) ["_law_tie"] ["_law_here", "_law_ties", "_law_web_here"] [2, 4, 1] scRingOf.nd rfl rfl (pi_range1 (by rfl) T.range (pa_cons (pe_callB call_len_seq (by rfl) T.len b_len (pa_cons (pe_ix ix_tup (pv 1) pe_int (fun _ _ => rfl)) pa_nil)) pa_nil)) (fun _ _ _ _ _ => pg_name (i := 0) nd_thtw rfl (Or.inl rfl))
          (fun _ _ _ _ _ => pifs_one (pw_and (pt_cmpR (op_inK (K := K) rfl) (pv 1) (pe_ix (ix_tupK (K := K) rfl) (pe_ix (ix_tupK (K := K) rfl) (pv 3) pe_int (fun _ _ => rfl)) (pv 0) (fun _ _ => rfl)) (by with_unfolding_all rfl)) (pw_and1 (pt_cmpR (op_notInK (K := K) rfl) (pv 0) (pv 2) (by with_unfolding_all rfl)))).pt) (fun _ _ _ _ _ => pv 0))
        (pss_one (ps_if (pt_cmpR (op_neL hu) (pv 6) (pe_lst pa_nil) (nomark _))
          (pss_cons (ps_set (i := 7) scRingOf.nd rfl (Or.inl rfl) (pe_ix ix_list (pv 6) (pe_def CD hr (by rfl) (pa_cons (pv 0) (pa_cons (pe_callB call_len_seq (by rfl) T.len b_len (pa_cons (pv 6) pa_nil)) pa_nil))) (fun _ _ => rfl)))
          (pss_cons (ps_asg (pe_ix ix_tup (pe_ix ix_tup (pv 1) pe_int (fun _ _ => rfl)) (pv 7) (fun _ _ => rfl)) (pg_tup (n := 2) rfl (pgs_cons (pg_name (i := 8) scRingOf.nd rfl (Or.inl rfl)) (pgs_cons (pg_name (i := 9) scRingOf.nd rfl (Or.inl rfl)) pgs_nil))))
          (pss_cons (ps_set (i := 2) scRingOf.nd rfl (Or.inr rfl) (pe_ifExp (pt_cmpR op_eq (pv 2) (pv 8) (nomark _)) (pv 9) (pv 8)))
          (pss_cons (ps_expr (pe_bm PySem.F.plainAttrs_list PySem.F.slot_list_append PySem.F.type_list_append mt_append (pv 4) (pa_cons (pv 7) pa_nil)))
          (pss_cons (ps_if (pt_cmpR op_in_seq (pv 2) (pv 3) (by with_unfolding_all rfl)) (pss_one (ps_ret (pe_slice sl_list (pv 4) (po_some (pe_bm PySem.F.plainAttrs_list PySem.F.slot_list_index PySem.F.type_list_index mt_index (pv 3) (pa_cons (pv 2) pa_nil))) po_none))) pss_nil)
          (pss_one (ps_expr (pe_bm PySem.F.plainAttrs_list PySem.F.slot_list_append PySem.F.type_list_append mt_append (pv 3) (pa_cons (pv 2) pa_nil))))))))) pss_nil))))
      (pss_one (ps_ret (pe_lst pa_nil)))))), ?_⟩
    obtain ⟨ta, us, hw, ht, hul, hat⟩ := W.at
    refine ⟨_, rfl, w0, _, _, _, rfl, rfl, SqT.of hw, (rfl : atI [V.int (n : Int), V.ref ta] 1 = some (.ref ta)), by show 0 ≤ sizeLine; decide, fun z0 hz0 => ?_⟩
    have s1 : Same H (upd H z0 (.tup [])) := same_new (Same.refl _) hz0
    refine ⟨ta, z0, us, rfl, rfl, SqT.of (s1 _ _ ht), SqT.of upd_same, _, rfl, ?_⟩
    have T1 := tape_same Tp s1
    generalize (upd H z0 (.tup [])) = H1 at s1 T1
    have x1 : Ext t H H1 := same_extT s1
    have fin : ∀ H2 l, H2 l = none → Tape H2 t → Ext t H H2 → Q (.ref l) (upd H2 l (.lst [])) := fun H2 l hl T2 x2 => q l [] _ upd_same (x2.free hl (T2.ne hl)) (T2.ne hl) (by simp) (fun _ h => nomatch h) (T2.new hl) (x2.new hl)
    by_cases ze : us.isEmpty = true
    · exact iteTT ze ⟨by show 0 ≤ sizeLine; decide, fun l hl => fin H1 l hl T1 x1⟩
    refine iteFF (by simpa using ze) ?_
    have hpos : 0 < us.length := by
      cases us with
      | nil => exact absurd rfl ze
      | cons _ _ => simp
    refine ⟨_, rfl, w0, _, _, _, rfl, rfl, SqT.of (s1 _ _ hw), (rfl : atI [V.int (n : Int), V.ref ta] 1 = some (.ref ta)), _, rfl, _, rfl, w0, _, _, _, rfl, rfl, SqT.of (s1 _ _ hw), (rfl : atI [V.int (n : Int), V.ref ta] 1 = some (.ref ta)), ta, us, rfl, .inr (SqT.of (s1 _ _ ht)), t, _, rfl, T1, by omega, by omega, fun r H2 r0 r1 T2 x2 => ?_⟩
    have k2 := x2.keepT T1
    have hrl : r.toNat < es.length := by omega
    obtain ⟨qv, et, hq⟩ := hat r.toNat _ (List.getElem?_eq_getElem hrl)
    rw [Int.toNat_of_nonneg r0] at et
    generalize es[r.toNat]'hrl = e0 at hq
    refine ⟨ta, us, r, _, rfl, rfl, SqT.of (k2 _ _ (s1 _ _ ht)), et, _, rfl, t, 2, rfl, T2, by decide, by decide, fun r2 H3 r20 r21 T3 x3 => ?_⟩
    have k3 := x3.keepT T2
    obtain ⟨p0, ep⟩ : ∃ p0 : Nat, atI [natV e0.1, natV e0.2] r2 = some (natV p0) := by
      have : r2 = 0 ∨ r2 = 1 := by omega
      rcases this with rfl | rfl
      · exact ⟨e0.1, rfl⟩
      · exact ⟨e0.2, rfl⟩
    refine ⟨qv, _, r2, _, rfl, rfl, SqT.of (k3 _ _ (k2 _ _ (s1 _ _ hq))), ep, ?_⟩
    have x03 := (x1.trans x2).trans x3
    refine ⟨_, rfl, by show 1 ≤ sizeLine; decide, fun M hM => ⟨by show 0 ≤ sizeLine; decide, fun L hL => ⟨by show 2 ≤ sizeLine; decide, fun z hz => ?_⟩⟩⟩
    refine ⟨z, _, rfl, SqT.of upd_same, rfl, _, _, rfl, _, _, rfl, rfl, ?_⟩
    have T4 := ((T3.new (o := .lst [natV p0]) hM).new (o := .lst []) hL).new (o := .tup [.ref M, .ref L]) hz
    have x4 := ((x03.new (o := .lst [natV p0]) hM).new (o := .lst []) hL).new (o := .tup [.ref M, .ref L]) hz
    have Mt : M ≠ t := T3.ne hM
    have Lt : L ≠ t := (T3.new (o := .lst [natV p0]) hM).ne hL
    have nM : H M = none := x03.free hM Mt
    have nL : H L = none := (x03.new (o := .lst [natV p0]) hM).free hL Lt
    have ML : M ≠ L := ne_of_none upd_same hL
    have gM : (upd (upd (upd H3 M (.lst [natV p0])) L (.lst [])) z (.tup [.ref M, .ref L])) M = some (.lst (([p0] : List Nat).map natV)) := keepN (keepN upd_same hL) hz
    have gL : (upd (upd (upd H3 M (.lst [natV p0])) L (.lst [])) z (.tup [.ref M, .ref L])) L = some (.lst (([] : List Nat).map natV)) := keepN upd_same hz
    generalize (upd (upd (upd H3 M (.lst [natV p0])) L (.lst [])) z (.tup [.ref M, .ref L])) = H4 at T4 x4 gM gL
    have hw4 := (x4.keepT Tp) _ _ hw
    refine ⟨_, rfl, w0, _, _, _, rfl, rfl, SqT.of hw4, (rfl : atI [V.int (n : Int), V.ref ta] 0 = some (.int (n : Int))), (n : Int), rfl, by omega, by omega, for_range (lo := 0) (n := ((n : Int)).toNat) (fun i σ H5 => ∃ (p : Nat) (ms ts : List Nat) (o5 o6 o7 o8 o9 : Option V), σ = [some (.ref t), some (.ref w0), some (natV p), some (.ref M), some (.ref L), o5, o6, o7, o8, o9] ∧ Tape H5 t ∧ Ext t H H5 ∧ H5 M = some (.lst (ms.map natV)) ∧ H5 L = some (.lst (ts.map natV)) ∧ ms.length ≤ i + 1 ∧ ts.length ≤ i ∧ ∀ x ∈ ts, x < es.length)
      ⟨p0, [p0], [], none, none, none, none, none, rfl, T4, x4, gM, gL, by simp, by simp, fun _ h => nomatch h⟩ ?_ ?_⟩
    · rintro i σ H5 hi ⟨p, ms, ts, o5, o6, o7, o8, o9, rfl, T5, x5, hM5, hL5, lm, lt, bt⟩
      have k5 := x5.keepT Tp
      refine ⟨_, rfl, w0, _, _, _, rfl, rfl, SqT.of (k5 _ _ hw), (rfl : atI [V.int (n : Int), V.ref ta] 1 = some (.ref ta)), ta, us, rfl, .inr (SqT.of (k5 _ _ ht)), (us.length : Int), rfl, by omega, by omega, fun D hD => comp_range (lo := 0) (n := ((us.length : Int)).toNat) (fun k ys H6 => Same H5 H6 ∧ H6 D = some (.lst ys) ∧ ∃ ks : List Nat, ys = ks.map natV ∧ ks.length ≤ k ∧ ∀ x ∈ ks, x < es.length) ⟨same_new (Same.refl _) hD, upd_same, [], rfl, Nat.le_refl _, fun _ h => nomatch h⟩ ?_ ?_⟩
      · rintro k ys H6 hk ⟨s6, d6, ks, rfl, lk, bk⟩
        have hkl : k < es.length := by omega
        obtain ⟨qk, ek, hqk⟩ := hat k _ (List.getElem?_eq_getElem hkl)
        generalize es[k]'hkl = e at hqk
        have no : Same H5 H6 ∧ H6 D = some (.lst (ks.map natV)) ∧ ∃ ks' : List Nat, ks.map natV = ks'.map natV ∧ ks'.length ≤ k + 1 ∧ ∀ x ∈ ks', x < es.length := ⟨s6, d6, ks, rfl, by omega, bk⟩
        refine ⟨_, rfl, _, rfl, w0, _, _, _, rfl, rfl, SqT.of (s6 _ _ (k5 _ _ hw)), (rfl : atI [V.int (n : Int), V.ref ta] 1 = some (.ref ta)), _, rfl, ta, us, _, _, rfl, rfl, SqT.of (s6 _ _ (k5 _ _ ht)), by rw [Int.zero_add]; exact ek, qk, _, rfl, .inr (SqT.of (s6 _ _ (k5 _ _ hqk))), rfl, rfl, _, rfl, ?_⟩
        show if inV (natV p) [natV e.1, natV e.2] = true then _ else _
        rw [inV_two]
        by_cases z1 : p = e.1 ∨ p = e.2
        · refine iteD z1 ⟨_, rfl, _, rfl, L, _, rfl, .inl (SqL.of (s6 _ _ hL5)), rfl, flat_nats ts, _, rfl, ?_⟩
          show if (!inV (V.int (0 + (k : Int))) (ts.map natV)) = true then _ else _
          rw [show V.int (0 + (k : Int)) = natV k by unfold natV; rw [Int.zero_add], inV_nats]
          by_cases z2 : k ∈ ts
          · exact iteNS z2 no
          · refine iteNT z2 ⟨_, rfl, d6, small1000 (by rw [List.length_map]; omega), same_own s6 hD, upd_same, ks ++ [k], ?_, by rw [List.length_append]; simp; omega, fun x hx => ?_⟩
            · rw [List.map_append]; rfl
            · rcases List.mem_append.mp hx with hx | hx
              · exact bk x hx
              · rw [List.mem_singleton.mp hx]; exact hkl
        · exact iteND z1 (iteF no)
      · rintro ys H6 ⟨s6, d6, ks, rfl, lk, bk⟩
        have T6 := tape_same T5 s6
        have x6 : Ext t H H6 := ext_same x5 s6
        refine ⟨_, rfl, by show 0 ≤ sizeLine; decide, fun g hg => ?_⟩
        have s7 : Same H6 (upd H6 g (.lst [])) := same_new (Same.refl _) hg
        refine ⟨D, g, _, [], rfl, rfl, SqL.of (s7 _ _ d6), SqL.of upd_same, .inr (.inr rfl), _, rfl, ?_⟩
        have T7 := tape_same T6 s7
        have x7 : Ext t H (upd H6 g (.lst [])) := ext_same x6 s7
        have d7 := s7 _ _ d6
        have hM7 := s7 _ _ (s6 _ _ hM5)
        have hL7 := s7 _ _ (s6 _ _ hL5)
        generalize (upd H6 g (.lst [])) = H7 at s7 T7 x7 d7 hM7 hL7
        cases ks with
        | nil => exact iteF ⟨p, ms, ts, _, _, _, _, _, rfl, T7, x7, hM7, hL7, by omega, by omega, bt⟩
        | cons k0 kr =>
          refine iteT ?_
          have Dt : D ≠ t := T5.ne hD
          refine ⟨_, rfl, _, rfl, _, rfl, D, _, rfl, .inl (SqL.of d7), t, _, rfl, T7, by simp, by rw [List.length_map]; omega, fun r3 H8 r30 r31 T8 x8 => ?_⟩
          rw [List.length_map] at r31
          have hr3 : r3.toNat < (k0 :: kr).length := by omega
          have ea : atI ((k0 :: kr).map natV) r3 = some (natV ((k0 :: kr)[r3.toNat]'hr3)) := by
            have := atI_nat (xs := (k0 :: kr).map natV) (j := r3.toNat) (v := natV ((k0 :: kr)[r3.toNat]'hr3)) (by rw [List.getElem?_map, List.getElem?_eq_getElem hr3]; rfl)
            rwa [Int.toNat_of_nonneg r30] at this
          have hkk := bk _ (List.getElem_mem hr3)
          refine ⟨D, _, r3, _, rfl, rfl, SqL.of (x8 _ _ Dt d7), ea, ?_⟩
          generalize (k0 :: kr)[r3.toNat]'hr3 = kk at hkk
          have x08 := x7.trans x8
          have k8 := x08.keepT Tp
          obtain ⟨qk, ek, hqk⟩ := hat kk _ (List.getElem?_eq_getElem hkk)
          generalize es[kk]'hkk = e at hqk
          refine ⟨_, rfl, w0, _, _, _, rfl, rfl, SqT.of (k8 _ _ hw), (rfl : atI [V.int (n : Int), V.ref ta] 1 = some (.ref ta)), _, rfl, ta, us, _, _, rfl, rfl, SqT.of (k8 _ _ ht), ek, qk, _, rfl, SqT.of (k8 _ _ hqk), rfl, _, _, rfl, _, _, rfl, rfl, ?_⟩
          have hM8 := x8 _ _ Mt hM7
          have hL8 := x8 _ _ Lt hL7
          have go : ∀ p' : Nat, ∃ v, ([some (.ref t), some (.ref w0), some (natV p'), some (.ref M), some (.ref L), some (V.int (0 + (i : Int))), some (.ref D), some (natV kk), some (natV e.1), some (natV e.2)] : St)[4]? = some (some v) ∧ True := fun p' => ⟨_, rfl, trivial⟩
          refine ⟨_, rfl, _, rfl, rfl, _, rfl, ?_⟩
          refine ite2 (fun _ => ?_) (fun _ => ?_)
          all_goals
            refine ⟨_, rfl, ?_⟩
            refine ⟨_, rfl, .inl ⟨rfl, _, SqL.of hL8⟩, _, rfl, L, _, _, rfl, rfl, hL8, small1000 (by rw [List.length_map]; omega), ?_⟩
            have T9 := T8.upd (o := .lst (ts.map natV ++ [natV kk])) Lt.symm
            have x9 : Ext t H (upd H8 L (.lst (ts.map natV ++ [natV kk]))) := x08.own nL
            have hM9 := keepO (u := .lst (ts.map natV ++ [natV kk])) hM8 ML
            have hL9 : (upd H8 L (.lst (ts.map natV ++ [natV kk]))) L = some (.lst ((ts ++ [kk]).map natV)) := by rw [upd_same, List.map_append]; rfl
            generalize (upd H8 L (.lst (ts.map natV ++ [natV kk]))) = H9 at T9 x9 hM9 hL9
            refine ⟨_, rfl, _, rfl, M, _, rfl, .inl (SqL.of hM9), rfl, flat_nats ms, _, rfl, ?_⟩
            refine ite2 (fun zin => ?_) (fun _ => ?_)
            · have zin := of_decide_eq_true ((inV_nats _ ms).symm.trans zin)
              rw [natV_up] at hM9 hL9
              have hmem : ((_ : Nat) : Int) ∈ upI ms := List.mem_map.mpr ⟨_, zin, rfl⟩
              obtain ⟨j, hj, hno⟩ := first_at hmem
              refine ⟨_, rfl, _, rfl, .inl ⟨rfl, _, SqL.of hM9⟩, _, rfl, M, upI ms, _, j, rfl, rfl, hM9, hj, hno, _, rfl, L, _, rfl, SqL.of hL9, fun l hl => ?_⟩
              obtain ⟨rs, er, lr, mr⟩ := cut_ints (upI (ts ++ [kk])) (some (j : Int)) none
              rw [er]
              refine q l rs _ upd_same (x9.free hl (T9.ne hl)) (T9.ne hl) (Nat.le_trans lr ?_) (fun r hr => ?_) (T9.new hl) (x9.new hl)
              · unfold upI
                rw [List.length_map, List.length_append, List.length_singleton]; omega
              · obtain ⟨y, hy, rfl⟩ := List.mem_map.mp (mr r hr)
                have : y < es.length := by
                  rcases List.mem_append.mp hy with hy | hy
                  · exact bt y hy
                  · rw [List.mem_singleton.mp hy]; exact hkk
                exact ⟨by omega, by omega⟩
            · refine ⟨_, rfl, .inl ⟨rfl, _, SqL.of hM9⟩, _, rfl, M, _, _, rfl, rfl, hM9, small1000 (by rw [List.length_map]; omega), ?_⟩
              exact ⟨_, ms ++ [_], ts ++ [kk], _, _, _, _, _, rfl, T9.upd Mt.symm, x9.own nM, by rw [upd_same, List.map_append]; rfl, keepO hL9 ML.symm, by rw [List.length_append]; simp; omega, by rw [List.length_append]; simp; omega, fun y hy => by
                rcases List.mem_append.mp hy with hy | hy
                · exact bt y hy
                · rw [List.mem_singleton.mp hy]; exact hkk⟩
    · rintro σ H5 ⟨p, ms, ts, o5, o6, o7, o8, o9, rfl, T5, x5, hM5, hL5, lm, lt, bt⟩
      exact ⟨by show 0 ≤ sizeLine; decide, fun l hl => fin H5 l hl T5 x5⟩
end
end Hue
set_option Elab.async false
set_option linter.all false
set_option maxRecDepth 100000
set_option maxHeartbeats 4000000
namespace L2
open PySem PySem.Spec PyProof.Rows
theorem Vals.rev : ∀ {xs : List V} {us : List Value}, Vals xs us → Vals xs.reverse us.reverse
  | _, _, .nil => .nil
  | _, _, .cons r rr => by
    rw [List.reverse_cons, List.reverse_cons]
    exact (Vals.rev rr).append (.cons r .nil)
section
variable {X : Cx} {e st : Expr} {te : TE} {tp : TO} {pos p2 : Pos}
def tRev (K : PySem.W.Frag) (te : TE) (tp : TO) : TE := fun σ H Q => te σ H fun x H1 => tp σ H1 fun u H2 => u = some (-1) ∧ ∃ a xs, x = .ref a ∧ SqL K H2 a xs ∧ ∀ p, H2 p = none → Q (.ref p) (upd H2 p (.lst xs.reverse))
theorem pe_rev (he : PE X e te) (hp : PO X (some st) tp) : PE X (.Subscript e (.Slice none none (some st) p2) pos) (tRev X.K te tp) := by
  intro pins s σ H Q I h
  refine Subscript_ (thn (he pins s σ H _ I h) fun v s1 ⟨x, H1, I1, r1, q1⟩ => ?_)
  refine wpAny_Slice ?_
  rw [evalPart_none]
  refine wpAny_pure (wpAny_pure ?_)
  refine thn (hp pins s1 σ H1 _ I1 q1) fun vu s3 ⟨u, H3, I3, pu, q3⟩ => ?_
  obtain ⟨rfl, a, xs, rfl, hx, q⟩ := q3
  cases r1
  have I4 : Inv X pins σ H3 { s3 with heap := s3.heap.push { cls := .type "slice", data := .fields #[.none, .none, vu] } } := I3.kept (t' := s3.toks) fun b ob q => Heap.get?_push_of_some _ q
  show wpAny (model X.prog X.w) X.A (subscriptTail e (.Slice none none (some st) p2) (.ref a) (.ref s3.heap.objs.size)) (EP X pins σ Q) X.xe { s3 with heap := s3.heap.push { cls := .type "slice", data := .fields #[.none, .none, vu] } }
  obtain ⟨its, r, ht, hz⟩ := I4.list hx
  have hlen := r.length
  refine tail_any (ops := [.ref a, .ref s3.heap.objs.size]) ht.isList.typeIs slot_list_getitem.lookup ?_ (by with_unfolding_all rfl)
  refine wpAny_getItem_list_slice ht.isList (Heap.IsSliceOf.new ..) .none .none pu (by decide) ?_ (by rw [List.size_toArray] <;> omega)
  rw [PySem.W.krv_pick]
  refine ⟨.ref _, _, I4.laid (t' := s3.toks) (o := .lst xs.reverse) (fun b ob q => Heap.get?_push_of_some _ q) (Nat.le_refl _) ?_, rfl, q _ (I4.hok.fresh (Nat.le_refl _))⟩
  exact ⟨by rw [List.length_reverse]; exact hz, _, 0, r.rev, Heap.get?_push_size _ rfl⟩
end
end L2
set_option Elab.async false
set_option linter.all false
set_option maxRecDepth 100000
set_option maxHeartbeats 2000000
namespace Hue
open PySem L2
def ItP (d : PyData) : Prop := Sz 3 60 d
def ThP (d : PyData) : Prop := Sz 8 20000 d ∧ WordOk d ∧ RowOk d
theorem len_bulk : ∀ ds : List PyData, ds.length ≤ PyData.bulkAll ds
  | [] => Nat.zero_le _
  | d :: ds => by
    have := len_bulk ds
    simp only [PyData.bulkAll, List.length_cons]
    omega
theorem OddP.th {d : PyData} (h : OddP d) : ThP d := by
  refine ⟨h.1.mono (by decide) (by decide), fun a b e z => ?_, fun a b ds e z => ?_⟩
  · rw [h.2 a b e] at z; cases z
  · have := h.2 a b e
    rcases z with rfl | rfl <;> cases this
theorem th_list {ds : List PyData} (h : Sz 8 20000 (.list ds)) : ThP (.list ds) := by
  refine ⟨h, fun a b e => ?_, fun a b ds e => ?_⟩
  · cases e
  · cases e
theorem th_pair {w d : PyData} (hw : (∃ wd, w = .str wd) ∨ w = .none) (sw : Sz 4 2440 w) (sd : Sz 4 2440 d) (hl : ∀ ds, (d = .list ds ∨ d = .tuple ds) → ds.length ≤ 200) : ThP (.tuple [w, d]) := by
  refine ⟨((SzA.cons sw (SzA.cons sd SzA.nil)).tuple).mono (by decide) (by decide), fun a b e _ => ?_, fun a b ds e z => ?_⟩
  · injection e with e
    injection e with e1 e2
    rw [← e1]; exact hw
  · injection e with e
    injection e with e1 e2
    injection e2 with e2 e3
    exact hl ds (by rw [e2]; exact z)
theorem th_odd {w d : PyData} (hw : (∃ wd, w = .str wd) ∨ w = .none) (sw : Sz 4 2440 w) (h : OddP d) : ThP (.tuple [w, d]) := th_pair hw sw (h.1.mono (by decide) (by decide)) fun ds z => by
  have hb := h.1.bk
  have := len_bulk ds
  rcases z with rfl | rfl <;> (simp only [PyData.bulk] at hb; omega)
theorem sz_rowL {ds : List PyData} (h : ∀ d ∈ ds, ItP d) (hl : ds.length ≤ 40) : Sz 4 2440 (.list ds) := ((szA_of h).list).mono (by decide) (by omega)
theorem sz_rowT {ds : List PyData} (h : ∀ d ∈ ds, ItP d) (hl : ds.length ≤ 40) : Sz 4 2440 (.tuple ds) := ((szA_of h).tuple).mono (by decide) (by omega)
def tRw (t : Addr) (S : St → Hp → Prop) (n : Nat) : TE := fun σ H Q => (S σ H ∧ Tape H t) ∧ ∀ l xs H', Same H H' → H' l = some (.lst xs) → l ≠ t → xs.length ≤ n → (∀ x ∈ xs, HD t ItP H' x) → Q (.ref l) H'
section
variable {X : Cx} {t : Addr} {S : St → Hp → Prop} {e e1 e2 : Expr} {es : List Expr} {pos : Pos} {n k : Nat}
theorem rw_cut {lo hi : Option Expr} {tl th : TO} {p2 : Pos} (hS : ∀ σ H H', Same H H' → S σ H → S σ H') (he : PE X e (tRw t S n)) (hl : PO X lo tl) (hu : PO X hi th) (cl : ∀ σ H (Q : Option Int → Hp → Prop), S σ H → (∀ i, Q i H) → tl σ H Q) (cu : ∀ σ H (Q : Option Int → Hp → Prop), S σ H → (∀ i, Q i H) → th σ H Q) :
    PE X (.Subscript e (.Slice lo hi none p2) pos) (tRw t S n) := pe_via _ (pe_slice sl_list he hl hu) fun σ H Q hw => by
  refine ⟨hw.1, fun l xs H1 s1 h1 lt hn hx => cl _ _ _ (hS _ _ _ s1 hw.1.1) fun i => cu _ _ _ (hS _ _ _ s1 hw.1.1) fun j => ⟨l, xs, rfl, SqL.of h1, fun p hp => ?_⟩⟩
  have T1 := tape_same hw.1.2 s1
  exact hw.2 p _ _ (s1.trans (same_up hp)) upd_same (T1.ne hp) (Nat.le_trans (cutV_length _ _ _) hn) fun y hy => (hx y (List.mem_of_mem_drop (List.mem_of_mem_take hy))).same (same_up hp)
theorem rw_cat (hS : ∀ σ H H', Same H H' → S σ H → S σ H') (hk : n + k ≤ 900) (h1 : PE X e1 (tRw t S n)) (h2 : PE X e2 (tRw t S k)) : PE X (.BinOp e1 .Add e2 pos) (tRw t S (n + k)) := pe_via _ (pe_op op_cat h1 h2) fun σ H Q hw => by
  refine ⟨hw.1, fun l xs H1 s1 g1 lt hn hx => ⟨⟨hS _ _ _ s1 hw.1.1, tape_same hw.1.2 s1⟩, fun r ys H2 s2 g2 rt hk' hy => ?_⟩⟩
  refine ⟨l, r, xs, ys, rfl, rfl, s2 _ _ g1, g2, sl3 (by omega), fun p hp => ?_⟩
  have T2 := tape_same hw.1.2 (s1.trans s2)
  refine hw.2 p _ _ ((s1.trans s2).trans (same_up hp)) upd_same (T2.ne hp) (by rw [List.length_append]; omega) fun y hm => ?_
  rcases List.mem_append.mp hm with hm | hm
  · exact ((hx y hm).same s2).same (same_up hp)
  · exact (hy y hm).same (same_up hp)
theorem rw_one (h : PE X e (tHD t S ItP)) (hs : starEach [e] X.env = [(false, eval e X.env)] := by rfl) : PE X (.List [e] pos) (tRw t S 1) := pe_via _ (pe_lst (pa_cons h pa_nil hs)) fun σ H Q hw => by
  refine ⟨hw.1, fun v H1 s1 hv => ⟨by show 1 ≤ sizeLine; decide, fun p hp => ?_⟩⟩
  have T1 := tape_same hw.1.2 s1
  exact hw.2 p _ _ (s1.trans (same_up hp)) upd_same (T1.ne hp) (Nat.le_refl _) fun y hy => by
    rw [List.mem_singleton.mp hy]; exact hv.same (same_up hp)
theorem row_dat {H : Hp} {l : Addr} {xs : List V} (h : H l = some (.lst xs)) (lt : l ≠ t) (hx : ∀ x ∈ xs, HD t ItP H x) : ∃ ds, Dat (hid (some t) H) (.ref l) (.list ds) ∧ (∀ d ∈ ds, ItP d) ∧ ds.length = xs.length := by
  obtain ⟨ds, hA, hd, hl⟩ := HD.all hx
  exact ⟨ds, by unfold Dat; exact ⟨l, xs, rfl, hid_at (fun z => lt (by injection z with z; exact z.symm)) h, hA⟩, hd, hl⟩
theorem th_row {x1 : Nat} {wd : Str} {i : Nat} {ew : Expr} (hw : PE X ew (tVar i)) (hS : ∀ σ H H', Same H H' → S σ H → S σ H') (sw : ∀ σ H, S σ H → σ[i]? = some (some (.str wd))) (sz : Sz 4 2440 (.str wd)) (h : PE X e (tRw t S n)) (hn : n ≤ 40)
    (hs : starEach (ew :: [e]) X.env = (false, eval ew X.env) :: starEach [e] X.env := by rfl) (hs2 : starEach [e] X.env = [(false, eval e X.env)] := by rfl) : PE X (.Tuple [ew, e] x1 pos) (tHD t S ThP) := pe_via _ (pe_tup (pa_cons hw (pa_cons h pa_nil hs2) hs)) fun σ H Q hq => by
  refine ⟨_, sw σ H hq.1.1, hq.1, fun l xs H1 s1 g1 lt hl hx => ⟨by show 2 ≤ sizeLine; decide, fun p hp => ?_⟩⟩
  have T1 := tape_same hq.1.2 s1
  obtain ⟨ds, hd, hi, hdl⟩ := row_dat g1 lt hx
  refine hq.2 _ _ (s1.trans (same_up hp)) ⟨.tuple [.str wd, .list ds], mk_tup T1 hp (by unfold DatAll; refine ⟨by unfold Dat; rfl, ?_⟩; unfold DatAll; refine ⟨Dat.mono (hid_same (same_up hp)) _ _ hd, ?_⟩; unfold DatAll; trivial), th_pair (.inl ⟨wd, rfl⟩) sz (sz_rowL hi (by omega)) fun es z => ?_⟩
  rcases z with z | z
  · injection z with z; rw [← z]; omega
  · cases z
end
end Hue
set_option Elab.async false
set_option linter.all false
set_option maxRecDepth 100000
set_option maxHeartbeats 4000000
namespace Hue
open PySem L2
abbrev sBent : Stmt := top 31
def SmI (rs : List Int) : Prop := rs.length ≤ 13 ∧ ∀ r ∈ rs, -1000 ≤ r ∧ r ≤ 1000
def WdOk (wd : Str) : Prop := wd = "ring" ∨ wd = "sides"
theorem WdOk.sz {wd : Str} (h : WdOk wd) : Sz 4 2440 (.str wd) := by
  rcases h with rfl | rfl
  · constructor <;> decide +kernel
  · constructor <;> decide +kernel
def BSt (t R : Addr) (rs : List Int) (wd : Str) (σ : St) (H : Hp) : Prop := σ[3]? = some (some (.str wd)) ∧ σ[4]? = some (some (.ref R)) ∧ (∃ a : Int, σ[5]? = some (some (.int a))) ∧ (∃ ov, σ[6]? = some (some ov) ∧ HD t OddP H ov) ∧ H R = some (.lst (rs.map V.int)) ∧ R ≠ t ∧ SmI rs
theorem BSt.same {t R : Addr} {rs : List Int} {wd : Str} (σ : St) (H H' : Hp) (s : Same H H') (h : BSt t R rs wd σ H) : BSt t R rs wd σ H' := let ⟨a, b, c, ⟨ov, d, f⟩, e, g⟩ := h; ⟨a, b, c, ⟨ov, d, f.same s⟩, s _ _ e, g⟩
theorem ints_it {t : Addr} {H : Hp} {rs : List Int} (h : SmI rs) : ∀ x ∈ rs.map V.int, HD t ItP H x := fun x hx => by
  obtain ⟨r, hr, rfl⟩ := List.mem_map.mp hx
  have := h.2 r hr
  exact ⟨.int r, by unfold Dat; rfl, sz_int (by omega) (by omega)⟩
section
variable {X : Cx} {t R : Addr} {rs : List Int} {wd : Str} {pos : Pos}
theorem rw_var {x : Str} (h : PE X (.Name x pos) (tVar 4)) : PE X (.Name x pos) (tRw t (BSt t R rs wd) 13) := pe_via _ h fun σ H Q hw => by
  obtain ⟨⟨⟨a, b, c, d, e, g, sm⟩, T⟩, q⟩ := hw
  exact ⟨_, b, q R _ H (Same.refl H) e g (by rw [List.length_map]; exact sm.1) (ints_it sm)⟩
theorem cAt : ∀ σ H (Q : Option Int → Hp → Prop), BSt t R rs wd σ H → (∀ i, Q i H) → tPart (tVar 5) σ H Q := fun σ H Q h q => let ⟨a, ha⟩ := h.2.2.1; ⟨_, ha, a, rfl, q _⟩
theorem cAt1 : ∀ σ H (Q : Option Int → Hp → Prop), BSt t R rs wd σ H → (∀ i, Q i H) → tPart (tOp (rI0 fun i j => .int (i + j)) (tVar 5) (tC (.int 1))) σ H Q := fun σ H Q h q => let ⟨a, ha⟩ := h.2.2.1; ⟨_, ha, _, _, rfl, rfl, _, rfl, q _⟩
theorem cNo : ∀ σ H (Q : Option Int → Hp → Prop), BSt t R rs wd σ H → (∀ i, Q i H) → tNoPart σ H Q := fun σ H Q _ q => q _
theorem hd_ov {x : Str} (h : PE X (.Name x pos) (tVar 6)) : PE X (.Name x pos) (tHD t (BSt t R rs wd) OddP) := pe_via _ h fun σ H Q hw => let ⟨ov, a, b⟩ := hw.1.1.2.2.2.1; ⟨_, a, hw.2 _ H (Same.refl H) b⟩
theorem swd : ∀ σ H, BSt t R rs wd σ H → σ[3]? = some (some (.str wd)) := fun _ _ h => h.1
theorem rowR {σ : St} {H : Hp} (h : BSt t R rs wd σ H) : ∃ ds, Dat (hid (some t) H) (.ref R) (.list ds) ∧ (∀ d ∈ ds, ItP d) ∧ ds.length ≤ 13 := by
  obtain ⟨a, b, c, d, e, g, sm⟩ := h
  obtain ⟨ds, h1, h2, h3⟩ := row_dat e g (ints_it sm)
  exact ⟨ds, h1, h2, by rw [h3, List.length_map]; exact sm.1⟩
theorem hd_wr {ew er : Expr} (hw : PE X ew (tVar 3)) (hr : PE X er (tVar 4)) (zw : Sz 4 2440 (.str wd)) (hs : starEach (ew :: [er]) X.env = (false, eval ew X.env) :: starEach [er] X.env := by rfl) (hs2 : starEach [er] X.env = [(false, eval er X.env)] := by rfl) : PE X (.List [ew, er] pos) (tHD t (BSt t R rs wd) ThP) := pe_via _ (pe_lst (pa_cons hw (pa_cons hr pa_nil hs2) hs)) fun σ H Q hq => by
  refine ⟨_, hq.1.1.1, _, hq.1.1.2.1, by show 2 ≤ sizeLine; decide, fun p hp => ?_⟩
  obtain ⟨ds, hd, hi, hl⟩ := rowR hq.1.1
  refine hq.2 _ _ (same_up hp) ⟨.list [.str wd, .list ds], mk_lst hq.1.2 hp (by unfold DatAll; refine ⟨by unfold Dat; rfl, ?_⟩; unfold DatAll; refine ⟨Dat.mono (hid_same (same_up hp)) _ _ hd, ?_⟩; unfold DatAll; trivial), th_list ?_⟩
  exact ((SzA.cons zw (SzA.cons (sz_rowL hi (by omega)) SzA.nil)).list).mono (by decide) (by decide)
theorem hd_wo {x1 : Nat} {ew eo : Expr} (hw : PE X ew (tVar 3)) (ho : PE X eo (tHD t (BSt t R rs wd) OddP)) (zw : Sz 4 2440 (.str wd)) (hs : starEach (ew :: [eo]) X.env = (false, eval ew X.env) :: starEach [eo] X.env := by rfl) (hs2 : starEach [eo] X.env = [(false, eval eo X.env)] := by rfl) : PE X (.Tuple [ew, eo] x1 pos) (tHD t (BSt t R rs wd) ThP) := pe_via _ (pe_tup (pa_cons hw (pa_cons ho pa_nil hs2) hs)) fun σ H Q hq => by
  refine ⟨_, hq.1.1.1, hq.1, fun v H1 s1 ⟨d, hd, od⟩ => ⟨by show 2 ≤ sizeLine; decide, fun p hp => ?_⟩⟩
  exact hq.2 _ _ (s1.trans (same_up hp)) ⟨.tuple [.str wd, d], mk_tup (tape_same hq.1.2 s1) hp (by unfold DatAll; refine ⟨by unfold Dat; rfl, ?_⟩; unfold DatAll; refine ⟨Dat.mono (hid_same (same_up hp)) _ _ hd, ?_⟩; unfold DatAll; trivial), th_odd (.inl ⟨wd, rfl⟩) zw od⟩
theorem rw_rev {e st : Expr} {p2 : Pos} {n : Nat} (he : PE X e (tRw t (BSt t R rs wd) n)) (hp : PO X (some st) (tPart (tUn (rU fun i => .int (-i)) (tC (.int 1))))) : PE X (.Subscript e (.Slice none none (some st) p2) pos) (tRw t (BSt t R rs wd) n) := pe_via _ (pe_rev he hp) fun σ H Q hw => by
  refine ⟨hw.1, fun l xs H1 s1 g1 lt hn hx => ⟨1, rfl, -1, rfl, rfl, l, xs, rfl, SqL.of g1, fun p hp' => ?_⟩⟩
  have T1 := tape_same hw.1.2 s1
  exact hw.2 p _ _ (s1.trans (same_up hp')) upd_same (T1.ne hp') (by rw [List.length_reverse]; exact hn) fun y hy => (hx y (List.mem_reverse.mp hy)).same (same_up hp')
theorem hd_wr0 {x1 x2 : Nat} {p2 : Pos} {ew er : Expr} (hw : PE X ew (tVar 3)) (hr : PE X er (tVar 4)) (zw : Sz 4 2440 (.str wd)) (hs : starEach (ew :: [er, .Tuple [] x2 p2]) X.env = (false, eval ew X.env) :: starEach [er, .Tuple [] x2 p2] X.env := by rfl) (hs2 : starEach (er :: [.Tuple [] x2 p2]) X.env = (false, eval er X.env) :: starEach [.Tuple [] x2 p2] X.env := by rfl) : PE X (.Tuple [ew, er, .Tuple [] x2 p2] x1 pos) (tHD t (BSt t R rs wd) ThP) := pe_via _ (pe_tup (pa_cons hw (pa_cons hr (pa_cons (pe_tup pa_nil) pa_nil) hs2) hs)) fun σ H Q hq => by
  refine ⟨_, hq.1.1.1, _, hq.1.1.2.1, by show 0 ≤ sizeLine; decide, fun z hz => ⟨by show 3 ≤ sizeLine; decide, fun p hp => ?_⟩⟩
  obtain ⟨ds, hd, hi, hl⟩ := rowR (hq.1.1.same _ _ _ ((same_up (u := .tup []) hz).trans (same_up (u := .tup [.str wd, .ref R, .ref z]) hp)))
  have T1 := hq.1.2.new (o := .tup []) hz
  have hz0 : Dat (hid (some t) (upd (upd H z (.tup [])) p (.tup [.str wd, .ref R, .ref z]))) (.ref z) (.tuple []) := Dat.mono (hid_same (same_up hp)) _ _ (mk_tup (ds := []) hq.1.2 hz (by unfold DatAll; trivial))
  refine hq.2 _ _ ((same_up hz).trans (same_up hp)) ⟨.tuple [.str wd, .list ds, .tuple []], mk_tup T1 hp (by unfold DatAll; refine ⟨by unfold Dat; rfl, ?_⟩; unfold DatAll; refine ⟨hd, ?_⟩; unfold DatAll; refine ⟨hz0, ?_⟩; unfold DatAll; trivial), ?_⟩
  refine ⟨((SzA.cons zw (SzA.cons (sz_rowL hi (by omega)) (SzA.cons (d := .tuple []) (by constructor <;> decide) SzA.nil))).tuple).mono (by decide) (by decide), fun a b e => ?_, fun a b es e => ?_⟩
  · injection e with e; injection e with e1 e; injection e with e2 e; cases e
  · injection e with e; injection e with e1 e; injection e with e2 e; cases e
theorem hd_w1 {x1 : Nat} {ew : Expr} (hw : PE X ew (tVar 3)) (zw : Sz 4 2440 (.str wd)) (hs : starEach [ew] X.env = [(false, eval ew X.env)] := by rfl) : PE X (.Tuple [ew] x1 pos) (tHD t (BSt t R rs wd) ThP) := pe_via _ (pe_tup (pa_cons hw pa_nil hs)) fun σ H Q hq => by
  refine ⟨_, hq.1.1.1, by show 1 ≤ sizeLine; decide, fun p hp => ?_⟩
  refine hq.2 _ _ (same_up hp) ⟨.tuple [.str wd], mk_tup hq.1.2 hp (by unfold DatAll; refine ⟨by unfold Dat; rfl, ?_⟩; unfold DatAll; trivial), ?_⟩
  refine ⟨((SzA.cons zw SzA.nil).tuple).mono (by decide) (by decide), fun a b e => ?_, fun a b es e => ?_⟩
  · injection e with e; injection e with e1 e; cases e
  · injection e with e; injection e with e1 e; cases e
theorem hd_wt {x1 : Nat} {ew et : Expr} (hw : PE X ew (tVar 3)) (ht : PE X et (tCB (fun xs H Q => ∃ p ys, xs = [.ref p] ∧ ((SqL X.K H p ys ∧ ∀ l, H l = none → Q (.ref l) (upd H l (.tup ys))) ∨ (SqT X.K H p ys ∧ Q (.ref p) H))) (tCons (tVar 4) tNil))) (zw : Sz 4 2440 (.str wd)) (hs : starEach (ew :: [et]) X.env = (false, eval ew X.env) :: starEach [et] X.env := by rfl) (hs2 : starEach [et] X.env = [(false, eval et X.env)] := by rfl) : PE X (.Tuple [ew, et] x1 pos) (tHD t (BSt t R rs wd) ThP) := pe_via _ (pe_tup (pa_cons hw (pa_cons ht pa_nil hs2) hs)) fun σ H Q hq => by
  obtain ⟨⟨⟨a, b, c, d, e, g, sm⟩, Tp⟩, q⟩ := hq
  refine ⟨_, a, _, b, R, _, rfl, .inl ⟨SqL.of e, fun l hl => ⟨by show 2 ≤ sizeLine; decide, fun p hp => ?_⟩⟩⟩
  have T1 := Tp.new (o := .tup (rs.map V.int)) hl
  obtain ⟨ds, hA, hi, hdl⟩ := HD.all (ints_it (t := t) (H := upd (upd H l (.tup (rs.map V.int))) p (.tup [.str wd, .ref l])) sm)
  have hl1 : ds.length ≤ 13 := by rw [hdl, List.length_map]; exact sm.1
  have hd : Dat (hid (some t) (upd (upd H l (.tup (rs.map V.int))) p (.tup [.str wd, .ref l]))) (.ref l) (.tuple ds) := by
    unfold Dat; exact ⟨l, _, rfl, hid_at (ne_tape Tp hl) (keepN upd_same hp), hA⟩
  refine q _ _ ((same_up hl).trans (same_up hp)) ⟨.tuple [.str wd, .tuple ds], mk_tup T1 hp (by unfold DatAll; refine ⟨by unfold Dat; rfl, ?_⟩; unfold DatAll; refine ⟨hd, ?_⟩; unfold DatAll; trivial), th_pair (.inl ⟨wd, rfl⟩) zw (sz_rowT hi (by omega)) fun es z => ?_⟩
  rcases z with z | z
  · cases z
  · injection z with z; rw [← z]; omega
end
end Hue
set_option Elab.async false
set_option linter.all false
set_option maxRecDepth 100000
set_option maxHeartbeats 4000000
namespace Hue
open PySem L2
def tMore (t : Addr) (S : St → Hp → Prop) (m n : Nat) : TS := fun D σ H => (S σ H ∧ Tape H t ∧ ∃ L vs, σ[7]? = some (some (.ref L)) ∧ H L = some (.lst vs) ∧ vs.length ≤ m ∧ ∀ v ∈ vs, HD t ThP H v) ∧ ∀ L' vs' H', Same H H' → H' L' = some (.lst vs') → L' ≠ t → 0 < vs'.length → vs'.length ≤ m + n → (∀ v ∈ vs', HD t ThP H' v) → D.nx (σ.set 7 (some (.ref L'))) H'
theorem sz_bl (b : Bool) : Sz 3 60 (.bool b) := by cases b <;> constructor <;> decide
def BSt2 (t R : Addr) (rs : List Int) (wd : Str) (σ : St) (H : Hp) : Prop := BSt t R rs wd σ H ∧ (∃ k : Int, σ[8]? = some (some (.int k)) ∧ 0 ≤ k ∧ k < rs.length) ∧ ∃ (O : Addr) (os : List Int), σ[10]? = some (some (.ref O)) ∧ H O = some (.lst (os.map V.int)) ∧ O ≠ t ∧ SmI os
theorem BSt2.same {t R : Addr} {rs : List Int} {wd : Str} (σ : St) (H H' : Hp) (s : Same H H') (h : BSt2 t R rs wd σ H) : BSt2 t R rs wd σ H' := let ⟨a, b, O, os, c, d, e⟩ := h; ⟨a.same σ H H' s, b, O, os, c, s _ _ d, e⟩
section
variable {X : Cx} {t R O : Addr} {rs : List Int} {wd : Str} {k : Int} {S : St → Hp → Prop} {pos : Pos}
theorem ps_more {es : List Expr} {m n : Nat} {px p1 p2 p3 : Pos} (hND : X.N.Nodup) (hi : X.N[7]? = some ("_law_some" : Str)) (hx : Loc X.env.scope ("_law_some" : Str)) (hv : PE X (.Name "_law_some" p1) (tVar 7)) (h : PA X es (tHDs t S ThP n)) (hn : 0 < n) (hmn : m + n ≤ 900)
    (hs : swapsWith (.BinOp (.Name "_law_some" p1) .Add (.List es p2) p3) (some (.Name "_law_some" px)) pos.line X.env = pure false := by rfl) (hf : X.fn ("_law_some" : Str) = true ∨ X.env.scope.names.lookup ("_law_some" : Str) = some .local := by first | exact .inl rfl | exact .inr rfl | assumption) :
    PS X (.Assign [.Name "_law_some" px] (.BinOp (.Name "_law_some" p1) .Add (.List es p2) p3) pos) (tMore t S m n) := ps_via _ (ps_set hND hi hx (pe_op op_cat hv (pe_lst h)) hs hf) fun D σ H hw => by
  obtain ⟨⟨hS, Tp, L, vs, s7, hL, hl, hvs⟩, q⟩ := hw
  refine ⟨_, s7, ⟨hS, Tp⟩, fun ws H1 s1 hwl hws => ⟨sl3 (by omega), fun p hp => ?_⟩⟩
  refine ⟨L, p, vs, ws, rfl, rfl, keepN (s1 _ _ hL) hp, upd_same, sl3 (by omega), fun p' hp' => ?_⟩
  have T1 := tape_same Tp s1
  refine q p' (vs ++ ws) _ ((s1.trans (same_up hp)).trans (same_up hp')) upd_same ((T1.new hp).ne hp') (by rw [List.length_append]; omega) (by rw [List.length_append]; omega) fun y hy => ?_
  rcases List.mem_append.mp hy with hy | hy
  · exact (((hvs y hy).same s1).same (same_up hp)).same (same_up hp')
  · exact ((hws y hy).same (same_up hp)).same (same_up hp')
theorem rw_varG {i : Nat} {x : Str} (h : PE X (.Name x pos) (tVar i)) (hv : ∀ σ H, S σ H → ∃ (R : Addr) (rs : List Int), σ[i]? = some (some (.ref R)) ∧ H R = some (.lst (rs.map V.int)) ∧ R ≠ t ∧ SmI rs) : PE X (.Name x pos) (tRw t S 13) := pe_via _ h fun σ H Q hw => by
  obtain ⟨⟨hS, T⟩, q⟩ := hw
  obtain ⟨R, rs, b, e, g, sm⟩ := hv σ H hS
  exact ⟨_, b, q R _ H (Same.refl H) e g (by rw [List.length_map]; exact sm.1) (ints_it sm)⟩
theorem vR2 : ∀ σ H, BSt2 t R rs wd σ H → ∃ (R : Addr) (rs : List Int), σ[4]? = some (some (.ref R)) ∧ H R = some (.lst (rs.map V.int)) ∧ R ≠ t ∧ SmI rs := fun σ H h => ⟨R, rs, h.1.2.1, h.1.2.2.2.2.1, h.1.2.2.2.2.2.1, h.1.2.2.2.2.2.2⟩
theorem vO2 : ∀ σ H, BSt2 t R rs wd σ H → ∃ (R : Addr) (rs : List Int), σ[10]? = some (some (.ref R)) ∧ H R = some (.lst (rs.map V.int)) ∧ R ≠ t ∧ SmI rs := fun σ H h => h.2.2
theorem cNoG : ∀ σ H (Q : Option Int → Hp → Prop), S σ H → (∀ i, Q i H) → tNoPart σ H Q := fun σ H Q _ q => q _
theorem cK : ∀ σ H (Q : Option Int → Hp → Prop), BSt2 t R rs wd σ H → (∀ i, Q i H) → tPart (tVar 8) σ H Q := fun σ H Q h q => let ⟨k, hk, _⟩ := h.2.1; ⟨_, hk, k, rfl, q _⟩
theorem cK1 : ∀ σ H (Q : Option Int → Hp → Prop), BSt2 t R rs wd σ H → (∀ i, Q i H) → tPart (tOp (rI0 fun i j => .int (i + j)) (tVar 8) (tC (.int 1))) σ H Q := fun σ H Q h q => let ⟨k, hk, _⟩ := h.2.1; ⟨_, hk, _, _, rfl, rfl, _, rfl, q _⟩
theorem swd2 : ∀ σ H, BSt2 t R rs wd σ H → σ[3]? = some (some (.str wd)) := fun _ _ h => h.1.1
theorem at_row {σ : St} {H : Hp} (h : BSt2 t R rs wd σ H) : ∃ k r : Int, σ[8]? = some (some (.int k)) ∧ atI (rs.map V.int) k = some (.int r) ∧ -1000 ≤ r ∧ r ≤ 1000 := by
  obtain ⟨⟨a, b, c, d, e, g, sm⟩, ⟨k, h8, k0, k1⟩, _⟩ := h
  have hk : k.toNat < rs.length := by omega
  refine ⟨k, rs[k.toNat], h8, ?_, sm.2 _ (List.getElem_mem hk)⟩
  have := atI_nat (xs := rs.map V.int) (j := k.toNat) (v := V.int rs[k.toNat]) (by rw [List.getElem?_map, List.getElem?_eq_getElem hk]; rfl)
  rwa [Int.toNat_of_nonneg k0] at this
theorem it_ix {e : Expr} (h : PE X e (tOp (rIxL X.K) (tVar 4) (tVar 8))) : PE X e (fun σ H Q => BSt2 t R rs wd σ H ∧ ∀ r : Int, -1000 ≤ r → r ≤ 1000 → Q (.int r) H) := pe_via _ h fun σ H Q hw => by
  obtain ⟨hS, q⟩ := hw
  obtain ⟨k, r, h8, hr, r0, r1⟩ := at_row hS
  exact ⟨_, hS.1.2.1, _, h8, R, _, _, _, rfl, rfl, SqL.of hS.1.2.2.2.2.1, hr, q r r0 r1⟩
theorem it_sub {e : Expr} {p1 : Pos} {kd : Nat} (h : PE X e (tOp (rIxL X.K) (tVar 4) (tVar 8))) : PE X (.BinOp (.Constant (.int 1) kd p1) .Sub e pos) (tHD t (BSt2 t R rs wd) ItP) := pe_via _ (pe_op op_sub pe_int (it_ix h)) fun σ H Q hw =>
  ⟨hw.1.1, fun r r0 r1 => ⟨_, _, rfl, rfl, hw.2 _ H (Same.refl H) ⟨.int _, by unfold Dat; rfl, sz_int (by omega) (by omega)⟩⟩⟩
theorem it_add {e : Expr} {p1 : Pos} {kd : Nat} (h : PE X e (tOp (rIxL X.K) (tVar 4) (tVar 8))) : PE X (.BinOp e .Add (.Constant (.int 1) kd p1) pos) (tHD t (BSt2 t R rs wd) ItP) := pe_via _ (pe_op op_add (it_ix h) pe_int) fun σ H Q hw =>
  ⟨hw.1.1, fun r r0 r1 => ⟨_, _, rfl, rfl, hw.2 _ H (Same.refl H) ⟨.int _, by unfold Dat; rfl, sz_int (by omega) (by omega)⟩⟩⟩
theorem it_eq {e : Expr} {p1 : Pos} {kd : Nat} (h : PE X e (tOp (rIxL X.K) (tVar 4) (tVar 8))) : PE X (.Compare e [.Eq] [.Constant (.int 1) kd p1] pos) (tHD t (BSt2 t R rs wd) ItP) := pe_via _ (pe_cmpR op_eq (it_ix h) pe_int (nomark _)) fun σ H Q hw =>
  ⟨hw.1.1, fun r r0 r1 => ⟨rfl, hw.2 _ H (Same.refl H) ⟨.bool _, by unfold Dat; rfl, sz_bl _⟩⟩⟩
end
end Hue
set_option Elab.async false
set_option linter.all false
set_option maxRecDepth 100000
set_option maxHeartbeats 4000000
namespace Hue
open PySem L2
theorem nd_one : ((["_law_one"] : List Str) ++ ([] : List Str)).Nodup := by decide +kernel
def tWord (t R : Addr) (rs : List Int) (wd : Str) (m : Nat) : TS := fun D σ H => (σ[0]? = some (some (.ref t)) ∧ BSt t R rs wd σ H ∧ Tape H t ∧ ∃ L vs, σ[7]? = some (some (.ref L)) ∧ H L = some (.lst vs) ∧ L ≠ t ∧ vs.length ≤ m ∧ ∀ v ∈ vs, HD t ThP H v) ∧ ∀ L' vs' H', Ext t H H' → Tape H' t → H' L' = some (.lst vs') → L' ≠ t → 0 < vs'.length → vs'.length ≤ m + 1 → (∀ v ∈ vs', HD t ThP H' v) → D.nx (σ.set 7 (some (.ref L'))) H'
def spBent : Sp := fun vs H Q _ => ∃ (t w th : Addr) (n : Nat) (es : List (Nat × Nat)) (wd : Str) (R : Addr) (rs : List Int), vs = [.ref t, .ref w, .ref th] ∧ Tape H t ∧ WebN H w n es ∧ H th = some (.tup [.str wd, .ref R]) ∧ H R = some (.lst (rs.map V.int)) ∧ R ≠ t ∧ SmI rs ∧ WdOk wd ∧ ∀ v H', Tape H' t → Ext t H H' → HD t ThP H' v → Q v H'
section
variable {X : Cx} {t R O : Addr} {rs : List Int} {wd : Str} {k : Int} {S : St → Hp → Prop} {pos : Pos}
theorem rw_negs {e : Expr} {i : Nat} (hv : ∀ σ H, S σ H → ∃ (R : Addr) (rs : List Int), σ[i]? = some (some (.ref R)) ∧ H R = some (.lst (rs.map V.int)) ∧ R ≠ t ∧ SmI rs) (h : PE X e (tComp (iList X.K (tVar i)) (gName 0) (fun _ H Q => Q true H) (tOp (rI0 fun i j => .int (i - j)) (tC (.int 1)) (tVar 0)) 1 [])) : PE X e (tRw t S 13) := pe_via _ h fun σ H Q hw => by
  obtain ⟨⟨hS, Tp⟩, q⟩ := hw
  obtain ⟨R, rs, b, e, g, sm⟩ := hv σ H hS
  refine ⟨_, b, R, rfl, ⟨_, SqL.of e⟩, fun D hD => comp_list (K := X.K) (a := R) (xs := rs.map V.int) (fun j ys H2 => Same H H2 ∧ H2 D = some (.lst ys) ∧ ys.length ≤ j ∧ ∀ y ∈ ys, ∃ z : Int, y = .int z ∧ -2000 ≤ z ∧ z ≤ 2000) ⟨same_new (Same.refl _) hD, upd_same, Nat.le_refl _, fun _ h => nomatch h⟩ (fun k ys H2 _ h => SqL.of (h.1 _ _ e)) ?_ ?_⟩
  · rintro k x ys H2 hx ⟨s2, d2, l2, b2⟩
    have hk : k < rs.length := by have := (List.getElem?_eq_some_iff.mp hx).1; simpa using this
    rw [List.getElem?_map, List.getElem?_eq_getElem hk] at hx
    have ex : x = V.int rs[k] := by simpa using hx.symm
    subst ex
    have hb := sm.2 _ (List.getElem_mem hk)
    have hn := sm.1
    refine ⟨_, rfl, _, _, rfl, rfl, d2, small1000 (by omega), same_own s2 hD, upd_same, by rw [List.length_append]; simp; omega, fun y hy => ?_⟩
    rcases List.mem_append.mp hy with hy | hy
    · exact b2 y hy
    · rw [List.mem_singleton.mp hy]; exact ⟨_, rfl, by omega, by omega⟩
  · rintro ys H2 ⟨s2, d2, l2, b2⟩
    rw [List.length_map] at l2
    refine q D ys H2 s2 d2 (Tp.ne hD) (Nat.le_trans l2 sm.1) fun y hy => ?_
    obtain ⟨z, rfl, z0, z1⟩ := b2 y hy
    exact ⟨.int z, by unfold Dat; rfl, sz_int (by omega) (by omega)⟩
theorem ps_word {es : List Expr} {ed : Expr} {m x1 : Nat} {px p1 p2 p3 p4 p5 p6 p7 : Pos} (hND : X.N.Nodup) (hi : X.N[7]? = some ("_law_some" : Str)) (hx : Loc X.env.scope ("_law_some" : Str)) (hv : PE X (.Name "_law_some" p1) (tVar 7)) (hw : PA X es (tCons (tC (.str "ring")) (tCons (tC (.str "sides")) (tCons (tC (.str "Ring")) (tCons (tC .non) tNil))))) (hd : PE X ed (tCall spDraw [] E0 (tCons (tVar 0) (tCons (tC (.int 4)) tNil)))) (hr : PE X (.Name "_law_row" p5) (tVar 4)) (hm : m ≤ 800) (hpl : PlainIx ed)
    (hs : swapsWith (.BinOp (.Name "_law_some" p1) .Add (.List [.Tuple [.Subscript (.List es p2) ed p3, .Name "_law_row" p5] x1 p4] p6) p7) (some (.Name "_law_some" px)) pos.line X.env = pure false := by rfl) (h1 : starEach [.Tuple [.Subscript (.List es p2) ed p3, .Name "_law_row" p5] x1 p4] X.env = [(false, eval (.Tuple [.Subscript (.List es p2) ed p3, .Name "_law_row" p5] x1 p4) X.env)] := by rfl) (h2 : starEach [.Subscript (.List es p2) ed p3, .Name "_law_row" p5] X.env = (false, eval (.Subscript (.List es p2) ed p3) X.env) :: starEach [.Name "_law_row" p5] X.env := by rfl) (hf : X.fn ("_law_some" : Str) = true ∨ X.env.scope.names.lookup ("_law_some" : Str) = some .local := by first | exact .inl rfl | exact .inr rfl | assumption) :
    PS X (.Assign [.Name "_law_some" px] (.BinOp (.Name "_law_some" p1) .Add (.List [.Tuple [.Subscript (.List es p2) ed p3, .Name "_law_row" p5] x1 p4] p6) p7) pos) (tWord t R rs wd m) := ps_via _ (ps_set hND hi hx (pe_op op_cat hv (pe_lst (pa_cons (pe_tup (pa_cons (pe_ix ix_list (pe_lst hw) hd hpl) (pa_cons hr pa_nil) h2)) pa_nil h1))) hs hf) fun D σ H hq => by
  obtain ⟨⟨s0, hB, Tp, L, vs, s7, hL, Lt, hl, hvs⟩, q⟩ := hq
  refine ⟨_, s7, by show 4 ≤ sizeLine; decide, fun l0 hl0 => ?_⟩
  have T1 := Tp.new (o := .lst [.str "ring", .str "sides", .str "Ring", .non]) hl0
  have l0t : l0 ≠ t := Tp.ne hl0
  refine ⟨_, s0, t, 4, rfl, T1, by decide, by decide, fun r H2 r0 r1 T2 x2 => ?_⟩
  have g0 := x2 _ _ l0t upd_same
  have x02 : Ext t H H2 := fun b u n h => x2 b u n (keepN h hl0)
  obtain ⟨v, dv, ev, hdv, wv, zv⟩ : ∃ (v : V) (dv : PyData), atI [V.str "ring", .str "sides", .str "Ring", .non] r = some v ∧ (∀ H0 : Hp, Dat H0 v dv) ∧ ((∃ wd, dv = .str wd) ∨ dv = .none) ∧ Sz 4 2440 dv := by
    have : r = 0 ∨ r = 1 ∨ r = 2 ∨ r = 3 := by omega
    rcases this with rfl | rfl | rfl | rfl
    · exact ⟨_, .str "ring", rfl, fun _ => by unfold Dat; rfl, .inl ⟨_, rfl⟩, by constructor <;> decide +kernel⟩
    · exact ⟨_, .str "sides", rfl, fun _ => by unfold Dat; rfl, .inl ⟨_, rfl⟩, by constructor <;> decide +kernel⟩
    · exact ⟨_, .str "Ring", rfl, fun _ => by unfold Dat; rfl, .inl ⟨_, rfl⟩, by constructor <;> decide +kernel⟩
    · exact ⟨_, .none, rfl, fun _ => by unfold Dat; rfl, .inr rfl, by constructor <;> decide +kernel⟩
  refine ⟨l0, _, r, v, rfl, rfl, SqL.of g0, ev, _, hB.2.1, by show 2 ≤ sizeLine; decide, fun p hp => ?_⟩
  refine ⟨by show 1 ≤ sizeLine; decide, fun l1 hl1 => ?_⟩
  have s12 : Same H2 (upd (upd H2 p (.tup [v, .ref R])) l1 (.lst [.ref p])) := (same_up hp).trans (same_up hl1)
  refine ⟨L, l1, vs, _, rfl, rfl, s12 _ _ (x02 _ _ Lt hL), upd_same, sl3 (by simp; omega), fun p' hp' => ?_⟩
  have T3 := tape_same T2 s12
  have hR := x02 _ _ hB.2.2.2.2.2.1 hB.2.2.2.2.1
  obtain ⟨ds, hd1, hd2, hd3⟩ := row_dat hR hB.2.2.2.2.2.1 (ints_it hB.2.2.2.2.2.2)
  have hlr : ds.length ≤ 13 := by rw [hd3, List.length_map]; exact hB.2.2.2.2.2.2.1
  have hP : HD t ThP (upd H2 p (.tup [v, .ref R])) (.ref p) := ⟨.tuple [dv, .list ds], mk_tup T2 hp (by unfold DatAll; refine ⟨hdv _, ?_⟩; unfold DatAll; refine ⟨Dat.mono (hid_same (same_up hp)) _ _ hd1, ?_⟩; unfold DatAll; trivial), th_pair wv zv (sz_rowL hd2 (by omega)) fun es z => by
    rcases z with z | z
    · injection z with z; rw [← z]; omega
    · cases z⟩
  refine q p' _ _ (fun b u n h => keepN (s12 _ _ (x02 b u n h)) hp') (T3.new hp') upd_same (T3.ne hp') (by rw [List.length_append]; simp) (by rw [List.length_append]; simp; omega) fun y hy => ?_
  rcases List.mem_append.mp hy with hy | hy
  · exact (((hvs y hy).ext x02).same s12).same (same_up hp')
  · rw [List.mem_singleton.mp hy]; exact (hP.same (same_up hl1)).same (same_up hp')
end
section
variable {P : Program} {w : World} {K : PySem.W.Frag} {mg : Str → Option Value} {base : Heap}
theorem scBent : FnScope ["_law_tape_here", "_law_web_here", "_law_thing", "_law_word", "_law_row", "_law_at", "_law_odd_here", "_law_some", "_law_k", "_law_j", "_law_other"] ["_law_tape_here", "_law_web_here", "_law_thing"] (defScope sBent) := ⟨rfl, rfl, rfl, by decide +kernel, rfl, by decide +kernel, by decide +kernel⟩
theorem ok_bent {f : Addr} {fd : FuncData} (F : Fun K "_law_bent" "_law_bent" sBent f fd) (T : Txt K mg) (CD : CDraw P w K mg base) (CO : Callee P w K mg base 2 "_law_odd" ["_law_tape_here", "_law_web_here"] spOdd) : FnOk P w K mg base CX0 3 f fd ["_law_tape_here", "_law_web_here", "_law_thing"] spBent := by
  refine F.ok scBent (fun vs H Q E h => ?_) (fun cdv A outer s H vs Q E hr h => ?_)
  · obtain ⟨_, _, _, _, _, _, _, _, rfl, _⟩ := h; rfl
  · obtain ⟨t, w0, th, n, es, wd, R, rs, rfl, Tp, W, hth, hR, Rt, sm, hwd, q⟩ := h
    have hu := hr.units0
    have hr2 : Room 1 _ := hr.mono (by decide)
    have zw := hwd.sz
    refine ⟨_, (pss_cons (ps_asg (pv 2) (pg_tup (n := 2) rfl (pgs_cons (pg_name (i := 3) scBent.nd rfl (Or.inl rfl)) (pgs_cons (pg_name (i := 4) scBent.nd rfl (Or.inl rfl)) pgs_nil))))
      (pss_cons (ps_set (i := 5) scBent.nd rfl (Or.inl rfl) (pe_def CD hr2 (by rfl) (pa_cons (pv 0) (pa_cons (pe_op op_add (pe_callB call_len_seq (by rfl) T.len b_len (pa_cons (pv 4) pa_nil)) pe_int) pa_nil))))
      (pss_cons (ps_set (i := 6) scBent.nd rfl (Or.inl rfl) (pe_def CO hr (by rfl) (pa_cons (pv 0) (pa_cons (pv 1) pa_nil))))
      (pss_cons (ps_set (i := 7) scBent.nd rfl (Or.inl rfl) (pe_lst (hds_cons (BSt.same (t := t) (R := R) (rs := rs) (wd := wd)) (th_row (pv 3) BSt.same swd zw ((rw_cat BSt.same (by decide) (rw_cut BSt.same (rw_var (pv 4)) po_none (po_some (pv 5)) cNo cAt) (rw_cut BSt.same (rw_var (pv 4)) (po_some (pe_op op_add (pv 5) pe_int)) po_none cAt1 cNo))) (by decide)) (hds_cons (BSt.same (t := t) (R := R) (rs := rs) (wd := wd)) (th_row (pv 3) BSt.same swd zw ((rw_cat BSt.same (by decide) (rw_cat BSt.same (by decide) (rw_cut BSt.same (rw_var (pv 4)) po_none (po_some (pv 5)) cNo cAt) (rw_cut BSt.same (rw_var (pv 4)) (po_some (pv 5)) (po_some (pe_op op_add (pv 5) pe_int)) cAt cAt1)) (rw_cut BSt.same (rw_var (pv 4)) (po_some (pv 5)) po_none cAt cNo))) (by decide)) (hds_cons (BSt.same (t := t) (R := R) (rs := rs) (wd := wd)) (hd_wr (pv 3) (pv 4) zw) (hds_cons (BSt.same (t := t) (R := R) (rs := rs) (wd := wd)) (hd_wo (pv 3) (hd_ov (pv 6)) zw) hds_nil))))))
      (pss_cons (ps_more (m := 4) scBent.nd rfl (Or.inl rfl) (pv 7) (hds_cons (BSt.same (t := t) (R := R) (rs := rs) (wd := wd)) (th_row (pv 3) BSt.same swd zw ((rw_cat BSt.same (by decide) (rw_cat BSt.same (by decide) (rw_cut BSt.same (rw_var (pv 4)) po_none (po_some (pv 5)) cNo cAt) (rw_one (hd_imp (hd_ov (pv 6)) fun _ h => h.1))) (rw_cut BSt.same (rw_var (pv 4)) (po_some (pe_op op_add (pv 5) pe_int)) po_none cAt1 cNo))) (by decide)) (hds_cons (BSt.same (t := t) (R := R) (rs := rs) (wd := wd)) (th_row (pv 3) BSt.same swd zw ((rw_rev (rw_var (pv 4)) (po_some (pe_un un_neg pe_int)))) (by decide)) hds_nil)) (by decide) (by decide))
      (pss_cons (ps_word (t := t) (R := R) (rs := rs) (wd := wd) (m := 6) scBent.nd rfl (Or.inl rfl) (pv 7) (pa_cons pe_str (pa_cons pe_str (pa_cons pe_str (pa_cons pe_non pa_nil)))) (pe_def CD hr2 (by rfl) (pa_cons (pv 0) (pa_cons pe_int pa_nil))) (pv 4) (by decide) (fun _ _ => rfl))
      (pss_cons (ps_more (m := 7) scBent.nd rfl (Or.inl rfl) (pv 7) (hds_cons (BSt.same (t := t) (R := R) (rs := rs) (wd := wd)) (hd_wr0 (pv 3) (pv 4) zw) (hds_cons (BSt.same (t := t) (R := R) (rs := rs) (wd := wd)) (hd_w1 (pv 3) zw) (hds_cons (BSt.same (t := t) (R := R) (rs := rs) (wd := wd)) (hd_imp (hd_ov (pv 6)) fun _ => OddP.th) (hds_cons (BSt.same (t := t) (R := R) (rs := rs) (wd := wd)) (hd_wt (pv 3) (pe_callTy call_tuple_of (by rfl) T.tuple b_tuple (pa_cons (pv 4) pa_nil)) zw) (hds_cons (BSt.same (t := t) (R := R) (rs := rs) (wd := wd)) (th_row (pv 3) BSt.same swd zw ((rw_cat BSt.same (by decide) (rw_cut BSt.same (rw_var (pv 4)) (po_some (pv 5)) po_none cAt cNo) (rw_cut BSt.same (rw_var (pv 4)) po_none (po_some (pv 5)) cNo cAt))) (by decide)) hds_nil))))) (by decide) (by decide))
      (pss_cons (ps_if (pt_cmpR (op_neL hu) (pv 4) (pe_lst pa_nil) (nomark _)) (pss_cons (ps_par (i := 8) (j := 9) rfl scBent.nd rfl rfl (by decide) rfl rfl (pa_cons (pe_def CD hr2 (by rfl) (pa_cons (pv 0) (pa_cons (pe_callB call_len_seq (by rfl) T.len b_len (pa_cons (pv 4) pa_nil)) pa_nil))) (pa_cons (pe_def CD hr2 (by rfl) (pa_cons (pv 0) (pa_cons (pe_callB call_len_seq (by rfl) T.len b_len (pa_cons (pv 4) pa_nil)) pa_nil))) pa_nil)) (by rfl)) (pss_cons (ps_set (i := 10) scBent.nd rfl (Or.inl rfl) (pe_callTy call_list_of (by rfl) T.list b_list (pa_cons (pv 4) pa_nil))) (pss_cons (ps_asg (pe_tup (pa_cons (pe_ix ix_list (pv 10) (pv 9) (fun _ _ => rfl)) (pa_cons (pe_ix ix_list (pv 10) (pv 8) (fun _ _ => rfl)) pa_nil))) (pg_tup (n := 2) rfl (pgs_cons (pg_sub (pv 10) (pv 8) set_list) (pgs_cons (pg_sub (pv 10) (pv 9) set_list) pgs_nil)))) (pss_cons (ps_more (m := 12) scBent.nd rfl (Or.inl rfl) (pv 7) (hds_cons (BSt2.same (t := t) (R := R) (rs := rs) (wd := wd)) (th_row (pv 3) BSt2.same swd2 zw (rw_varG (i := 10) (pv 10) vO2) (by decide)) (hds_cons (BSt2.same (t := t) (R := R) (rs := rs) (wd := wd)) (th_row (pv 3) BSt2.same swd2 zw ((rw_cat BSt2.same (by decide) (rw_cat BSt2.same (by decide) (rw_cut BSt2.same (rw_varG (i := 4) (pv 4) vR2) po_none (po_some (pv 8)) cNoG cK) (rw_one (it_sub (pe_ix ix_list (pv 4) (pv 8) (fun _ _ => rfl))))) (rw_cut BSt2.same (rw_varG (i := 4) (pv 4) vR2) (po_some (pe_op op_add (pv 8) pe_int)) po_none cK1 cNoG))) (by decide)) (hds_cons (BSt2.same (t := t) (R := R) (rs := rs) (wd := wd)) (th_row (pv 3) BSt2.same swd2 zw (rw_negs vR2 (pe_comp ["_law_one"] [] [] (pi_list (pv 4)) (fun _ _ _ _ _ => pg_name (i := 0) nd_one rfl (Or.inl rfl)) (fun _ _ _ _ _ => pifs_nil) (fun _ _ _ _ _ => pe_op op_sub pe_int (pv 0)))) (by decide)) hds_nil))) (by decide) (by decide)) (pss_one (ps_more (m := 15) scBent.nd rfl (Or.inl rfl) (pv 7) (hds_cons (BSt2.same (t := t) (R := R) (rs := rs) (wd := wd)) (th_row (pv 3) BSt2.same swd2 zw ((rw_cat BSt2.same (by decide) (rw_cat BSt2.same (by decide) (rw_cut BSt2.same (rw_varG (i := 4) (pv 4) vR2) po_none (po_some (pv 8)) cNoG cK) (rw_one (it_eq (pe_ix ix_list (pv 4) (pv 8) (fun _ _ => rfl))))) (rw_cut BSt2.same (rw_varG (i := 4) (pv 4) vR2) (po_some (pe_op op_add (pv 8) pe_int)) po_none cK1 cNoG))) (by decide)) (hds_cons (BSt2.same (t := t) (R := R) (rs := rs) (wd := wd)) (th_row (pv 3) BSt2.same swd2 zw ((rw_cat BSt2.same (by decide) (rw_cat BSt2.same (by decide) (rw_cut BSt2.same (rw_varG (i := 4) (pv 4) vR2) po_none (po_some (pv 8)) cNoG cK) (rw_one (it_add (pe_ix ix_list (pv 4) (pv 8) (fun _ _ => rfl))))) (rw_cut BSt2.same (rw_varG (i := 4) (pv 4) vR2) (po_some (pe_op op_add (pv 8) pe_int)) po_none cK1 cNoG))) (by decide)) hds_nil)) (by decide) (by decide))))))) pss_nil)
      (pss_one (ps_ret (pe_ix ix_list (pv 7) (pe_def CD hr2 (by rfl) (pa_cons (pv 0) (pa_cons (pe_callB call_len_seq (by rfl) T.len b_len (pa_cons (pv 7) pa_nil)) pa_nil))) (fun _ _ => rfl)))))))))))), ?_⟩
    refine ⟨_, rfl, th, _, rfl, SqT.of hth, rfl, _, _, rfl, _, _, rfl, rfl, ?_⟩
    refine ⟨_, rfl, _, rfl, R, _, rfl, .inl (SqL.of hR), _, _, rfl, rfl, t, _, rfl, Tp, by omega, by have := sm.1; rw [List.length_map]; omega, fun a H1 a0 a1 T1 x1 => ?_⟩
    refine ⟨_, rfl, _, rfl, t, w0, n, es, rfl, T1, W.mono (x1.keepT Tp), fun ov H2 T2 x2 od => ?_⟩
    have x02 := x1.trans x2
    have hR2 := x02 _ _ Rt hR
    have B : ∀ (o7 o8 o9 o10 : Option V) (H' : Hp), Ext t H2 H' → BSt t R rs wd [some (.ref t), some (.ref w0), some (.ref th), some (.str wd), some (.ref R), some (.int a), some ov, o7, o8, o9, o10] H' := fun o7 o8 o9 o10 H' x => ⟨rfl, rfl, ⟨a, rfl⟩, ⟨ov, rfl, od.ext x⟩, x _ _ Rt hR2, Rt, sm⟩
    have fin : ∀ (o8 o9 o10 : Option V) (L : Addr) (vs : List V) (H' : Hp), H' L = some (.lst vs) → L ≠ t → 0 < vs.length → vs.length ≤ 40 → (∀ v ∈ vs, HD t ThP H' v) → Tape H' t → Ext t H H' → (tOp (rIxL K) (tVar 7) (tCall spDraw [] E0 (tCons (tVar 0) (tCons (tCB (fun xs H Q => ∃ p ys, xs = [.ref p] ∧ (SqL K H p ys ∨ SqT K H p ys) ∧ Q (.int ys.length) H) (tCons (tVar 7) tNil)) tNil)))) [some (.ref t), some (.ref w0), some (.ref th), some (.str wd), some (.ref R), some (.int a), some ov, some (.ref L), o8, o9, o10] H' Q := by
      intro o8 o9 o10 L vs H' hL Lt l0 l1 hv T' x'
      refine ⟨_, rfl, _, rfl, _, rfl, L, vs, rfl, .inl (SqL.of hL), t, _, rfl, T', by omega, by omega, fun r H3 r0 r1 T3 x3 => ?_⟩
      have hr' : r.toNat < vs.length := by omega
      have ea : atI vs r = some (vs[r.toNat]'hr') := by
        have := atI_nat (xs := vs) (List.getElem?_eq_getElem hr')
        rwa [Int.toNat_of_nonneg r0] at this
      exact ⟨L, _, _, _, rfl, rfl, SqL.of (x3 _ _ Lt hL), ea, q _ H3 T3 (x'.trans x3) ((hv _ (List.getElem_mem hr')).ext x3)⟩
    refine ⟨⟨B _ _ _ _ _ (fun _ _ _ h => h), T2⟩, fun vs H3 s3 l3 d3 => ⟨sl3 (by omega), fun L hL => ?_⟩⟩
    have T3 := tape_same T2 s3
    have s4 := s3.trans (same_up (u := .lst vs) hL)
    refine ⟨⟨B _ _ _ _ _ (same_extT s4), tape_same T2 s4, L, vs, rfl, upd_same, Nat.le_of_eq l3, fun v hv => (d3 v hv).same (same_up hL)⟩, fun L5 vs5 H5 s5 h5 L5t p5 l5 d5 => ?_⟩
    have s45 := s4.trans s5
    have T5 := tape_same T2 s45
    refine ⟨⟨rfl, B _ _ _ _ _ (same_extT s45), T5, L5, vs5, rfl, h5, L5t, l5, d5⟩, fun L6 vs6 H6 x6 T6 h6 L6t p6 l6 d6 => ?_⟩
    have x26 : Ext t H2 H6 := (same_extT s45).trans x6
    refine ⟨⟨B _ _ _ _ _ x26, T6, L6, vs6, rfl, h6, l6, d6⟩, fun L7 vs7 H7 s7 h7 L7t p7 l7 d7 => ?_⟩
    have x27 := ext_same x26 s7
    have T7 := tape_same T6 s7
    have hR7 := x27 _ _ Rt hR2
    refine ⟨_, rfl, by show 0 ≤ sizeLine; decide, fun g hg => ?_⟩
    have s8 : Same H7 (upd H7 g (.lst [])) := same_new (Same.refl _) hg
    refine ⟨R, g, _, [], rfl, rfl, SqL.of (s8 _ _ hR7), SqL.of upd_same, .inr (.inr rfl), _, rfl, ?_⟩
    have x28 := ext_same x27 s8
    have T8 := tape_same T7 s8
    have h8 := s8 _ _ h7
    have d8 : ∀ v ∈ vs7, HD t ThP (upd H7 g (.lst [])) v := fun v hv => (d7 v hv).same s8
    generalize (upd H7 g (.lst [])) = H8 at s8 x28 T8 h8 d8
    have hR8 := x28 _ _ Rt hR2
    have fin' := fin
    by_cases hrs : rs = []
    · rw [hrs]
      exact iteF (fin _ _ _ L7 vs7 H8 h8 L7t p7 (by omega) d8 T8 (x02.trans x28))
    · have hpos : 0 < rs.length := List.length_pos_iff.mpr hrs
      have hb : (!eqVs (rs.map V.int) []) = true := by
        cases rs with
        | nil => exact absurd rfl hrs
        | cons _ _ => rfl
      refine iteTT hb ?_
      have hlm : ((rs.map V.int).length : Int) = (rs.length : Int) := by rw [List.length_map]
      have h13 := sm.1
      refine ⟨_, rfl, _, rfl, R, _, rfl, .inl (SqL.of hR8), t, _, rfl, T8, by omega, by omega, fun k H9 k0 k1 T9 x9 => ?_⟩
      have hR9 := x9 _ _ Rt hR8
      refine ⟨_, rfl, _, rfl, R, _, rfl, .inl (SqL.of hR9), t, _, rfl, T9, by omega, by omega, fun j HA j0 j1 TA xA => ?_⟩
      have hRA := xA _ _ Rt hR9
      have x2A : Ext t H2 HA := (x28.trans x9).trans xA
      refine ⟨_, _, rfl, ?_⟩
      refine ⟨_, rfl, R, _, rfl, .inl (SqL.of hRA), fun O hO => ?_⟩
      have Ot : O ≠ t := TA.ne hO
      have TB := TA.new (o := .lst (rs.map V.int)) hO
      have sB : Same HA (upd HA O (.lst (rs.map V.int))) := same_up hO
      have x2B := ext_same x2A sB
      have gB : (upd HA O (.lst (rs.map V.int))) O = some (.lst (rs.map V.int)) := upd_same
      have nO2 : H2 O = none := x2A.free hO Ot
      have nO : H O = none := x02.free nO2 Ot
      have h7B : (upd HA O (.lst (rs.map V.int))) L7 = some (.lst vs7) := sB _ _ (xA _ _ L7t (x9 _ _ L7t h8))
      have d7B : ∀ v ∈ vs7, HD t ThP HA v := fun v hv => ((d8 v hv).ext x9).ext xA
      have hkn : k.toNat < rs.length := by omega
      have hjn : j.toNat < rs.length := by omega
      have ak : ∀ i : Int, 0 ≤ i → ∀ hi : i.toNat < rs.length, atI (rs.map V.int) i = some (.int (rs[i.toNat]'hi)) := fun i i0 hi => by
        have := atI_nat (xs := rs.map V.int) (j := i.toNat) (v := V.int rs[i.toNat]) (by rw [List.getElem?_map, List.getElem?_eq_getElem hi]; rfl)
        rwa [Int.toNat_of_nonneg i0] at this
      have ik : ∀ i : Int, 0 ≤ i → i < rs.length → ∀ xs : List V, xs.length = rs.length → ixN xs.length i = some i.toNat := fun i i0 i1 xs hx => by
        unfold ixN; rw [if_pos i0, if_pos (by omega)]
      refine ⟨_, rfl, _, rfl, O, _, _, _, rfl, rfl, SqL.of gB, ak j j0 hjn, _, rfl, _, rfl, O, _, _, _, rfl, rfl, SqL.of gB, ak k k0 hkn, by show 2 ≤ sizeLine; decide, fun p hp => ?_⟩
      have pO : O ≠ p := ne_of_none gB hp
      refine ⟨p, _, rfl, SqT.of upd_same, rfl, _, _, rfl, _, rfl, _, rfl, O, _, k, _, rfl, rfl, keepN gB hp, ik k k0 (by omega) _ (List.length_map _), _, _, rfl, _, rfl, _, rfl, O, _, j, _, rfl, rfl, upd_same, ik j j0 (by omega) _ (by rw [List.length_set, List.length_map]), rfl, ?_⟩
      have hos : (((rs.map V.int).set k.toNat (V.int (rs[j.toNat]'hjn))).set j.toNat (V.int (rs[k.toNat]'hkn))) = ((rs.set k.toNat (rs[j.toNat]'hjn)).set j.toNat (rs[k.toNat]'hkn)).map V.int := by rw [List.map_set, List.map_set]
      have smo : SmI ((rs.set k.toNat (rs[j.toNat]'hjn)).set j.toNat (rs[k.toNat]'hkn)) := ⟨by rw [List.length_set, List.length_set]; exact h13, fun r hr => by
        rcases List.mem_or_eq_of_mem_set hr with hr | rfl
        · rcases List.mem_or_eq_of_mem_set hr with hr | rfl
          · exact sm.2 r hr
          · exact sm.2 _ (List.getElem_mem hjn)
        · exact sm.2 _ (List.getElem_mem hkn)⟩
      have xBC := (((same_extT (t := t) sB).new (o := .tup [V.int (rs[j.toNat]'hjn), V.int (rs[k.toNat]'hkn)]) hp).own (o := .lst ((rs.map V.int).set k.toNat (V.int (rs[j.toNat]'hjn)))) hO).own (o := .lst (((rs.map V.int).set k.toNat (V.int (rs[j.toNat]'hjn))).set j.toNat (V.int (rs[k.toNat]'hkn)))) hO
      have TC := ((TB.new (o := .tup [V.int (rs[j.toNat]'hjn), V.int (rs[k.toNat]'hkn)]) hp).upd (o := .lst ((rs.map V.int).set k.toNat (V.int (rs[j.toNat]'hjn)))) Ot.symm).upd (o := .lst (((rs.map V.int).set k.toNat (V.int (rs[j.toNat]'hjn))).set j.toNat (V.int (rs[k.toNat]'hkn)))) Ot.symm
      have gC : (upd (upd (upd (upd HA O (.lst (rs.map V.int))) p (.tup [V.int (rs[j.toNat]'hjn), V.int (rs[k.toNat]'hkn)])) O (.lst ((rs.map V.int).set k.toNat (V.int (rs[j.toNat]'hjn))))) O (.lst (((rs.map V.int).set k.toNat (V.int (rs[j.toNat]'hjn))).set j.toNat (V.int (rs[k.toNat]'hkn))))) O = some (.lst (((rs.set k.toNat (rs[j.toNat]'hjn)).set j.toNat (rs[k.toNat]'hkn)).map V.int)) := by rw [upd_same, hos]
      generalize ((rs.set k.toNat (rs[j.toNat]'hjn)).set j.toNat (rs[k.toNat]'hkn)) = os at smo gC
      generalize (upd (upd (upd (upd HA O (.lst (rs.map V.int))) p (.tup [V.int (rs[j.toNat]'hjn), V.int (rs[k.toNat]'hkn)])) O (.lst ((rs.map V.int).set k.toNat (V.int (rs[j.toNat]'hjn))))) O (.lst (((rs.map V.int).set k.toNat (V.int (rs[j.toNat]'hjn))).set j.toNat (V.int (rs[k.toNat]'hkn))))) = HC at xBC TC gC
      have x2C := x2A.trans xBC
      have B2 : ∀ (o7 : Option V) (H' : Hp), Same HC H' → BSt2 t R rs wd [some (.ref t), some (.ref w0), some (.ref th), some (.str wd), some (.ref R), some (.int a), some ov, o7, some (.int k), some (.int j), some (.ref O)] H' := fun o7 H' s => ⟨B _ _ _ _ _ (ext_same x2C s), ⟨k, rfl, k0, by omega⟩, O, os, rfl, s _ _ gC, Ot, smo⟩
      refine ⟨⟨B2 _ _ (Same.refl _), TC, L7, vs7, rfl, xBC _ _ L7t (xA _ _ L7t (x9 _ _ L7t h8)), l7, fun v hv => (d7B v hv).ext xBC⟩, fun LD vsD HD' sD hD LDt pD lD dD => ?_⟩
      refine ⟨⟨B2 _ _ sD, tape_same TC sD, LD, vsD, rfl, hD, lD, dD⟩, fun LE vsE HE sE hE LEt pE lE dE => ?_⟩
      exact fin _ _ _ LE vsE HE hE LEt pE (by omega) dE (tape_same TC (sD.trans sE)) ((x02.trans x2C).trans (same_extT (sD.trans sE)))
end
end Hue
set_option Elab.async false
set_option linter.all false
set_option maxRecDepth 100000
set_option maxHeartbeats 4000000
namespace Hue
open PySem L2
abbrev sLaw : Stmt := top 33
theorem nd_ttw : ((["_law_turn"] : List Str) ++ (["_law_tape_here", "_law_web_here"] : List Str)).Nodup := by decide +kernel
theorem nd_ring : ((["_law_ring"] : List Str) ++ ([] : List Str)).Nodup := by decide +kernel
theorem nd_thw : ((["_law_thing"] : List Str) ++ (["_law_web_here"] : List Str)).Nodup := by decide +kernel
theorem nd_th : ((["_law_thing"] : List Str) ++ ([] : List Str)).Nodup := by decide +kernel
def spLaw (K : PySem.W.Frag) : Sp := fun vs H Q _ => ∃ (a : Addr) (ns : List Int), vs = [.ref a] ∧ SqL K H a (ns.map V.int) ∧ ns.length ≤ 63 ∧ ∀ H', Q (.bl true) H'
theorem same_ext {H H2 H3 H4 : Hp} {t : Addr} (s : Same H H2) (n : H2 t = none) (s3 : Same H2 H3) (E : Ext t H3 H4) : Same H H4 := fun b o h => E b o (ne_of_none (s b o h) n) (s3 b o (s b o h))
def Thg (t : Addr) (H : Hp) (v : V) : Prop := ∃ (th : Addr) (wd : Str) (R : Addr) (rs : List Int), v = .ref th ∧ H th = some (.tup [.str wd, .ref R]) ∧ H R = some (.lst (rs.map V.int)) ∧ R ≠ t ∧ SmI rs ∧ WdOk wd
theorem Thg.ext {t : Addr} {H H' : Hp} {v : V} (h : Thg t H v) (T : Tape H t) (x : Ext t H H') : Thg t H' v := let ⟨th, wd, R, rs, a, b, c, d⟩ := h; ⟨th, wd, R, rs, a, x.keepT T _ _ b, x _ _ d.1 c, d⟩
theorem Thg.same {t : Addr} {H H' : Hp} {v : V} (h : Thg t H v) (s : Same H H') : Thg t H' v := let ⟨th, wd, R, rs, a, b, c, d⟩ := h; ⟨th, wd, R, rs, a, s _ _ b, s _ _ c, d⟩
theorem hid_up {t : Addr} {H : Hp} : ∀ b u, hid (some t) H b = some u → H b = some u := fun b u h => by
  unfold hid at h
  split at h
  · cases h
  · exact h
theorem HD.full {t : Addr} {H : Hp} {v : V} (h : HD t ThP H v) : ∃ d, Dat H v d ∧ WordOk d ∧ RowOk d ∧ Sz 8 20000 d := let ⟨d, a, b⟩ := h; ⟨d, Dat.mono hid_up v d a, b.2.1, b.2.2, b.1⟩
theorem Thg.full {t : Addr} {H : Hp} {v : V} (h : Thg t H v) : ∃ d, Dat H v d ∧ WordOk d ∧ RowOk d ∧ Sz 8 20000 d := by
  obtain ⟨th, wd, R, rs, rfl, b, c, Rt, sm, hw⟩ := h
  obtain ⟨ds, h1, h2, h3⟩ := row_dat c Rt (ints_it sm)
  have hl : ds.length ≤ 13 := by rw [h3, List.length_map]; exact sm.1
  have z : ThP (.tuple [.str wd, .list ds]) := th_pair (.inl ⟨wd, rfl⟩) hw.sz (sz_rowL h2 (by omega)) fun es z => by
    rcases z with z | z
    · injection z with z; rw [← z]; omega
    · cases z
  refine ⟨.tuple [.str wd, .list ds], ?_, z.2.1, z.2.2, z.1⟩
  unfold Dat
  refine ⟨th, _, rfl, b, ?_⟩
  unfold DatAll; refine ⟨by unfold Dat; rfl, ?_⟩
  unfold DatAll; refine ⟨Dat.mono hid_up _ _ h1, ?_⟩
  unfold DatAll; trivial
theorem sides_ints {n : Nat} {es : List (Nat × Nat)} (hb : ∀ e ∈ es, e.1 < n ∧ e.2 < n) (hn : n ≤ 13) : ∃ rs : List Int, (sidesTo n es n).map optV = rs.map V.int ∧ SmI rs := by
  have w := way hb n (Nat.le_refl n)
  refine ⟨(sidesTo n es n).map fun x => ((x.getD 0 : Nat) : Int), ?_, by rw [List.length_map, w.len]; exact hn, fun r hr => ?_⟩
  · rw [List.map_map]
    refine List.map_congr_left fun x hx => ?_
    obtain ⟨p, hp⟩ := List.getElem?_of_mem hx
    have hlt : p < n := by rw [← w.len]; exact (List.getElem?_eq_some_iff.mp hp).1
    obtain ⟨v, hv⟩ := set_at (w.done p hlt)
    rw [hp] at hv
    injection hv with hv
    rw [hv]; rfl
  · obtain ⟨x, hx, rfl⟩ := List.mem_map.mp hr
    obtain ⟨p, hp⟩ := List.getElem?_of_mem hx
    have hlt : p < n := by rw [← w.len]; exact (List.getElem?_eq_some_iff.mp hp).1
    obtain ⟨v, hv⟩ := set_at (w.done p hlt)
    have h2 := w.two p v (at_some.mpr hv)
    rw [hp] at hv
    injection hv with hv
    subst hv
    show -1000 ≤ ((v : Nat) : Int) ∧ ((v : Nat) : Int) ≤ 1000
    omega
theorem rep_ints (n : Nat) : (List.replicate n [V.int 0]).flatten = (List.replicate n (0 : Int)).map V.int := by
  induction n with
  | zero => rfl
  | succ n ih => rw [List.replicate_succ, List.flatten_cons, ih, List.replicate_succ]; rfl
theorem dat_pair {H : Hp} {b a : Addr} {wd : Str} {d : PyData} (h : H b = some (.tup [.str wd, .ref a])) (hd : Dat H (.ref a) d) : Dat H (.ref b) (.tuple [.str wd, d]) := by
  unfold Dat
  refine ⟨b, _, rfl, h, ?_⟩
  unfold DatAll; refine ⟨by unfold Dat; rfl, ?_⟩
  unfold DatAll; refine ⟨hd, ?_⟩
  unfold DatAll; trivial
section
variable {X : Cx}
theorem pa_t {e : Expr} {es : List Expr} {t : TE} {u : TA} (h : PE X e t) (h2 : PA X es u) (hp : Plain1 X e) : PA X (e :: es) (tCons t u) := pa_cons h h2 (hp es)
theorem pl_tup {es : List Expr} {x : Nat} {p : Pos} : Plain1 X (.Tuple es x p) := fun _ => rfl
theorem pl_lst {es : List Expr} {p : Pos} : Plain1 X (.List es p) := fun _ => rfl
theorem pl_str {y : Str} {x : Nat} {p : Pos} : Plain1 X (.Constant (.str y) x p) := fun _ => rfl
theorem pl_int {y : Int} {x : Nat} {p : Pos} : Plain1 X (.Constant (.int y) x p) := fun _ => rfl
theorem pe_allC {elt iter tg : Expr} {scope : Scope} {p p1 p2 : Pos} {wi : TI} {g : TG} {te : TE} (own cn : List Str) (js : List Nat) (hG : Gl X "all") (hm : X.mg "all" = none) (hi : PI X tg iter wi) (hg : ∀ s2 H2 cs C fp, PG (compCx X scope (own ++ cn) s2 H2 cs C fp) tg g) (he : ∀ s2 H2 cs C fp, PE (compCx X scope (own ++ cn) s2 H2 cs C fp) elt te) (hc : X.calm = true) (hok : compOk X.env.scope scope own cn X.N js = true) (hs : ∀ x, foldedSetIterable iter X.env x = pure x) :
    PE X (.Call (.Name "all" p) [.ListComp elt [⟨tg, iter, [], 0⟩] scope p1] [] p2) (tCB (fun xs H Q => ∃ (a : Addr) (bs : List Bool), xs = [.ref a] ∧ SqL X.K H a (bs.map V.bl) ∧ Q (.bl (bs.all id)) H) (tCons (tComp wi g (fun _ H Q => Q true H) te own.length js) tNil)) := pe_callB (call_allB hc) hG hm b_all (pa_cons (pe_comp own cn js hi hg (fun _ _ _ _ _ => pifs_nil) he hc hok hs) pa_nil)
theorem ps_last {c1 c3 c4 c5 c6 c7 c9 c10 c11 c13 c14 : Nat} {p1 p2 p3 p4 p5 p6 p7 p8 p9 p10 p11 p12 p13 p14 p15 p16 p17 pos : Pos} {scope : Scope} {elt tg : Expr} (hG : Gl X "all") (hm : X.mg "all" = none) (hg : ∀ s2 H2 cs C fp, PG (compCx X scope ((["_law_thing"] : List Str) ++ ([] : List Str)) s2 H2 cs C fp) tg (gName 0)) (he : ∀ s2 H2 cs C fp, PE (compCx X scope ((["_law_thing"] : List Str) ++ ([] : List Str)) s2 H2 cs C fp) elt (tCall spSays [] E0 (tCons (tTup (tCons (tC (.int 0)) (tCons (tTup tNil) tNil))) (tCons (tVar 0) tNil)))) (hc : X.calm = true) (hok : compOk X.env.scope scope ["_law_thing"] [] X.N [] = true) :
    PS X (.Return (some (.Call (.Name "all" p15) [.ListComp elt [⟨tg, (.Tuple [.Tuple [(.Constant (.str "sides") c1 p1), .List [] p2] c3 p3, .Tuple [(.Constant (.str "sides") c4 p4), .Tuple [] c5 p5] c6 p6, .Tuple [(.Constant (.str "ring") c7 p7), .List [] p8] c9 p9, .Tuple [(.Constant (.str "sides") c10 p10), .List [(.Constant (.int 0) c11 p11)] p12] c13 p13] c14 p14), [], 0⟩] scope p16] [] p17)) pos) (fun D σ H => ∀ H', D.rt (.bl true) H') := ps_via _ (ps_ret (pe_allC ["_law_thing"] [] [] hG hm (pi_tup (pe_tup (pa_t (pe_tup (pa_t pe_str (pa_t (pe_lst pa_nil) pa_nil pl_lst) pl_str)) (pa_t (pe_tup (pa_t pe_str (pa_t (pe_tup pa_nil) pa_nil pl_tup) pl_str)) (pa_t (pe_tup (pa_t pe_str (pa_t (pe_lst pa_nil) pa_nil pl_lst) pl_str)) (pa_t (pe_tup (pa_t pe_str (pa_t (pe_lst (pa_t pe_int pa_nil pl_int)) pa_nil pl_lst) pl_str)) pa_nil pl_tup) pl_tup) pl_tup) pl_tup))) hg he hc hok (fun _ => rfl))) fun D σ H q => by
  refine ⟨by show 0 ≤ sizeLine; decide, fun a1 h1 => ⟨by show 2 ≤ sizeLine; decide, fun b1 g1 => ?_⟩⟩
  refine ⟨by show 0 ≤ sizeLine; decide, fun a2 h2 => ⟨by show 2 ≤ sizeLine; decide, fun b2 g2 => ?_⟩⟩
  refine ⟨by show 0 ≤ sizeLine; decide, fun a3 h3 => ⟨by show 2 ≤ sizeLine; decide, fun b3 g3 => ?_⟩⟩
  refine ⟨by show 1 ≤ sizeLine; decide, fun a4 h4 => ⟨by show 2 ≤ sizeLine; decide, fun b4 g4 => ⟨by show 4 ≤ sizeLine; decide, fun z gz => ?_⟩⟩⟩
  have hA : ∀ v ∈ [V.ref b1, .ref b2, .ref b3, .ref b4], ∃ d, Dat (upd (upd (upd (upd (upd (upd (upd (upd (upd H a1 (.lst [])) b1 (.tup [.str "sides", .ref a1])) a2 (.tup [])) b2 (.tup [.str "sides", .ref a2])) a3 (.lst [])) b3 (.tup [.str "ring", .ref a3])) a4 (.lst [.int 0])) b4 (.tup [.str "sides", .ref a4])) z (.tup [.ref b1, .ref b2, .ref b3, .ref b4])) v d ∧ WordOk d ∧ RowOk d ∧ Sz 8 20000 d := by
    have fin : ∀ (wd : Str) (d : PyData), Sz 4 2440 (.str wd) → Sz 4 2440 d → (∀ ds, (d = .list ds ∨ d = .tuple ds) → ds.length ≤ 200) → WordOk (.tuple [.str wd, d]) ∧ RowOk (.tuple [.str wd, d]) ∧ Sz 8 20000 (.tuple [.str wd, d]) := fun wd d zw zd hl => by
      have z : ThP (.tuple [.str wd, d]) := th_pair (.inl ⟨wd, rfl⟩) zw zd hl
      exact ⟨z.2.1, z.2.2, z.1⟩
    have zr : Sz 4 2440 (.str "ring") := by constructor <;> decide +kernel
    have zs : Sz 4 2440 (.str "sides") := by constructor <;> decide +kernel
    intro v hv
    simp only [List.mem_cons, List.not_mem_nil, or_false] at hv
    rcases hv with rfl | rfl | rfl | rfl
    · refine ⟨.tuple [.str "sides", .list []], dat_pair (keepN (keepN (keepN (keepN (keepN (keepN (keepN upd_same h2) g2) h3) g3) h4) g4) gz) ?_, fin _ _ zs (by constructor <;> decide) fun ds e => ?_⟩
      · unfold Dat; exact ⟨a1, [], rfl, keepN (keepN (keepN (keepN (keepN (keepN (keepN (keepN upd_same g1) h2) g2) h3) g3) h4) g4) gz, by unfold DatAll; trivial⟩
      · rcases e with e | e <;> cases e <;> decide
    · refine ⟨.tuple [.str "sides", .tuple []], dat_pair (keepN (keepN (keepN (keepN (keepN upd_same h3) g3) h4) g4) gz) ?_, fin _ _ zs (by constructor <;> decide) fun ds e => ?_⟩
      · unfold Dat; exact ⟨a2, [], rfl, keepN (keepN (keepN (keepN (keepN (keepN upd_same g2) h3) g3) h4) g4) gz, by unfold DatAll; trivial⟩
      · rcases e with e | e <;> cases e <;> decide
    · refine ⟨.tuple [.str "ring", .list []], dat_pair (keepN (keepN (keepN upd_same h4) g4) gz) ?_, fin _ _ zr (by constructor <;> decide) fun ds e => ?_⟩
      · unfold Dat; exact ⟨a3, [], rfl, keepN (keepN (keepN (keepN upd_same g3) h4) g4) gz, by unfold DatAll; trivial⟩
      · rcases e with e | e <;> cases e <;> decide
    · refine ⟨.tuple [.str "sides", .list [.int 0]], dat_pair (keepN upd_same gz) ?_, fin _ _ zs (by constructor <;> decide) fun ds e => ?_⟩
      · unfold Dat; exact ⟨a4, _, rfl, keepN (keepN upd_same g4) gz, by unfold DatAll; exact ⟨by unfold Dat; rfl, by unfold DatAll; trivial⟩⟩
      · rcases e with e | e <;> cases e <;> decide
  have hz : (upd (upd (upd (upd (upd (upd (upd (upd (upd H a1 (.lst [])) b1 (.tup [.str "sides", .ref a1])) a2 (.tup [])) b2 (.tup [.str "sides", .ref a2])) a3 (.lst [])) b3 (.tup [.str "ring", .ref a3])) a4 (.lst [.int 0])) b4 (.tup [.str "sides", .ref a4])) z (.tup [.ref b1, .ref b2, .ref b3, .ref b4])) z = some (.tup [.ref b1, .ref b2, .ref b3, .ref b4]) := upd_same
  generalize (upd (upd (upd (upd (upd (upd (upd (upd (upd H a1 (.lst [])) b1 (.tup [.str "sides", .ref a1])) a2 (.tup [])) b2 (.tup [.str "sides", .ref a2])) a3 (.lst [])) b3 (.tup [.str "ring", .ref a3])) a4 (.lst [.int 0])) b4 (.tup [.str "sides", .ref a4])) z (.tup [.ref b1, .ref b2, .ref b3, .ref b4])) = H0 at hA hz
  refine ⟨z, rfl, ⟨_, SqT.of hz⟩, fun Z hZ => comp_tup (K := X.K) (a := z) (xs := [.ref b1, .ref b2, .ref b3, .ref b4]) (fun i ys H1 => Same H0 H1 ∧ H1 Z = some (.lst ys) ∧ ys = (List.replicate i true).map V.bl) ⟨same_new (Same.refl _) hZ, upd_same, rfl⟩ (fun i ys H1 _ h => SqT.of (h.1 _ _ hz)) ?_ ?_⟩
  · rintro i x ys H1 hx ⟨s1, d1, rfl⟩
    obtain ⟨d, hd, w1, w2, w3⟩ := hA x (List.mem_of_getElem? hx)
    have hi : i < 4 := (List.getElem?_eq_some_iff.mp hx).1
    refine ⟨by show 0 ≤ sizeLine; decide, fun e0 he0 => ⟨by show 2 ≤ sizeLine; decide, fun w0 hw0 => ?_⟩⟩
    have s2 : Same H1 (upd (upd H1 e0 (.tup [])) w0 (.tup [.int 0, .ref e0])) := (same_up he0).trans (same_up hw0)
    refine ⟨_, rfl, w0, 0, [], x, d, rfl, ⟨e0, [], upd_same, keepN upd_same hw0, rfl, (fun k v h => by simp at h), (fun e h => nomatch h), by simp, by omega⟩, Dat.mono (s1.trans s2) x d hd, w1, w2, w3, fun H2 s3 => ?_⟩
    have s13 := s2.trans s3
    refine ⟨s13 _ _ d1, small1000 (by simp; omega), same_own (s1.trans s13) hZ, upd_same, ?_⟩
    rw [List.replicate_succ', List.map_append]; rfl
  · rintro ys H1 ⟨s1, d1, rfl⟩
    refine ⟨Z, List.replicate 4 true, rfl, SqL.of d1, q H1⟩
end
end Hue
set_option Elab.async false
set_option linter.all false
set_option maxRecDepth 100000
set_option maxHeartbeats 4000000
namespace Hue
open PySem L2
def tThings : TS := fun D σ H => ∃ (t wb : Addr) (n : Nat) (es : List (Nat × Nat)) (sv : V) (Dr : Addr) (ys : List V), σ[3]? = some (some (.ref wb)) ∧ WebN H wb n es ∧ n ≤ 13 ∧ σ[4]? = some (some sv) ∧ (sv = .non ∨ ∃ (L : Addr) (rs : List Int), sv = .ref L ∧ H L = some (.lst (rs.map V.int)) ∧ L ≠ t ∧ SmI rs) ∧ σ[5]? = some (some (.ref Dr)) ∧ H Dr = some (.lst ys) ∧ ys.length = 4 ∧ (∀ y ∈ ys, ∃ (R : Addr) (rs : List Int), y = .ref R ∧ H R = some (.lst (rs.map V.int)) ∧ R ≠ t ∧ SmI rs) ∧ Tape H t ∧
  ∀ p' vs H', Same H H' → H' p' = some (.lst vs) → p' ≠ t → vs.length = 5 → (∀ v ∈ vs, Thg t H' v) → D.nx (σ.set 6 (some (.ref p'))) H'
theorem things_ok {K : PySem.W.Frag} : ∀ D σ H, tThings D σ H → (tAsg (tOp rCat (tComp (iList K (tVar 5)) (gName 0) (fun _ H Q => Q true H) (tTup (tCons (tC (V.str "ring")) (tCons (tVar 0) tNil))) 1 []) (tLst (tCons (tTup (tCons (tC (V.str "sides")) (tCons (tIf (tTest (tOp (fun x y H Q => y = V.non ∧ Q (V.bl (!decide (x = V.non))) H) (tVar 4) (tC V.non))) (tVar 4) (tOp rRep (tLst (tCons (tC (V.int 0)) tNil)) (tOp (rIxT K) (tVar 3) (tC (V.int 0))))) tNil))) tNil))) (gName 6)) D σ H := by
  rintro D σ H ⟨t, wb, n, es, sv, Dr, ys, g3, W, h13, g4, hsv, g5, hD, hl, hys, Tp, q⟩
  obtain ⟨ta, ts, hw, ht, _⟩ := id W
  refine ⟨_, g5, Dr, rfl, ⟨_, SqL.of hD⟩, fun E hE => comp_list (K := K) (a := Dr) (xs := ys) (fun i zs H1 => Same H H1 ∧ H1 E = some (.lst zs) ∧ zs.length = i ∧ ∀ z ∈ zs, ∃ (th R : Addr) (rs : List Int), z = .ref th ∧ H1 th = some (.tup [.str "ring", .ref R]) ∧ H R = some (.lst (rs.map V.int)) ∧ R ≠ t ∧ SmI rs)
    ⟨same_new (Same.refl _) hE, upd_same, rfl, fun _ h => nomatch h⟩ (fun i zs H1 _ h => SqL.of (h.1 _ _ hD)) ?_ ?_⟩
  · rintro i y zs H1 hy ⟨s1, d1, l1, b1⟩
    have hi : i < 4 := by rw [← hl]; exact (List.getElem?_eq_some_iff.mp hy).1
    obtain ⟨R, rs, rfl, hR, Rt, sm⟩ := hys y (List.mem_of_getElem? hy)
    refine ⟨_, rfl, by show 2 ≤ sizeLine; decide, fun p hp => ?_⟩
    have d2 := keepN (u := .tup [.str "ring", .ref R]) d1 hp
    refine ⟨d2, small1000 (by omega), same_own (s1.trans (same_up hp)) hE, upd_same, by rw [List.length_append, l1]; rfl, fun z hz => ?_⟩
    rcases List.mem_append.mp hz with hz | hz
    · obtain ⟨th, R', rs', e, h1, r⟩ := b1 z hz
      exact ⟨th, R', rs', e, keepO (keepN h1 hp) (ne_of h1 d1 (by intro z; cases z)), r⟩
    · rw [List.mem_singleton.mp hz]
      exact ⟨p, R, rs, rfl, keepO upd_same (fun e => by subst e; rw [d1] at hp; cases hp), hR, Rt, sm⟩
  · rintro zs H1 ⟨s1, d1, l1, b1⟩
    have T1 := tape_same Tp s1
    have cont : ∀ (R : Addr) (rs : List Int) (H9 : Hp), Same H1 H9 → H9 R = some (.lst (rs.map V.int)) → R ≠ t → SmI rs → ∀ p, H9 p = none → ∀ l1, (upd H9 p (.tup [.str "sides", .ref R])) l1 = none → ∀ p', (upd (upd H9 p (.tup [.str "sides", .ref R])) l1 (.lst [.ref p])) p' = none → D.nx (σ.set 6 (some (.ref p'))) (upd (upd (upd H9 p (.tup [.str "sides", .ref R])) l1 (.lst [.ref p])) p' (.lst (zs ++ [.ref p]))) := by
      intro R rs H9 s9 hR Rt sm p hp l2 hl2 p' hp'
      have sA : Same H9 (upd (upd (upd H9 p (.tup [.str "sides", .ref R])) l2 (.lst [.ref p])) p' (.lst (zs ++ [.ref p]))) := ((same_up hp).trans (same_up hl2)).trans (same_up hp')
      have T9 := tape_same T1 s9
      refine q p' _ _ ((s1.trans s9).trans sA) upd_same (fun e => ?_) (by rw [List.length_append, l1, hl]; rfl) fun v hv => ?_
      · subst e; exact (((T9.new (o := .tup [.str "sides", .ref R]) hp).new (o := .lst [.ref p]) hl2).ne hp') rfl
      · rcases List.mem_append.mp hv with hv | hv
        · obtain ⟨th, R', rs', rfl, h1, h2, h3, h4⟩ := b1 v hv
          exact ⟨th, "ring", R', rs', rfl, sA _ _ (s9 _ _ h1), sA _ _ (s9 _ _ (s1 _ _ h2)), h3, h4, .inl rfl⟩
        · rw [List.mem_singleton.mp hv]
          exact ⟨p, "sides", R, rs, rfl, keepN (keepN upd_same hl2) hp', sA _ _ hR, Rt, sm, .inr rfl⟩
    refine ⟨_, g4, rfl, _, rfl, ?_⟩
    rcases hsv with rfl | ⟨L, rs, rfl, hL, Lt, sm⟩
    · refine iteNS rfl ?_
      refine ⟨by show 1 ≤ sizeLine; decide, fun l0 hl0 => ?_⟩
      have s2 : Same H1 (upd H1 l0 (.lst [.int 0])) := same_up hl0
      refine ⟨_, g3, wb, _, _, _, rfl, rfl, SqT.of (s2 _ _ (s1 _ _ hw)), (rfl : atI [V.int (n : Int), V.ref ta] 0 = some (.int (n : Int))), l0, (n : Int), [V.int 0], rfl, rfl, upd_same, by omega, by omega, sl3 (by simp; omega), fun L hL => ?_⟩
      have s3 := s2.trans (same_up (u := .lst (List.replicate ((n : Int)).toNat [V.int 0]).flatten) hL)
      have gL : (upd (upd H1 l0 (.lst [.int 0])) L (.lst (List.replicate ((n : Int)).toNat [V.int 0]).flatten)) L = some (.lst ((List.replicate n (0 : Int)).map V.int)) := by rw [upd_same, Int.toNat_natCast, rep_ints]
      have Lt : L ≠ t := (tape_same T1 s2).ne hL
      generalize (upd (upd H1 l0 (.lst [.int 0])) L (.lst (List.replicate ((n : Int)).toNat [V.int 0]).flatten)) = H9 at s3 gL
      refine ⟨by show 2 ≤ sizeLine; decide, fun p hp => ⟨by show 1 ≤ sizeLine; decide, fun l1' hl1 => ?_⟩⟩
      refine ⟨E, l1', zs, _, rfl, rfl, keepN (keepN (s3 _ _ d1) hp) hl1, upd_same, sl3 (by simp; omega), fun p' hp' => ?_⟩
      exact cont L _ H9 s3 gL Lt ⟨by rw [List.length_replicate]; exact h13, fun r hr => by rw [List.eq_of_mem_replicate hr]; omega⟩ p hp l1' hl1 p' hp'
    · refine iteNT (by intro z; cases z) ?_
      refine ⟨_, g4, by show 2 ≤ sizeLine; decide, fun p hp => ⟨by show 1 ≤ sizeLine; decide, fun l1' hl1 => ?_⟩⟩
      refine ⟨E, l1', zs, _, rfl, rfl, keepN (keepN d1 hp) hl1, upd_same, sl3 (by simp; omega), fun p' hp' => ?_⟩
      exact cont L rs H1 (Same.refl _) (s1 _ _ hL) Lt sm p hp l1' hl1 p' hp'
def spSd : Sp := fun vs H Q _ => ∃ (w : Addr) (n : Nat) (es : List (Nat × Nat)), vs = [.ref w] ∧ WebN H w n es ∧ n ≤ 13 ∧ ∀ (sv : V) (H' : Hp), Same H H' → (sv = .non ∨ ∃ (L : Addr) (rs : List Int), sv = .ref L ∧ H L = none ∧ H' L = some (.lst (rs.map V.int)) ∧ SmI rs) → Q sv H'
theorem sd_imp : ∀ vs H Q E, spSd vs H Q E → spLSides vs H Q E := by
  rintro vs H Q E ⟨w, n, es, e, W, h13, q⟩
  refine ⟨w, n, es, e, W, fun L H' s nL hL => ite2 (fun _ => q _ _ s (.inl rfl)) (fun _ => q _ _ s (.inr ?_))⟩
  obtain ⟨_, _, _, _, _, _, hb, _⟩ := W
  obtain ⟨rs, er, sm⟩ := sides_ints hb h13
  exact ⟨L, rs, rfl, nL, by rw [hL, er], sm⟩
section
variable {P : Program} {w : World} {K : PySem.W.Frag} {mg : Str → Option Value} {base : Heap}
theorem scLaw : FnScope ["_law_script", "_law_k", "_law_tape_here", "_law_web_here", "_law_sides_here", "_law_rings", "_law_things", "_law_turn", "_law_thing"] ["_law_script"] (defScope sLaw) := ⟨rfl, rfl, rfl, by decide +kernel, rfl, by decide +kernel, by decide +kernel⟩
theorem ok_law {f : Addr} {fd : FuncData} (F : Fun K "law" "law" sLaw f fd) (T : Txt K mg) (CT : Callee P w K mg base 1 "_law_tape" ["_law_script", "_law_k"] (spTape K)) (CD : CDraw P w K mg base) (CW : Callee P w K mg base 4 "_law_drawn" ["_law_tape_here", "_law_great"] spDrawn)
    (CS : Callee P w K mg base 1 "_law_sides" ["_law_web_here"] spSd) (CR : Callee P w K mg base 2 "_law_ring_of" ["_law_tape_here", "_law_web_here"] spRingOf) (CY : Callee P w K mg base 8 "_law_says" ["_law_web_here", "_law_thing"] spSays) (CB : Callee P w K mg base 3 "_law_bent" ["_law_tape_here", "_law_web_here", "_law_thing"] spBent) : FnOk P w K mg base CX0 9 f fd ["_law_script"] (spLaw K) := by
  refine F.ok scLaw (fun vs H Q E h => ?_) (fun cdv A outer s H vs Q E hr h => ?_)
  · obtain ⟨a, ns, rfl, _⟩ := h; rfl
  · obtain ⟨a, ns, rfl, hS, hlen, k⟩ := h
    have hr1 : Room 1 _ := hr.mono (by decide)
    have hr2 : Room 2 _ := hr.mono (by decide)
    have hr3 : Room 3 _ := hr.mono (by decide)
    have hr4 : Room 4 _ := hr.mono (by decide)
    refine ⟨_, @pss_cons _ _ _ _ _ (ps_for PassesOwn.never rfl (pi_range1 (by rfl) T.range (pa_cons (pe_op op_add pe_int (pe_callB (call_min2 rfl) (by rfl) T.min b_min (pa_cons pe_int (pa_cons (pe_callB call_len_seq (by rfl) T.len b_len (pa_cons (pv 0) pa_nil)) pa_nil)))) pa_nil)) (pg_name (i := 1) scLaw.nd rfl (Or.inl rfl))
        (@pss_cons _ _ _ _ _ (ps_set (i := 2) scLaw.nd rfl (Or.inr rfl) (pe_def CT hr1 (by rfl) (pa_cons (pv 0) (pa_cons (pv 1) pa_nil))))
        (@pss_cons _ _ _ _ _ (ps_set (i := 3) scLaw.nd rfl (Or.inr rfl) (pe_def CW hr4 (by rfl) (pa_cons (pv 2) (pa_cons (pe_cmpR op_eq (pe_def CD hr1 (by rfl) (pa_cons (pv 2) (pa_cons pe_int pa_nil))) pe_int (nomark _)) pa_nil))))
        (@pss_cons _ _ _ _ _ (ps_set (i := 4) scLaw.nd rfl (Or.inl rfl) (pe_def CS hr1 (by rfl) (pa_cons (pv 3) pa_nil)))
        (@pss_cons _ _ _ _ _ (ps_setComp (i := 5) ["_law_turn"] ["_law_tape_here", "_law_web_here"] [2, 3] scLaw.nd rfl rfl (pi_range1 (by rfl) T.range (pa_cons pe_int pa_nil)) (fun _ _ _ _ _ => pg_name (i := 0) nd_ttw rfl (Or.inl rfl)) (fun _ _ _ _ _ => pifs_nil) (fun _ _ _ _ _ => pe_def CR hr2 (by rfl) (pa_cons (pv 1) (pa_cons (pv 2) pa_nil))))
        (@pss_cons _ _ _ _ _ (ps_via tThings (ps_set (i := 6) scLaw.nd rfl (Or.inl rfl) (pe_op op_cat (pe_comp ["_law_ring"] [] [] (pi_list (pv 5)) (fun _ _ _ _ _ => pg_name (i := 0) nd_ring rfl (Or.inl rfl)) (fun _ _ _ _ _ => pifs_nil) (fun _ _ _ _ _ => pe_tup (pa_cons pe_str (pa_cons (pv 0) pa_nil)))) (pe_lst (pa_cons (pe_tup (pa_cons pe_str (pa_cons (pe_ifExp (pt_cmpR op_notN (pv 4) pe_non (nomark _)) (pv 4) (pe_op op_rep (pe_lst (pa_cons pe_int pa_nil)) (pe_ix ix_tup (pv 3) pe_int (fun _ _ => rfl)))) pa_nil))) pa_nil)))) things_ok)
        (@pss_cons _ _ _ _ _ (ps_if (pt_not (pt_val (pe_callB (call_allB rfl) (by rfl) T.all b_all (pa_cons (pe_comp ["_law_thing"] ["_law_web_here"] [3] (pi_list (pv 6)) (fun _ _ _ _ _ => pg_name (i := 0) nd_thw rfl (Or.inl rfl)) (fun _ _ _ _ _ => pifs_nil) (fun _ _ _ _ _ => pe_def CY hr (by rfl) (pa_cons (pv 1) (pa_cons (pv 0) pa_nil)))) pa_nil)))) pss_no pss_nil)
        (pss_one (ps_for PassesOwn.never rfl (pi_range1 (by rfl) T.range (pa_cons pe_int pa_nil)) (pg_name (i := 7) scLaw.nd rfl (Or.inl rfl)) (pss_cons (ps_set (i := 8) scLaw.nd rfl (Or.inl rfl) (pe_ix ix_list (pv 6) (pe_ix ix_list (pe_lst (pa_cons (pe_op op_mod (pv 7) pe_int) (pa_cons pe_int pa_nil))) (pe_def CD hr1 (by rfl) (pa_cons (pv 2) (pa_cons pe_int pa_nil))) (fun _ _ => rfl)) (fun _ _ => rfl))) (pss_one (ps_if (pt_not (pt_val (pe_def CY hr (by rfl) (pa_cons (pv 3) (pa_cons (pe_def CB hr3 (by rfl) (pa_cons (pv 2) (pa_cons (pv 3) (pa_cons (pv 8) pa_nil)))) pa_nil))))) pss_no pss_nil))))))))))))
      (pss_one (ps_last (by rfl) T.all (fun _ _ _ _ _ => pg_name (i := 0) nd_th rfl (Or.inl rfl)) (fun _ _ _ _ _ => pe_def CY hr (by rfl) (pa_t (pe_tup (pa_t pe_int (pa_t (pe_tup pa_nil) pa_nil pl_tup) pl_int)) (pa_cons (pv 0) pa_nil) pl_tup)) rfl (by kernel_rfl))), ?_⟩
    refine ⟨_, rfl, a, _, rfl, .inl hS, _, _, rfl, _, _, rfl, rfl, _, rfl, by split <;> omega, by split <;> omega, for_range (lo := 0) (fun i σ H2 => ∃ o1 o2 o3 o4 o5 o6 o7 o8 : Option V, σ = [some (.ref a), o1, o2, o3, o4, o5, o6, o7, o8] ∧ Same H H2)
      ⟨none, none, none, none, none, none, none, none, rfl, Same.refl _⟩ ?_ ?_⟩
    · rintro i σ H2 hi ⟨o1, o2, o3, o4, o5, o6, o7, o8, rfl, s2⟩
      refine ⟨_, rfl, _, rfl, a, ns, 0 + (i : Int), rfl, s2.seq hS, by omega, hlen, fun t H3 ht T3 s3 => ?_⟩
      refine ⟨_, rfl, _, rfl, t, 8, rfl, T3, by decide, by decide, fun r H4 _ _ T4 E4 => ⟨rfl, t, _, rfl, T4, fun wb n es H5 W5 h13 h63 T5 E5 => ?_⟩⟩
      refine ⟨_, rfl, wb, n, es, rfl, W5, h13, fun sv H6 s6 hsv => ?_⟩
      have T6 := tape_same T5 s6
      have W6 := W5.mono (sameKT s6)
      have hsv' : sv = .non ∨ ∃ (L : Addr) (rs : List Int), sv = .ref L ∧ H6 L = some (.lst (rs.map V.int)) ∧ L ≠ t ∧ SmI rs := hsv.imp id fun ⟨L, rs, a, b, c, d⟩ => ⟨L, rs, a, c, T5.ne b, d⟩
      refine ⟨4, rfl, by decide, by decide, fun D hD => comp_range (lo := 0) (n := ((4 : Int)).toNat) (fun j ys H7 => Ext t H6 H7 ∧ Tape H7 t ∧ H7 D = some (.lst ys) ∧ ys.length = j ∧ ∀ y ∈ ys, ∃ (R : Addr) (rs : List Int), y = .ref R ∧ H7 R = some (.lst (rs.map V.int)) ∧ R ≠ t ∧ R ≠ D ∧ SmI rs)
        ⟨(Ext.refl t H6).new hD, T6.new hD, upd_same, rfl, fun _ h => nomatch h⟩ ?_ ?_⟩
      · rintro j ys H7 hj ⟨x7, T7, d7, l7, b7⟩
        have Dt : D ≠ t := T6.ne hD
        have hj' : j < 4 := hj
        refine ⟨_, rfl, _, rfl, t, wb, n, es, rfl, T7, W6.mono (x7.keepT T6), h13, h63, fun l rs H8 hl nl lt l13 b8 T8 x8 => ?_⟩
        refine ⟨x8 _ _ Dt d7, small1000 (by omega), (x7.trans x8).own hD, T8.upd Dt.symm, upd_same, by rw [List.length_append, l7]; rfl, fun y hy => ?_⟩
        rcases List.mem_append.mp hy with hy | hy
        · obtain ⟨R, rs', e, h1, h2, h3, h4⟩ := b7 y hy
          exact ⟨R, rs', e, keepO (x8 _ _ h2 h1) h3, h2, h3, h4⟩
        · rw [List.mem_singleton.mp hy]
          have lD : l ≠ D := fun e => by subst e; rw [d7] at nl; cases nl
          exact ⟨l, rs, rfl, keepO hl lD, lt, lD, l13, fun r hr => ⟨by have := (b8 r hr).1; omega, (b8 r hr).2⟩⟩
      · rintro ys H7 ⟨x7, T7, d7, l7, b7⟩
        have hsv7 : sv = .non ∨ ∃ (L : Addr) (rs : List Int), sv = .ref L ∧ H7 L = some (.lst (rs.map V.int)) ∧ L ≠ t ∧ SmI rs := hsv'.imp id fun ⟨L, rs, a, b, c, d⟩ => ⟨L, rs, a, x7 _ _ c b, c, d⟩
        have W7 := W6.mono (x7.keepT T6)
        refine ⟨t, wb, n, es, sv, D, ys, rfl, W7, h13, rfl, hsv7, rfl, d7, l7, fun y hy => (let ⟨R, rs, a, b, c, _, d⟩ := b7 y hy; ⟨R, rs, a, b, c, d⟩), T7, fun p' vs H8 s8 h8 p't l8 b8 => ?_⟩
        have T8 := tape_same T7 s8
        have W8 := W7.mono (sameKT s8)
        have x58 : Ext t H5 H8 := (same_extT s6).trans (ext_same x7 s8)
        refine ⟨_, rfl, p', rfl, ⟨_, SqL.of h8⟩, fun Z hZ => comp_list (K := K) (a := p') (xs := vs) (fun j ys H9 => Same H8 H9 ∧ H9 Z = some (.lst ys) ∧ ys = (List.replicate j true).map V.bl) ⟨same_new (Same.refl _) hZ, upd_same, rfl⟩ (fun j ys H9 _ h => SqL.of (h.1 _ _ h8)) ?_ ?_⟩
        · rintro j v ys H9 hv ⟨s9, d9, rfl⟩
          have hj : j < 5 := by rw [← l8]; exact (List.getElem?_eq_some_iff.mp hv).1
          obtain ⟨d, hd, w1, w2, w3⟩ := ((b8 v (List.mem_of_getElem? hv)).same s9).full
          refine ⟨_, rfl, _, rfl, wb, n, es, v, d, rfl, W8.mono (sameKT s9), hd, w1, w2, w3, fun HA sA => ?_⟩
          refine ⟨sA _ _ d9, small1000 (by simp; omega), same_own (s9.trans sA) hZ, upd_same, ?_⟩
          rw [List.replicate_succ', List.map_append]; rfl
        · rintro ys H9 ⟨s9, d9, rfl⟩
          refine ⟨Z, List.replicate vs.length true, rfl, SqL.of d9, _, rfl, ?_⟩
          rw [l8]
          refine iteF ?_
          have T9 := tape_same T8 s9
          have W9 := W8.mono (sameKT s9)
          have h9 := s9 _ _ h8
          have b9 : ∀ v ∈ vs, Thg t H9 v := fun v hv => (b8 v hv).same s9
          refine ⟨10, rfl, by decide, by decide, for_range (lo := 0) (n := ((10 : Int)).toNat) (fun j σ HA => ∃ o7 o8 : Option V, σ = [some (.ref a), some (.int (0 + (i : Int))), some (.ref t), some (.ref wb), some sv, some (.ref D), some (.ref p'), o7, o8] ∧ Tape HA t ∧ Ext t H9 HA) ⟨_, _, rfl, T9, Ext.refl t H9⟩ ?_ ?_⟩
          · rintro j σ HA hj ⟨o7', o8', rfl, TA, xA⟩
            have hA := xA _ _ p't h9
            refine ⟨_, rfl, _, rfl, _, _, rfl, rfl, by show (0 : Int) < 5; decide, by show 2 ≤ sizeLine; decide, fun g hg => ?_⟩
            have gt : g ≠ t := TA.ne hg
            refine ⟨_, rfl, t, 2, rfl, TA.new hg, by decide, by decide, fun r HB r0 r1 TB xB => ?_⟩
            have xAB : Ext t HA HB := fun b u n h => xB b u n (keepN h hg)
            have x9B := xA.trans xAB
            have hB := x9B _ _ p't h9
            obtain ⟨ix, ei, i0, i5⟩ : ∃ ix : Int, atI [V.int ((0 + (j : Int)) % 5), V.int 4] r = some (.int ix) ∧ 0 ≤ ix ∧ ix < 5 := by
              have : r = 0 ∨ r = 1 := by omega
              rcases this with rfl | rfl
              · exact ⟨_, rfl, by omega, by omega⟩
              · exact ⟨4, rfl, by omega, by omega⟩
            have hx : ix.toNat < vs.length := by omega
            have ea : atI vs ix = some (vs[ix.toNat]'hx) := by
              have := atI_nat (xs := vs) (List.getElem?_eq_getElem hx)
              rwa [Int.toNat_of_nonneg i0] at this
            refine ⟨g, _, r, _, rfl, rfl, SqL.of (xB _ _ gt upd_same), ei, p', vs, ix, _, rfl, rfl, SqL.of hB, ea, ?_⟩
            obtain ⟨th, wd, R, rs, ev, h1, h2, h3, h4, h5⟩ := (b9 _ (List.getElem_mem hx)).ext T9 x9B
            rw [ev]
            have WB := W9.mono (x9B.keepT T9)
            refine ⟨_, rfl, _, rfl, _, rfl, _, rfl, t, wb, th, n, es, wd, R, rs, rfl, TB, WB, h1, h2, h3, h4, h5, fun v HC TC xC hv => ?_⟩
            obtain ⟨d, hd, w1, w2, w3⟩ := hv.full
            refine ⟨wb, n, es, v, d, rfl, WB.mono (xC.keepT TB), hd, w1, w2, w3, fun HD' sD => ?_⟩
            exact ⟨_, rfl, iteF ⟨_, _, rfl, tape_same TC sD, (x9B.trans xC).trans (same_extT sD)⟩⟩
          · rintro σ HA ⟨o7', o8', rfl, TA, xA⟩
            exact ⟨_, _, _, _, _, _, _, _, rfl, same_ext s2 ht s3 (((E4.trans E5).trans (x58.trans (same_extT s9))).trans xA)⟩
    · rintro σ H2 ⟨o1, o2, o3, o4, o5, o6, o7, o8, rfl, s2⟩
      exact k
end
end Hue
set_option Elab.async false
set_option linter.all false
set_option maxRecDepth 100000
namespace Hue
open PySem L2
theorem all_mk {l : PySem.W.OpenLaw} {w : World} {K : PySem.W.Frag} {h : Heap} {mg : Str → Option Value} {fa f5 f6 f7 f9 f10 f11 f12 f14 f15 f16 f17 f19 f20 f21 f22 f23 f24 f25 f26 f27 f28 f29 f30 f31 f32 f33 : Addr} (X : K.In h) (G : h.Ns mainGlobals mg) (hfa : mg "law" = some (.ref fa))
    {od5 an5 od6 an6 od7 an7 od9 an9 od10 an10 od11 an11 od12 an12 od14 an14 od15 an15 od16 an16 od17 an17 od19 an19 od20 an20 od21 an21 od22 an22 od23 an23 od24 an24 od25 an25 od26 an26 od27 an27 od28 an28 od29 an29 od30 an30 od31 an31 od32 an32 od33 an33 : Option Addr} {sl5 sl6 sl7 sl9 sl10 sl11 sl12 sl14 sl15 sl16 sl17 sl19 sl20 sl21 sl22 sl23 sl24 sl25 sl26 sl27 sl28 sl29 sl30 sl31 sl32 sl33 : Array (Option Value)}
    {oc5 kV5 dc5 pm5 cd5 ct5 oc6 kV6 dc6 pm6 cd6 ct6 oc7 kV7 dc7 pm7 cd7 ct7 oc9 kV9 dc9 pm9 cd9 ct9 oc10 kV10 dc10 pm10 cd10 ct10 oc11 kV11 dc11 pm11 cd11 ct11 oc12 kV12 dc12 pm12 cd12 ct12 oc14 kV14 dc14 pm14 cd14 ct14 oc15 kV15 dc15 pm15 cd15 ct15 oc16 kV16 dc16 pm16 cd16 ct16 oc17 kV17 dc17 pm17 cd17 ct17 oc19 kV19 dc19 pm19 cd19 ct19 oc20 kV20 dc20 pm20 cd20 ct20 oc21 kV21 dc21 pm21 cd21 ct21 oc22 kV22 dc22 pm22 cd22 ct22 oc23 kV23 dc23 pm23 cd23 ct23 oc24 kV24 dc24 pm24 cd24 ct24 oc25 kV25 dc25 pm25 cd25 ct25 oc26 kV26 dc26 pm26 cd26 ct26 oc27 kV27 dc27 pm27 cd27 ct27 oc28 kV28 dc28 pm28 cd28 ct28 oc29 kV29 dc29 pm29 cd29 ct29 oc30 kV30 dc30 pm30 cd30 ct30 oc31 kV31 dc31 pm31 cd31 ct31 oc32 kV32 dc32 pm32 cd32 ct32 oc33 kV33 dc33 pm33 cd33 ct33 : Value}
    (a5 : PySem.W.nsIn K mainGlobals "is_number" = some (some (.ref f5))) (l5 : K.lookup f5 = some ⟨oc5, od5, .func (PySem.W.fnOf "is_number" "is_number" (defArgs sNum) (defBody sNum) (defScope sNum) .none kV5 dc5 pm5 an5 cd5 ct5), sl5⟩) (c5 : PySem.W.codeIn K cd5 "is_number" = true) (k5 : PySem.W.keepIn K (.ref f5) = true)
    (a6 : PySem.W.nsIn K mainGlobals "is_listed" = some (some (.ref f6))) (l6 : K.lookup f6 = some ⟨oc6, od6, .func (PySem.W.fnOf "is_listed" "is_listed" (defArgs sListed) (defBody sListed) (defScope sListed) .none kV6 dc6 pm6 an6 cd6 ct6), sl6⟩) (c6 : PySem.W.codeIn K cd6 "is_listed" = true) (k6 : PySem.W.keepIn K (.ref f6) = true)
    (a7 : PySem.W.nsIn K mainGlobals "is_pair" = some (some (.ref f7))) (l7 : K.lookup f7 = some ⟨oc7, od7, .func (PySem.W.fnOf "is_pair" "is_pair" (defArgs sPair) (defBody sPair) (defScope sPair) .none kV7 dc7 pm7 an7 cd7 ct7), sl7⟩) (c7 : PySem.W.codeIn K cd7 "is_pair" = true) (k7 : PySem.W.keepIn K (.ref f7) = true)
    (a9 : PySem.W.nsIn K mainGlobals "has_tie" = some (some (.ref f9))) (l9 : K.lookup f9 = some ⟨oc9, od9, .func (PySem.W.fnOf "has_tie" "has_tie" (defArgs sHasT) (defBody sHasT) (defScope sHasT) .none kV9 dc9 pm9 an9 cd9 ct9), sl9⟩) (c9 : PySem.W.codeIn K cd9 "has_tie" = true) (k9 : PySem.W.keepIn K (.ref f9) = true)
    (a10 : PySem.W.nsIn K mainGlobals "check_tie" = some (some (.ref f10))) (l10 : K.lookup f10 = some ⟨oc10, od10, .func (PySem.W.fnOf "check_tie" "check_tie" (defArgs sChkT) (defBody sChkT) (defScope sChkT) .none kV10 dc10 pm10 an10 cd10 ct10), sl10⟩) (c10 : PySem.W.codeIn K cd10 "check_tie" = true) (k10 : PySem.W.keepIn K (.ref f10) = true)
    (a11 : PySem.W.nsIn K mainGlobals "far_end" = some (some (.ref f11))) (l11 : K.lookup f11 = some ⟨oc11, od11, .func (PySem.W.fnOf "far_end" "far_end" (defArgs sFar) (defBody sFar) (defScope sFar) .none kV11 dc11 pm11 an11 cd11 ct11), sl11⟩) (c11 : PySem.W.codeIn K cd11 "far_end" = true) (k11 : PySem.W.keepIn K (.ref f11) = true)
    (a12 : PySem.W.nsIn K mainGlobals "parts" = some (some (.ref f12))) (l12 : K.lookup f12 = some ⟨oc12, od12, .func (PySem.W.fnOf "parts" "parts" (defArgs sParts) (defBody sParts) (defScope sParts) .none kV12 dc12 pm12 an12 cd12 ct12), sl12⟩) (c12 : PySem.W.codeIn K cd12 "parts" = true) (k12 : PySem.W.keepIn K (.ref f12) = true)
    (a14 : PySem.W.nsIn K mainGlobals "are_sides" = some (some (.ref f14))) (l14 : K.lookup f14 = some ⟨oc14, od14, .func (PySem.W.fnOf "are_sides" "are_sides" (defArgs sAre) (defBody sAre) (defScope sAre) .none kV14 dc14 pm14 an14 cd14 ct14), sl14⟩) (c14 : PySem.W.codeIn K cd14 "are_sides" = true) (k14 : PySem.W.keepIn K (.ref f14) = true)
    (a15 : PySem.W.nsIn K mainGlobals "goes_round" = some (some (.ref f15))) (l15 : K.lookup f15 = some ⟨oc15, od15, .func (PySem.W.fnOf "goes_round" "goes_round" (defArgs sGoes) (defBody sGoes) (defScope sGoes) .none kV15 dc15 pm15 an15 cd15 ct15), sl15⟩) (c15 : PySem.W.codeIn K cd15 "goes_round" = true) (k15 : PySem.W.keepIn K (.ref f15) = true)
    (a16 : PySem.W.nsIn K mainGlobals "is_odd_ring" = some (some (.ref f16))) (l16 : K.lookup f16 = some ⟨oc16, od16, .func (PySem.W.fnOf "is_odd_ring" "is_odd_ring" (defArgs sRing) (defBody sRing) (defScope sRing) .none kV16 dc16 pm16 an16 cd16 ct16), sl16⟩) (c16 : PySem.W.codeIn K cd16 "is_odd_ring" = true) (k16 : PySem.W.keepIn K (.ref f16) = true)
    (a17 : PySem.W.nsIn K mainGlobals "shows_sides" = some (some (.ref f17))) (l17 : K.lookup f17 = some ⟨oc17, od17, .func (PySem.W.fnOf "shows_sides" "shows_sides" (defArgs sShow) (defBody sShow) (defScope sShow) .none kV17 dc17 pm17 an17 cd17 ct17), sl17⟩) (c17 : PySem.W.codeIn K cd17 "shows_sides" = true) (k17 : PySem.W.keepIn K (.ref f17) = true)
    (a19 : PySem.W.nsIn K mainGlobals "_law_tape" = some (some (.ref f19))) (l19 : K.lookup f19 = some ⟨oc19, od19, .func (PySem.W.fnOf "_law_tape" "_law_tape" (defArgs sTape) (defBody sTape) (defScope sTape) .none kV19 dc19 pm19 an19 cd19 ct19), sl19⟩) (c19 : PySem.W.codeIn K cd19 "_law_tape" = true) (k19 : PySem.W.keepIn K (.ref f19) = true)
    (a20 : PySem.W.nsIn K mainGlobals "_law_draw" = some (some (.ref f20))) (l20 : K.lookup f20 = some ⟨oc20, od20, .func (PySem.W.fnOf "_law_draw" "_law_draw" (defArgs sDraw) (defBody sDraw) (defScope sDraw) .none kV20 dc20 pm20 an20 cd20 ct20), sl20⟩) (c20 : PySem.W.codeIn K cd20 "_law_draw" = true) (k20 : PySem.W.keepIn K (.ref f20) = true)
    (a21 : PySem.W.nsIn K mainGlobals "_law_pairs_by" = some (some (.ref f21))) (l21 : K.lookup f21 = some ⟨oc21, od21, .func (PySem.W.fnOf "_law_pairs_by" "_law_pairs_by" (defArgs sPairs) (defBody sPairs) (defScope sPairs) .none kV21 dc21 pm21 an21 cd21 ct21), sl21⟩) (c21 : PySem.W.codeIn K cd21 "_law_pairs_by" = true) (k21 : PySem.W.keepIn K (.ref f21) = true)
    (a22 : PySem.W.nsIn K mainGlobals "_law_web" = some (some (.ref f22))) (l22 : K.lookup f22 = some ⟨oc22, od22, .func (PySem.W.fnOf "_law_web" "_law_web" (defArgs sWeb) (defBody sWeb) (defScope sWeb) .none kV22 dc22 pm22 an22 cd22 ct22), sl22⟩) (c22 : PySem.W.codeIn K cd22 "_law_web" = true) (k22 : PySem.W.keepIn K (.ref f22) = true)
    (a23 : PySem.W.nsIn K mainGlobals "_law_drawn" = some (some (.ref f23))) (l23 : K.lookup f23 = some ⟨oc23, od23, .func (PySem.W.fnOf "_law_drawn" "_law_drawn" (defArgs sDrawn) (defBody sDrawn) (defScope sDrawn) .none kV23 dc23 pm23 an23 cd23 ct23), sl23⟩) (c23 : PySem.W.codeIn K cd23 "_law_drawn" = true) (k23 : PySem.W.keepIn K (.ref f23) = true)
    (a24 : PySem.W.nsIn K mainGlobals "_law_sides" = some (some (.ref f24))) (l24 : K.lookup f24 = some ⟨oc24, od24, .func (PySem.W.fnOf "_law_sides" "_law_sides" (defArgs sLSides) (defBody sLSides) (defScope sLSides) .none kV24 dc24 pm24 an24 cd24 ct24), sl24⟩) (c24 : PySem.W.codeIn K cd24 "_law_sides" = true) (k24 : PySem.W.keepIn K (.ref f24) = true)
    (a25 : PySem.W.nsIn K mainGlobals "_law_goes_round" = some (some (.ref f25))) (l25 : K.lookup f25 = some ⟨oc25, od25, .func (PySem.W.fnOf "_law_goes_round" "_law_goes_round" (defArgs sLGoes) (defBody sLGoes) (defScope sLGoes) .none kV25 dc25 pm25 an25 cd25 ct25), sl25⟩) (c25 : PySem.W.codeIn K cd25 "_law_goes_round" = true) (k25 : PySem.W.keepIn K (.ref f25) = true)
    (a26 : PySem.W.nsIn K mainGlobals "_law_is_ring" = some (some (.ref f26))) (l26 : K.lookup f26 = some ⟨oc26, od26, .func (PySem.W.fnOf "_law_is_ring" "_law_is_ring" (defArgs sLRing) (defBody sLRing) (defScope sLRing) .none kV26 dc26 pm26 an26 cd26 ct26), sl26⟩) (c26 : PySem.W.codeIn K cd26 "_law_is_ring" = true) (k26 : PySem.W.keepIn K (.ref f26) = true)
    (a27 : PySem.W.nsIn K mainGlobals "_law_ring_of" = some (some (.ref f27))) (l27 : K.lookup f27 = some ⟨oc27, od27, .func (PySem.W.fnOf "_law_ring_of" "_law_ring_of" (defArgs sRingOf) (defBody sRingOf) (defScope sRingOf) .none kV27 dc27 pm27 an27 cd27 ct27), sl27⟩) (c27 : PySem.W.codeIn K cd27 "_law_ring_of" = true) (k27 : PySem.W.keepIn K (.ref f27) = true)
    (a28 : PySem.W.nsIn K mainGlobals "_law_whole" = some (some (.ref f28))) (l28 : K.lookup f28 = some ⟨oc28, od28, .func (PySem.W.fnOf "_law_whole" "_law_whole" (defArgs sWhole) (defBody sWhole) (defScope sWhole) .none kV28 dc28 pm28 an28 cd28 ct28), sl28⟩) (c28 : PySem.W.codeIn K cd28 "_law_whole" = true) (k28 : PySem.W.keepIn K (.ref f28) = true)
    (a29 : PySem.W.nsIn K mainGlobals "_law_due" = some (some (.ref f29))) (l29 : K.lookup f29 = some ⟨oc29, od29, .func (PySem.W.fnOf "_law_due" "_law_due" (defArgs sDue) (defBody sDue) (defScope sDue) .none kV29 dc29 pm29 an29 cd29 ct29), sl29⟩) (c29 : PySem.W.codeIn K cd29 "_law_due" = true) (k29 : PySem.W.keepIn K (.ref f29) = true)
    (a30 : PySem.W.nsIn K mainGlobals "_law_odd" = some (some (.ref f30))) (l30 : K.lookup f30 = some ⟨oc30, od30, .func (PySem.W.fnOf "_law_odd" "_law_odd" (defArgs sOdd) (defBody sOdd) (defScope sOdd) .none kV30 dc30 pm30 an30 cd30 ct30), sl30⟩) (c30 : PySem.W.codeIn K cd30 "_law_odd" = true) (k30 : PySem.W.keepIn K (.ref f30) = true)
    (a31 : PySem.W.nsIn K mainGlobals "_law_bent" = some (some (.ref f31))) (l31 : K.lookup f31 = some ⟨oc31, od31, .func (PySem.W.fnOf "_law_bent" "_law_bent" (defArgs sBent) (defBody sBent) (defScope sBent) .none kV31 dc31 pm31 an31 cd31 ct31), sl31⟩) (c31 : PySem.W.codeIn K cd31 "_law_bent" = true) (k31 : PySem.W.keepIn K (.ref f31) = true)
    (a32 : PySem.W.nsIn K mainGlobals "_law_says" = some (some (.ref f32))) (l32 : K.lookup f32 = some ⟨oc32, od32, .func (PySem.W.fnOf "_law_says" "_law_says" (defArgs sSays) (defBody sSays) (defScope sSays) .none kV32 dc32 pm32 an32 cd32 ct32), sl32⟩) (c32 : PySem.W.codeIn K cd32 "_law_says" = true) (k32 : PySem.W.keepIn K (.ref f32) = true)
    (a33 : PySem.W.nsIn K mainGlobals "law" = some (some (.ref f33))) (l33 : K.lookup f33 = some ⟨oc33, od33, .func (PySem.W.fnOf "law" "law" (defArgs sLaw) (defBody sLaw) (defScope sLaw) .none kV33 dc33 pm33 an33 cd33 ct33), sl33⟩) (c33 : PySem.W.codeIn K cd33 "law" = true) (k33 : PySem.W.keepIn K (.ref f33) = true)
    (z1 : PySem.W.nsIn K mainGlobals "len" = some none)
    (z2 : PySem.W.nsIn K mainGlobals "abs" = some none)
    (z3 : PySem.W.nsIn K mainGlobals "int" = some none)
    (z4 : PySem.W.nsIn K mainGlobals "min" = some none)
    (z5 : PySem.W.nsIn K mainGlobals "max" = some none)
    (z6 : PySem.W.nsIn K mainGlobals "range" = some none)
    (z7 : PySem.W.nsIn K mainGlobals "tuple" = some none)
    (z8 : PySem.W.nsIn K mainGlobals "list" = some none)
    (z9 : PySem.W.nsIn K mainGlobals "enumerate" = some none)
    (z10 : PySem.W.nsIn K mainGlobals "zip" = some none)
    (z11 : PySem.W.nsIn K mainGlobals "isinstance" = some none)
    (z12 : PySem.W.nsIn K mainGlobals "all" = some none)
    (z13 : PySem.W.nsIn K mainGlobals "str" = some none)
    (z14 : PySem.W.nsIn K mainGlobals "bool" = some none)
    (y1 : PySem.W.nsIn K mainGlobals "any" = some none)
    (y2 : PySem.W.nsIn K mainGlobals "set" = some none)
    : ∃ fd : FuncData, (∀ (s : Shared) (v : Value), BindsTo s fd ⟨[v], []⟩ [("_law_script", v)]) ∧ ∀ base : Heap, K.In base → base.Ns mainGlobals mg → FnOk l.prog w K mg base CX0 9 fa fd ["_law_script"] (spLaw K) := by
  have e := hfa.symm.trans (PySem.W.mg_of X G a33)
  cases e
  have T : Txt K mg := ⟨PySem.W.mg_none_of X G z1, PySem.W.mg_none_of X G z2, PySem.W.mg_none_of X G z3, PySem.W.mg_none_of X G z4, PySem.W.mg_none_of X G z5, PySem.W.mg_none_of X G z6, PySem.W.mg_none_of X G z7, PySem.W.mg_none_of X G z8, PySem.W.mg_none_of X G z9, PySem.W.mg_none_of X G z10, PySem.W.mg_none_of X G z11, PySem.W.mg_none_of X G z12, PySem.W.mg_none_of X G z13, PySem.W.mg_none_of X G z14⟩
  have za : mg "any" = none := PySem.W.mg_none_of X G y1
  have zt : mg "set" = none := PySem.W.mg_none_of X G y2
  have F5 := fun_mk (st := sNum) l5 c5 k5
  have F6 := fun_mk (st := sListed) l6 c6 k6
  have F7 := fun_mk (st := sPair) l7 c7 k7
  have F9 := fun_mk (st := sHasT) l9 c9 k9
  have F10 := fun_mk (st := sChkT) l10 c10 k10
  have F11 := fun_mk (st := sFar) l11 c11 k11
  have F12 := fun_mk (st := sParts) l12 c12 k12
  have F14 := fun_mk (st := sAre) l14 c14 k14
  have F15 := fun_mk (st := sGoes) l15 c15 k15
  have F16 := fun_mk (st := sRing) l16 c16 k16
  have F17 := fun_mk (st := sShow) l17 c17 k17
  have F19 := fun_mk (st := sTape) l19 c19 k19
  have F20 := fun_mk (st := sDraw) l20 c20 k20
  have F21 := fun_mk (st := sPairs) l21 c21 k21
  have F22 := fun_mk (st := sWeb) l22 c22 k22
  have F23 := fun_mk (st := sDrawn) l23 c23 k23
  have F24 := fun_mk (st := sLSides) l24 c24 k24
  have F25 := fun_mk (st := sLGoes) l25 c25 k25
  have F26 := fun_mk (st := sLRing) l26 c26 k26
  have F27 := fun_mk (st := sRingOf) l27 c27 k27
  have F28 := fun_mk (st := sWhole) l28 c28 k28
  have F29 := fun_mk (st := sDue) l29 c29 k29
  have F30 := fun_mk (st := sOdd) l30 c30 k30
  have F31 := fun_mk (st := sBent) l31 c31 k31
  have F32 := fun_mk (st := sSays) l32 c32 k32
  have F33 := fun_mk (st := sLaw) l33 c33 k33
  have b5 := F5.binds (ps := ["thing"]) fun _ _ _ _ _ _ us hl => match us, hl with | [_], _ => rfl
  have b6 := F6.binds (ps := ["thing"]) fun _ _ _ _ _ _ us hl => match us, hl with | [_], _ => rfl
  have b7 := F7.binds (ps := ["thing"]) fun _ _ _ _ _ _ us hl => match us, hl with | [_], _ => rfl
  have b9 := F9.binds (ps := ["web", "tie"]) fun _ _ _ _ _ _ us hl => match us, hl with | [_, _], _ => rfl
  have b10 := F10.binds (ps := ["web", "tie"]) fun _ _ _ _ _ _ us hl => match us, hl with | [_, _], _ => rfl
  have b11 := F11.binds (ps := ["web", "tie", "place"]) fun _ _ _ _ _ _ us hl => match us, hl with | [_, _, _], _ => rfl
  have b12 := F12.binds (ps := ["web"]) fun _ _ _ _ _ _ us hl => match us, hl with | [_], _ => rfl
  have b14 := F14.binds (ps := ["web", "row"]) fun _ _ _ _ _ _ us hl => match us, hl with | [_, _], _ => rfl
  have b15 := F15.binds (ps := ["web", "ties", "start"]) fun _ _ _ _ _ _ us hl => match us, hl with | [_, _, _], _ => rfl
  have b16 := F16.binds (ps := ["web", "ties"]) fun _ _ _ _ _ _ us hl => match us, hl with | [_, _], _ => rfl
  have b17 := F17.binds (ps := ["web", "thing"]) fun _ _ _ _ _ _ us hl => match us, hl with | [_, _], _ => rfl
  have b19 := F19.binds (ps := ["_law_script", "_law_k"]) fun _ _ _ _ _ _ us hl => match us, hl with | [_, _], _ => rfl
  have b20 := F20.binds (ps := ["_law_tape_here", "_law_many"]) fun _ _ _ _ _ _ us hl => match us, hl with | [_, _], _ => rfl
  have b21 := F21.binds (ps := ["_law_tape_here", "_law_great"]) fun _ _ _ _ _ _ us hl => match us, hl with | [_, _], _ => rfl
  have b22 := F22.binds (ps := ["_law_tape_here", "_law_great"]) fun _ _ _ _ _ _ us hl => match us, hl with | [_, _], _ => rfl
  have b23 := F23.binds (ps := ["_law_tape_here", "_law_great"]) fun _ _ _ _ _ _ us hl => match us, hl with | [_, _], _ => rfl
  have b24 := F24.binds (ps := ["_law_web_here"]) fun _ _ _ _ _ _ us hl => match us, hl with | [_], _ => rfl
  have b25 := F25.binds (ps := ["_law_web_here", "_law_ties", "_law_begin"]) fun _ _ _ _ _ _ us hl => match us, hl with | [_, _, _], _ => rfl
  have b26 := F26.binds (ps := ["_law_web_here", "_law_ties"]) fun _ _ _ _ _ _ us hl => match us, hl with | [_, _], _ => rfl
  have b27 := F27.binds (ps := ["_law_tape_here", "_law_web_here"]) fun _ _ _ _ _ _ us hl => match us, hl with | [_, _], _ => rfl
  have b28 := F28.binds (ps := ["_law_thing"]) fun _ _ _ _ _ _ us hl => match us, hl with | [_], _ => rfl
  have b29 := F29.binds (ps := ["_law_web_here", "_law_thing"]) fun _ _ _ _ _ _ us hl => match us, hl with | [_, _], _ => rfl
  have b30 := F30.binds (ps := ["_law_tape_here", "_law_web_here"]) fun _ _ _ _ _ _ us hl => match us, hl with | [_, _], _ => rfl
  have b31 := F31.binds (ps := ["_law_tape_here", "_law_web_here", "_law_thing"]) fun _ _ _ _ _ _ us hl => match us, hl with | [_, _, _], _ => rfl
  have b32 := F32.binds (ps := ["_law_web_here", "_law_thing"]) fun _ _ _ _ _ _ us hl => match us, hl with | [_, _], _ => rfl
  refine ⟨PySem.W.fnOf "law" "law" (defArgs sLaw) (defBody sLaw) (defScope sLaw) .none kV33 dc33 pm33 an33 cd33 ct33, fun s v => .of_eq rfl, fun base _ _ => ?_⟩
  have CT : Callee l.prog w K mg base 1 "_law_tape" ["_law_script", "_law_k"] (spTape K) := ⟨_, _, ok_tape F19 T, PySem.W.mg_of X G a19, k19, b19⟩
  have CD : Callee l.prog w K mg base 1 "_law_draw" ["_law_tape_here", "_law_many"] spDraw := ⟨_, _, ok_draw F20 T, PySem.W.mg_of X G a20, k20, b20⟩
  have CPr : Callee l.prog w K mg base 2 "_law_pairs_by" ["_law_tape_here", "_law_great"] spPairs := ⟨_, _, ok_pairs F21 T CD, PySem.W.mg_of X G a21, k21, b21⟩
  have CW : Callee l.prog w K mg base 3 "_law_web" ["_law_tape_here", "_law_great"] spWeb := ⟨_, _, ok_web F22 T CD CPr, PySem.W.mg_of X G a22, k22, b22⟩
  have CWd : Callee l.prog w K mg base 4 "_law_drawn" ["_law_tape_here", "_law_great"] spDrawn := ⟨_, _, ok_drawn F23 T CD CW, PySem.W.mg_of X G a23, k23, b23⟩
  have CN : Callee l.prog w K mg base 1 "is_number" ["thing"] spNum := ⟨_, _, ok_num F5 T, PySem.W.mg_of X G a5, k5, b5⟩
  have CNI : Callee l.prog w K mg base 1 "is_number" ["thing"] spNumI := ⟨_, _, ok_numI F5 T, PySem.W.mg_of X G a5, k5, b5⟩
  have CLi : Callee l.prog w K mg base 1 "is_listed" ["thing"] spListed := ⟨_, _, ok_listed F6 T, PySem.W.mg_of X G a6, k6, b6⟩
  have CPa : Callee l.prog w K mg base 1 "is_pair" ["thing"] spPair := ⟨_, _, ok_pair F7 T, PySem.W.mg_of X G a7, k7, b7⟩
  have CHT : Callee l.prog w K mg base 2 "has_tie" ["web", "tie"] spHasT := ⟨_, _, ok_hasT F9 T CNI, PySem.W.mg_of X G a9, k9, b9⟩
  have CCT : Callee l.prog w K mg base 3 "check_tie" ["web", "tie"] spChkT := ⟨_, _, ok_chkT F10 CHT, PySem.W.mg_of X G a10, k10, b10⟩
  have CFa : Callee l.prog w K mg base 4 "far_end" ["web", "tie", "place"] spFar := ⟨_, _, ok_far F11 CCT, PySem.W.mg_of X G a11, k11, b11⟩
  have CPs : Callee l.prog w K mg base 1 "parts" ["web"] spParts := ⟨_, _, ok_parts F12 T, PySem.W.mg_of X G a12, k12, b12⟩
  have CAr : Callee l.prog w K mg base 2 "are_sides" ["web", "row"] spAre := ⟨_, _, ok_are F14 T za CPs, PySem.W.mg_of X G a14, k14, b14⟩
  have CGo : Callee l.prog w K mg base 5 "goes_round" ["web", "ties", "start"] spGoes := ⟨_, _, ok_goes F15 zt CFa, PySem.W.mg_of X G a15, k15, b15⟩
  have CRi : Callee l.prog w K mg base 6 "is_odd_ring" ["web", "ties"] spRing := ⟨_, _, ok_ring F16 T za CHT CGo, PySem.W.mg_of X G a16, k16, b16⟩
  have CSh : Callee l.prog w K mg base 7 "shows_sides" ["web", "thing"] spShow := ⟨_, _, ok_show F17 T CPa CLi CN CAr CRi, PySem.W.mg_of X G a17, k17, b17⟩
  have CLS : Callee l.prog w K mg base 1 "_law_sides" ["_law_web_here"] spLSides := ⟨_, _, ok_lsides F24 T za, PySem.W.mg_of X G a24, k24, b24⟩
  have CSd : Callee l.prog w K mg base 1 "_law_sides" ["_law_web_here"] spSd := ⟨_, _, (ok_lsides F24 T za).imp sd_imp, PySem.W.mg_of X G a24, k24, b24⟩
  have CLG : Callee l.prog w K mg base 1 "_law_goes_round" ["_law_web_here", "_law_ties", "_law_begin"] spGoes := ⟨_, _, ok_lgoes F25, PySem.W.mg_of X G a25, k25, b25⟩
  have CLR : Callee l.prog w K mg base 2 "_law_is_ring" ["_law_web_here", "_law_ties"] spRingL := ⟨_, _, ok_lring F26 T za CLG, PySem.W.mg_of X G a26, k26, b26⟩
  have CRO : Callee l.prog w K mg base 2 "_law_ring_of" ["_law_tape_here", "_law_web_here"] spRingOf := ⟨_, _, ok_ringOf F27 T CD, PySem.W.mg_of X G a27, k27, b27⟩
  have CWh : Callee l.prog w K mg base 1 "_law_whole" ["_law_thing"] spNum := ⟨_, _, ok_whole F28 T, PySem.W.mg_of X G a28, k28, b28⟩
  have CDu : Callee l.prog w K mg base 3 "_law_due" ["_law_web_here", "_law_thing"] spShow := ⟨_, _, ok_due F29 T CWh CLS CLR, PySem.W.mg_of X G a29, k29, b29⟩
  have COd : Callee l.prog w K mg base 2 "_law_odd" ["_law_tape_here", "_law_web_here"] spOdd := ⟨_, _, ok_odd F30 T CD, PySem.W.mg_of X G a30, k30, b30⟩
  have CBe : Callee l.prog w K mg base 3 "_law_bent" ["_law_tape_here", "_law_web_here", "_law_thing"] spBent := ⟨_, _, ok_bent F31 T CD COd, PySem.W.mg_of X G a31, k31, b31⟩
  have CSa : Callee l.prog w K mg base 8 "_law_says" ["_law_web_here", "_law_thing"] spSays := ⟨_, _, ok_says F32 T CSh CDu, PySem.W.mg_of X G a32, k32, b32⟩
  exact ok_law F33 T CT CD CWd CSd CRO CSa CBe
theorem walkL {l : PySem.W.OpenLaw} {q : Program} {loose : List Str} {XP : (Str → Option Value) → Heap → Prop} {YP : World → Heap → Prop} {d : DefRec} {K : Params → PySem.W.Frag} (hn : l.most = some 63) (hdf : d.params.defaults = [])
    (hY : ∀ (w : World) (h : Heap), YP w h → (K w.params).In h)
    (F : ∀ (w : World) (mg : Str → Option Value) (fa : Addr) (h : Heap), (K w.params).In h → h.Ns mainGlobals mg → mg d.name = some (.ref fa) →
      ∃ fd : FuncData, (∀ (s : Shared) (u : Value), BindsTo s fd ⟨[u], []⟩ [("_law_script", u)]) ∧ ∀ base : Heap, (K w.params).In base → base.Ns mainGlobals mg → FnOk l.prog w (K w.params) mg base CX0 9 fa fd ["_law_script"] (spLaw (K w.params))) :
    PySem.W.WalkO q loose XP YP l.row.toRowW d [] (fun f vs => PySem.call f vs) :=
  L2.walk_of (n := 63) (k := 9) (x := "_law_script") (CX := fun _ => CX0) (sp := fun w => spLaw (K w.params)) hn (by decide) hdf ⟨rfl, by decide, by decide, rfl⟩ hY F (fun _ _ a ns hl _ hS => ⟨a, ns, rfl, hS, hl, fun _ => rfl⟩) fun _ _ _ _ _ z => z
end Hue
open PySem PySem.W PyProof.Rows
set_option maxRecDepth 100000 in
set_option maxHeartbeats 0 in
theorem PySem.Challenge.cw_huedties_k06_sides_shown_holds : PySem.Challenge.rw_huedties_k06_sides_shown.Holds := by
  w_on; o_law; k_head; (case hw => w_witness2)
  k_fill
  refine Hue.walkL (l := PySem.Challenge.rw_huedties_k06_sides_shown) rfl rfl (fun w h Y => PySem.W.kIn_of Y) ?F
  case F =>
    intro w mg fa h KX G hmg
    refine' Hue.all_mk KX G hmg ?a5 ?l5 ?c5 ?k5 ?a6 ?l6 ?c6 ?k6 ?a7 ?l7 ?c7 ?k7 ?a9 ?l9 ?c9 ?k9 ?a10 ?l10 ?c10 ?k10 ?a11 ?l11 ?c11 ?k11 ?a12 ?l12 ?c12 ?k12 ?a14 ?l14 ?c14 ?k14 ?a15 ?l15 ?c15 ?k15 ?a16 ?l16 ?c16 ?k16 ?a17 ?l17 ?c17 ?k17 ?a19 ?l19 ?c19 ?k19 ?a20 ?l20 ?c20 ?k20 ?a21 ?l21 ?c21 ?k21 ?a22 ?l22 ?c22 ?k22 ?a23 ?l23 ?c23 ?k23 ?a24 ?l24 ?c24 ?k24 ?a25 ?l25 ?c25 ?k25 ?a26 ?l26 ?c26 ?k26 ?a27 ?l27 ?c27 ?k27 ?a28 ?l28 ?c28 ?k28 ?a29 ?l29 ?c29 ?k29 ?a30 ?l30 ?c30 ?k30 ?a31 ?l31 ?c31 ?k31 ?a32 ?l32 ?c32 ?k32 ?a33 ?l33 ?c33 ?k33 ?z1 ?z2 ?z3 ?z4 ?z5 ?z6 ?z7 ?z8 ?z9 ?z10 ?z11 ?z12 ?z13 ?z14 ?y1 ?y2
    (case a5 => k_is)
    (case l5 => k_is)
    (case c5 => k_is)
    (case k5 => k_is)
    (case a6 => k_is)
    (case l6 => k_is)
    (case c6 => k_is)
    (case k6 => k_is)
    (case a7 => k_is)
    (case l7 => k_is)
    (case c7 => k_is)
    (case k7 => k_is)
    (case a9 => k_is)
    (case l9 => k_is)
    (case c9 => k_is)
    (case k9 => k_is)
    (case a10 => k_is)
    (case l10 => k_is)
    (case c10 => k_is)
    (case k10 => k_is)
    (case a11 => k_is)
    (case l11 => k_is)
    (case c11 => k_is)
    (case k11 => k_is)
    (case a12 => k_is)
    (case l12 => k_is)
    (case c12 => k_is)
    (case k12 => k_is)
    (case a14 => k_is)
    (case l14 => k_is)
    (case c14 => k_is)
    (case k14 => k_is)
    (case a15 => k_is)
    (case l15 => k_is)
    (case c15 => k_is)
    (case k15 => k_is)
    (case a16 => k_is)
    (case l16 => k_is)
    (case c16 => k_is)
    (case k16 => k_is)
    (case a17 => k_is)
    (case l17 => k_is)
    (case c17 => k_is)
    (case k17 => k_is)
    (case a19 => k_is)
    (case l19 => k_is)
    (case c19 => k_is)
    (case k19 => k_is)
    (case a20 => k_is)
    (case l20 => k_is)
    (case c20 => k_is)
    (case k20 => k_is)
    (case a21 => k_is)
    (case l21 => k_is)
    (case c21 => k_is)
    (case k21 => k_is)
    (case a22 => k_is)
    (case l22 => k_is)
    (case c22 => k_is)
    (case k22 => k_is)
    (case a23 => k_is)
    (case l23 => k_is)
    (case c23 => k_is)
    (case k23 => k_is)
    (case a24 => k_is)
    (case l24 => k_is)
    (case c24 => k_is)
    (case k24 => k_is)
    (case a25 => k_is)
    (case l25 => k_is)
    (case c25 => k_is)
    (case k25 => k_is)
    (case a26 => k_is)
    (case l26 => k_is)
    (case c26 => k_is)
    (case k26 => k_is)
    (case a27 => k_is)
    (case l27 => k_is)
    (case c27 => k_is)
    (case k27 => k_is)
    (case a28 => k_is)
    (case l28 => k_is)
    (case c28 => k_is)
    (case k28 => k_is)
    (case a29 => k_is)
    (case l29 => k_is)
    (case c29 => k_is)
    (case k29 => k_is)
    (case a30 => k_is)
    (case l30 => k_is)
    (case c30 => k_is)
    (case k30 => k_is)
    (case a31 => k_is)
    (case l31 => k_is)
    (case c31 => k_is)
    (case k31 => k_is)
    (case a32 => k_is)
    (case l32 => k_is)
    (case c32 => k_is)
    (case k32 => k_is)
    (case a33 => k_is)
    (case l33 => k_is)
    (case c33 => k_is)
    (case k33 => k_is)
    (case z1 => k_is)
    (case z2 => k_is)
    (case z3 => k_is)
    (case z4 => k_is)
    (case z5 => k_is)
    (case z6 => k_is)
    (case z7 => k_is)
    (case z8 => k_is)
    (case z9 => k_is)
    (case z10 => k_is)
    (case z11 => k_is)
    (case z12 => k_is)
    (case z13 => k_is)
    (case z14 => k_is)
    (case y1 => k_is)
    (case y2 => k_is)
#print axioms PySem.Challenge.cw_huedties_k06_sides_shown_holds
