import PyProof.Rows.All
import Wide.All
import OpenK.AllK
import Wide.FinOn
import Lean
import PyProof.EqAt
import PyProof.EqKinds
import PyProof.TupleCall
import PyProof.EnumMake
import PyProof.Draws
import PyProof.ZipIter
import PyProof.ConsumeWalk
import PyProof.NeKinds
import PyProof.ListRange
import PySem.Challenge.RW_huedties_k38_papers_by_places_and_sets
import PyProof.ReprRoads
import PyProof.ReprBulk
import PyProof.CallStr
import PyProof.Rows.SeqMore
import PyProof.Rows.SetFrom
import PyProof.SetRoads
import PyProof.Rows.SortShell
import PyProof.WalksMore
import PyProof.FactsAll.subtypes_4
import KE.KRevSl
import PyProof.FitsInt
set_option Elab.async false
set_option linter.all false
set_option maxRecDepth 100000
namespace L2
open PySem PySem.Spec PyProof.Rows
abbrev Key := Sum Int Str
def keyIs : Key → Value → Bool
  | .inl k, v => Value.isInt k v
  | .inr x, v => Value.isStrOf x v
def keyH (w : World) : Key → Int
  | .inl k => hashInt k
  | .inr x => hashStr w x
theorem keyIs_shape : ∀ {k : Key} {v : Value}, keyIs k v = true → (∃ i t, k = Sum.inl i ∧ v = Value.int i t) ∨ (∃ x t, k = Sum.inr x ∧ v = Value.str x t)
  | .inl i, v, h => by
    obtain ⟨t, e⟩ := Value.isInt_shape (k := i) (v := v) h
    exact .inl ⟨i, t, rfl, e⟩
  | .inr x, v, h => by
    obtain ⟨t, e⟩ := Value.isStrOf_shape (x := x) (v := v) h
    exact .inr ⟨x, t, rfl, e⟩
theorem key_ll (a b : Int) : decide ((Sum.inl a : Key) = Sum.inl b) = (a == b) := by
  by_cases e : a = b
  · subst e; simp
  · have h : ¬ (Sum.inl a : Key) = Sum.inl b := fun q => e (Sum.inl.inj q)
    rw [decide_eq_false h]
    exact (beq_eq_false_iff_ne.mpr e).symm
theorem key_rr (a b : Str) : decide ((Sum.inr a : Key) = Sum.inr b) = decide (a = b) := by
  by_cases e : a = b
  · subst e; simp
  · have h : ¬ (Sum.inr a : Key) = Sum.inr b := fun q => e (Sum.inr.inj q)
    rw [decide_eq_false h, decide_eq_false e]
theorem key_lr (a : Int) (b : Str) : decide ((Sum.inl a : Key) = Sum.inr b) = false := decide_eq_false (fun q => nomatch q)
theorem key_rl (a : Str) (b : Int) : decide ((Sum.inr a : Key) = Sum.inl b) = false := decide_eq_false (fun q => nomatch q)
def mixKind (prog : Program) (w : World) : PySem.KeyKind prog w Key where
  is := keyIs
  hash := keyH w
  inj := fun v a b ha hb => by
    rcases keyIs_shape ha with ⟨i, t, rfl, rfl⟩ | ⟨x, t, rfl, rfl⟩
    · rcases keyIs_shape hb with ⟨j, u, rfl, e⟩ | ⟨y, u, rfl, e⟩
      · injection e with e1 _; rw [e1]
      · exact nomatch e
    · rcases keyIs_shape hb with ⟨j, u, rfl, e⟩ | ⟨y, u, rfl, e⟩
      · exact nomatch e
      · injection e with e1 _; rw [e1]
  byValue := fun k v h => by
    rcases keyIs_shape h with ⟨i, t, rfl, rfl⟩ | ⟨x, t, rfl, rfl⟩ <;> rfl
  pyHash := fun hv h => by
    rcases keyIs_shape hv with ⟨i, t, rfl, rfl⟩ | ⟨x, t, rfl, rfl⟩
    · exact wpAny_pyHash_int h
    · exact wpAny_pyHash_str h
  eqBool := fun hu hv h => by
    rcases keyIs_shape hu with ⟨i, t, rfl, rfl⟩ | ⟨x, t, rfl, rfl⟩
    · rcases keyIs_shape hv with ⟨j, u, rfl, rfl⟩ | ⟨y, u, rfl, rfl⟩
      · rw [key_ll] at h; exact wpAny_eqBool_int h
      · rw [key_lr] at h; exact SeqAt.EqAt.int_str i t y u _ _ _ _ h
    · rcases keyIs_shape hv with ⟨j, u, rfl, rfl⟩ | ⟨y, u, rfl, rfl⟩
      · rw [key_rl] at h; exact SeqAt.EqAt.str_int x t j u _ _ _ _ h
      · rw [key_rr] at h; exact wpAny_eqBool_str h
  «strs» := fun k x t v h => by
    rcases keyIs_shape h with ⟨i, u, rfl, e⟩ | ⟨y, u, rfl, e⟩
    · exact nomatch e
    · injection e with e1 _
      subst e1
      cases v <;> rfl
end L2
namespace L2
open PySem PySem.Spec PyProof.Rows
inductive V where
  | non | bl (b : Bool) | int (i : Int) | str (x : Str) | byt (b : Array UInt8) | flt (b : UInt64) | ref (a : Addr) | ty (n : String)
  deriving DecidableEq
def RelV : V → Value → Prop
  | .non, u => u = Value.none
  | .bl b, u => u = Value.bool b
  | .int i, u => ∃ t, u = Value.int i t
  | .str x, u => ∃ t, u = Value.str x t
  | .byt b, u => ∃ t, u = Value.bytes b t
  | .flt b, u => ∃ t, u = Value.float b t
  | .ref a, u => u = Value.ref a
  | .ty n, u => u = Value.type n
abbrev Vals : List V → List Value → Prop := Paired RelV
theorem Vals.length {xs : List V} {us : List Value} (r : Vals xs us) : xs.length = us.length := Paired.length r
theorem Vals.get : ∀ {xs : List V} {us : List Value} {i : Nat} {x : V}, Vals xs us → xs[i]? = some x → ∃ u, us[i]? = some u ∧ RelV x u
  | _, _, _, _, .nil, e => by simp at e
  | _, _, 0, _, .cons r _, e => by simp at e; subst e; exact ⟨_, rfl, r⟩
  | _, _, i + 1, x, .cons _ t, e => by
    obtain ⟨u, h1, h2⟩ := Vals.get (i := i) (x := x) t (by simpa using e)
    exact ⟨u, by simpa using h1, h2⟩
theorem Vals.set {x : V} {u : Value} (r : RelV x u) : ∀ {xs : List V} {us : List Value} (i : Nat), Vals xs us → Vals (xs.set i x) (us.set i u)
  | _, _, _, .nil => .nil
  | _, _, 0, .cons _ t => .cons r t
  | _, _, i + 1, .cons q t => .cons q (Vals.set r i t)
theorem Vals.append : ∀ {xs ys : List V} {us ws : List Value}, Vals xs us → Vals ys ws → Vals (xs ++ ys) (us ++ ws)
  | _, _, _, _, .nil, s => s
  | _, _, _, _, .cons r t, s => .cons r (Vals.append t s)
theorem Vals.take : ∀ {xs : List V} {us : List Value} (n : Nat), Vals xs us → Vals (xs.take n) (us.take n)
  | _, _, 0, _ => .nil
  | _, _, _ + 1, .nil => .nil
  | _, _, n + 1, .cons r t => .cons r (Vals.take n t)
theorem Vals.drop : ∀ {xs : List V} {us : List Value} (n : Nat), Vals xs us → Vals (xs.drop n) (us.drop n)
  | _, _, 0, r => r
  | _, _, _ + 1, .nil => .nil
  | _, _, n + 1, .cons _ t => Vals.drop n t
def RelO : Option V → Option Value → Prop
  | some v, some u => RelV v u
  | none, none => True
  | _, _ => False
def KV {κ : Type} : List (κ × V) → List (κ × Value) → Prop := Paired fun (p : κ × V) (q : κ × Value) => p.1 = q.1 ∧ RelV p.2 q.2
def kV : Key → V
  | .inl i => .int i
  | .inr x => .str x
inductive HO where
  /-- a list -/
  | lst (xs : List V)
  /-- a tuple (never changes) -/
  | tup (xs : List V)
  /-- a dict whose keys are ints and texts; one whose keys are tuples of ints and texts (the empty one is both) -/
  | dK (kvs : List (Key × V)) | dT (kvs : List (List Key × V))
  /-- a set of ints: its members, its size -/
  | set (S : Int → Bool) (n : Nat)
  /-- an instance of the class at C, its dict at dx, its attributes -/
  | ins (C dx : Addr) (fs : List (Str × V))
  /-- the dict of the instance at x -/
  | own (x : Addr)
  /-- the dict of an exception -/
  | xd (fs : List (Str × V))
  /-- a bound method, f of x -/
  | met (f x : Addr)
  /-- a range object lo, lo + 1, .. below hi -/
  | rng (lo hi : Int)
  /-- a thing that is known to the object (the script; a dict while a loop walks it): read, never written while it is so -/
  | frz (o : Obj) (u : HO)
  /-- a code object's table -/
  | tbl (ps : Array Value)
  /-- any other thing, by what is true of its one object (a def of one's own: SetO a S n := HO.ext fun h => ..) -/
  | ext (φ : Heap → Prop)
abbrev Hp := Addr → Option HO
def upd (H : Hp) (a : Addr) (o : HO) : Hp := fun b => if b = a then some o else H b
theorem upd_same {H : Hp} {a : Addr} {o : HO} : upd H a o a = some o := by unfold upd; rw [if_pos rfl]
theorem upd_ne {H : Hp} {a b : Addr} {o : HO} (h : b ≠ a) : upd H a o b = H b := by unfold upd; rw [if_neg h]
theorem ne_of {H : Hp} {a b : Addr} {o u : HO} (h : H a = some o) (h' : H b = some u) (d : o ≠ u) : a ≠ b := by
  intro e; subst e; rw [h] at h'; exact d (Option.some.inj h')
theorem ne_of_none {H : Hp} {a b : Addr} {o : HO} (h : H a = some o) (h' : H b = none) : a ≠ b := by
  intro e; subst e; rw [h] at h'; cases h'
section
variable (P : Program) (w : World)
def ObjOk (H : Hp) (h : Heap) (a : Addr) : HO → Prop
  | .lst xs => xs.length ≤ sizeLine ∧ ∃ (its : List Value) (n : Nat), Vals xs its ∧ h.get? a = some { cls := .type "list", data := .seq its.toArray n }
  | .tup xs => xs.length ≤ sizeLine ∧ ∃ its : List Value, Vals xs its ∧ IsTup h a its.toArray
  | .dK kvs => kvs.length ≤ sizeLine ∧ (a == sysModules) = false ∧ ∃ vs, KV kvs vs ∧ h.DictOf (mixKind P w) a vs
  | .dT kvs => kvs.length ≤ sizeLine ∧ (a == sysModules) = false ∧ ∃ xs : List (List Key × Addr × Value),
      Paired (fun (p : List Key × V) (q : List Key × Addr × Value) => p.1 = q.1 ∧ H q.2.1 = some (.tup (p.1.map kV)) ∧ RelV p.2 q.2.2) kvs xs ∧
      ∃ o es ep, h.get? a = some o ∧ o.ExactDict ∧ o.data = .dict es ep ∧ es.toList = xs.map (entryOfKey (tupleKind (mixKind P w))) ∧ (xs.map (·.1)).Nodup
  | .set S n => h.SetOf (intKind P w) a S n
  | .ins C dx fs => H dx = some (.own a) ∧ fs.length ≤ 1000 ∧ dx ≠ a ∧ h.get? a = some (PySem.W.instObj C dx) ∧
      ∃ mA, h.Ns1 dx mA ∧ (∀ f, RelO (fs.lookup f) (mA f)) ∧ PySem.Within mA (fs.map (·.1))
  | .own _ => ∃ o, h.get? a = some o
  | .xd fs => ∃ mA, h.Ns1 a mA ∧ ∀ f, RelO (fs.lookup f) (mA f)
  | .rng lo hi => ∃ t u v, h.get? a = some { cls := .type "range", data := .fields #[.int lo t, .int hi u, .int 1 v] }
  | .frz o u => h.get? a = some o ∧ ObjOk H h a u
  | .tbl ps => h.get? a = some { cls := .none, data := .fields ps }
  | .met f x => h.get? a = some (PySem.W.methodObj (.ref f) (.ref x))
  | .ext φ => φ h ∧ (∃ o, h.get? a = some o) ∧ ∀ h1 h2 : Heap, φ h1 → (∀ o, h1.get? a = some o → h2.get? a = some o) → φ h2
def HOk (H : Hp) (h : Heap) : Prop := ∀ a o, H a = some o → ObjOk P w H h a o
end
section
variable {P : Program} {w : World} {H H' : Hp} {h h' : Heap} {a : Addr} {o : HO}
theorem ObjOk.lt (x : ObjOk P w H h a o) : a < h.objs.size := by
  cases o with
  | lst xs => obtain ⟨_, _, _, _, e⟩ := x; exact Heap.lt_size e
  | tup xs => obtain ⟨_, _, _, p⟩ := x; exact p.lt
  | dK kvs => obtain ⟨_, _, _, _, o, _, _, e, _⟩ := x; exact Heap.lt_size e
  | dT kvs => obtain ⟨_, _, _, _, o, _, _, e, _⟩ := x; exact Heap.lt_size e
  | set S n => obtain ⟨o, _, _, _, e, _⟩ := x; exact Heap.lt_size e
  | ins C dx fs => obtain ⟨_, _, _, e, _⟩ := x; exact Heap.lt_size e
  | own y => obtain ⟨_, e⟩ := x; exact Heap.lt_size e
  | xd fs => obtain ⟨_, ⟨_, _, _, e, _⟩, _⟩ := x; exact Heap.lt_size e
  | rng lo hi => obtain ⟨_, _, _, e⟩ := x; exact Heap.lt_size e
  | frz ob u => obtain ⟨e, _⟩ := x; exact Heap.lt_size e
  | tbl ps => exact Heap.lt_size (show h.get? a = some _ from x)
  | met f y => exact Heap.lt_size (show h.get? a = some _ from x)
  | ext φ => obtain ⟨_, ⟨_, e⟩, _⟩ := x; exact Heap.lt_size e
theorem Paired.mapP {α β : Type} {F G : α → β → Prop} : ∀ {l₁ : List α} {l₂ : List β}, Paired F l₁ l₂ → (∀ a b, F a b → G a b) → Paired G l₁ l₂
  | _, _, .nil, _ => .nil
  | _, _, .cons r t, f => .cons (f _ _ r) (Paired.mapP t f)
theorem ObjOk.stay (x : ObjOk P w H h a o) (k : ∀ b u, (b = a ∨ H b = some (.own a)) → h.get? b = some u → h'.get? b = some u)
    (ho : ∀ b, H b = some (.own a) → H' b = some (.own a)) (ht : ∀ b xs, H b = some (.tup xs) → H' b = some (.tup xs)) : ObjOk P w H' h' a o := by
  induction o with
  | lst xs => obtain ⟨z, its, n, r, e⟩ := x; exact ⟨z, its, n, r, k _ _ (.inl rfl) e⟩
  | tup xs => obtain ⟨z, its, r, ob, e, c⟩ := x; exact ⟨z, its, r, ob, k _ _ (.inl rfl) e, c⟩
  | dK kvs => obtain ⟨z, y, vs, r, ob, es, ep, e, c⟩ := x; exact ⟨z, y, vs, r, ob, es, ep, k _ _ (.inl rfl) e, c⟩
  | dT kvs =>
    obtain ⟨z, y, xs, r, ob, es, ep, e, c⟩ := x
    exact ⟨z, y, xs, Paired.mapP r fun p q z => ⟨z.1, ht _ _ z.2.1, z.2.2⟩, ob, es, ep, k _ _ (.inl rfl) e, c⟩
  | set S n => obtain ⟨ob, es, ep, t, e, c⟩ := x; exact ⟨ob, es, ep, t, k _ _ (.inl rfl) e, c⟩
  | ins C dx fs =>
    obtain ⟨d, z, ne, e, mA, ⟨od, es, ep, e2, c⟩, r⟩ := x
    exact ⟨ho _ d, z, ne, k _ _ (.inl rfl) e, mA, ⟨od, es, ep, k _ _ (.inr d) e2, c⟩, r⟩
  | own y => obtain ⟨ob, e⟩ := x; exact ⟨ob, k _ _ (.inl rfl) e⟩
  | xd fs => obtain ⟨mA, ⟨od, es, ep, e, c⟩, r⟩ := x; exact ⟨mA, ⟨od, es, ep, k _ _ (.inl rfl) e, c⟩, r⟩
  | rng lo hi => obtain ⟨t, u, v, e⟩ := x; exact ⟨t, u, v, k _ _ (.inl rfl) e⟩
  | frz ob u ih => obtain ⟨e, q⟩ := x; exact ⟨k _ _ (.inl rfl) e, ih q⟩
  | tbl ps =>
    have e : h.get? a = some { cls := .none, data := .fields ps } := x
    show h'.get? a = some { cls := .none, data := .fields ps }
    exact k a _ (.inl rfl) e
  | met f y =>
    have e : h.get? a = some (PySem.W.methodObj (.ref f) (.ref y)) := x
    show h'.get? a = some (PySem.W.methodObj (.ref f) (.ref y))
    exact k a _ (.inl rfl) e
  | ext φ => obtain ⟨p, ⟨o, e⟩, st⟩ := x; exact ⟨st _ _ p fun o q => k _ _ (.inl rfl) q, ⟨o, k _ _ (.inl rfl) e⟩, st⟩
theorem HOk.lt (x : HOk P w H h) (e : H a = some o) : a < h.objs.size := (x a o e).lt
theorem HOk.fresh (x : HOk P w H h) (e : h.objs.size ≤ a) : H a = none := by
  cases q : H a with
  | none => rfl
  | some u => exact absurd (Nat.lt_of_lt_of_le (x.lt q) e) (Nat.lt_irrefl _)
theorem HOk.kept (x : HOk P w H h) (k : ∀ b u, h.get? b = some u → h'.get? b = some u) : HOk P w H h' := fun a o e =>
  (x a o e).stay (fun b u _ q => k b u q) (fun _ q => q) fun _ _ q => q
theorem HOk.laid (x : HOk P w H h) (k : ∀ b u, h.get? b = some u → h'.get? b = some u) (hp : h.objs.size ≤ a) (new : ObjOk P w (upd H a o) h' a o) : HOk P w (upd H a o) h' := fun b u e => by
  have hn := x.fresh hp
  by_cases hb : b = a
  · subst hb; rw [upd_same] at e; cases e; exact new
  · rw [upd_ne hb] at e
    exact (x b u e).stay (fun c v _ q => k c v q) (fun c q => by rw [upd_ne (ne_of_none q hn)]; exact q) fun c xs q => by rw [upd_ne (ne_of_none q hn)]; exact q
end
def Rd (H : Hp) (a : Addr) (u : HO) : Prop := H a = some u ∨ ∃ o, H a = some (.frz o u)
theorem Rd.of {H : Hp} {a : Addr} {u : HO} (h : H a = some u) : Rd H a u := .inl h
theorem Rd.ok {P : Program} {w : World} {H : Hp} {h : Heap} {a : Addr} {u : HO} (r : Rd H a u) (x : HOk P w H h) : ObjOk P w H h a u := by
  rcases r with r | ⟨o, r⟩
  · exact x a u r
  · obtain ⟨_, q⟩ := x a _ r
    exact q
def Mut : Option HO → Prop
  | some (.lst _) => True
  | some (.dK _) => True
  | some (.dT _) => True
  | some (.set _ _) => True
  | some (.ins _ _ _) => True
  | some (.ext _) => True
  | _ => False
section
variable {P : Program} {w : World} {H : Hp} {h h' : Heap} {x e : Addr} {o' : HO}
theorem HOk.write (ok : HOk P w H h) (mu : Mut (H x)) (he : e = x ∨ H e = some (.own x)) (k : ∀ b u, b ≠ e → h.get? b = some u → h'.get? b = some u) (heo : ∃ u, h'.get? e = some u)
    (new : ObjOk P w (upd H x o') h' x o') : HOk P w (upd H x o') h' := fun b u q => by
  have nown : ∀ c y, H c = some (.own y) → c ≠ x := fun c y r z => by subst z; rw [r] at mu; exact mu
  have ntup : ∀ c xs, H c = some (.tup xs) → c ≠ x := fun c xs r z => by subst z; rw [r] at mu; exact mu
  by_cases hb : b = x
  · subst hb; rw [upd_same] at q; cases q; exact new
  · rw [upd_ne hb] at q
    by_cases hbe : b = e
    · have q' : H b = some (.own x) := by
        rcases he with z | z
        · exact absurd (hbe.trans z) hb
        · rw [hbe]; exact z
      rw [q] at q'; cases q'
      obtain ⟨v, hv⟩ := heo
      exact ⟨v, by rw [hbe]; exact hv⟩
    · refine (ok b u q).stay (fun c v hc r => k c v ?_ r) (fun c r => by rw [upd_ne (nown c b r)]; exact r) fun c xs r => by rw [upd_ne (ntup c xs r)]; exact r
      rcases hc with rfl | hc
      · exact hbe
      · rintro rfl
        rcases he with z | z
        · exact nown c b hc z
        · rw [hc] at z; cases z; exact hb rfl
end
structure Un (fs ex : List Addr) (H H' : Hp) (h h' : Heap) : Prop where
  keep : ∀ b o, h.get? b = some o → H b = none → b ∉ fs → b ∉ ex → h'.get? b = some o
  slot : ∀ b o, h.get? b = some o → H b = none → b ∈ fs → b ∉ ex → ∃ sl, h'.get? b = some { o with slots := sl }
  free : ∀ b o, h.get? b = some o → H b = none → b ∉ ex → H' b = none
  there : ∀ b o, h.get? b = some o → b ∉ ex → ∃ o', h'.get? b = some o'
  tups : ∀ b xs, H b = some (.tup xs) → H' b = some (.tup xs)
  frzs : ∀ b o u, H b = some (.frz o u) → H' b = some (.frz o u)
  tbls : ∀ b ps, H b = some (.tbl ps) → ∃ more, H' b = some (.tbl (ps ++ more))
section
variable {fs fs' ex ex' : List Addr} {H H1 H2 : Hp} {h h1 h2 h' : Heap} {a x e : Addr} {o : HO}
theorem Un.any (u : Un fs ex H H1 h h1) {b : Addr} {ob : Obj} (q : h.get? b = some ob) (n : H b = none) (hx : b ∉ ex) : ∃ sl, h1.get? b = some { ob with slots := sl } := by
  by_cases hb : b ∈ fs
  · exact u.slot b ob q n hb hx
  · exact ⟨ob.slots, u.keep b ob q n hb hx⟩
theorem Un.trans (a : Un fs ex H H1 h h1) (b : Un fs ex H1 H2 h1 h2) : Un fs ex H H2 h h2 where
  keep := fun c ob q n hc hx => b.keep c ob (a.keep c ob q n hc hx) (a.free c ob q n hx) hc hx
  slot := fun c ob q n hc hx => by
    obtain ⟨sl, e1⟩ := a.slot c ob q n hc hx
    obtain ⟨sl', e2⟩ := b.slot c _ e1 (a.free c ob q n hx) hc hx
    exact ⟨sl', e2⟩
  free := fun c ob q n hx => by
    obtain ⟨o', e1⟩ := a.there c ob q hx
    exact b.free c o' e1 (a.free c ob q n hx) hx
  there := fun c ob q hx => by
    obtain ⟨o', e1⟩ := a.there c ob q hx
    exact b.there c o' e1 hx
  tups := fun c xs q => b.tups c xs (a.tups c xs q)
  frzs := fun c ob xs q => b.frzs c ob xs (a.frzs c ob xs q)
  tbls := fun c ps q => by
    obtain ⟨m1, e1⟩ := a.tbls c ps q
    obtain ⟨m2, e2⟩ := b.tbls c _ e1
    exact ⟨m1 ++ m2, by rw [e2, Array.append_assoc]⟩
theorem Un.kept (k : ∀ b u, h.get? b = some u → h'.get? b = some u) : Un fs ex H H h h' :=
  ⟨fun b ob q _ _ _ => k b ob q, fun b ob q _ _ _ => ⟨ob.slots, k b ob q⟩, fun _ _ _ n _ => n, fun b ob q _ => ⟨ob, k b ob q⟩, fun _ _ q => q, fun _ _ _ q => q, fun _ ps q => ⟨#[], by rw [q]; simp⟩⟩
theorem Un.refl : Un fs ex H H h h := Un.kept fun _ _ q => q
theorem Un.laid (k : ∀ b u, h.get? b = some u → h'.get? b = some u) (hp : h.objs.size ≤ a) (hn : H a = none) : Un fs ex H (upd H a o) h h' where
  keep := fun b u q _ _ _ => k b u q
  slot := fun b u q _ _ _ => ⟨u.slots, k b u q⟩
  free := fun b u q n _ => by rw [upd_ne (Nat.ne_of_lt (Nat.lt_of_lt_of_le (Heap.lt_size q) hp))]; exact n
  there := fun b u q _ => ⟨u, k b u q⟩
  tups := fun b xs q => by rw [upd_ne (ne_of_none q hn)]; exact q
  frzs := fun b u xs q => by rw [upd_ne (ne_of_none q hn)]; exact q
  tbls := fun b ps q => ⟨#[], by rw [upd_ne (ne_of_none q hn), q]; simp⟩
theorem Un.write (mu : Mut (H x)) (he : e = x ∨ H e = some (.own x)) (k : ∀ b u, b ≠ e → h.get? b = some u → h'.get? b = some u) (heo : ∃ u, h'.get? e = some u) : Un fs ex H (upd H x o) h h' := by
  have hx : ∀ b, H b = none → b ≠ x := fun b n z => by subst z; rw [n] at mu; exact mu
  have hb : ∀ b, H b = none → b ≠ e := fun b n z => by
    subst z
    rcases he with r | r
    · exact hx b n r
    · rw [n] at r; cases r
  have hm : ∀ b u, H b = some u → ¬ Mut (some u) → b ≠ x := fun b u q nm z => by subst z; rw [q] at mu; exact nm mu
  refine ⟨fun b u q n _ _ => k b u (hb b n) q, fun b u q n _ _ => ⟨u.slots, k b u (hb b n) q⟩, fun b u q n _ => by rw [upd_ne (hx b n)]; exact n, fun b u q _ => ?_,
    fun b xs q => by rw [upd_ne (hm b _ q fun z => z)]; exact q, fun b u xs q => by rw [upd_ne (hm b _ q fun z => z)]; exact q, fun b ps q => ⟨#[], by rw [upd_ne (hm b _ q fun z => z), q]; simp⟩⟩
  by_cases hbe : b = e
  · subst hbe; exact heo
  · exact ⟨u, k b u hbe q⟩
theorem Un.mono (u : Un fs ex H H1 h h1) (hs : ∀ b ∈ fs, b ∈ fs') (hx : ∀ b ∈ ex, b ∈ ex') : Un fs' ex' H H1 h h1 :=
  ⟨fun b ob q n hb he => u.keep b ob q n (fun z => hb (hs b z)) fun z => he (hx b z), fun _ _ q n _ he => u.any q n fun z => he (hx _ z), fun b ob q n he => u.free b ob q n fun z => he (hx b z), fun b ob q he => u.there b ob q fun z => he (hx b z), u.tups, u.frzs, u.tbls⟩
end
def trk (h : Heap) (H : Hp) : List Addr := (List.range h.objs.size).filter fun a => (H a).isSome
def hidT (h : Heap) (H : Hp) : Heap := PySem.W.hideAll h (trk h H)
theorem hidT_size (h : Heap) (H : Hp) : (hidT h H).objs.size = h.objs.size := PySem.W.hideAll_size _ _
theorem hidT_get {h : Heap} {H : Hp} {b : Addr} {o : Obj} (e : h.get? b = some o) (n : H b = none) : (hidT h H).get? b = some o :=
  PySem.W.hideAll_get _ e fun hm => by
    have q : (H b).isSome = true := (List.mem_filter.mp hm).2
    rw [n] at q; simp at q
theorem of_hidT {h : Heap} {H : Hp} {b : Addr} {o : Obj} (e : (hidT h H).get? b = some o) : h.get? b = some o ∧ H b = none := by
  have e' : h.get? b = some o := PySem.W.of_hideAll (trk h H) e
  refine ⟨e', ?_⟩
  cases q : H b with
  | none => rfl
  | some x =>
    have hm : b ∈ trk h H := List.mem_filter.mpr ⟨List.mem_range.mpr (Heap.lt_size e'), by simp [q]⟩
    have z : (hidT h H).get? b = none := PySem.W.hideAll_none (trk h H) hm
    rw [z] at e; cases e
def allNews (g h : Heap) (L : Addr) : List (Addr × Obj) := (List.range h.objs.size).filterMap fun a => if a = L ∨ (g.get? a).isSome = true then none else (h.get? a).map fun o => (a, o)
def rest (g h : Heap) (L d : Addr) : List (Addr × Obj) := (allNews g h L).filter fun p => decide (p.1 ≠ d)
end L2
namespace L2
open PySem PySem.Spec PyProof.Rows
structure Mod (K : PySem.W.Frag) (mg : Str → Option Value) (base : Heap) : Prop where
  kin : K.In base
  glob : base.Ns mainGlobals mg
  blt : ∃ mb, base.Ns builtinsNs mb ∧ ∀ x : Str, x ≠ "__name__" → mb x = bootBuiltins x
  nolimit : base.NoLimit
structure Cx where
  prog : Program
  w : World
  K : PySem.W.Frag
  mg : Str → Option Value
  base : Heap
  A : Around
  N : List Str
  s₀ : Shared
  H₀ : Hp
  env : Env
  outer : List Env
  stack : List Env
  ex : List Addr
  fn : Str → Bool
  calm : Bool
  pn : List (Addr × Obj)
  xe : Value → Shared → Prop
def frs (l : List Env) : List Addr := l.filterMap (·.frame)
abbrev Cx.fs (X : Cx) : List Addr := frs X.outer
def Vis (sc : Scope) (x : Str) : Prop := sc.names.lookup x = some .local ∨ sc.names.lookup x = some .cell ∨ sc.names.lookup x = some .free
def Loc (sc : Scope) (x : Str) : Prop := sc.names.lookup x = some .local ∨ sc.names.lookup x = some .cell
def Look (env : Env) (h : Heap) (m : Str → Option Value) (x : Str) (u : Value) : Prop :=
  (env.kindOf x = some .local ∧ m x = some u) ∨ ((env.kindOf x = some .cell ∨ env.kindOf x = some .free) ∧ ∃ c, env.cells.lookup x = some c ∧ h.IsCell c (some u))
structure Cx.Ok (X : Cx) : Prop where
  mod : Mod X.K X.mg X.base
  kind : X.env.scope.kind = .function
  glob : X.env.globals = mainGlobals
  blt : X.env.builtins = builtinsNs
  above : X.s₀.heap.objs.size ≤ X.env.locals
  inj : ∀ x y c, X.env.cells.lookup x = some c → X.env.cells.lookup y = some c → x = y
  has : ∀ x, (X.env.kindOf x = some .cell ∨ X.env.kindOf x = some .free) → ∃ c, X.env.cells.lookup x = some c
  cab : ∀ x c, X.fn x = true → X.env.cells.lookup x = some c → X.s₀.heap.objs.size ≤ c
  hd : X.calm = true → X.A.handled = none
  frames : X.A.frames = some X.stack
  stk : X.stack = X.outer ∨ (X.stack = X.env :: X.outer ∧ X.env.frame = some X.env.locals)
  exf : ∀ b ∈ X.ex, b ≠ X.env.locals ∧ ∀ x c, X.env.cells.lookup x = some c → c ≠ b
  bs : ∀ b o, X.base.get? b = some o → X.s₀.heap.get? b = some o ∧ X.H₀ b = none
  bsz : X.base.objs.size ≤ X.s₀.heap.objs.size
  noex : ∀ b o, X.base.get? b = some o → b ∉ X.ex
  exfs : ∀ b ∈ X.ex, b ∉ X.fs
  funs : X.s₀.heap.FunFrames X.base X.outer
  frf : ∀ b ∈ X.fs, X.H₀ b = none
structure Inv (X : Cx) (pins : List (Addr × Obj)) (σ : List (Option V)) (H : Hp) (s : Shared) : Prop where
  ok : X.Ok
  os : s.os = X.s₀.os
  bare : AllBare s.gens
  base : Un X.fs X.ex X.H₀ H X.s₀.heap s.heap
  loc : ∃ m, s.heap.Ns X.env.locals m ∧ ∀ (i : Nat) (x : Str) (v : V), X.N[i]? = some x → σ[i]? = some (some v) → Vis X.env.scope x → ∃ u, RelV v u ∧ Look X.env s.heap m x u
  cell : ∀ x c, X.env.cells.lookup x = some c → ∃ v, s.heap.IsCell c v
  free : H X.env.locals = none
  freeC : ∀ x c, X.env.cells.lookup x = some c → H c = none
  pin : ∀ p ∈ X.pn ++ pins, s.heap.get? p.1 = some p.2 ∧ H p.1 = none ∧ p.1 ≠ X.env.locals ∧ p.1 ∉ X.fs ∧ ∀ v, p.2.data ≠ .cell v
  hok : HOk X.prog X.w H s.heap
  len : σ.length = X.N.length
section
variable {X : Cx} {pins : List (Addr × Obj)} {σ : List (Option V)} {H H' : Hp} {s : Shared} {h' : Heap}
theorem Cx.Ok.nofr (ok : X.Ok) {b : Addr} {o : Obj} (e : X.base.get? b = some o) : b ∉ X.fs := fun hb => by
  have := (ok.funs.mem hb).1
  rw [e] at this; cases this
theorem Inv.bs (I : Inv X pins σ H s) : ∀ b o, X.base.get? b = some o → s.heap.get? b = some o ∧ H b = none := fun b o e =>
  ⟨I.base.keep b o (I.ok.bs b o e).1 (I.ok.bs b o e).2 (I.ok.nofr e) (I.ok.noex b o e), I.base.free b o (I.ok.bs b o e).1 (I.ok.bs b o e).2 (I.ok.noex b o e)⟩
theorem Inv.bk (I : Inv X pins σ H s) : ∀ b o, X.base.get? b = some o → s.heap.get? b = some o := fun b o e => (I.bs b o e).1
theorem Inv.mod (I : Inv X pins σ H s) : Mod X.K X.mg X.base := I.ok.mod
theorem Inv.kIn (I : Inv X pins σ H s) : X.K.In s.heap := I.ok.mod.kin.keeps I.bk
theorem Inv.nolimit (I : Inv X pins σ H s) : s.heap.NoLimit := I.ok.mod.nolimit.keeps I.bk
theorem Inv.fr (I : Inv X pins σ H s) : ∃ m, Fr X.base X.env.locals s.heap m :=
  let ⟨m, hn, _⟩ := I.loc
  ⟨m, hn, I.bk, Nat.le_trans I.ok.bsz I.ok.above⟩
theorem Inv.lt (I : Inv X pins σ H s) : X.env.locals < s.heap.objs.size := let ⟨_, hn, _⟩ := I.loc; hn.lt
theorem Inv.sz (I : Inv X pins σ H s) : X.s₀.heap.objs.size ≤ s.heap.objs.size := Nat.le_trans I.ok.above (Nat.le_of_lt I.lt)
theorem Inv.nofs (I : Inv X pins σ H s) {a : Addr} (h : s.heap.objs.size ≤ a) : a ∉ X.fs := fun hb => by
  obtain ⟨_, o, ho, _⟩ := I.ok.funs.mem hb
  exact absurd (Nat.lt_of_lt_of_le (Heap.lt_size ho) (Nat.le_trans I.sz h)) (Nat.lt_irrefl _)
theorem Inv.cne (I : Inv X pins σ H s) : ∀ x c, X.env.cells.lookup x = some c → c ≠ X.env.locals := fun x c e z => by
  obtain ⟨v, o, ho, hd⟩ := I.cell x c e
  obtain ⟨m, ⟨o', es, ep, ho', hd', _⟩, _⟩ := I.loc
  rw [z, ho'] at ho; cases ho; rw [hd'] at hd; cases hd
theorem Inv.funs (I : Inv X pins σ H s) : s.heap.FunFrames X.base X.outer := by
  have all : ∀ (l : List Env), (∀ b ∈ frs l, b ∈ X.fs) → X.s₀.heap.FunFrames X.base l → s.heap.FunFrames X.base l := by
    intro l
    induction l with
    | nil => intro _ _; trivial
    | cons env r ih =>
      intro hs hl
      obtain ⟨hk, ⟨L, o, hf, hn, ho, hd⟩, hr⟩ := hl
      have hL : L ∈ X.fs := hs L (by unfold frs; rw [List.filterMap_cons, hf]; exact List.mem_cons_self)
      obtain ⟨sl, e⟩ := I.base.slot L o ho (I.ok.frf L hL) hL fun z => I.ok.exfs L z hL
      exact ⟨hk, ⟨L, _, hf, hn, e, hd⟩, ih (fun b hb => hs b (by unfold frs; rw [List.filterMap_cons, hf]; exact List.mem_cons_of_mem _ hb)) hr⟩
  exact all X.outer (fun _ hb => hb) I.ok.funs
theorem Inv.stack (I : Inv X pins σ H s) : s.heap.FunFrames X.base X.stack := by
  rcases I.ok.stk with e | ⟨e, hf⟩
  · rw [e]; exact I.funs
  · rw [e]
    obtain ⟨m, hn, _⟩ := I.loc
    refine .cons (by rw [I.ok.kind]; decide) hf hn ?_ I.funs
    exact Heap.get?_none_of_le (Nat.le_trans I.ok.bsz I.ok.above)
theorem Inv.stkSub (I : Inv X pins σ H s) : ∀ b ∈ frs X.stack, b ∈ X.env.locals :: X.fs := fun b hb => by
  rcases I.ok.stk with e | ⟨e, hf⟩
  · rw [e] at hb; exact List.mem_cons_of_mem _ hb
  · rw [e] at hb
    unfold frs at hb
    rw [List.filterMap_cons, hf] at hb
    exact hb
theorem Inv.stkFree (I : Inv X pins σ H s) : ∀ b ∈ frs X.stack, H b = none := fun b hb => by
  rcases List.mem_cons.mp (I.stkSub b hb) with e | hb
  · rw [e]; exact I.free
  · obtain ⟨_, o, ho, _⟩ := I.ok.funs.mem hb
    exact I.base.free b o ho (I.ok.frf b hb) fun z => I.ok.exfs b z hb
theorem Inv.step {g' : Array GenState} {t' : Nat} {d' : Drawn} {ch : List Addr} (I : Inv X pins σ H s)
    (hch : ∀ b ∈ ch, (b ∈ X.ex ∨ X.s₀.heap.objs.size ≤ b) ∧ b ≠ X.env.locals ∧ (∀ x c, X.env.cells.lookup x = some c → c ≠ b) ∧ ∀ p ∈ X.pn ++ pins, p.1 ≠ b)
    (keep : ∀ b o, b ≠ X.env.locals → b ∉ X.fs → b ∉ ch → s.heap.get? b = some o → H b = none → h'.get? b = some o)
    (slot : ∀ b o, b ≠ X.env.locals → b ∈ X.fs → b ∉ ch → s.heap.get? b = some o → H b = none → ∃ sl, h'.get? b = some { o with slots := sl }) (free : ∀ b o, b ∉ ch → s.heap.get? b = some o → H b = none → H' b = none)
    (there : ∀ b o, b ∉ ch → s.heap.get? b = some o → ∃ o', h'.get? b = some o')
    (tups : ∀ b xs, H b = some (.tup xs) → H' b = some (.tup xs)) (frzs : ∀ b o u, H b = some (.frz o u) → H' b = some (.frz o u)) (tbls : ∀ b ps, H b = some (.tbl ps) → ∃ more, H' b = some (.tbl (ps ++ more)))
    (ns : ∀ m, s.heap.Ns X.env.locals m → h'.Ns X.env.locals m) (hok : HOk X.prog X.w H' h') (hg : AllBare g') :
    Inv X pins σ H' { s with heap := h', gens := g', drawn := d', toks := t' } := by
  have neL : ∀ b o, X.s₀.heap.get? b = some o → b ≠ X.env.locals := fun b o e => Nat.ne_of_lt (Nat.lt_of_lt_of_le (Heap.lt_size e) I.ok.above)
  have neC : ∀ b o, X.s₀.heap.get? b = some o → b ∉ X.ex → b ∉ ch := fun b o e hx hb => by
    rcases (hch b hb).1 with z | z
    · exact hx z
    · exact absurd (Nat.lt_of_lt_of_le (Heap.lt_size e) z) (Nat.lt_irrefl _)
  have cellK : ∀ x c, X.env.cells.lookup x = some c → ∀ v, s.heap.IsCell c v → h'.IsCell c v := fun x c e v ⟨o, ho, hd⟩ => by
    have nch : c ∉ ch := fun z => (hch c z).2.2.1 x c e rfl
    by_cases hc : c ∈ X.fs
    · obtain ⟨sl, q⟩ := slot c o (I.cne x c e) hc nch ho (I.freeC x c e)
      exact ⟨_, q, hd⟩
    · exact ⟨o, keep c o (I.cne x c e) hc nch ho (I.freeC x c e), hd⟩
  refine ⟨I.ok, I.os, hg, ⟨fun b o e n hb hx => ?_, fun b o e n hb hx => ?_, fun b o e n hx => ?_, fun b o e hx => ?_, fun b xs e => tups b xs (I.base.tups b xs e), fun b o xs e => frzs b o xs (I.base.frzs b o xs e), fun b ps e => ?_⟩, ?_, fun x c e => ?_, ?_, fun x c e => ?_, fun p hp => ?_, hok, I.len⟩
  · exact keep b o (neL b o e) hb (neC b o e hx) (I.base.keep b o e n hb hx) (I.base.free b o e n hx)
  · obtain ⟨sl, e1⟩ := I.base.slot b o e n hb hx
    obtain ⟨sl', e2⟩ := slot b _ (neL b o e) hb (neC b o e hx) e1 (I.base.free b o e n hx)
    exact ⟨sl', e2⟩
  · obtain ⟨o', e1⟩ := I.base.there b o e hx
    exact free b o' (neC b o e hx) e1 (I.base.free b o e n hx)
  · obtain ⟨o', e1⟩ := I.base.there b o e hx
    exact there b o' (neC b o e hx) e1
  · obtain ⟨m1, e1⟩ := I.base.tbls b ps e
    obtain ⟨m2, e2⟩ := tbls b _ e1
    exact ⟨m1 ++ m2, by rw [e2, Array.append_assoc]⟩
  · obtain ⟨m, hn, hl⟩ := I.loc
    refine ⟨m, ns m hn, fun i x v e1 e2 e3 => ?_⟩
    obtain ⟨u, r, l⟩ := hl i x v e1 e2 e3
    refine ⟨u, r, ?_⟩
    rcases l with l | ⟨k, c, e, z⟩
    · exact .inl l
    · exact .inr ⟨k, c, e, cellK x c e _ z⟩
  · obtain ⟨v, z⟩ := I.cell x c e
    exact ⟨v, cellK x c e v z⟩
  · obtain ⟨m, ⟨o, _, _, ho, _⟩, _⟩ := I.loc
    exact free _ o (fun z => (hch _ z).2.1 rfl) ho I.free
  · obtain ⟨v, o, ho, hd⟩ := I.cell x c e
    exact free c o (fun z => (hch c z).2.2.1 x c e rfl) ho (I.freeC x c e)
  · obtain ⟨e, n, ne, nf, d⟩ := I.pin p hp
    have nch : p.1 ∉ ch := fun z => (hch p.1 z).2.2.2 p hp rfl
    exact ⟨keep p.1 p.2 ne nf nch e n, free p.1 p.2 nch e n, ne, nf, d⟩
theorem Inv.un {t' : Nat} (I : Inv X pins σ H s) (u : Un X.fs [] H H' s.heap h') (hok : HOk X.prog X.w H' h') : Inv X pins σ H' { s with heap := h', toks := t' } := by
  obtain ⟨m, ⟨o, es, ep, ho, r⟩, _⟩ := id I.loc
  obtain ⟨sl, hL⟩ := u.any ho I.free (by simp)
  exact I.step (g' := s.gens) (d' := s.drawn) (ch := []) (fun _ z => nomatch z) (fun b o _ hb _ e n => u.keep b o e n hb (by simp)) (fun b o _ hb _ e n => u.slot b o e n hb (by simp)) (fun b o _ e n => u.free b o e n (by simp)) (fun b o _ e => u.there b o e (by simp)) u.tups u.frzs u.tbls (fun m' hm => by
    obtain ⟨o', es', ep', ho', r'⟩ := hm
    rw [ho] at ho'; cases ho'
    exact ⟨_, es', ep', hL, r'⟩) hok I.bare
theorem Inv.call {g' : Array GenState} {t' : Nat} {d' : Drawn} {ch : List Addr} (I : Inv X pins σ H s) (u : Un (frs X.stack) ch H H' s.heap h') (hok : HOk X.prog X.w H' h') (hg : AllBare g')
    (hch : ∀ b ∈ ch, (b ∈ X.ex ∨ X.s₀.heap.objs.size ≤ b) ∧ b ≠ X.env.locals ∧ (∀ x c, X.env.cells.lookup x = some c → c ≠ b) ∧ ∀ p ∈ X.pn ++ pins, p.1 ≠ b) :
    Inv X pins σ H' { s with heap := h', gens := g', drawn := d', toks := t' } := by
  obtain ⟨m, ⟨o, es, ep, ho, r⟩, _⟩ := id I.loc
  obtain ⟨sl, hL⟩ := u.any ho I.free fun z => (hch _ z).2.1 rfl
  exact I.step (ch := ch) hch (fun b o hL hb hc e n => u.keep b o e n (fun z => (List.mem_cons.mp (I.stkSub b z)).elim hL hb) hc) (fun b o _ _ hc e n => u.any e n hc) (fun b o hc e n => u.free b o e n hc) (fun b o hc e => u.there b o e hc) u.tups u.frzs u.tbls (fun m' hm => by
    obtain ⟨o', es', ep', ho', r'⟩ := hm
    rw [ho] at ho'; cases ho'
    exact ⟨_, es', ep', hL, r'⟩) hok hg
theorem Inv.turned {t' : Nat} {it : Addr} (I : Inv X pins σ H s) (k : ∀ b o, b ≠ it → s.heap.get? b = some o → h'.get? b = some o) (hn : H it = none) (hL : it ≠ X.env.locals)
    (h1 : it ∈ X.ex ∨ X.s₀.heap.objs.size ≤ it) (h2 : ∀ x c, X.env.cells.lookup x = some c → c ≠ it) (h3 : ∀ p ∈ X.pn ++ pins, p.1 ≠ it) : Inv X pins σ H { s with heap := h', toks := t' } := by
  have nit : ∀ b u, H b = some u → b ≠ it := fun b u e z => by rw [z, hn] at e; cases e
  refine I.step (g' := s.gens) (d' := s.drawn) (ch := [it]) (fun b hb => ?_) (fun b o _ _ hc e _ => k b o (fun z => hc (by simp [z])) e) (fun b o _ _ hc e _ => ⟨o.slots, k b o (fun z => hc (by simp [z])) e⟩) (fun _ _ _ _ n => n)
    (fun b o hc e => ⟨o, k b o (fun z => hc (by simp [z])) e⟩) (fun _ _ e => e) (fun _ _ _ e => e) (fun b ps e => ⟨#[], by rw [e]; simp⟩) (fun m hm => ?_) (fun b u e => ?_) I.bare
  · have e : b = it := by simpa using hb
    subst e
    exact ⟨h1, hL, h2, h3⟩
  · obtain ⟨o, es, ep, ho, r⟩ := hm
    exact ⟨o, es, ep, k _ o (Ne.symm hL) ho, r⟩
  · refine (I.hok b u e).stay (fun c v hc q => k c v ?_ q) (fun _ q => q) fun _ _ q => q
    rcases hc with z | z
    · rw [z]; exact nit b u e
    · exact nit c _ z
theorem Inv.tok (I : Inv X pins σ H s) (t : Nat) : Inv X pins σ H { s with toks := t } := I.un (h' := s.heap) (t' := t) Un.refl I.hok
theorem Inv.kept {t' : Nat} (I : Inv X pins σ H s) (k : ∀ b u, s.heap.get? b = some u → h'.get? b = some u) : Inv X pins σ H { s with heap := h', toks := t' } := I.un (Un.kept k) (I.hok.kept k)
theorem Inv.laid {a : Addr} {o : HO} {t' : Nat} (I : Inv X pins σ H s) (k : ∀ b u, s.heap.get? b = some u → h'.get? b = some u) (hp : s.heap.objs.size ≤ a) (new : ObjOk X.prog X.w (upd H a o) h' a o) :
    Inv X pins σ (upd H a o) { s with heap := h', toks := t' } := I.un (Un.laid k hp (I.hok.fresh hp)) (I.hok.laid k hp new)
theorem Inv.write {x e : Addr} {o : HO} {t' : Nat} (I : Inv X pins σ H s) (mu : Mut (H x)) (he : e = x ∨ H e = some (.own x)) (k : ∀ b u, b ≠ e → s.heap.get? b = some u → h'.get? b = some u) (heo : ∃ u, h'.get? e = some u)
    (new : ObjOk X.prog X.w (upd H x o) h' x o) : Inv X pins σ (upd H x o) { s with heap := h', toks := t' } := I.un (Un.write mu he k heo) (I.hok.write mu he k heo new)
theorem Inv.weak {σ' : List (Option V)} (I : Inv X pins σ H s) (hl : σ'.length = σ.length) (w : ∀ (i : Nat) v, σ'[i]? = some (some v) → σ[i]? = some (some v)) : Inv X pins σ' H s :=
  ⟨I.ok, I.os, I.bare, I.base, let ⟨m, hn, hl'⟩ := I.loc; ⟨m, hn, fun i x v e1 e2 e3 => hl' i x v e1 (w i v e2) e3⟩, I.cell, I.free, I.freeC, I.pin, I.hok, hl.trans I.len⟩
theorem Inv.pins_of {pins' : List (Addr × Obj)} (I : Inv X pins σ H s) (h : ∀ p ∈ pins', s.heap.get? p.1 = some p.2 ∧ H p.1 = none ∧ p.1 ≠ X.env.locals ∧ p.1 ∉ X.fs ∧ ∀ v, p.2.data ≠ .cell v) : Inv X pins' σ H s :=
  ⟨I.ok, I.os, I.bare, I.base, I.loc, I.cell, I.free, I.freeC, fun p hp => (List.mem_append.mp hp).elim (fun z => I.pin p (List.mem_append_left _ z)) (h p), I.hok, I.len⟩
theorem nodup_ix {N : List Str} (hN : N.Nodup) {i j : Nat} {x : Str} (a : N[i]? = some x) (b : N[j]? = some x) : i = j := by
  obtain ⟨h1, e1⟩ := List.getElem?_eq_some_iff.mp a
  obtain ⟨h2, e2⟩ := List.getElem?_eq_some_iff.mp b
  exact (List.getElem_inj hN).mp (e1.trans e2.symm)
theorem store_ok2 {M : Model} {A : Around} {E : Value → Shared → Prop} {i : Nat} {x : Str} {v : V} {u : Value} {Q : Unit → Shared → Prop} (I : Inv X pins σ H s) (hN : X.N.Nodup) (hi : X.N[i]? = some x) (hx : Loc X.env.scope x) (r : RelV v u)
    (h : ∀ s', Inv X pins (σ.set i (some v)) H s' → (∃ a, Heap.SameBut a s.heap s'.heap ∧ (a = X.env.locals ∨ X.env.cells.lookup x = some a)) → Q () s') (hf : X.fn x = true ∨ X.env.scope.names.lookup x = some .local := by first | exact .inl rfl | exact .inr rfl | assumption) : wpAny M A (storeName X.env x u) Q E s := by
  obtain ⟨m, hn, hl⟩ := id I.loc
  have hcls : (X.env.scope.kind == .class || (X.env.scope.kind == .module && X.env.locals != X.env.globals)) = false := by rw [I.ok.kind]; rfl
  have hiσ : i < σ.length := by rw [I.len]; exact (List.getElem?_eq_some_iff.mp hi).1
  have cne := I.cne
  have tracked : ∀ {a : Addr} {h' : Heap}, (∃ o, s.heap.get? a = some o ∧ H a = none) → Heap.SameBut a s.heap h' → HOk X.prog X.w H h' := fun {a h'} ha hs b ob e => by
    obtain ⟨_, _, hfree⟩ := ha
    refine (I.hok b ob e).stay (fun c w' hc q => (hs.2 c ?_).trans q) (fun _ q => q) fun _ _ q => q
    rintro rfl
    rcases hc with rfl | hc
    · rw [hfree] at e; cases e
    · rw [hfree] at hc; cases hc
  rcases hx with hk | hk
  · refine wpAny_storeName_local hk hn (fun h' hn' hs => ?_) hcls
    obtain ⟨oL, _, _, hoL, _⟩ := id hn
    refine h _ ⟨I.ok, I.os, I.bare, ⟨fun b o e n hb hx => ?_, fun b o e n hb hx => ?_, I.base.free, fun b o e hx => ?_, I.base.tups, I.base.frzs, I.base.tbls⟩, ⟨_, hn', fun j y v' e1 e2 e3 => ?_⟩, fun y c e => ?_, I.free, I.freeC, fun p hp => ?_, tracked ⟨oL, hoL, I.free⟩ hs, by simpa using I.len⟩ ⟨_, hs, .inl rfl⟩
    · exact (hs.2 b (Nat.ne_of_lt (Nat.lt_of_lt_of_le (Heap.lt_size e) I.ok.above))).trans (I.base.keep b o e n hb hx)
    · obtain ⟨sl, e1⟩ := I.base.slot b o e n hb hx
      exact ⟨sl, (hs.2 b (Nat.ne_of_lt (Nat.lt_of_lt_of_le (Heap.lt_size e) I.ok.above))).trans e1⟩
    · obtain ⟨o', e1⟩ := I.base.there b o e hx
      exact ⟨o', (hs.2 b (Nat.ne_of_lt (Nat.lt_of_lt_of_le (Heap.lt_size e) I.ok.above))).trans e1⟩
    · by_cases hj : j = i
      · subst hj
        rw [hi] at e1; cases e1
        rw [List.getElem?_set_self hiσ] at e2
        cases e2
        exact ⟨u, r, .inl ⟨hk, by simp⟩⟩
      · rw [List.getElem?_set_ne (Ne.symm hj)] at e2
        obtain ⟨u', r', q⟩ := hl j y v' e1 e2 e3
        refine ⟨u', r', ?_⟩
        rcases q with ⟨k, e⟩ | ⟨k, c, e, z⟩
        · refine .inl ⟨k, ?_⟩
          have : y ≠ x := fun e => hj (nodup_ix hN e1 (e ▸ hi))
          simp [this, e]
        · exact .inr ⟨k, c, e, z.sameBut hs (cne y c e)⟩
    · obtain ⟨w', z⟩ := I.cell y c e
      exact ⟨w', z.sameBut hs (cne y c e)⟩
    · obtain ⟨e, n, ne, nf, d⟩ := I.pin p hp
      exact ⟨(hs.2 p.1 ne).trans e, n, ne, nf, d⟩
  · have hfn : X.fn x = true := by
      rcases hf with z | z
      · exact z
      · rw [z] at hk; cases hk
    obtain ⟨c, hc⟩ := I.ok.has x (.inl hk)
    obtain ⟨w', z⟩ := I.cell x c hc
    refine wpAny_storeName_cell I.ok.kind hk hc z (fun h' hc' hs => ?_)
    obtain ⟨oc, hoc, hocd⟩ := id z
    refine h { s with heap := h' } ⟨I.ok, I.os, I.bare, ⟨fun b o e n hb hx => ?_, fun b o e n hb hx => ?_, I.base.free, fun b o e hx => ?_, I.base.tups, I.base.frzs, I.base.tbls⟩, ⟨m, hn.sameBut hs (Ne.symm (cne x c hc)), fun j y v' e1 e2 e3 => ?_⟩, fun y c' e => ?_, I.free, I.freeC, fun p hp => ?_, tracked ⟨oc, hoc, I.freeC x c hc⟩ hs, by simpa using I.len⟩ ⟨c, hs, .inr hc⟩
    · exact (hs.2 b (Nat.ne_of_lt (Nat.lt_of_lt_of_le (Heap.lt_size e) (I.ok.cab x c hfn hc)))).trans (I.base.keep b o e n hb hx)
    · obtain ⟨sl, e1⟩ := I.base.slot b o e n hb hx
      exact ⟨sl, (hs.2 b (Nat.ne_of_lt (Nat.lt_of_lt_of_le (Heap.lt_size e) (I.ok.cab x c hfn hc)))).trans e1⟩
    · obtain ⟨o', e1⟩ := I.base.there b o e hx
      exact ⟨o', (hs.2 b (Nat.ne_of_lt (Nat.lt_of_lt_of_le (Heap.lt_size e) (I.ok.cab x c hfn hc)))).trans e1⟩
    · by_cases hj : j = i
      · subst hj
        rw [hi] at e1; cases e1
        rw [List.getElem?_set_self hiσ] at e2
        cases e2
        exact ⟨u, r, .inr ⟨.inl hk, c, hc, hc'⟩⟩
      · rw [List.getElem?_set_ne (Ne.symm hj)] at e2
        obtain ⟨u', r', q⟩ := hl j y v' e1 e2 e3
        refine ⟨u', r', ?_⟩
        rcases q with q | ⟨k, c', e, z'⟩
        · exact .inl q
        · refine .inr ⟨k, c', e, z'.sameBut hs ?_⟩
          rintro rfl
          exact hj (nodup_ix hN e1 (I.ok.inj _ _ _ e hc ▸ hi))
    · by_cases hcc : c' = c
      · subst hcc; exact ⟨_, hc'⟩
      · obtain ⟨w2, z2⟩ := I.cell y c' e
        exact ⟨w2, z2.sameBut hs hcc⟩
    · obtain ⟨e, n, ne, nf, d⟩ := I.pin p hp
      refine ⟨(hs.2 p.1 ?_).trans e, n, ne, nf, d⟩
      intro q
      rw [q, hoc] at e
      have q' : oc = p.2 := Option.some.inj e
      exact d w' (by rw [← q']; exact hocd)
theorem store_ok {M : Model} {A : Around} {E : Value → Shared → Prop} {i : Nat} {x : Str} {v : V} {u : Value} {Q : Unit → Shared → Prop} (I : Inv X pins σ H s) (hN : X.N.Nodup) (hi : X.N[i]? = some x) (hx : Loc X.env.scope x) (r : RelV v u)
    (h : ∀ s', Inv X pins (σ.set i (some v)) H s' → Q () s') (hf : X.fn x = true ∨ X.env.scope.names.lookup x = some .local := by first | exact .inl rfl | exact .inr rfl | assumption) : wpAny M A (storeName X.env x u) Q E s :=
  store_ok2 I hN hi hx r (fun s' I' _ => h s' I') hf
theorem Inv.call' {s' : Shared} {ch : List Addr} (I : Inv X pins σ H s) (ho : s'.os = s.os) (u : Un (frs X.stack) ch H H' s.heap s'.heap) (hok : HOk X.prog X.w H' s'.heap) (hg : AllBare s'.gens)
    (hch : ∀ b ∈ ch, (b ∈ X.ex ∨ X.s₀.heap.objs.size ≤ b) ∧ b ≠ X.env.locals ∧ (∀ x c, X.env.cells.lookup x = some c → c ≠ b) ∧ ∀ p ∈ X.pn ++ pins, p.1 ≠ b) : Inv X pins σ H' s' := by
  obtain ⟨h', g', d', t', o'⟩ := s'
  have e : o' = s.os := ho
  subst e
  exact I.call (g' := g') (t' := t') (d' := d') u hok hg hch
end
abbrev XK := Value → Option Addr → Hp → Prop
abbrev St := List (Option V)
abbrev VK := V → Hp → Prop
abbrev TE := St → Hp → VK → Prop
abbrev TT := St → Hp → (Bool → Hp → Prop) → Prop
abbrev TA := St → Hp → (List V → Hp → Prop) → Prop
structure Ends where
  nx : St → Hp → Prop
  rt : VK
  bk : St → Hp → Prop := fun _ _ => False
  ct : St → Hp → Prop := fun _ _ => False
abbrev TS := Ends → St → Hp → Prop
def EP (X : Cx) (pins : List (Addr × Obj)) (σ : St) (Q : VK) (u : Value) (s' : Shared) : Prop := ∃ v H', Inv X pins σ H' s' ∧ RelV v u ∧ Q v H'
def TP (X : Cx) (pins : List (Addr × Obj)) (σ : St) (Q : Bool → Hp → Prop) (b : Bool) (s' : Shared) : Prop := ∃ H', Inv X pins σ H' s' ∧ Q b H'
def AP (X : Cx) (pins : List (Addr × Obj)) (σ : St) (Q : List V → Hp → Prop) (us : List Value) (s' : Shared) : Prop := ∃ vs H', Inv X pins σ H' s' ∧ Vals vs us ∧ Q vs H'
def SP (X : Cx) (pins : List (Addr × Obj)) (D : Ends) (f : Flow) (s' : Shared) : Prop :=
  match f with
  | .next => ∃ σ' H', Inv X pins σ' H' s' ∧ D.nx σ' H'
  | .brk => ∃ σ' H', Inv X pins σ' H' s' ∧ D.bk σ' H'
  | .cont => ∃ σ' H', Inv X pins σ' H' s' ∧ D.ct σ' H'
  | .ret u => ∃ v σ' H', Inv X pins σ' H' s' ∧ RelV v u ∧ D.rt v H'
def PE (X : Cx) (e : Expr) (t : TE) : Prop :=
  ∀ (pins : List (Addr × Obj)) (s : Shared) (σ : St) (H : Hp) (Q : VK), Inv X pins σ H s → t σ H Q → wpAny (model X.prog X.w) X.A (eval e X.env) (EP X pins σ Q) X.xe s
def PT (X : Cx) (e : Expr) (t : TT) : Prop :=
  ∀ (pins : List (Addr × Obj)) (s : Shared) (σ : St) (H : Hp) (Q : Bool → Hp → Prop), Inv X pins σ H s → t σ H Q → wpAny (model X.prog X.w) X.A (isTrue e X.env (eval e X.env)) (TP X pins σ Q) X.xe s
def PW (X : Cx) (e : Expr) (t : TT) : Prop :=
  ∀ (whole : Sem Value) (pins : List (Addr × Obj)) (s : Shared) (σ : St) (H : Hp) (Q : Bool → Hp → Prop), Inv X pins σ H s → t σ H Q → wpAny (model X.prog X.w) X.A (isTrue e X.env whole) (TP X pins σ Q) X.xe s
theorem PW.pt {X : Cx} {e : Expr} {t : TT} (h : PW X e t) : PT X e t := h _
def PA (X : Cx) (es : List Expr) (t : TA) : Prop :=
  ∀ (pos : Pos) (pins : List (Addr × Obj)) (s : Shared) (σ : St) (H : Hp) (Q : List V → Hp → Prop), Inv X pins σ H s → t σ H Q → wpAny (model X.prog X.w) X.A (spliced (backTo pos (starEach es X.env))) (AP X pins σ Q) X.xe s
def PS (X : Cx) (st : Stmt) (t : TS) : Prop :=
  ∀ (pins : List (Addr × Obj)) (s : Shared) (σ : St) (H : Hp) (D : Ends), Inv X pins σ H s → t D σ H → wpAny (model X.prog X.w) X.A (exec st X.env) (SP X pins D) X.xe s
def PSs (X : Cx) (st : List Stmt) (t : TS) : Prop :=
  ∀ (pins : List (Addr × Obj)) (s : Shared) (σ : St) (H : Hp) (D : Ends), Inv X pins σ H s → t D σ H → wpAny (model X.prog X.w) X.A (execs st X.env) (SP X pins D) X.xe s
theorem thn {α : Type} {t : Sem α} {Q Q' : α → Shared → Prop} {M : Model} {A : Around} {E : Value → Shared → Prop} {s : Shared} (h : wpAny M A t Q E s) (hQ : ∀ a s, Q a s → Q' a s) : wpAny M A t Q' E s := wpAny_mono h hQ fun _ _ x => x
end L2
namespace L2
open PySem PySem.Spec PyProof.Rows
section
variable {X : Cx}
def tVar (i : Nat) : TE := fun σ H Q => ∃ v, σ[i]? = some (some v) ∧ Q v H
def tC (v : V) : TE := fun _ H Q => Q v H
theorem pe_var {i : Nat} {x : Str} {pos : Pos} (hN : X.N[i]? = some x) (hv : Vis X.env.scope x) (hd : (x == ("__debug__" : Str)) = false := by decide) (hcd : (x == ("__classdict__" : Str)) = false := by decide) : PE X (.Name x pos) (tVar i) := by
  intro pins s σ H Q I h
  obtain ⟨v, e, h⟩ := h
  obtain ⟨m, hn, hl⟩ := I.loc
  obtain ⟨u, r, l⟩ := hl i x v hN e hv
  have fin : EP X pins σ Q u s := ⟨v, H, I, r, h⟩
  rcases l with ⟨hk, hm⟩ | ⟨hk, c, hc, hcell⟩
  · exact wpAny_Name (wpAny_loadName_local I.ok.kind hk hn hm fin) hd
  · rcases hk with hk | hk
    · exact wpAny_Name (wpAny_loadName_cell I.ok.kind hk hc hcell fin) hd
    · exact wpAny_Name (wpAny_loadName_free I.ok.kind hk hc hcell fin hcd) hd
theorem pe_int {i j pos} : PE X (.Constant (.int i) j pos) (tC (.int i)) := fun _ _ _ H _ I h => wpAny_Constant_int ⟨.int i, H, I.tok _, ⟨_, rfl⟩, h⟩
theorem pe_bl {b j pos} : PE X (.Constant (.bool b) j pos) (tC (.bl b)) := fun _ _ _ H _ I h => Constant_bool ⟨.bl b, H, I, rfl, h⟩
theorem pe_non {j pos} : PE X (.Constant .none j pos) (tC .non) := fun _ _ _ H _ I h => Constant_none ⟨.non, H, I, rfl, h⟩
theorem pe_str {x j pos} : PE X (.Constant (.str x) j pos) (tC (.str x)) := fun _ _ _ H _ I h => Calls.Constant_str ⟨.str x, H, I.tok _, ⟨_, rfl⟩, h⟩
def Gl (X : Cx) (x : Str) : Prop := X.env.kindOf x = some .globalImplicit
theorem ld_glob {E : Value → Shared → Prop} {pins : List (Addr × Obj)} {s : Shared} {σ : St} {H : Hp} {x : Str} {u : Value} {pos : Pos} {Q : Value → Shared → Prop} (I : Inv X pins σ H s) (hg : Gl X x) (hm : X.mg x = some u) (h : Q u s)
    (hd : (x == ("__debug__" : Str)) = false := by decide) : wpAny (model X.prog X.w) X.A (eval (.Name x pos) X.env) Q E s :=
  Calls.Name_function_global I.ok.kind hg (Calls.loadGlobal_global (by rw [I.ok.glob]; exact I.mod.glob.keeps I.bk) hm h) hd
theorem ld_blt {E : Value → Shared → Prop} {pins : List (Addr × Obj)} {s : Shared} {σ : St} {H : Hp} {x : Str} {u : Value} {pos : Pos} {Q : Value → Shared → Prop} (I : Inv X pins σ H s) (hg : Gl X x) (hm : X.mg x = none) (hv : bootBuiltins x = some u) (h : Q u s)
    (hn : x ≠ "__name__" := by decide) (hd : (x == ("__debug__" : Str)) = false := by decide) : wpAny (model X.prog X.w) X.A (eval (.Name x pos) X.env) Q E s := by
  obtain ⟨mb, h1, h2⟩ := I.mod.blt
  exact Calls.Name_function_global I.ok.kind hg (Calls.loadGlobal_builtin (by rw [I.ok.glob]; exact I.mod.glob.keeps I.bk) hm (by rw [I.ok.blt]; exact h1.keeps I.bk) ((h2 x hn).trans hv) h) hd
theorem pe_bltn {x : Str} {v : V} {u : Value} {pos : Pos} (hg : Gl X x) (hm : X.mg x = none) (hv : bootBuiltins x = some u) (r : RelV v u) (hn : x ≠ "__name__" := by decide) (hd : (x == ("__debug__" : Str)) = false := by decide) : PE X (.Name x pos) (tC v) :=
  fun _ _ _ H _ I h => ld_blt I hg hm hv ⟨v, H, I, r, h⟩ hn hd
variable {a b : Expr} {ta tb : TE} {pos : Pos}
def tB (t : TE) : TT := fun σ H Q => t σ H fun x H1 => ∃ c, x = .bl c ∧ Q c H1
theorem pt_val {e : Expr} {t : TE} (h : PE X e t) (he : ∀ whole, isTrue e X.env whole = (do let v ← whole; standAt e.pos; holding [v] (truthy v)) := by intro _; rfl) : PT X e (tB t) := by
  intro pins s σ H Q I hw
  refine isTrue_plain (thn (h pins s σ H _ I hw) fun v s1 ⟨x, H1, I1, r1, q1⟩ => ?_) (he _)
  obtain ⟨d, rfl, q⟩ := q1
  cases r1
  exact wpAny_truthy_bool ⟨H1, I1, q⟩
variable {tA tB' : TT} {rest : List Expr}
def tAnd (t u : TT) : TT := fun σ H Q => t σ H fun c H1 => if c = true then u σ H1 Q else Q false H1
def tOr (t u : TT) : TT := fun σ H Q => t σ H fun c H1 => if c = true then Q true H1 else u σ H1 Q
def tNot (t : TT) : TT := fun σ H Q => t σ H fun c H1 => Q (!c) H1
theorem pw_and1 (ha : PT X a tA) : PW X (.BoolOp .And [a] pos) tA := by
  intro wh pins s σ H Q I h
  refine isTrue_and (thn (ha pins s σ H Q I h) fun c s1 e => ?_)
  cases c with
  | true => exact isTrue_and_nil e
  | false => exact e
theorem pw_or1 (ha : PT X a tA) : PW X (.BoolOp .Or [a] pos) tA := by
  intro wh pins s σ H Q I h
  refine isTrue_or (thn (ha pins s σ H Q I h) fun c s1 e => ?_)
  cases c with
  | false => exact isTrue_or_nil e
  | true => exact e
theorem pw_and (ha : PT X a tA) (hb : PW X (.BoolOp .And (b :: rest) pos) tB') : PW X (.BoolOp .And (a :: b :: rest) pos) (tAnd tA tB') := by
  intro wh pins s σ H Q I h
  refine isTrue_and (thn (ha pins s σ H _ I h) fun c s1 ⟨H1, I1, q1⟩ => ?_)
  cases c with
  | true => exact hb wh pins s1 σ H1 Q I1 q1
  | false => exact ⟨H1, I1, q1⟩
theorem pw_or (ha : PT X a tA) (hb : PW X (.BoolOp .Or (b :: rest) pos) tB') : PW X (.BoolOp .Or (a :: b :: rest) pos) (tOr tA tB') := by
  intro wh pins s σ H Q I h
  refine isTrue_or (thn (ha pins s σ H _ I h) fun c s1 ⟨H1, I1, q1⟩ => ?_)
  cases c with
  | true => exact ⟨H1, I1, q1⟩
  | false => exact hb wh pins s1 σ H1 Q I1 q1
theorem pt_not (ha : PT X a tA) : PT X (.UnaryOp .Not a pos) (tNot tA) := by
  intro pins s σ H Q I h
  exact isTrue_not (ha pins s σ H (fun c H1 => Q (!c) H1) I h)
def tAndV (ta tb : TE) : TE := fun σ H Q => ta σ H fun x H1 => ∃ c, x = .bl c ∧ if c = true then tb σ H1 Q else Q (.bl false) H1
def tNotV (ta : TE) : TE := fun σ H Q => ta σ H fun x H1 => ∃ c, x = .bl c ∧ Q (.bl (!c)) H1
theorem pe_one {op} {t : TE} (h : PE X a t) : PE X (.BoolOp op [a] pos) t := fun pins s σ H Q I hw => BoolOp_one (h pins s σ H Q I hw)
theorem pe_and (ha : PE X a ta) (hb : PE X (.BoolOp .And (b :: rest) pos) tb) : PE X (.BoolOp .And (a :: b :: rest) pos) (tAndV ta tb) := by
  intro pins s σ H Q I h
  refine BoolOp_and (thn (ha pins s σ H _ I h) fun v s1 ⟨x, H1, I1, r1, q1⟩ => ?_)
  obtain ⟨c, rfl, q1⟩ := q1
  cases r1
  refine wpAny_truthy_bool ?_
  cases c with
  | true => exact hb pins s1 σ H1 Q I1 q1
  | false => exact ⟨.bl false, H1, I1, rfl, q1⟩
theorem pe_not (ha : PE X a ta) : PE X (.UnaryOp .Not a pos) (tNotV ta) := by
  intro pins s σ H Q I h
  refine UnaryOp_ (thn (ha pins s σ H _ I h) fun v s1 ⟨x, H1, I1, r1, q1⟩ => ?_)
  obtain ⟨c, rfl, q1⟩ := q1
  cases r1
  exact not_of (wpAny_truthy_bool ⟨.bl (!c), H1, I1, rfl, q1⟩)
def tIf (t : TT) (ta tb : TE) : TE := fun σ H Q => t σ H fun c H1 => if c = true then ta σ H1 Q else tb σ H1 Q
theorem pe_ifExp {c : Expr} (hc : PT X c tA) (ha : PE X a ta) (hb : PE X b tb) : PE X (.IfExp c a b pos) (tIf tA ta tb) := by
  intro pins s σ H Q I h
  refine wpAny_IfExp (thn (hc pins s σ H _ I h) fun d s1 ⟨H1, I1, q1⟩ => ?_)
  cases d with
  | true => exact ha pins s1 σ H1 Q I1 q1
  | false => exact hb pins s1 σ H1 Q I1 q1
end
end L2
namespace L2
open PySem PySem.Spec PyProof.Rows
def SqL (K : PySem.W.Frag) (H : Hp) (a : Addr) (xs : List V) : Prop :=
  Rd H a (.lst xs) ∨
    ∃ (o : Obj) (its : Array Value) (n : Nat), K.lookup a = some o ∧ o.cls = .type "list" ∧ o.dict = none ∧ o.data = .seq its n ∧ its.size ≤ sizeLine ∧ Vals xs its.toList
def SqT (K : PySem.W.Frag) (H : Hp) (a : Addr) (xs : List V) : Prop :=
  Rd H a (.tup xs) ∨
    ∃ (o : Obj) (its : Array Value) (n : Nat), K.lookup a = some o ∧ o.cls = .type "tuple" ∧ o.data = .seq its n ∧ its.size ≤ sizeLine ∧ Vals xs its.toList
def absV : Value → Option V
  | .none => some .non
  | .bool b => some (.bl b)
  | .int i _ => some (.int i)
  | .str x _ => some (.str x)
  | .bytes b _ => some (.byt b)
  | .float b _ => some (.flt b)
  | .ref a => some (.ref a)
  | .type n => some (.ty n)
  | _ => none
theorem RelV.abs {x : V} {u : Value} (r : RelV x u) : absV u = some x := by
  cases x with
  | non => cases r; rfl
  | bl _ => cases r; rfl
  | int _ => obtain ⟨t, rfl⟩ := r; rfl
  | str _ => obtain ⟨t, rfl⟩ := r; rfl
  | byt _ => obtain ⟨t, rfl⟩ := r; rfl
  | flt _ => obtain ⟨t, rfl⟩ := r; rfl
  | ref _ => cases r; rfl
  | ty _ => cases r; rfl
theorem RelV.inj {x y : V} {u : Value} (r : RelV x u) (q : RelV y u) : x = y := Option.some.inj (r.abs.symm.trans q.abs)
theorem Vals.inj : ∀ {xs ys : List V} {us : List Value}, Vals xs us → Vals ys us → xs = ys
  | _, _, _, .nil, .nil => rfl
  | _, _, _, .cons r t, .cons r' t' => by rw [r.inj r', Vals.inj t t']
section
variable {X : Cx} {pins : List (Addr × Obj)} {σ : St} {H : Hp} {s : Shared} {a : Addr} {xs ys : List V}
theorem SqL.of {K : PySem.W.Frag} (h : H a = some (.lst xs)) : SqL K H a xs := .inl (.inl h)
theorem SqT.of {K : PySem.W.Frag} (h : H a = some (.tup xs)) : SqT K H a xs := .inl (.inl h)
theorem Inv.list (I : Inv X pins σ H s) (h : SqL X.K H a xs) : ∃ its : List Value, Vals xs its ∧ PlainL s.heap a its.toArray ∧ xs.length ≤ sizeLine := by
  rcases h with h | ⟨o, its, n, hk, hc, hd, hs, hz, r⟩
  · obtain ⟨z, its, n, r, e⟩ := h.ok I.hok
    exact ⟨its, r, ⟨_, n, e, rfl, rfl, rfl⟩, z⟩
  · refine ⟨its.toList, r, ⟨o, n, I.kIn a o hk, hc, hd, by simpa using hs⟩, ?_⟩
    have e := r.length
    simp only [Array.length_toList] at e
    omega
theorem Inv.tuple (I : Inv X pins σ H s) (h : SqT X.K H a xs) : ∃ its : List Value, Vals xs its ∧ IsTup s.heap a its.toArray ∧ xs.length ≤ sizeLine := by
  rcases h with h | ⟨o, its, n, hk, hc, hs, hz, r⟩
  · obtain ⟨z, its, r, p⟩ := h.ok I.hok
    exact ⟨its, r, p, z⟩
  · refine ⟨its.toList, r, ⟨o, I.kIn a o hk, hc, n, by simpa using hs⟩, ?_⟩
    have e := r.length
    simp only [Array.length_toList] at e
    omega
theorem Inv.list_inj (I : Inv X pins σ H s) (h : SqL X.K H a xs) (h' : SqL X.K H a ys) : xs = ys := by
  obtain ⟨its, r, ⟨o, n, e, _, _, d⟩, _⟩ := I.list h
  obtain ⟨its', r', ⟨o', n', e', _, _, d'⟩, _⟩ := I.list h'
  rw [e] at e'; cases e'
  rw [d] at d'
  injection d' with d1 _
  have : its = its' := by simpa using congrArg Array.toList d1
  subst this
  exact r.inj r'
theorem Inv.tuple_inj (I : Inv X pins σ H s) (h : SqT X.K H a xs) (h' : SqT X.K H a ys) : xs = ys := by
  obtain ⟨its, r, ⟨o, e, _, n, d⟩, _⟩ := I.tuple h
  obtain ⟨its', r', ⟨o', e', _, n', d'⟩, _⟩ := I.tuple h'
  rw [e] at e'; cases e'
  rw [d] at d'
  injection d' with d1 _
  have : its = its' := by simpa using congrArg Array.toList d1
  subst this
  exact r.inj r'
end
abbrev Cx.wish (X : Cx) (E : Value → Shared → Prop) : Cx := { X with xe := E }
abbrev Cx.nox (X : Cx) : Cx := X.wish fun _ _ => False
theorem Cx.Ok.wish {X : Cx} (ok : X.Ok) (E : Value → Shared → Prop) : (X.wish E).Ok :=
  ⟨ok.mod, ok.kind, ok.glob, ok.blt, ok.above, ok.inj, ok.has, ok.cab, ok.hd, ok.frames, ok.stk, ok.exf, ok.bs, ok.bsz, ok.noex, ok.exfs, ok.funs, ok.frf⟩
theorem Cx.Ok.unwish {X : Cx} {E : Value → Shared → Prop} (ok : (X.wish E).Ok) : X.Ok :=
  ⟨ok.mod, ok.kind, ok.glob, ok.blt, ok.above, ok.inj, ok.has, ok.cab, ok.hd, ok.frames, ok.stk, ok.exf, ok.bs, ok.bsz, ok.noex, ok.exfs, ok.funs, ok.frf⟩
section
variable {X : Cx} {pins : List (Addr × Obj)} {σ : St} {H : Hp} {s : Shared} {E : Value → Shared → Prop}
theorem Inv.wish (I : Inv X pins σ H s) (E : Value → Shared → Prop) : Inv (X.wish E) pins σ H s := ⟨I.ok.wish E, I.os, I.bare, I.base, I.loc, I.cell, I.free, I.freeC, I.pin, I.hok, I.len⟩
theorem Inv.unwish (I : Inv (X.wish E) pins σ H s) : Inv X pins σ H s := ⟨I.ok.unwish, I.os, I.bare, I.base, I.loc, I.cell, I.free, I.freeC, I.pin, I.hok, I.len⟩
theorem SP.unwish {D : Ends} {f : Flow} {s' : Shared} (h : SP (X.wish E) pins D f s') : SP X pins D f s' := by
  cases f with
  | next => obtain ⟨σ', H', I, q⟩ := h; exact ⟨σ', H', I.unwish, q⟩
  | brk => obtain ⟨σ', H', I, q⟩ := h; exact ⟨σ', H', I.unwish, q⟩
  | cont => obtain ⟨σ', H', I, q⟩ := h; exact ⟨σ', H', I.unwish, q⟩
  | ret u => obtain ⟨v, σ', H', I, r, q⟩ := h; exact ⟨v, σ', H', I.unwish, r, q⟩
theorem PE.nox {e : Expr} {t : TE} (h : PE X.nox e t) : PE X e t := fun pins s σ H Q I hw =>
  wpAny_mono (h pins s σ H Q (I.wish _) hw) (fun _ _ ⟨v, H', I', r, q⟩ => ⟨v, H', I'.unwish, r, q⟩) fun _ _ z => False.elim z
theorem PT.nox {e : Expr} {t : TT} (h : PT X.nox e t) : PT X e t := fun pins s σ H Q I hw =>
  wpAny_mono (h pins s σ H Q (I.wish _) hw) (fun _ _ ⟨H', I', q⟩ => ⟨H', I'.unwish, q⟩) fun _ _ z => False.elim z
theorem PSs.nox {st : List Stmt} {t : TS} (h : PSs X.nox st t) : PSs X st t := fun pins s σ H D I hw =>
  wpAny_mono (h pins s σ H D (I.wish _) hw) (fun _ _ q => q.unwish) fun _ _ z => False.elim z
end
section
variable {X : Cx} {st : Stmt} {rest : List Stmt} {t u : TS} {e : Expr} {te : TE} {pos : Pos}
def tNext : TS := fun D σ H => D.nx σ H
def tSeq (t u : TS) : TS := fun D σ H => t { D with nx := u D } σ H
theorem pss_nil : PSs X [] tNext := fun _ _ σ H _ I h => wpAny_execs_nil ⟨σ, H, I, h⟩
theorem pss_cons (h1 : PS X st t) (h2 : PSs X rest u) : PSs X (st :: rest) (tSeq t u) := by
  intro pins s σ H D I h
  refine wpAny_execs_cons (thn (h1 pins s σ H { D with nx := u D } I h) fun f s1 q => ?_)
  cases f with
  | next =>
    obtain ⟨σ', H', I', q⟩ := q
    exact h2 pins s1 σ' H' D I' q
  | ret v => exact q
  | brk => exact q
  | cont => exact q
theorem pss_one (h1 : PS X st t) : PSs X [st] t := by
  intro pins s σ H D I h
  refine wpAny_execs_cons (thn (h1 pins s σ H D I h) fun f s1 q => ?_)
  cases f with
  | next => exact wpAny_execs_nil q
  | ret v => exact q
  | brk => exact q
  | cont => exact q
theorem Inv.quiet {pins : List (Addr × Obj)} {σ : St} {H : Hp} {s : Shared} (I : Inv X pins σ H s) : interactive X.env = false := by simp [interactive, I.ok.kind]
def tDrop (te : TE) : TS := fun D σ H => te σ H fun _ H1 => D.nx σ H1
theorem ps_expr (he : PE X e te) (hs : swapsWith e none pos.line X.env = pure false := by rfl) : PS X (.Expr e pos) (tDrop te) := by
  intro pins s σ H D I h
  exact wpAny_Expr_any (thn (he pins s σ H _ I h) fun v s1 ⟨x, H1, I1, r1, q1⟩ => ⟨σ, H1, I1, q1⟩) I.quiet hs
def tRet (te : TE) : TS := fun D σ H => te σ H D.rt
theorem ps_ret (he : PE X e te) : PS X (.Return (some e) pos) (tRet te) := by
  intro pins s σ H D I h
  exact wpAny_Return_some (thn (he pins s σ H _ I h) fun v s1 ⟨x, H1, I1, r1, q1⟩ => ⟨x, σ, H1, I1, r1, q1⟩)
def tIfS (c : TT) (t u : TS) : TS := fun D σ H => c σ H fun b H1 => if b = true then t D σ H1 else u D σ H1
theorem ps_if {c : Expr} {a b : List Stmt} {tc : TT} (hc : PT X c tc) (ha : PSs X a t) (hb : PSs X b u) : PS X (.If c a b pos) (tIfS tc t u) := by
  intro pins s σ H D I h
  refine wpAny_If (thn (hc pins s σ H _ I h) fun d s1 ⟨H1, I1, q1⟩ => ?_)
  cases d with
  | true => exact ha pins s1 σ H1 D I1 q1
  | false => exact hb pins s1 σ H1 D I1 q1
end
abbrev TG := V → St → Hp → (St → Hp → Prop) → Prop
abbrev TGs := List V → St → Hp → (St → Hp → Prop) → Prop
def PG (X : Cx) (target : Expr) (t : TG) : Prop :=
  ∀ (pins : List (Addr × Obj)) (s : Shared) (σ : St) (H : Hp) (v : V) (u : Value) (Q : St → Hp → Prop), Inv X pins σ H s → RelV v u → t v σ H Q →
    wpAny (model X.prog X.w) X.A (assign target X.env u) (fun _ s' => ∃ σ' H', Inv X pins σ' H' s' ∧ Q σ' H') X.xe s
def PGs (X : Cx) (ts : List Expr) (t : TGs) : Prop :=
  ∀ (pins : List (Addr × Obj)) (s : Shared) (σ : St) (H : Hp) (vs : List V) (us : List Value) (Q : St → Hp → Prop), Inv X pins σ H s → Vals vs us → t vs σ H Q →
    wpAny (model X.prog X.w) X.A (assignInOrder ((assignEach ts X.env).map (·.2)) us) (fun _ s' => ∃ σ' H', Inv X pins σ' H' s' ∧ Q σ' H') X.xe s
abbrev TSet := V → V → V → Hp → (Hp → Prop) → Prop
def PSet (X : Cx) (t : TSet) : Prop :=
  ∀ (pins : List (Addr × Obj)) (s : Shared) (σ : St) (H : Hp) (o i v : V) (ov iv u : Value) (Q : Hp → Prop), Inv X pins σ H s → RelV o ov → RelV i iv → RelV v u → t o i v H Q →
    wpAny (model X.prog X.w) X.A (setItem ov iv u) (fun _ s' => ∃ H', Inv X pins σ H' s' ∧ Q H') X.xe s
section
variable {X : Cx} {pos : Pos}
def gName (i : Nat) : TG := fun v σ H Q => Q (σ.set i (some v)) H
theorem pg_name {i : Nat} {x : Str} (hN : X.N.Nodup) (hi : X.N[i]? = some x) (hx : Loc X.env.scope x) (hf : X.fn x = true ∨ X.env.scope.names.lookup x = some .local := by first | exact .inl rfl | exact .inr rfl | assumption) : PG X (.Name x pos) (gName i) := by
  intro pins s σ H v u Q I r h
  exact wpAny_assign_Name (store_ok I hN hi hx r (fun s' I' => ⟨_, H, I', h⟩) hf)
def gNil : TGs := fun vs σ H Q => vs = [] ∧ Q σ H
def gCons (t : TG) (u : TGs) : TGs := fun vs σ H Q => ∃ v r, vs = v :: r ∧ t v σ H fun σ' H' => u r σ' H' Q
theorem pgs_nil : PGs X [] gNil := by
  intro pins s σ H vs us Q I r h
  obtain ⟨e, h⟩ := h
  subst e
  cases r
  exact assignInOrder_nil ⟨σ, H, I, h⟩
theorem pgs_cons {e : Expr} {es : List Expr} {t : TG} {u : TGs} (h1 : PG X e t) (h2 : PGs X es u)
    (hs : (assignEach (e :: es) X.env).map (·.2) = assign e X.env :: (assignEach es X.env).map (·.2) := by rfl) : PGs X (e :: es) (gCons t u) := by
  intro pins s σ H vs us Q I r h
  obtain ⟨v, vr, e1, h⟩ := h
  subst e1
  cases r with
  | cons r rr =>
    rw [hs]
    refine assignInOrder_cons (thn (h1 pins s σ H _ _ _ I r h) fun _ s1 ⟨σ1, H1, I1, q1⟩ => ?_)
    exact h2 pins s1 σ1 H1 _ _ Q I1 rr q1
def gTup (K : PySem.W.Frag) (n : Nat) (t : TGs) : TG := fun v σ H Q => ∃ a xs, v = .ref a ∧ SqT K H a xs ∧ xs.length = n ∧ t xs σ H Q
theorem pg_tup {es : List Expr} {k : Nat} {t : TGs} {n : Nat} (hc : X.calm = true) (h : PGs X es t)
    (hn : (assignEach es X.env).length = n := by rfl) (hst : (assignEach es X.env).findIdx? (·.1) = none := by rfl) : PG X (.Tuple es k pos) (gTup X.K n t) := by
  intro pins s σ H v u Q I r hw
  obtain ⟨a, xs, e1, hq, hl, hw⟩ := hw
  subst e1
  cases r
  obtain ⟨its, rv, ht, hz⟩ := I.tuple hq
  refine assign_Tuple_tuple (I.ok.hd hc) ht (by simp [hn, ← hl, rv.length]) hst fun h' hx => ?_
  have I1 : Inv X pins σ H { s with heap := h' } := I.kept (t' := s.toks) fun b o e => hx b o (Nat.ne_of_lt (Heap.lt_size e)) e
  exact h pins _ σ H xs _ Q I1 (by simpa using rv) hw
def gSub (to ti : TE) (t : TSet) : TG := fun v σ H Q => to σ H fun o H1 => ti σ H1 fun i H2 => t o i v H2 fun H3 => Q σ H3
theorem pg_sub {o i : Expr} {to ti : TE} {t : TSet} (ho : PE X o to) (hi : PE X i ti) (hs : PSet X t)
    (ha : ∀ v, assign (.Subscript o i pos) X.env v = (do
      let ov ← holding [v] (eval o X.env)
      let iv ← holding [v, ov] (eval i X.env)
      standAt pos
      holding [v, ov, iv] (setItem ov iv v)
      release [v, ov, iv] []) := by intro _; rfl) : PG X (.Subscript o i pos) (gSub to ti t) := by
  intro pins s σ H v u Q I r h
  rw [ha]
  refine wpAny_bind (wpAny_holding (thn (ho pins s σ H _ I h) fun ov s1 ⟨x, H1, I1, r1, q1⟩ => ?_))
  refine wpAny_bind (wpAny_holding (thn (hi pins s1 σ H1 _ I1 q1) fun iv s2 ⟨y, H2, I2, r2, q2⟩ => ?_))
  refine wpAny_bind (wpAny_standAt (wpAny_bind (wpAny_holding (thn (hs pins s2 σ H2 x y v ov iv u _ I2 r1 r2 r q2) fun _ s3 ⟨H3, I3, q3⟩ => ?_))))
  exact wpAny_release ⟨σ, H3, I3, q3⟩
def tAsg (te : TE) (g : TG) : TS := fun D σ H => te σ H fun x H1 => g x σ H1 D.nx
theorem ps_asg {tg e : Expr} {te : TE} {g : TG} (he : PE X e te) (hg : PG X tg g) (hs : swapsWithSole [tg] e pos.line X.env = pure false := by rfl) (hw : swappedStores [tg] e X.env = pure none := by rfl)
    (h1 : (assignEach [tg] X.env).map (·.2) = [assign tg X.env] := by rfl) : PS X (.Assign [tg] e pos) (tAsg te g) := by
  intro pins s σ H D I h
  refine wpAny_Assign_stores (thn (he pins s σ H _ I h) fun v s1 ⟨x, H1, I1, r1, q1⟩ => ?_) hs hw
  rw [h1]
  exact thn (hg pins s1 σ H1 x v _ I1 r1 q1) fun _ s2 q => q
theorem ps_set {i : Nat} {x : Str} {e : Expr} {te : TE} {pos' : Pos} (hN : X.N.Nodup) (hi : X.N[i]? = some x) (hx : Loc X.env.scope x) (he : PE X e te) (hs : swapsWith e (some (.Name x pos')) pos.line X.env = pure false := by rfl) (hf : X.fn x = true ∨ X.env.scope.names.lookup x = some .local := by first | exact .inl rfl | exact .inr rfl | assumption) :
    PS X (.Assign [.Name x pos'] e pos) (tAsg te (gName i)) := by
  intro pins s σ H D I h
  refine wpAny_Assign_Name (thn (he pins s σ H _ I h) fun v s1 ⟨y, H1, I1, r1, q1⟩ => ?_) hs
  exact store_ok I1 hN hi hx r1 (fun s2 I2 => ⟨_, H1, I2, q1⟩) hf
end
section
variable {X : Cx} {pos : Pos}
end
structure It where
  go : Nat → Hp → Prop
  yld : Nat → Hp → V → Hp → Prop
  stop : Nat → Hp → Prop
def FpOk (X : Cx) (pins : List (Addr × Obj)) (H : Hp) (b : Addr) : Prop :=
  H b = none ∧ b ≠ X.env.locals ∧ b ∉ X.fs ∧ (b ∈ X.ex ∨ X.s₀.heap.objs.size ≤ b) ∧ (∀ x c, X.env.cells.lookup x = some c → c ≠ b) ∧ ∀ p ∈ X.pn ++ pins, p.1 ≠ b
theorem Inv.fpOk {X : Cx} {pins : List (Addr × Obj)} {σ : St} {H H' : Hp} {s : Shared} {b : Addr} (I : Inv X pins σ H s) (hb : s.heap.objs.size ≤ b) (hn : H' b = none) : FpOk X pins H' b := by
  refine ⟨hn, Nat.ne_of_gt (Nat.lt_of_lt_of_le I.lt hb), I.nofs hb, .inr (Nat.le_trans I.sz hb), fun x c e z => ?_, fun p hp z => ?_⟩
  · obtain ⟨v, q⟩ := I.cell x c e
    exact absurd (Nat.lt_of_lt_of_le q.lt (by rw [z]; exact hb)) (Nat.lt_irrefl _)
  · exact absurd (Nat.lt_of_lt_of_le (Heap.lt_size (I.pin p hp).1) (by rw [z]; exact hb)) (Nat.lt_irrefl _)
structure Turn (P : Program) (w : World) (K : PySem.W.Frag) (tg : Expr) (J : It) (fp : List Addr) (it : Addr) (tn : Nat → Heap → Prop) : Prop where
  mem : it ∈ fp
  obj : ∀ i h, tn i h → ∀ b ∈ fp, ∃ o, h.get? b = some o ∧ ∀ v, o.data ≠ .cell v
  keep : ∀ i h h', tn i h → (∀ b ∈ fp, ∀ o, h.get? b = some o → h'.get? b = some o) → tn i h'
  item : ∀ (X : Cx), X.prog = P → X.w = w → X.K = K → X.calm = true → ∀ (i : Nat) (pins : List (Addr × Obj)) (s : Shared) (σ : St) (H : Hp) (E : Value → Shared → Prop), Inv X pins σ H s → (∀ b ∈ fp, FpOk X pins H b) → tn i s.heap → J.go i H →
    wpAny (model P w) X.A (pyNext (.ref it)) (fun r s1 => ∃ u, r = some u ∧
      wpAny (model P w) X.A (letOwnedTupleGo tg (.ref it) u) (fun _ s2 => ∃ x H', Inv X pins σ H' s2 ∧ RelV x u ∧ J.yld i H x H' ∧ tn (i + 1) s2.heap ∧ ∀ b ∈ fp, H' b = none) E s1) E s
  done : ∀ (X : Cx), X.prog = P → X.w = w → X.K = K → X.calm = true → ∀ (i : Nat) (pins : List (Addr × Obj)) (s : Shared) (σ : St) (H : Hp) (E : Value → Shared → Prop), Inv X pins σ H s → (∀ b ∈ fp, FpOk X pins H b) → tn i s.heap → J.stop i H →
    wpAny (model P w) X.A (pyNext (.ref it)) (fun r s1 => r = none ∧ Inv X pins σ H s1) E s
  self : ∀ (A : Around) (i : Nat) (s : Shared) (Q : Value → Shared → Prop) (E : Value → Shared → Prop), tn i s.heap → Q (.ref it) s → wpAny (model P w) A (pyIter (.ref it)) Q E s
abbrev TI := St → Hp → (It → Hp → Prop) → Prop
def PIE (X : Cx) (pins : List (Addr × Obj)) (σ : St) (tg : Expr) (R : It → Hp → Prop) (itv : Value) (s2 : Shared) : Prop :=
  ∃ (it : Addr) (fp : List Addr) (tn : Nat → Heap → Prop) (J : It) (H' : Hp), itv = .ref it ∧ Inv X pins σ H' s2 ∧ Turn X.prog X.w X.K tg J fp it tn ∧ tn 0 s2.heap ∧ (∀ b ∈ fp, FpOk X pins H' b) ∧ R J H'
def PI (X : Cx) (tg iter : Expr) (wi : TI) : Prop :=
  ∀ (pins : List (Addr × Obj)) (s : Shared) (σ : St) (H : Hp) (R : It → Hp → Prop), Inv X pins σ H s → wi σ H R →
    wpAny (model X.prog X.w) X.A (eval iter X.env) (fun v s1 => wpAny (model X.prog X.w) X.A (pyIter v) (PIE X pins σ tg R) X.xe s1) X.xe s
theorem go_of {M : Model} {A : Around} {E : Value → Shared → Prop} {s : Shared} {tg : Expr} {it : Addr} {u : Value} {o : Obj} {n : String} {vs : Array Value} {Q : Unit → Shared → Prop} (ho : s.heap.get? it = some o) (hc : o.cls = .type n) (hd : o.data = .fields vs)
    (hn : ["enumerate", "zip", "dict_itemiterator", "dict_reverseitemiterator", "odict_iterator", "itertools.zip_longest", "itertools.pairwise"].contains n = false) (hQ : Q () s) : wpAny M A (letOwnedTupleGo tg (.ref it) u) Q E s := by
  unfold letOwnedTupleGo
  cases tg <;> first
    | exact wpAny_pure hQ
    | (cases u <;> first
        | exact wpAny_pure hQ
        | (refine wpAny_bind (wpAny_load ho ?_)
           rw [hc, hd]
           show wpAny M A (if (["enumerate", "zip", "dict_itemiterator", "dict_reverseitemiterator", "odict_iterator", "itertools.zip_longest", "itertools.pairwise"].contains n && vs[0]? == some (rawInt _)) = true then _ else _) Q E s
           rw [if_neg (by intro h; rw [hn, Bool.false_and] at h; cases h)]
           exact wpAny_pure hQ))
def Itl (K : PySem.W.Frag) (a : Addr) : It :=
  ⟨fun i H => ∃ xs x, SqL K H a xs ∧ xs[i]? = some x, fun i H x H' => H' = H ∧ ∀ xs, SqL K H a xs → xs[i]? = some x, fun i H => ∃ xs, SqL K H a xs ∧ xs.length ≤ i⟩
def Itt (K : PySem.W.Frag) (a : Addr) : It :=
  ⟨fun i H => ∃ xs x, SqT K H a xs ∧ xs[i]? = some x, fun i H x H' => H' = H ∧ ∀ xs, SqT K H a xs → xs[i]? = some x, fun i H => ∃ xs, SqT K H a xs ∧ xs.length ≤ i⟩
def Itr (lo : Int) (n : Nat) : It := ⟨fun i _ => i < n, fun i H x H' => H' = H ∧ x = .int (lo + i), fun i _ => n ≤ i⟩
theorem turn_list {P : Program} {w : World} {K : PySem.W.Frag} {tg : Expr} (a it : Addr) : Turn P w K tg (Itl K a) [it] it (fun i h => h.IsListIter it a i) where
  mem := by simp
  obj := fun i h st b hb => by
    have e : b = it := by simpa using hb
    subst e
    obtain ⟨o, e, c, d⟩ := st
    exact ⟨o, e, fun v z => by rw [d] at z; cases z⟩
  keep := fun i h h' st k => st.at fun o e => k it (by simp) o e
  item := by
    intro X hP hw hK hc i pins s σ H E I hf st hg
    subst hP hw hK
    obtain ⟨xs, x, hq, hx⟩ := hg
    obtain ⟨its, rv, p, hz⟩ := I.list hq
    obtain ⟨u, hu, ru⟩ := rv.get hx
    obtain ⟨f0, f1, f2, f3, f4, f5⟩ := hf it (by simp)
    refine wpAny_pyNext_list_item st p.isList (x := u) (by simpa using hu) fun h' st' sb => ?_
    have I1 : Inv X pins σ H { s with heap := h' } := I.turned (t' := s.toks) (fun b o hb e => (sb.2 b hb).trans e) f0 f1 f3 f4 f5
    obtain ⟨o, e, c, d⟩ := id st'
    exact ⟨u, rfl, go_of (s := { s with heap := h' }) e c d (by decide) ⟨x, H, I1, ru, ⟨rfl, fun ys hy => by rw [I.list_inj hy hq]; exact hx⟩, st', fun b hb => (hf b hb).1⟩⟩
  done := by
    intro X hP hw hK hc i pins s σ H E I hf st hg
    subst hP hw hK
    obtain ⟨xs, hq, hx⟩ := hg
    obtain ⟨its, rv, p, hz⟩ := I.list hq
    obtain ⟨f0, f1, f2, f3, f4, f5⟩ := hf it (by simp)
    have hl := rv.length
    exact wpAny_pyNext_list_end (I.ok.hd hc) st p.isList (by simp; omega) fun h' eb => ⟨rfl, I.turned (t' := s.toks) (fun b o hb e => eb b o hb e) f0 f1 f3 f4 f5⟩
  self := fun _ _ _ _ _ st h => wpAny_pyIter_listiter st h
theorem turn_tuple {P : Program} {w : World} {K : PySem.W.Frag} {tg : Expr} (a it : Addr) : Turn P w K tg (Itt K a) [it] it (fun i h => h.IsTupleIter it a i) where
  mem := by simp
  obj := fun i h st b hb => by
    have e : b = it := by simpa using hb
    subst e
    obtain ⟨o, e, c, d⟩ := st
    exact ⟨o, e, fun v z => by rw [d] at z; cases z⟩
  keep := fun i h h' st k => st.at fun o e => k it (by simp) o e
  item := by
    intro X hP hw hK hc i pins s σ H E I hf st hg
    subst hP hw hK
    obtain ⟨xs, x, hq, hx⟩ := hg
    obtain ⟨its, rv, p, hz⟩ := I.tuple hq
    obtain ⟨u, hu, ru⟩ := rv.get hx
    obtain ⟨f0, f1, f2, f3, f4, f5⟩ := hf it (by simp)
    refine wpAny_pyNext_tuple_item st (show s.heap.IsTuple a its.toArray from p) (x := u) (by simpa using hu) fun h' st' sb => ?_
    have I1 : Inv X pins σ H { s with heap := h' } := I.turned (t' := s.toks) (fun b o hb e => (sb.2 b hb).trans e) f0 f1 f3 f4 f5
    obtain ⟨o, e, c, d⟩ := id st'
    exact ⟨u, rfl, go_of (s := { s with heap := h' }) e c d (by decide) ⟨x, H, I1, ru, ⟨rfl, fun ys hy => by rw [I.tuple_inj hy hq]; exact hx⟩, st', fun b hb => (hf b hb).1⟩⟩
  done := by
    intro X hP hw hK hc i pins s σ H E I hf st hg
    subst hP hw hK
    obtain ⟨xs, hq, hx⟩ := hg
    obtain ⟨its, rv, p, hz⟩ := I.tuple hq
    obtain ⟨f0, f1, f2, f3, f4, f5⟩ := hf it (by simp)
    have hl := rv.length
    exact wpAny_pyNext_tuple_end (I.ok.hd hc) st (show s.heap.IsTuple a its.toArray from p) (by simp; omega) fun h' eb => ⟨rfl, I.turned (t' := s.toks) (fun b o hb e => eb b o hb e) f0 f1 f3 f4 f5⟩
  self := fun _ _ _ _ _ st h => wpAny_pyIter_tupleiter st h
theorem turn_range {P : Program} {w : World} {K : PySem.W.Frag} {tg : Expr} (it : Addr) (lo : Int) (n : Nat) : Turn P w K tg (Itr lo n) [it] it (fun i h => IsRangeIter h it (lo + (i : Nat) * 1) ((n : Int) - (i : Nat)) 1) where
  mem := by simp
  obj := fun i h st b hb => by
    have e : b = it := by simpa using hb
    subst e
    exact ⟨_, st, fun v z => by
      have z' : Data.fields _ = Data.cell v := z
      cases z'⟩
  keep := fun i h h' st k => k it (by simp) _ st
  item := by
    intro X hP hw hK hc i pins s σ H E I hf st hg
    subst hP hw hK
    obtain ⟨f0, f1, f2, f3, f4, f5⟩ := hf it (by simp)
    have W := Walks.range (prog := X.prog) (w := X.w) (I.ok.hd hc) it lo 1 n
    refine W.item i s _ _ hg st fun v h' tk hv st' kk => ?_
    obtain ⟨t, rfl⟩ := hv
    have I1 : Inv X pins σ H { s with heap := h', toks := tk } := I.turned (fun b o hb e => kk b o (by simpa using hb) e) f0 f1 f3 f4 f5
    refine ⟨_, rfl, go_of (s := { s with heap := h', toks := tk }) (n := "range_iterator") st' rfl rfl (by decide) ⟨.int (lo + i), H, I1, ⟨t, ?_⟩, ⟨rfl, rfl⟩, st', fun b hb => (hf b hb).1⟩⟩
    rw [Int.mul_one]
  done := by
    intro X hP hw hK hc i pins s σ H E I hf st hg
    subst hP hw hK
    obtain ⟨f0, f1, f2, f3, f4, f5⟩ := hf it (by simp)
    exact wpAny_pyNext_range_end (I.ok.hd hc) st (by have : n ≤ i := hg; omega) fun h' eb => ⟨rfl, I.turned (t' := s.toks) (fun b o hb e => eb b o hb e) f0 f1 f3 f4 f5⟩
  self := fun _ _ _ _ _ st h => wpAny_pyIter_rangeiter st h
end L2
namespace L2
open PySem PySem.Spec PyProof.Rows
section
variable {X : Cx} {tg : Expr}
def iList (K : PySem.W.Frag) (tl : TE) : TI := fun σ H R => tl σ H fun x H1 => ∃ a, x = .ref a ∧ (∃ xs, SqL K H1 a xs) ∧ R (Itl K a) H1
def iTup (K : PySem.W.Frag) (tl : TE) : TI := fun σ H R => tl σ H fun x H1 => ∃ a, x = .ref a ∧ (∃ xs, SqT K H1 a xs) ∧ R (Itt K a) H1
theorem pi_list {l : Expr} {tl : TE} (hl : PE X l tl) : PI X tg l (iList X.K tl) := by
  intro pins s σ H R I h
  refine thn (hl pins s σ H _ I h) fun v s1 ⟨x, H1, I1, r1, q1⟩ => ?_
  obtain ⟨a, e, ⟨xs, hq⟩, q⟩ := q1
  subst e
  cases r1
  obtain ⟨its, rv, p, hz⟩ := I1.list hq
  refine wpAny_pyIter_list p.isList ?_
  refine ⟨s1.heap.objs.size, [s1.heap.objs.size], _, _, H1, rfl, I1.kept (t' := s1.toks) fun b o e => Heap.get?_push_of_some _ e, turn_list a _, ⟨_, Heap.get?_push_size _ rfl, rfl, rfl⟩, fun b hb => ?_, q⟩
  have e : b = s1.heap.objs.size := by simpa using hb
  subst e
  exact I1.fpOk (Nat.le_refl _) (I1.hok.fresh (Nat.le_refl _))
theorem pi_tup {l : Expr} {tl : TE} (hl : PE X l tl) : PI X tg l (iTup X.K tl) := by
  intro pins s σ H R I h
  refine thn (hl pins s σ H _ I h) fun v s1 ⟨x, H1, I1, r1, q1⟩ => ?_
  obtain ⟨a, e, ⟨xs, hq⟩, q⟩ := q1
  subst e
  cases r1
  obtain ⟨its, rv, p, hz⟩ := I1.tuple hq
  refine wpAny_pyIter_tuple (show s1.heap.IsTuple a its.toArray from p) ?_
  refine ⟨s1.heap.objs.size, [s1.heap.objs.size], _, _, H1, rfl, I1.kept (t' := s1.toks) fun b o e => Heap.get?_push_of_some _ e, turn_tuple a _, ⟨_, Heap.get?_push_size _ rfl, rfl, rfl⟩, fun b hb => ?_, q⟩
  have e : b = s1.heap.objs.size := by simpa using hb
  subst e
  exact I1.fpOk (Nat.le_refl _) (I1.hok.fresh (Nat.le_refl _))
theorem range_it {pins : List (Addr × Obj)} {σ : St} {H : Hp} {s : Shared} {R : It → Hp → Prop} {E : Value → Shared → Prop} {lo hi : Int} {t u v : Tok} {tk : Nat} (I : Inv X pins σ H s) (h1 : -(2 ^ 62) ≤ lo) (h2 : lo < 2 ^ 62) (h3 : -(2 ^ 62) ≤ hi) (h4 : hi < 2 ^ 62)
    (q : R (Itr lo (hi - lo).toNat) H) : wpAny (model X.prog X.w) X.A (pyIter (.ref s.heap.objs.size)) (PIE X pins σ tg R) E { s with heap := s.heap.push { cls := .type "range", data := .fields #[.int lo t, .int hi u, .int 1 v] }, toks := tk } := by
  refine wpAny_pyIter_range (IsRange.new ..) (small_one h1 h2 h3 h4) ?_
  have I1 : Inv X pins σ H { s with heap := s.heap.push { cls := .type "range", data := .fields #[.int lo t, .int hi u, .int 1 v] }, toks := tk } := I.kept fun b o e => Heap.get?_push_of_some _ e
  refine ⟨(s.heap.push { cls := .type "range", data := .fields #[.int lo t, .int hi u, .int 1 v] }).objs.size, [(s.heap.push { cls := .type "range", data := .fields #[.int lo t, .int hi u, .int 1 v] }).objs.size], _, _, H, rfl,
    I1.kept (t' := tk) fun b o e => Heap.get?_push_of_some _ e, turn_range _ lo (hi - lo).toNat, ?_, fun b hb => ?_, q⟩
  · have e1 : lo + ((0 : Nat) : Int) * 1 = lo := by simp
    have e2 : (((hi - lo).toNat : Nat) : Int) - ((0 : Nat) : Int) = Builtin.Range.rangeSize lo hi 1 := by rw [rangeSize_one]; split <;> omega
    show IsRangeIter _ _ (lo + ((0 : Nat) : Int) * 1) ((((hi - lo).toNat : Nat) : Int) - ((0 : Nat) : Int)) 1
    rw [e1, e2]
    exact Heap.get?_push_size _ rfl
  · have e : b = (s.heap.push { cls := .type "range", data := .fields #[.int lo t, .int hi u, .int 1 v] }).objs.size := by simpa using hb
    subst e
    exact I1.fpOk (Nat.le_refl _) (I1.hok.fresh (Nat.le_refl _))
def iRng1 (ta : TA) : TI := fun σ H R => ta σ H fun vs H1 => ∃ j : Int, vs = [.int j] ∧ -(2 ^ 62) ≤ j ∧ j < 2 ^ 62 ∧ R (Itr 0 j.toNat) H1
def iRng2 (ta : TA) : TI := fun σ H R => ta σ H fun vs H1 => ∃ i j : Int, vs = [.int i, .int j] ∧ (-(2 ^ 62) ≤ i ∧ i < 2 ^ 62 ∧ -(2 ^ 62) ≤ j ∧ j < 2 ^ 62) ∧ R (Itr i (j - i).toNat) H1
theorem pi_range1 {a : Expr} {ta : TA} {p pos : Pos} (hg : Gl X "range") (hm : X.mg "range" = none) (ha : PA X [a] ta) (hs : starEach [a] X.env = [(false, eval a X.env)] := by rfl) : PI X tg (.Call (.Name "range" p) [a] [] pos) (iRng1 ta) := by
  intro pins s σ H R I h
  refine Call_ (ld_blt I hg hm boot_range (PyProof.Rows.callWith_type1 (thn (ha pos pins s σ H _ I h) fun us s1 ⟨vs, H1, I1, r1, q1⟩ => ?_) hs rfl))
  obtain ⟨j, e, q1, q2, q⟩ := q1
  subst e
  cases r1 with
  | cons r rr =>
    cases rr
    obtain ⟨t, rfl⟩ := r
    exact call_range_1 (range_it I1 (by omega) (by omega) q1 q2 (by simpa using q))
theorem pi_range2 {a b : Expr} {ta : TA} {p pos : Pos} (hg : Gl X "range") (hm : X.mg "range" = none) (ha : PA X [a, b] ta) (hs : starEach [a, b] X.env = [(false, eval a X.env), (false, eval b X.env)] := by rfl) (hs2 : starEach [b] X.env = [(false, eval b X.env)] := by rfl) :
    PI X tg (.Call (.Name "range" p) [a, b] [] pos) (iRng2 ta) := by
  intro pins s σ H R I h
  refine Call_ (ld_blt I hg hm boot_range (PyProof.Rows.callWith_type1 (thn (ha pos pins s σ H _ I h) fun us s1 ⟨vs, H1, I1, r1, q1⟩ => ?_) (by rw [hs, hs2]) (by rw [hs2]; rfl)))
  obtain ⟨i, j, e, ⟨q1, q2, q3, q4⟩, q⟩ := q1
  subst e
  cases r1 with
  | cons r rr =>
    cases rr with
    | cons r' rr =>
      cases rr
      obtain ⟨t, rfl⟩ := r
      obtain ⟨t', rfl⟩ := r'
      exact call_range_2 (range_it I1 q1 q2 q3 q4 q)
def tFor (wi : TI) (g : TG) (tb : TS) : TS := fun D σ H => wi σ H fun J H1 => ∃ W : Nat → Nat → St → Hp → Prop, (∃ m, W 0 m σ H1) ∧ ∀ i m σ H, W i m σ H →
  (J.stop i H ∧ D.nx σ H) ∨ (J.go i H ∧ ∃ N : St → Hp → Prop, (∀ σ' H', N σ' H' → ∃ m', m' < m ∧ W (i + 1) m' σ' H') ∧ ∀ x H', J.yld i H x H' → g x σ H' fun σ2 H2 => tb { D with nx := N, ct := N, bk := D.nx } σ2 H2)
def pinsAt (fp : List Addr) (h : Heap) : List (Addr × Obj) := fp.filterMap fun b => (h.get? b).map fun o => (b, o)
theorem mem_pinsAt {fp : List Addr} {h : Heap} {b : Addr} {o : Obj} (hb : b ∈ fp) (e : h.get? b = some o) : (b, o) ∈ pinsAt fp h := List.mem_filterMap.mpr ⟨b, hb, by rw [e]; rfl⟩
theorem of_pinsAt {fp : List Addr} {h : Heap} {p : Addr × Obj} (hp : p ∈ pinsAt fp h) : p.1 ∈ fp ∧ h.get? p.1 = some p.2 := by
  obtain ⟨b, hb, e⟩ := List.mem_filterMap.mp hp
  cases q : h.get? b with
  | none => rw [q] at e; cases e
  | some o =>
    rw [q] at e
    have e' : (b, o) = p := Option.some.inj e
    subst e'
    exact ⟨hb, q⟩
theorem Inv.pinned {pins : List (Addr × Obj)} {σ : St} {H : Hp} {s : Shared} {fp : List Addr} (I : Inv X pins σ H s) (hf : ∀ b ∈ fp, FpOk X pins H b) (ho : ∀ b ∈ fp, ∃ o, s.heap.get? b = some o ∧ ∀ v, o.data ≠ .cell v) : Inv X (pins ++ pinsAt fp s.heap) σ H s :=
  I.pins_of fun p hp => (List.mem_append.mp hp).elim (fun z => I.pin p (List.mem_append_right _ z)) fun z => by
    obtain ⟨hb, e⟩ := of_pinsAt z
    obtain ⟨f0, f1, f2, _⟩ := hf p.1 hb
    obtain ⟨o, e', d⟩ := ho p.1 hb
    rw [e] at e'; cases e'
    exact ⟨e, f0, f1, f2, d⟩
theorem Inv.unpinned {pins pl : List (Addr × Obj)} {σ : St} {H : Hp} {s : Shared} (I : Inv X (pins ++ pl) σ H s) : Inv X pins σ H s := I.pins_of fun p hp => I.pin p (List.mem_append_right _ (List.mem_append_left _ hp))
theorem ps_for {iter : Expr} {body : List Stmt} {wi : TI} {g : TG} {tb : TS} {pos : Pos} (hp : PassesOwn (model X.prog X.w) X.A X.env X.xe) (hc : X.calm = true) (hi : PI X tg iter wi) (hg : PG X tg g) (hb : PSs X body tb)
    (hs : ∀ x, foldedSetIterable iter X.env x = pure x := by intro _; rfl) : PS X (.For tg iter body [] pos) (tFor wi g tb) := by
  intro pins s σ H D I h
  refine wpAny_For (thn (hi pins s σ H _ I h) fun v s1 h1 => thn h1 fun itv s2 h2 => ?_) hs
  obtain ⟨it, fp, tn, J, H2, e, I2, T, st2, f2, W, ⟨m0, w0⟩, turn⟩ := h2
  subst e
  -- what stays true of the iterator's objects through the loop
  have stat : ∀ {H' : Hp}, (∀ b ∈ fp, H' b = none) → ∀ b ∈ fp, FpOk X pins H' b := fun hn b hb => ⟨hn b hb, (f2 b hb).2⟩
  refine codeAny_forLoop_any (fun n s' => ∃ i σ' H', Inv X pins σ' H' s' ∧ tn i s'.heap ∧ (∀ b ∈ fp, H' b = none) ∧ W i n σ' H') ?_ m0 ⟨0, σ, H2, I2, st2, fun b hb => (f2 b hb).1, w0⟩
  rintro n s3 ⟨i, σ3, H3, I3, st3, fr3, w3⟩
  rcases turn i n σ3 H3 w3 with ⟨stop, qn⟩ | ⟨go, N, hN, step⟩
  · refine wpAny_passesOwn hp (thn (T.done X rfl rfl rfl hc i pins s3 σ3 H3 X.xe I3 (stat fr3) st3 stop) fun r s4 ⟨hr, I4⟩ => ?_)
    subst hr
    exact wpAny_execs_nil ⟨σ3, H3, I4, qn⟩
  · refine wpAny_passesOwn hp (thn (T.item X rfl rfl rfl hc i pins s3 σ3 H3 X.xe I3 (stat fr3) st3 go) fun r s4 ⟨u, hr, h4⟩ => ?_)
    subst hr
    refine wpAny_passesOwn hp (thn h4 fun _ s5 ⟨x, H5, I5, r5, y5, st5, fr5⟩ => ?_)
    have I5' := I5.pinned (stat fr5) (T.obj _ _ st5)
    refine wpAny_passesOwn hp (thn (hg _ s5 σ3 H5 x u _ I5' r5 (step x H5 y5)) fun _ s6 ⟨σ6, H6, I6, q6⟩ => ?_)
    refine wpAny_passesOwn hp (thn (hb _ s6 σ6 H6 _ I6 q6) fun f s7 q7 => ?_)
    have again : ∀ {σ7 : St} {H7 : Hp}, Inv X (pins ++ pinsAt fp s5.heap) σ7 H7 s7 → N σ7 H7 → ∃ m, m < n ∧ ∃ i σ' H', Inv X pins σ' H' s7 ∧ tn i s7.heap ∧ (∀ b ∈ fp, H' b = none) ∧ W i m σ' H' := fun {σ7 H7} I7 n7 => by
      obtain ⟨m', hm, w7⟩ := hN σ7 H7 n7
      refine ⟨m', hm, i + 1, σ7, H7, I7.unpinned, T.keep _ _ _ st5 fun b hb o e => (I7.pin (b, o) (List.mem_append_right _ (List.mem_append_right _ (mem_pinsAt hb e)))).1, fun b hb => ?_, w7⟩
      obtain ⟨o, e, d⟩ := T.obj _ _ st5 b hb
      exact (I7.pin (b, o) (List.mem_append_right _ (List.mem_append_right _ (mem_pinsAt hb e)))).2.1
    cases f with
    | next => obtain ⟨σ7, H7, I7, n7⟩ := q7; exact again I7 n7
    | cont => obtain ⟨σ7, H7, I7, n7⟩ := q7; exact again I7 n7
    | brk => obtain ⟨σ7, H7, I7, q7⟩ := q7; exact ⟨σ7, H7, I7.unpinned, q7⟩
    | ret v => obtain ⟨x7, σ7, H7, I7, r7, q7⟩ := q7; exact ⟨x7, σ7, H7, I7.unpinned, r7, q7⟩
end
theorem for_list {K : PySem.W.Frag} {a : Addr} {xs : List V} {g : TG} {tb : TS} {D : Ends} {σ : St} {H : Hp} (Pv : Nat → St → Hp → Prop) (h0 : Pv 0 σ H) (hl : ∀ i σ H, i ≤ xs.length → Pv i σ H → SqL K H a xs)
    (hs : ∀ i x σ H, xs[i]? = some x → Pv i σ H → g x σ H fun σ2 H2 => tb { D with nx := Pv (i + 1), ct := Pv (i + 1), bk := D.nx } σ2 H2) (hd : ∀ σ H, Pv xs.length σ H → D.nx σ H) :
    ∃ W : Nat → Nat → St → Hp → Prop, (∃ m, W 0 m σ H) ∧ ∀ i m σ H, W i m σ H →
      ((Itl K a).stop i H ∧ D.nx σ H) ∨ ((Itl K a).go i H ∧ ∃ N : St → Hp → Prop, (∀ σ' H', N σ' H' → ∃ m', m' < m ∧ W (i + 1) m' σ' H') ∧ ∀ x H', (Itl K a).yld i H x H' → g x σ H' fun σ2 H2 => tb { D with nx := N, ct := N, bk := D.nx } σ2 H2) := by
  refine ⟨fun i m σ H => m = xs.length - i ∧ i ≤ xs.length ∧ Pv i σ H, ⟨xs.length, by simp, Nat.zero_le _, h0⟩, ?_⟩
  rintro i m σ H ⟨rfl, hi, p⟩
  have q := hl i σ H hi p
  by_cases hlt : i < xs.length
  · refine .inr ⟨⟨xs, xs[i], q, by simp [hlt]⟩, Pv (i + 1), fun σ' H' p' => ⟨xs.length - (i + 1), by omega, rfl, hlt, p'⟩, fun x H' y => ?_⟩
    obtain ⟨e, y⟩ := y
    subst e
    exact hs i x σ _ (y xs q) p
  · have e : i = xs.length := by omega
    subst e
    exact .inl ⟨⟨xs, q, Nat.le_refl _⟩, hd σ H p⟩
theorem for_tup {K : PySem.W.Frag} {a : Addr} {xs : List V} {g : TG} {tb : TS} {D : Ends} {σ : St} {H : Hp} (Pv : Nat → St → Hp → Prop) (h0 : Pv 0 σ H) (hl : ∀ i σ H, i ≤ xs.length → Pv i σ H → SqT K H a xs)
    (hs : ∀ i x σ H, xs[i]? = some x → Pv i σ H → g x σ H fun σ2 H2 => tb { D with nx := Pv (i + 1), ct := Pv (i + 1), bk := D.nx } σ2 H2) (hd : ∀ σ H, Pv xs.length σ H → D.nx σ H) :
    ∃ W : Nat → Nat → St → Hp → Prop, (∃ m, W 0 m σ H) ∧ ∀ i m σ H, W i m σ H →
      ((Itt K a).stop i H ∧ D.nx σ H) ∨ ((Itt K a).go i H ∧ ∃ N : St → Hp → Prop, (∀ σ' H', N σ' H' → ∃ m', m' < m ∧ W (i + 1) m' σ' H') ∧ ∀ x H', (Itt K a).yld i H x H' → g x σ H' fun σ2 H2 => tb { D with nx := N, ct := N, bk := D.nx } σ2 H2) := by
  refine ⟨fun i m σ H => m = xs.length - i ∧ i ≤ xs.length ∧ Pv i σ H, ⟨xs.length, by simp, Nat.zero_le _, h0⟩, ?_⟩
  rintro i m σ H ⟨rfl, hi, p⟩
  have q := hl i σ H hi p
  by_cases hlt : i < xs.length
  · refine .inr ⟨⟨xs, xs[i], q, by simp [hlt]⟩, Pv (i + 1), fun σ' H' p' => ⟨xs.length - (i + 1), by omega, rfl, hlt, p'⟩, fun x H' y => ?_⟩
    obtain ⟨e, y⟩ := y
    subst e
    exact hs i x σ _ (y xs q) p
  · have e : i = xs.length := by omega
    subst e
    exact .inl ⟨⟨xs, q, Nat.le_refl _⟩, hd σ H p⟩
theorem for_range {lo : Int} {n : Nat} {g : TG} {tb : TS} {D : Ends} {σ : St} {H : Hp} (Pv : Nat → St → Hp → Prop) (h0 : Pv 0 σ H)
    (hs : ∀ i σ H, i < n → Pv i σ H → g (.int (lo + i)) σ H fun σ2 H2 => tb { D with nx := Pv (i + 1), ct := Pv (i + 1), bk := D.nx } σ2 H2) (hd : ∀ σ H, Pv n σ H → D.nx σ H) :
    ∃ W : Nat → Nat → St → Hp → Prop, (∃ m, W 0 m σ H) ∧ ∀ i m σ H, W i m σ H →
      ((Itr lo n).stop i H ∧ D.nx σ H) ∨ ((Itr lo n).go i H ∧ ∃ N : St → Hp → Prop, (∀ σ' H', N σ' H' → ∃ m', m' < m ∧ W (i + 1) m' σ' H') ∧ ∀ x H', (Itr lo n).yld i H x H' → g x σ H' fun σ2 H2 => tb { D with nx := N, ct := N, bk := D.nx } σ2 H2) := by
  refine ⟨fun i m σ H => m = n - i ∧ i ≤ n ∧ Pv i σ H, ⟨n, by simp, Nat.zero_le _, h0⟩, ?_⟩
  rintro i m σ H ⟨rfl, hi, p⟩
  by_cases hlt : i < n
  · refine .inr ⟨hlt, Pv (i + 1), fun σ' H' p' => ⟨n - (i + 1), by omega, rfl, hlt, p'⟩, fun x H' y => ?_⟩
    obtain ⟨e, y⟩ := y
    subst e y
    exact hs i σ _ hlt p
  · have e : i = n := by omega
    subst e
    exact .inl ⟨Nat.le_refl _, hd σ H p⟩
end L2
namespace L2
open PySem PySem.Spec PyProof.Rows
abbrev R2 := V → V → Hp → VK → Prop
def OpR (X : Cx) (f : Value → Value → Sem Value) (r : R2) : Prop :=
  ∀ (pins : List (Addr × Obj)) (s : Shared) (σ : St) (H : Hp) (x y : V) (v u : Value) (Q : VK), Inv X pins σ H s → RelV x v → RelV y u → r x y H Q →
    wpAny (model X.prog X.w) X.A (f v u) (EP X pins σ Q) X.xe s
def UnR (X : Cx) (f : Value → Sem Value) (r : V → Hp → VK → Prop) : Prop :=
  ∀ (pins : List (Addr × Obj)) (s : Shared) (σ : St) (H : Hp) (x : V) (v : Value) (Q : VK), Inv X pins σ H s → RelV x v → r x H Q →
    wpAny (model X.prog X.w) X.A (f v) (EP X pins σ Q) X.xe s
def CallR (X : Cx) (f : Value) (r : List V → Hp → VK → Prop) : Prop :=
  ∀ (pins : List (Addr × Obj)) (s : Shared) (σ : St) (H : Hp) (xs : List V) (us : List Value) (Q : VK), Inv X pins σ H s → Vals xs us → r xs H Q →
    wpAny (model X.prog X.w) X.A (call f us) (EP X pins σ Q) X.xe s
def tOp (r : R2) (ta tb : TE) : TE := fun σ H Q => ta σ H fun x H1 => tb σ H1 fun y H2 => r x y H2 Q
def tUn (r : V → Hp → VK → Prop) (ta : TE) : TE := fun σ H Q => ta σ H fun x H1 => r x H1 Q
def rI (C : Int → Int → Prop) (g : Int → Int → V) : R2 := fun x y H Q => ∃ i j, x = .int i ∧ y = .int j ∧ C i j ∧ Q (g i j) H
def rI0 (g : Int → Int → V) : R2 := fun x y H Q => ∃ i j, x = .int i ∧ y = .int j ∧ Q (g i j) H
def rU (g : Int → V) : V → Hp → VK → Prop := fun x H Q => ∃ i, x = .int i ∧ Q (g i) H
section
variable {X : Cx} {a b c : Expr} {ta tb tc : TE} {pos : Pos}
theorem binT (ha : PE X a ta) (hb : PE X b tb) {pins : List (Addr × Obj)} {s : Shared} {σ : St} {H : Hp} {R : V → V → Hp → Prop} (I : Inv X pins σ H s)
    (h : ta σ H fun x H1 => tb σ H1 fun y H2 => R x y H2) {Q : Value → Shared → Prop} {f : Value → Value → Sem Value}
    (hf : ∀ v u s2 x y H2, Inv X pins σ H2 s2 → RelV x v → RelV y u → R x y H2 → wpAny (model X.prog X.w) X.A (f v u) Q X.xe s2) :
    wpAny (model X.prog X.w) X.A (eval a X.env) (fun v s₁ => wpAny (model X.prog X.w) X.A (eval b X.env) (fun u s₂ => wpAny (model X.prog X.w) X.A (f v u) Q X.xe s₂) X.xe s₁) X.xe s := by
  refine thn (ha pins s σ H _ I h) fun v s1 ⟨x, H1, I1, r1, q1⟩ => ?_
  refine thn (hb pins s1 σ H1 _ I1 q1) fun u s2 ⟨y, H2, I2, r2, q2⟩ => ?_
  exact hf v u s2 x y H2 I2 r1 r2 q2
theorem pe_op {op : Operator} {r : R2} (ho : OpR X (binaryOp op) r) (ha : PE X a ta) (hb : PE X b tb) : PE X (.BinOp a op b pos) (tOp r ta tb) := by
  intro pins s σ H Q I h
  exact wpAny_BinOp (binT ha hb I h fun v u s2 x y H2 I2 rx ry q => ho pins s2 σ H2 x y v u Q I2 rx ry q)
theorem pe_un {op : UnaryOp} {r : V → Hp → VK → Prop} (ho : UnR X (unaryOp op) r) (ha : PE X a ta) : PE X (.UnaryOp op a pos) (tUn r ta) := by
  intro pins s σ H Q I h
  exact UnaryOp_ (thn (ha pins s σ H _ I h) fun v s1 ⟨x, H1, I1, r1, q1⟩ => ho pins s1 σ H1 x v Q I1 r1 q1)
theorem opI {f : Value → Value → Sem Value} {C : Int → Int → Prop} {g : Int → Int → Int}
    (rule : ∀ (i j : Int) (t u : Tok) (s : Shared) (Q : Value → Shared → Prop) (E : Value → Shared → Prop), C i j → Q (.int (g i j) s.toks) { s with toks := s.toks + 1 } → wpAny (model X.prog X.w) X.A (f (.int i t) (.int j u)) Q E s) :
    OpR X f (rI C fun i j => .int (g i j)) := by
  intro pins s σ H x y v u Q I rx ry h
  obtain ⟨i, j, rfl, rfl, hc, q⟩ := h
  obtain ⟨t, rfl⟩ := rx
  obtain ⟨t', rfl⟩ := ry
  exact rule i j t t' s _ _ hc ⟨.int (g i j), H, I.tok _, ⟨_, rfl⟩, q⟩
theorem opI0 {f : Value → Value → Sem Value} {g : Int → Int → Int}
    (rule : ∀ (i j : Int) (t u : Tok) (s : Shared) (Q : Value → Shared → Prop) (E : Value → Shared → Prop), Q (.int (g i j) s.toks) { s with toks := s.toks + 1 } → wpAny (model X.prog X.w) X.A (f (.int i t) (.int j u)) Q E s) :
    OpR X f (rI0 fun i j => .int (g i j)) := by
  intro pins s σ H x y v u Q I rx ry h
  obtain ⟨i, j, rfl, rfl, q⟩ := h
  obtain ⟨t, rfl⟩ := rx
  obtain ⟨t', rfl⟩ := ry
  exact rule i j t t' s _ _ ⟨.int (g i j), H, I.tok _, ⟨_, rfl⟩, q⟩
theorem opB0 {f : Value → Value → Sem Value} {g : Int → Int → Bool}
    (rule : ∀ (i j : Int) (t u : Tok) (s : Shared) (Q : Value → Shared → Prop) (E : Value → Shared → Prop), Q (.bool (g i j)) s → wpAny (model X.prog X.w) X.A (f (.int i t) (.int j u)) Q E s) :
    OpR X f (rI0 fun i j => .bl (g i j)) := by
  intro pins s σ H x y v u Q I rx ry h
  obtain ⟨i, j, rfl, rfl, q⟩ := h
  obtain ⟨t, rfl⟩ := rx
  obtain ⟨t', rfl⟩ := ry
  exact rule i j t t' s _ _ ⟨.bl (g i j), H, I, rfl, q⟩
def CDiv (i j : Int) : Prop := 0 < j ∧ j < 1073741824
def CPow (i j : Int) : Prop := 0 ≤ j ∧ j ≤ 1000000 ∧ i.natAbs < 2 ^ 64
def CMul (i j : Int) : Prop := (-(2 ^ 64) < i ∧ i < 2 ^ 64) ∨ (-(2 ^ 64) < j ∧ j < 2 ^ 64)
theorem CMul.ok {i j : Int} (h : CMul i j) : IntMulOk i j := by
  rcases h with ⟨h1, h2⟩ | ⟨h1, h2⟩
  · exact .of_left (intBits_le_64 h1 h2)
  · exact .of_right (intBits_le_64 h1 h2)
theorem op_add : OpR X (binaryOp .Add) (rI0 fun i j => .int (i + j)) := opI0 fun _ _ _ _ _ _ _ q => add_int q
theorem op_sub : OpR X (binaryOp .Sub) (rI0 fun i j => .int (i - j)) := opI0 fun _ _ _ _ _ _ _ q => sub_int q
theorem op_mul : OpR X (binaryOp .Mult) (rI CMul fun i j => .int (i * j)) := opI fun _ _ _ _ _ _ _ hc q => mul_int q hc.ok
theorem op_fdiv : OpR X (binaryOp .FloorDiv) (rI CDiv fun i j => .int (i / j)) := opI fun i j _ _ _ _ _ hc q => by
  have h1 : (0 : Int) < j := hc.1
  have h2 : j < 1073741824 := hc.2
  exact floordiv_int (by omega) (by rw [Int.fdiv_eq_ediv_of_nonneg i (by omega)]; exact q) (.inl (PyProof.noPylong_small (by omega)))
theorem op_mod : OpR X (binaryOp .Mod) (rI (fun _ j => 0 < j) fun i j => .int (i % j)) := opI fun i j _ _ _ _ _ hc q => by
  have h1 : (0 : Int) < j := hc
  exact mod_int' (by omega) (by rw [Int.fmod_eq_emod_of_nonneg i (by omega)]; exact q)
theorem op_pow : OpR X (binaryOp .Pow) (rI CPow fun i j => .int (i ^ j.toNat)) := opI fun _ _ _ _ _ _ _ hc q => pow_int_small hc.1 hc.2.1 hc.2.2 q
theorem unI {f : Value → Sem Value} {g : Int → Int}
    (rule : ∀ (i : Int) (t : Tok) (s : Shared) (Q : Value → Shared → Prop) (E : Value → Shared → Prop), Q (.int (g i) s.toks) { s with toks := s.toks + 1 } → wpAny (model X.prog X.w) X.A (f (.int i t)) Q E s) :
    UnR X f (rU fun i => .int (g i)) := by
  intro pins s σ H x v Q I rx h
  obtain ⟨i, rfl, q⟩ := h
  obtain ⟨t, rfl⟩ := rx
  exact rule i t s _ _ ⟨.int (g i), H, I.tok _, ⟨_, rfl⟩, q⟩
theorem un_neg : UnR X (unaryOp .USub) (rU fun i => .int (-i)) := unI fun _ _ _ _ _ q => neg_int q
end
def scal : V → V → Bool
  | .non, .non => true | .non, .int _ => true | .int _, .non => true | .non, .bl _ => true | .bl _, .non => true | .non, .str _ => true | .str _, .non => true
  | .int _, .int _ => true | .bl _, .bl _ => true | .str _, .str _ => true | .byt _, .byt _ => true
  | .int _, .str _ => true | .str _, .int _ => true | .bl _, .str _ => true | .str _, .bl _ => true
  | _, _ => false
def rEq : R2 := fun x y H Q => scal x y = true ∧ Q (.bl (decide (x = y))) H
theorem dec_int {i j : Int} : decide (V.int i = V.int j) = (i == j) := by
  rw [Bool.eq_iff_iff]
  simp
theorem dec_bl {i j : Bool} : decide (V.bl i = V.bl j) = (i == j) := by
  rw [Bool.eq_iff_iff]
  simp
theorem dec_str {i j : Str} : decide (V.str i = V.str j) = (i == j) := by
  rw [Bool.eq_iff_iff]
  simp
theorem dec_byt {i j : Array UInt8} : decide (V.byt i = V.byt j) = (i.toList == j.toList) := by
  rw [Bool.eq_iff_iff]
  cases i
  cases j
  simp
section
variable {X : Cx} {a b c : Expr} {ta tb tc : TE} {pos : Pos}
theorem fin_bl {pins : List (Addr × Obj)} {σ : St} {H : Hp} {s : Shared} {Q : VK} {k k' : Bool} (I : Inv X pins σ H s) (q : Q (.bl k) H) (e : k = k') : EP X pins σ Q (.bool k') s := by
  subst e
  exact ⟨.bl k, H, I, rfl, q⟩
theorem op_eq : OpR X (compareOp .Eq) rEq := by
  intro pins s σ H x y v u Q I rx ry h
  obtain ⟨hs, q⟩ := h
  cases x with
  | non =>
    cases rx
    cases y with
    | non => cases ry; exact PySem.EqNone.eq_none_none (fin_bl I q (by simp))
    | bl j => cases ry; exact PySem.EqNone.eq_none_bool (fin_bl I q (by simp))
    | int j => obtain ⟨t', rfl⟩ := ry; exact PySem.EqNone.eq_none_int (fin_bl I q (by simp))
    | str j => obtain ⟨t', rfl⟩ := ry; exact PySem.EqNone.eq_none_str (fin_bl I q (by simp))
    | _ => exact absurd (show false = true from hs) Bool.false_ne_true
  | bl i =>
    cases rx
    cases y with
    | non => cases ry; exact PySem.EqNone.eq_bool_none (fin_bl I q (by simp))
    | bl j => cases ry; exact eq_bool (fin_bl I q dec_bl)
    | str j => obtain ⟨t', rfl⟩ := ry; exact PySem.EqMixed.eq_bool_str (fin_bl I q (by simp))
    | _ => exact absurd (show false = true from hs) Bool.false_ne_true
  | int i =>
    obtain ⟨t, rfl⟩ := rx
    cases y with
    | non => cases ry; exact PySem.EqNone.eq_int_none (fin_bl I q (by simp))
    | int j => obtain ⟨t', rfl⟩ := ry; exact eq_int (fin_bl I q dec_int)
    | str j => obtain ⟨t', rfl⟩ := ry; exact PySem.EqMixed.eq_int_str (fin_bl I q (by simp))
    | _ => exact absurd (show false = true from hs) Bool.false_ne_true
  | str i =>
    obtain ⟨t, rfl⟩ := rx
    cases y with
    | non => cases ry; exact PySem.EqNone.eq_str_none (fin_bl I q (by simp))
    | bl j => cases ry; exact PySem.EqMixed.eq_str_bool (fin_bl I q (by simp))
    | int j => obtain ⟨t', rfl⟩ := ry; exact PySem.EqMixed.eq_str_int (fin_bl I q (by simp))
    | str j => obtain ⟨t', rfl⟩ := ry; exact eq_str (fin_bl I q dec_str)
    | _ => exact absurd (show false = true from hs) Bool.false_ne_true
  | byt i =>
    obtain ⟨t, rfl⟩ := rx
    cases y with
    | byt j => obtain ⟨t', rfl⟩ := ry; exact PySem.W.eq_bytes (fin_bl I q dec_byt)
    | _ => exact absurd (show false = true from hs) Bool.false_ne_true
  | _ => cases y <;> exact absurd (show false = true from hs) Bool.false_ne_true
theorem op_lt : OpR X (compareOp .Lt) (rI0 fun i j => .bl (decide (i < j))) := opB0 fun _ _ _ _ _ _ _ q => lt_int q
theorem op_le : OpR X (compareOp .LtE) (rI0 fun i j => .bl (decide (i ≤ j))) := opB0 fun _ _ _ _ _ _ _ q => le_int q
theorem op_gt : OpR X (compareOp .Gt) (rI0 fun i j => .bl (decide (j < i))) := opB0 fun _ _ _ _ _ _ _ q => gt_int q
theorem op_ge : OpR X (compareOp .GtE) (rI0 fun i j => .bl (decide (j ≤ i))) := opB0 fun _ _ _ _ _ _ _ q => ge_int q
theorem OpR.or {f : Value → Value → Sem Value} {r r' : R2} (h : OpR X f r) (h' : OpR X f r') : OpR X f (fun x y H Q => r x y H Q ∨ r' x y H Q) := by
  intro pins s σ H x y v u Q I rx ry q
  rcases q with q | q
  · exact h pins s σ H x y v u Q I rx ry q
  · exact h' pins s σ H x y v u Q I rx ry q
theorem nomark (b : Expr) {op : CmpOp} (h : op ≠ .In := by decide) (h2 : op ≠ .NotIn := by decide) : behindInMarks op b = false := by
  have e1 : (op == CmpOp.In) = false := by cases op <;> first | rfl | exact absurd rfl h
  have e2 : (op == CmpOp.NotIn) = false := by cases op <;> first | rfl | exact absurd rfl h2
  cases b <;> simp [behindInMarks, e1, e2]
theorem pe_cmpR {op : CmpOp} {r : R2} (ho : OpR X (compareOp op) r) (ha : PE X a ta) (hb : PE X b tb) (hm : behindInMarks op b = false) : PE X (.Compare a [op] [b] pos) (tOp r ta tb) := by
  intro pins s σ H Q I h
  exact wpAny_Compare1 (binT ha hb I h fun v u s2 x y H2 I2 rx ry q => ho pins s2 σ H2 x y v u Q I2 rx ry q) hm
def tTest (t : TE) : TT := fun σ H Q => t σ H fun x H' => ∃ k, x = .bl k ∧ Q k H'
theorem pt_cmpR {op : CmpOp} {r : R2} (ho : OpR X (compareOp op) r) (ha : PE X a ta) (hb : PE X b tb) (hm : behindInMarks op b = false) : PT X (.Compare a [op] [b] pos) (tTest (tOp r ta tb)) := by
  intro pins s σ H Q I h
  refine wpAny_isTrue_Compare1 (thn (ha pins s σ H _ I h) fun v s1 ⟨x, H1, I1, r1, q1⟩ => thn (hb pins s1 σ H1 _ I1 q1) fun u s2 ⟨y, H2, I2, r2, q2⟩ =>
    thn (ho pins s2 σ H2 x y v u _ I2 r1 r2 q2) fun c s3 ⟨z, H3, I3, r3, k, e, q3⟩ => ?_) hm
  subst e
  cases r3
  exact wpAny_truthy_bool ⟨H3, I3, q3⟩
def tChain (r r' : R2) (ta tb tc : TE) : TE := fun σ H Q => ta σ H fun x H1 => tb σ H1 fun y H2 => r x y H2 fun z H3 => ∃ k, z = .bl k ∧
  (if k = true then tc σ H3 fun w' H4 => r' y w' H4 Q else Q (.bl false) H3)
theorem pe_chain {op op' : CmpOp} {r r' : R2} (ho : OpR X (compareOp op) r) (ho' : OpR X (compareOp op') r') (ha : PE X a ta) (hb : PE X b tb) (hc : PE X c tc)
    (hm : lastMarks [op, op'] [b, c] = false := by with_unfolding_all rfl) : PE X (.Compare a [op, op'] [b, c] pos) (tChain r r' ta tb tc) := by
  intro pins s σ H Q I h
  refine Compare_chain (thn (ha pins s σ H _ I h) fun v s1 ⟨x, H1, I1, r1, q1⟩ => chain_link (thn (hb pins s1 σ H1 _ I1 q1) fun u s2 ⟨y, H2, I2, r2, q2⟩ =>
    thn (ho pins s2 σ H2 x y v u _ I2 r1 r2 q2) fun d s3 ⟨z, H3, I3, r3, k, e, q3⟩ => ?_)) hm
  subst e
  cases r3
  refine wpAny_truthy_bool ?_
  cases k with
  | false => exact ite_ff ⟨.bl false, H3, I3, rfl, q3⟩
  | true => exact ite_tt (chain_last (thn (hc pins s3 σ H3 _ I3 q3) fun w' s4 ⟨z', H4, I4, r4, q4⟩ => ho' pins s4 σ H4 y z' u w' Q I4 r2 r4 q4))
theorem line63 : (sizeLine : Nat) < 2 ^ 63 := by rw [sizeLine_eq]; decide
theorem vals1 {x : V} {us : List Value} (r : Vals [x] us) : ∃ u, us = [u] ∧ RelV x u := by
  cases r with
  | cons r1 r2 => cases r2; exact ⟨_, rfl, r1⟩
theorem vals2 {x y : V} {us : List Value} (r : Vals [x, y] us) : ∃ u w', us = [u, w'] ∧ RelV x u ∧ RelV y w' := by
  cases r with
  | cons r1 r2 =>
    cases r2 with
    | cons r3 r4 => cases r4; exact ⟨_, _, rfl, r1, r3⟩
theorem call_abs : CallR X (.builtin "abs") (fun xs H Q => ∃ i, xs = [.int i] ∧ Q (.int (if i < 0 then -i else i)) H) := by
  intro pins s σ H xs us Q I r h
  obtain ⟨i, rfl, q⟩ := h
  obtain ⟨u, rfl, t, rfl⟩ := vals1 r
  exact call_abs_int fun u tk => ⟨.int (if i < 0 then -i else i), H, I.tok _, ⟨_, rfl⟩, q⟩
theorem call_max2 (hc : X.calm = true) : CallR X (.builtin "max") (fun xs H Q => ∃ i j, xs = [.int i, .int j] ∧ Q (.int (if j > i then j else i)) H) := by
  intro pins s σ H xs us Q I r h
  obtain ⟨i, j, rfl, q⟩ := h
  obtain ⟨u, w', rfl, ⟨t, rfl⟩, ⟨t', rfl⟩⟩ := vals2 r
  refine max_two_ints (I.ok.hd hc) fun h' tk k => ⟨_, H, I.kept k, ?_, q⟩
  by_cases hj : j > i
  · rw [if_pos hj, if_pos hj]; exact ⟨_, rfl⟩
  · rw [if_neg hj, if_neg hj]; exact ⟨_, rfl⟩
theorem call_min2 (hc : X.calm = true) : CallR X (.builtin "min") (fun xs H Q => ∃ i j, xs = [.int i, .int j] ∧ Q (.int (if j < i then j else i)) H) := by
  intro pins s σ H xs us Q I r h
  obtain ⟨i, j, rfl, q⟩ := h
  obtain ⟨u, w', rfl, ⟨t, rfl⟩, ⟨t', rfl⟩⟩ := vals2 r
  refine min_two_ints (I.ok.hd hc) fun h' tk k => ⟨_, H, I.kept k, ?_, q⟩
  by_cases hj : j < i
  · rw [if_pos hj, if_pos hj]; exact ⟨_, rfl⟩
  · rw [if_neg hj, if_neg hj]; exact ⟨_, rfl⟩
theorem call_int1 : CallR X (.type "int") (fun xs H Q => (∃ i, xs = [.int i] ∧ Q (.int i) H) ∨ ∃ k, xs = [.bl k] ∧ Q (.int (if k then 1 else 0)) H) := by
  intro pins s σ H xs us Q I r h
  rcases h with ⟨i, rfl, q⟩ | ⟨k, rfl, q⟩
  · obtain ⟨u, rfl, t, rfl⟩ := vals1 r
    exact call_int_int ⟨.int i, H, I, ⟨_, rfl⟩, q⟩
  · obtain ⟨u, rfl, r1⟩ := vals1 r
    cases r1
    exact call_int_bool ⟨.int (if k then 1 else 0), H, I.tok _, ⟨_, rfl⟩, q⟩
end
end L2
namespace L2
open PySem PySem.Spec PyProof.Rows
structure ObjM (h : Heap) (x dx C : Addr) (mA : Str → Option Value) : Prop where
  obj : h.get? x = some (PySem.W.instObj C dx)
  ns : h.Ns1 dx mA
  ne : dx ≠ x
theorem lookIn_ns {h : Heap} {dx : Addr} {mA : Str → Option Value} (n : h.Ns1 dx mA) : ∃ od, h.get? dx = some od ∧ ∀ name, PySem.W.lookIn name od = some (mA name) := by
  obtain ⟨o, es, ep, ho, hd, hk, _, hm⟩ := n
  refine ⟨o, ho, fun name => ?_⟩
  have e := hm name
  unfold nsFind findBy at e
  rw [← Array.find?_toList] at e
  unfold PySem.W.lookIn
  rw [hd]
  dsimp only
  split
  · rename_i y q
    rw [q] at e
    exact congrArg some e
  · rename_i q
    rw [q] at e
    have a : es.toList.any (·.refKey) = false := by
      rw [List.any_eq_false]
      intro y hy
      obtain ⟨z, t, hkey⟩ := hk y (Array.mem_toList_iff.mp hy)
      simp [DictEntry.refKey, hkey]
    have a' : ¬ es.toList.any (·.refKey) = true := by rw [a]; exact Bool.false_ne_true
    rw [if_neg a']
    exact congrArg some e
theorem ObjM.look {h : Heap} {x dx C : Addr} {mA : Str → Option Value} (I : ObjM h x dx C mA) : ∃ od, PySem.W.InstAt h x (PySem.W.instObj C dx) C (some od) ∧ ∀ name, PySem.W.lookIn name od = some (mA name) :=
  let ⟨od, ho, hl⟩ := lookIn_ns I.ns
  ⟨od, ⟨I.obj, rfl, rfl, ho⟩, hl⟩
section
variable {prog : Program} {w : World} {A : Around} {E : Value → Shared → Prop} {s : Shared} {K : PySem.W.Frag} {x dx C f : Addr} {mA : Str → Option Value} {name : Str} {v : Value}
end
section
variable {P : Program} {w : World} {H H' : Hp} {h h' : Heap} {a C dx : Addr} {fs fs' : List (Str × V)}
theorem ins_get (hok : HOk P w H h) (e : H a = some (.ins C dx fs)) : ∃ mA, ObjM h a dx C mA ∧ (∀ f, RelO (fs.lookup f) (mA f)) ∧ PySem.Within mA (fs.map (·.1)) ∧ fs.length ≤ 1000 ∧ H dx = some (.own a) := by
  obtain ⟨d, z, ne, ob, mA, n, r, q⟩ := (show ObjOk P w H h a (.ins C dx fs) from hok a _ e)
  exact ⟨mA, ⟨ob, n, ne⟩, r, q, z, d⟩
end
structure Cls (K : PySem.W.Frag) (C : Addr) : Prop where
  pg : PySem.W.plainGet K C Str.empty = true
  hd : PySem.W.hasDictIn K C = true
  po : PySem.W.plainOver K C = true
  sa : PySem.W.findIn K (.ref C) "__setattr__" = some (some (.builtin "object.__setattr__"))
theorem Cls.get {K : PySem.W.Frag} {C : Addr} (c : Cls K C) (f : Str) : PySem.W.plainGet K C f = true := c.pg
section
variable {X : Cx} {pins : List (Addr × Obj)} {σ : St} {H : Hp} {s : Shared} {a C dx : Addr} {fs : List (Str × V)} {f : Str} {v : V} {A : Around} {E : Value → Shared → Prop}
theorem Inv.made (I : Inv X pins σ H s) : Inv X pins σ (upd (upd H s.heap.objs.size (.own (s.heap.objs.size + 1))) (s.heap.objs.size + 1) (.ins C s.heap.objs.size []))
    { s with heap := (s.heap.push PySem.W.emptyDict).push (PySem.W.instObj C s.heap.objs.size) } := by
  have e1 : (s.heap.push PySem.W.emptyDict).get? s.heap.objs.size = some PySem.W.emptyDict := Heap.get?_push_size s.heap rfl
  have e2 : ((s.heap.push PySem.W.emptyDict).push (PySem.W.instObj C s.heap.objs.size)).get? (s.heap.objs.size + 1) = some (PySem.W.instObj C s.heap.objs.size) := by
    have := Heap.get?_push_size (s.heap.push PySem.W.emptyDict) (o := PySem.W.instObj C s.heap.objs.size) rfl
    rwa [Heap.size_push] at this
  have e3 : (s.heap.push PySem.W.emptyDict).Ns s.heap.objs.size (fun _ => none) := ⟨PySem.W.emptyDict, #[], _, e1, rfl, (fun e he => absurd he (by simp)), fun _ => rfl⟩
  have I1 := I.laid (a := s.heap.objs.size) (o := .own (s.heap.objs.size + 1)) (h' := s.heap.push PySem.W.emptyDict) (t' := s.toks) (fun b u q => Heap.get?_push_of_some _ q) (Nat.le_refl _) ⟨_, e1⟩
  refine I1.laid (a := s.heap.objs.size + 1) (o := .ins C s.heap.objs.size []) (t' := s.toks) (fun b u q => Heap.get?_push_of_some _ q) (Nat.le_of_eq (Heap.size_push _ _)) ?_
  have ne : s.heap.objs.size ≠ s.heap.objs.size + 1 := Nat.ne_of_lt (Nat.lt_succ_self _)
  refine ⟨by rw [upd_ne ne, upd_same], Nat.zero_le _, ne, e2, fun _ => none, (Heap.Ns1.of_empty e3).at fun o q => Heap.get?_push_of_some _ q, fun _ => True.intro, fun y hy => absurd rfl hy⟩
end
section
variable {X : Cx} {o e value : Expr} {f : Str} {pos pos' tpos : Pos} {ta tv : TE}
end
section
variable {X : Cx} {pins : List (Addr × Obj)} {σ : St} {H : Hp} {s : Shared} {A : Around} {E : Value → Shared → Prop} {Q : Value → Shared → Prop} {c : Value} {b : Bool}
inductive TyOf (K : PySem.W.Frag) (H : Hp) : V → Value → Prop where
  | non : TyOf K H .non (.type "NoneType")
  | bl (x : Bool) : TyOf K H (.bl x) (.type "bool")
  | int (i : Int) : TyOf K H (.int i) (.type "int")
  | str (x : Str) : TyOf K H (.str x) (.type "str")
  | flt (x : UInt64) : TyOf K H (.flt x) (.type "float")
  | lst {a : Addr} {xs : List V} (e : H a = some (.lst xs)) : TyOf K H (.ref a) (.type "list")
  | frz {a : Addr} {o : Obj} {xs : List V} (e : H a = some (.frz o (.lst xs))) : TyOf K H (.ref a) (.type "list")
  | tup {a : Addr} {xs : List V} (e : H a = some (.tup xs)) : TyOf K H (.ref a) (.type "tuple")
  | dK {a : Addr} {kvs : List (Key × V)} (e : H a = some (.dK kvs)) : TyOf K H (.ref a) (.type "dict")
  | dT {a : Addr} {kvs : List (List Key × V)} (e : H a = some (.dT kvs)) : TyOf K H (.ref a) (.type "dict")
  | ins {a C dx : Addr} {fs : List (Str × V)} (e : H a = some (.ins C dx fs)) (cl : Cls K C) (ha : PySem.W.findIn K (.ref C) "__class__" = some (some (.builtin "object.__class__")))
      (hn : PySem.W.specialIn K (.builtin "object.__class__") "__get__" = some (some (.builtin "getset_descriptor.__get__"))) (htk : PySem.W.takesIn K (.builtin "object.__class__") = some true)
      (hm : PySem.W.mroIn K C (.type "object") = some true) : TyOf K H (.ref a) (.ref C)
theorem isinst_ok {x : V} {u t : Value} (I : Inv X pins σ H s) (rx : RelV x u) (ty : TyOf X.K H x t) (e : PySem.W.kitOne X.K t c = some b) (h : ∀ tk, Q (.bool b) { s with toks := tk }) :
    wpAny (model X.prog X.w) A (call (.builtin "isinstance") [u, c]) Q E s := by
  cases ty with
  | non => cases (show u = Value.none from rx); exact PySem.W.kia_one PySem.W.kitx_none I.kIn True.intro e (fun z => nomatch z) h
  | bl y => cases (show u = Value.bool y from rx); exact PySem.W.kia_one PySem.W.kitx_bool I.kIn True.intro e (fun z => nomatch z) h
  | int i => obtain ⟨t, q⟩ := (show ∃ t, u = Value.int i t from rx); cases q; exact PySem.W.kia_one PySem.W.kitx_int I.kIn True.intro e (fun z => nomatch z) h
  | str y => obtain ⟨t, q⟩ := (show ∃ t, u = Value.str y t from rx); cases q; exact PySem.W.kia_one PySem.W.kitx_str I.kIn True.intro e (fun z => nomatch z) h
  | flt y => obtain ⟨t, q⟩ := (show ∃ t, u = Value.float y t from rx); cases q; exact PySem.W.kia_one PySem.W.kitx_float I.kIn True.intro e (fun z => nomatch z) h
  | @lst a xs ea =>
    cases (show u = Value.ref a from rx)
    obtain ⟨_, _, n, _, h1⟩ := (show ObjOk X.prog X.w H s.heap a (.lst xs) from I.hok a _ ea)
    exact PySem.W.kia_one PySem.W.kitx_list I.kIn ⟨_, h1, rfl⟩ e (fun z => nomatch z) h
  | @frz a ob xs ea =>
    cases (show u = Value.ref a from rx)
    obtain ⟨_, _, _, n, _, h1⟩ := (show ObjOk X.prog X.w H s.heap a (.frz ob (.lst xs)) from I.hok a _ ea)
    exact PySem.W.kia_one PySem.W.kitx_list I.kIn ⟨_, h1, rfl⟩ e (fun z => nomatch z) h
  | @tup a xs ea =>
    cases (show u = Value.ref a from rx)
    obtain ⟨_, _, _, p⟩ := (show ObjOk X.prog X.w H s.heap a (.tup xs) from I.hok a _ ea)
    obtain ⟨o, h1, h2, _⟩ := p
    exact PySem.W.kia_one PySem.W.kitx_tuple I.kIn ⟨o, h1, h2⟩ e (fun z => nomatch z) h
  | @dK a kvs ea =>
    cases (show u = Value.ref a from rx)
    obtain ⟨_, _, vs, _, p⟩ := (show ObjOk X.prog X.w H s.heap a (.dK kvs) from I.hok a _ ea)
    obtain ⟨o, es, ep, h1, h2, _⟩ := p
    exact PySem.W.kia_one PySem.W.kitx_dict I.kIn ⟨o, h1, h2.1⟩ e (fun z => nomatch z) h
  | @dT a kvs ea =>
    cases (show u = Value.ref a from rx)
    obtain ⟨_, _, xs, _, o, es, ep, h1, h2, _⟩ := (show ObjOk X.prog X.w H s.heap a (.dT kvs) from I.hok a _ ea)
    exact PySem.W.kia_one PySem.W.kitx_dict I.kIn ⟨o, h1, h2.1⟩ e (fun z => nomatch z) h
  | @ins a C dx fs ea cl ha hn htk hm =>
    cases (show u = Value.ref a from rx)
    obtain ⟨mA, O, _⟩ := ins_get I.hok ea
    obtain ⟨od, J, _⟩ := O.look
    exact PySem.W.kia_one (PySem.W.kitx_own (cl.get _) cl.hd ha hn htk hm) I.kIn J e (fun z => nomatch z) h
end
end L2
namespace L2
open PySem PySem.Spec PyProof.Rows
structure Room (k : Nat) (A : Around) : Prop where
  hd : A.handled = none
  dp : A.depth + 3 * k + 5 < recursionLimit
  un : A.units + 16 * k + 200 < cLine
  gd : A.guards = some []
theorem Room.mono {j k : Nat} {A : Around} (r : Room k A) (h : j ≤ k) : Room j A := ⟨r.hd, by have := r.dp; omega, by have := r.un; omega, r.gd⟩
theorem Room.deeper {k : Nat} {A : Around} (r : Room (k + 1) A) (env : Env) : Room k (A.deeper env) :=
  ⟨r.hd, by have := r.dp; show A.depth + 1 + 3 * k + 5 < _; omega, by have := r.un; show A.units + 3 + 16 * k + 200 < _; omega, r.gd⟩
theorem Room.in1 {k : Nat} {A : Around} (r : Room (k + 1) A) : Room k A.in1 :=
  ⟨r.hd, by have := r.dp; show A.depth + 3 * k + 5 < _; omega, by have := r.un; show A.units + 1 + 16 * k + 200 < _; omega, r.gd⟩
theorem Room.depth {k : Nat} {A : Around} (r : Room k A) : A.depth < recursionLimit := by have := r.dp; omega
theorem Room.units {k : Nat} {A : Around} (r : Room k A) : A.units + 64 < cLine := by have := r.un; omega
theorem Room.units0 {k : Nat} {A : Around} (r : Room k A) : A.units < cLine := by have := r.un; omega
def tNil : TA := fun _ H Q => Q [] H
def tCons (ta : TE) (tr : TA) : TA := fun σ H Q => ta σ H fun x H1 => tr σ H1 fun xs H2 => Q (x :: xs) H2
section
variable {X : Cx} {e : Expr} {es : List Expr} {te : TE} {t : TA} {pos : Pos}
theorem pa_nil : PA X [] tNil := fun _ _ _ _ H Q I h => Calls.spliced_nil ⟨[], H, I, .nil, h⟩
theorem pa_cons (ha : PE X e te) (hr : PA X es t) (hs : starEach (e :: es) X.env = (false, eval e X.env) :: starEach es X.env := by rfl) : PA X (e :: es) (tCons te t) := by
  intro pos pins s σ H Q I h
  rw [hs]
  show wpAny _ _ (spliced ((false, eval e X.env) :: backTo pos (starEach es X.env))) _ _ s
  refine Calls.spliced_cons (thn (ha pins s σ H _ I h) fun u s1 ⟨x, H1, I1, r1, q1⟩ => ?_)
  exact thn (hr pos pins s1 σ H1 _ I1 q1) fun us s2 ⟨xs, H2, I2, r2, q2⟩ => ⟨x :: xs, H2, I2, .cons r1 r2, q2⟩
def tTup (t : TA) : TE := fun σ H Q => t σ H fun xs H1 => xs.length ≤ sizeLine ∧ ∀ p, H1 p = none → Q (.ref p) (upd H1 p (.tup xs))
def tLst (t : TA) : TE := fun σ H Q => t σ H fun xs H1 => xs.length ≤ sizeLine ∧ ∀ p, H1 p = none → Q (.ref p) (upd H1 p (.lst xs))
theorem pe_tup {x1} (h : PA X es t) : PE X (.Tuple es x1 pos) (tTup t) := by
  intro pins s σ H Q I hq
  refine wpAny_Tuple_spliced (thn (h pos pins s σ H _ I hq) fun us s1 ⟨xs, H1, I1, r, z, q⟩ => ⟨by rw [← r.length]; exact z, ?_⟩)
  have hf : H1 s1.heap.objs.size = none := I1.hok.fresh (Nat.le_refl _)
  refine ⟨.ref s1.heap.objs.size, upd H1 s1.heap.objs.size (.tup xs), I1.laid (t' := s1.toks) (fun b u e => Heap.get?_push_of_some _ e) (Nat.le_refl _) ?_, rfl, q _ hf⟩
  exact ⟨z, us, r, ⟨_, Heap.get?_push_size _ rfl, rfl, _, rfl⟩⟩
theorem pe_lst (h : PA X es t) : PE X (.List es pos) (tLst t) := by
  intro pins s σ H Q I hq
  refine wpAny_List_spliced (thn (h pos pins s σ H _ I hq) fun us s1 ⟨xs, H1, I1, r, z, q⟩ => ⟨by rw [← r.length]; exact z, ?_⟩)
  have hf : H1 s1.heap.objs.size = none := I1.hok.fresh (Nat.le_refl _)
  refine ⟨.ref s1.heap.objs.size, upd H1 s1.heap.objs.size (.lst xs), I1.laid (t' := s1.toks) (fun b u e => Heap.get?_push_of_some _ e) (Nat.le_refl _) ?_, rfl, q _ hf⟩
  exact ⟨z, us, 0, r, Heap.get?_push_size _ rfl⟩
end
abbrev Sp := List V → Hp → VK → XK → Prop
abbrev CXT := List Env → Hp → Shared → XK → Value → Shared → Prop
structure Env0 (P : Program) (w : World) (K : PySem.W.Frag) (mg : Str → Option Value) (base : Heap) (A : Around) (outer : List Env) (s : Shared) (H : Hp) : Prop where
  frames : A.frames = some outer
  mod : Mod K mg base
  bs : ∀ b o, base.get? b = some o → s.heap.get? b = some o ∧ H b = none
  bsz : base.objs.size ≤ s.heap.objs.size
  funs : s.heap.FunFrames base outer
  frf : ∀ b ∈ frs outer, H b = none
  hok : HOk P w H s.heap
  bare : AllBare s.gens
def CE (outer : List Env) (P : Program) (w : World) (H : Hp) (s : Shared) (Q : VK) (u : Value) (s' : Shared) : Prop :=
  ∃ v H', s'.os = s.os ∧ AllBare s'.gens ∧ Un (frs outer) [] H H' s.heap s'.heap ∧ HOk P w H' s'.heap ∧ RelV v u ∧ Q v H'
def CR (CX : CXT) (outer : List Env) (P : Program) (w : World) (H : Hp) (s : Shared) (Q : VK) (E : XK) (r : Result) (s' : Shared) : Prop :=
  match r with
  | .ok (.ret u) => CE outer P w H s Q u s'
  | .ok _ => False
  | .error e => CX outer H s E e s'
structure FnOk (P : Program) (w : World) (K : PySem.W.Frag) (mg : Str → Option Value) (base : Heap) (CX : CXT) (k : Nat) (f : Addr) (fd : FuncData) (ps : List Str) (sp : Sp) : Prop where
  len : ∀ vs H Q E, sp vs H Q E → vs.length = ps.length
  run : ∀ (A : Around) (outer : List Env) (s : Shared) (H : Hp) (args : Args) (us : List Value) (vs : List V) (Q : VK) (E : XK), Room k A → Env0 P w K mg base A outer s H → BindsTo s fd args (ps.zip us) → Vals vs us → sp vs H Q E →
    codeAny (model P w) A (.call (.ref f) args) (CR CX outer P w H s Q E) s
theorem FnOk.mono {P : Program} {w : World} {K : PySem.W.Frag} {mg : Str → Option Value} {base : Heap} {CX : CXT} {j k : Nat} {f : Addr} {fd : FuncData} {ps : List Str} {sp : Sp} (F : FnOk P w K mg base CX j f fd ps sp) (h : j ≤ k) :
    FnOk P w K mg base CX k f fd ps sp := ⟨F.len, fun A outer s H args us vs Q E hr => F.run A outer s H args us vs Q E (hr.mono h)⟩
theorem FnOk.imp {P : Program} {w : World} {K : PySem.W.Frag} {mg : Str → Option Value} {base : Heap} {CX : CXT} {k : Nat} {f : Addr} {fd : FuncData} {ps : List Str} {sp sp' : Sp} (F : FnOk P w K mg base CX k f fd ps sp)
    (h : ∀ vs H Q E, sp' vs H Q E → sp vs H Q E) : FnOk P w K mg base CX k f fd ps sp' :=
  ⟨fun vs H Q E q => F.len vs H Q E (h _ _ _ _ q), fun A outer s H args us vs Q E hr he hb hv hs => F.run A outer s H args us vs Q E hr he hb hv (h _ _ _ _ hs)⟩
theorem Env0.in1 {P : Program} {w : World} {K : PySem.W.Frag} {mg : Str → Option Value} {base : Heap} {A : Around} {outer : List Env} {s : Shared} {H : Hp} (e : Env0 P w K mg base A outer s H) :
    Env0 P w K mg base A.in1 outer s H := ⟨e.frames, e.mod, e.bs, e.bsz, e.funs, e.frf, e.hok, e.bare⟩
section
variable {X : Cx} {pins : List (Addr × Obj)} {σ : St} {H : Hp} {s s' : Shared}
theorem Inv.env0 (I : Inv X pins σ H s) : Env0 X.prog X.w X.K X.mg X.base X.A X.stack s H :=
  ⟨I.ok.frames, I.ok.mod, I.bs, Nat.le_trans I.ok.bsz I.sz, I.stack, I.stkFree, I.hok, I.bare⟩
theorem Inv.after {Q : VK} {u : Value} (I : Inv X pins σ H s) (h : CE X.stack X.prog X.w H s Q u s') : EP X pins σ Q u s' := by
  obtain ⟨v, H', os, bare, un, hok, r, q⟩ := h
  obtain ⟨hh, g, d, t, os'⟩ := s'
  obtain rfl : os' = s.os := os
  exact ⟨v, H', I.call (h' := hh) (g' := g) (d' := d) (t' := t) (ch := []) un hok bare (fun b z => absurd z (by simp)), r, q⟩
end
def tCall (sp : Sp) (dvs : List V) (E : XK) (t : TA) : TE := fun σ H Q => t σ H fun vs H1 => sp (vs ++ dvs) H1 Q E
def Binds (K : PySem.W.Frag) (fd : FuncData) (ps : List Str) (ds : List Value) : Prop :=
  ∀ (s : Shared) (us : List Value), K.In s.heap → (us ++ ds).length = ps.length → BindsTo s fd ⟨us, []⟩ (ps.zip (us ++ ds))
theorem Binds.all {K : PySem.W.Frag} {fd : FuncData} {ps : List Str} (h : ∀ us : List Value, us.length = ps.length → bindArgs fd ⟨us, []⟩ = pure (ps.zip us)) : Binds K fd ps [] := fun s us _ hl => by
  rw [List.append_nil] at hl ⊢
  exact .of_eq (h us hl)
def Passes (CX : CXT) (X : Cx) (E : XK) : Prop := ∀ (pins : List (Addr × Obj)) (σ : St) (H : Hp) (s : Shared) (e : Value) (s' : Shared), Inv X pins σ H s → CX X.stack H s E e s' → X.xe e s'
section
variable {X : Cx} {CX : CXT} {k : Nat} {f C : Addr} {fd : FuncData} {ps : List Str} {sp : Sp} {dvs : List V} {ds : List Value} {E : XK} {x m : Str} {p pos apos : Pos} {e o : Expr} {es : List Expr} {ta : TE} {t : TA}
theorem run_fn {pins : List (Addr × Obj)} {σ : St} {H : Hp} {s : Shared} {Q : VK} {us : List Value} {vs : List V} (F : FnOk X.prog X.w X.K X.mg X.base CX k f fd ps sp) (hr : Room k X.A) (hb : Binds X.K fd ps ds) (hd : Vals dvs ds) (hx : Passes CX X E)
    (I : Inv X pins σ H s) (r : Vals vs us) (h : sp (vs ++ dvs) H Q E) : wpAny (model X.prog X.w) X.A (call (.ref f) us) (EP X pins σ Q) X.xe s := by
  have r2 : Vals (vs ++ dvs) (us ++ ds) := r.append hd
  have hl : (us ++ ds).length = ps.length := by rw [← r2.length]; exact F.len _ _ _ _ h
  refine wpAny_call (codeAny_mono (F.run X.A X.stack s H ⟨us, []⟩ (us ++ ds) (vs ++ dvs) Q E hr I.env0 (hb s us I.kIn hl) r2 h) fun r s' hq => ?_)
  cases r with
  | error e => exact hx pins σ H s e s' I hq
  | ok fl =>
    cases fl with
    | ret u => exact I.after hq
    | next => exact False.elim hq
    | brk => exact False.elim hq
    | cont => exact False.elim hq
theorem pe_call (F : FnOk X.prog X.w X.K X.mg X.base CX k f fd ps sp) (hr : Room k X.A) (hg : Gl X x) (hm : X.mg x = some (.ref f)) (hk : PySem.W.keepIn X.K (.ref f) = true) (hb : Binds X.K fd ps ds) (hd : Vals dvs ds) (hx : Passes CX X E)
    (ha : PA X (e :: es) t) (hdb : (x == ("__debug__" : Str)) = false := by decide) (he : starEach (e :: es) X.env = (false, eval e X.env) :: starEach es X.env := by rfl) (hpl : (backTo pos (starEach es X.env)).any (·.1) = false := by rfl) :
    PE X (.Call (.Name x p) (e :: es) [] pos) (tCall sp dvs E t) := by
  intro pins s σ H Q I h
  refine wpAny_Call_Name_kw (ld_glob I hg hm ?_ hdb)
  refine PySem.W.callWith_K (h₀ := X.base) I.ok.mod.kin hk (thn (ha pos pins s σ H _ I h) fun us s1 ⟨vs, H1, I1, r, q⟩ => ⟨I1.kIn, ?_⟩) he hpl
  exact run_fn F hr hb hd hx I1 r q
end
section
variable {X : Cx} {CX : CXT} {k : Nat} {f C : Addr} {fd : FuncData} {ps ks : List Str} {sp : Sp} {E : XK} {x m : Str} {p pos apos kpos : Pos} {e o : Expr} {es : List Expr} {kws : List Keyword} {te ta : TE} {t tk : TA} {nm : Option Str}
variable {g : List Value → List Value → List Value} {gV : List V → List V → List V}
end
structure FnScope (N P : List Str) (sc : Scope) : Prop where
  kind : sc.kind = .function
  co : sc.isCoroutine = false
  gen : sc.isGenerator = false
  nd : N.Nodup
  pre : N.take P.length = P
  par : ∀ x ∈ P, sc.names.lookup x = some .local ∨ sc.names.lookup x = some .cell
  nofree : ∀ y ∈ sc.names, y.2 ≠ .free
theorem bindL_out {kindOf : Str → Option NameKind} {x : Str} : ∀ {binds : List (Str × Value)} {m : Str → Option Value}, (∀ v, (x, v) ∉ binds) → bindL kindOf binds m x = m x
  | [], _, _ => rfl
  | (n, v) :: r, m, h => by
    unfold bindL
    rw [bindL_out fun w hw => h w (List.mem_cons_of_mem _ hw)]
    split
    · have : x ≠ n := by rintro rfl; exact h v List.mem_cons_self
      simp [this]
    · rfl
theorem bindC_out {kindOf : Str → Option NameKind} {x : Str} : ∀ {binds : List (Str × Value)} {m : Str → Option Value}, (∀ v, (x, v) ∉ binds) → bindC kindOf binds m x = m x
  | [], _, _ => rfl
  | (n, v) :: r, m, h => by
    unfold bindC
    rw [bindC_out fun w hw => h w (List.mem_cons_of_mem _ hw)]
    split
    · rfl
    · have : x ≠ n := by rintro rfl; exact h v List.mem_cons_self
      simp [this]
theorem bindL_get {kindOf : Str → Option NameKind} {x : Str} {v : Value} : ∀ {P : List Str} {vs : List Value} {i : Nat} {m : Str → Option Value}, P.Nodup → P[i]? = some x → vs[i]? = some v → kindOf x = some .local →
    bindL kindOf (P.zip vs) m x = some v
  | [], _, _, _, _, h, _, _ => by simp at h
  | _ :: _, [], _, _, _, _, h, _ => by simp at h
  | p :: P, w :: vs, 0, m, nd, h1, h2, hk => by
    simp at h1 h2; subst h1; subst h2
    show bindL kindOf ((p, w) :: P.zip vs) m p = _
    unfold bindL
    rw [bindL_out fun v hv => (List.nodup_cons.mp nd).1 (List.of_mem_zip hv).1, if_pos hk]
    simp
  | p :: P, w :: vs, i + 1, m, nd, h1, h2, hk => by
    show bindL kindOf ((p, w) :: P.zip vs) m x = _
    unfold bindL
    exact bindL_get (i := i) (List.nodup_cons.mp nd).2 (by simpa using h1) (by simpa using h2) hk
theorem bindC_get {kindOf : Str → Option NameKind} {x : Str} {v : Value} : ∀ {P : List Str} {vs : List Value} {i : Nat} {m : Str → Option Value}, P.Nodup → P[i]? = some x → vs[i]? = some v → kindOf x ≠ some .local →
    bindC kindOf (P.zip vs) m x = some v
  | [], _, _, _, _, h, _, _ => by simp at h
  | _ :: _, [], _, _, _, _, h, _ => by simp at h
  | p :: P, w :: vs, 0, m, nd, h1, h2, hk => by
    simp at h1 h2; subst h1; subst h2
    show bindC kindOf ((p, w) :: P.zip vs) m p = _
    unfold bindC
    rw [bindC_out fun v hv => (List.nodup_cons.mp nd).1 (List.of_mem_zip hv).1, if_neg hk]
    simp
  | p :: P, w :: vs, i + 1, m, nd, h1, h2, hk => by
    show bindC kindOf ((p, w) :: P.zip vs) m x = _
    unfold bindC
    exact bindC_get (i := i) (List.nodup_cons.mp nd).2 (by simpa using h1) (by simpa using h2) hk
def start (N : List Str) (vs : List V) : St := vs.map some ++ List.replicate (N.length - vs.length) none
def cxOf (CX : CXT) (P : Program) (w : World) (K : PySem.W.Frag) (mg : Str → Option Value) (base : Heap) (N : List Str) (qual : Str) (scope : Scope) (f : Addr) (cd : Value) (A : Around) (outer : List Env) (s : Shared) (H : Hp) (E : XK) : Cx where
  prog := P
  w := w
  K := K
  mg := mg
  base := base
  A := A.deeper (envOfC qual scope s.heap.objs.size f cd)
  N := N
  s₀ := s
  H₀ := H
  env := envOfC qual scope s.heap.objs.size f cd
  outer := outer
  stack := envOfC qual scope s.heap.objs.size f cd :: outer
  ex := []
  calm := true
  fn := fun _ => true
  pn := []
  xe := fun e s' => wpAny (model P w) (A.deeper (envOfC qual scope s.heap.objs.size f cd)) (leaving (envOfC qual scope s.heap.objs.size f cd) e) (fun _ s'' => CX outer H s E e s'') (fun e' s'' => CX outer H s E e' s'') s'
theorem cell_has {sc : Scope} {n : Nat} {x : Str} (h : sc.names.lookup x = some .cell) : ∃ c, (cellsFrom n sc.names []).lookup x = some c := by
  have q := PySem.W.cellsFrom_some sc.names n [] (.inl h)
  exact Option.isSome_iff_exists.mp q
theorem inv_start {CX : CXT} {P : Program} {w : World} {K : PySem.W.Frag} {mg : Str → Option Value} {base : Heap} {N ps : List Str} {qual : Str} {scope : Scope} {f : Addr} {cd : Value} {A : Around} {outer : List Env} {s s1 : Shared} {H : Hp} {E : XK} {us : List Value} {vs : List V}
    (S : FnScope N ps scope) (hd : A.handled = none) (e0 : Env0 P w K mg base A outer s H) (hl : vs.length = ps.length) (r : Vals vs us)
    (x : InCallC s s.heap.objs.size (bindL (envOfC qual scope s.heap.objs.size f cd).kindOf (ps.zip us) fun _ => none) (cellsFrom (s.heap.objs.size + 1) scope.names []) (bindC (envOfC qual scope s.heap.objs.size f cd).kindOf (ps.zip us) fun _ => none) s1) :
    Inv (cxOf CX P w K mg base N qual scope f cd A outer s H E) [] (start N vs) H s1 := by
  have hpl : ps.length ≤ N.length := by have := congrArg List.length S.pre; rw [List.length_take] at this; omega
  obtain ⟨h1, tk, rfl, hk⟩ := x.done
  have noA : ∀ b : Addr, b ∉ (cxOf CX P w K mg base N qual scope f cd A outer s H E).ex := fun b z => absurd (show b ∈ ([] : List Addr) from z) (by simp)
  refine ⟨⟨e0.mod, S.kind, rfl, rfl, Nat.le_refl _, fun y z c h1 h2 => ?_, fun y hy => ?_, fun y c _ h => ?_, fun _ => hd, Around.frames_deeper e0.frames, .inr ⟨rfl, rfl⟩, fun b z => absurd z (noA b), e0.bs, e0.bsz, fun b _ _ => noA b, fun b z => absurd z (noA b), e0.funs, e0.frf⟩,
    rfl, e0.bare, Un.kept hk, ⟨_, x.toInCall.ns, fun i y v h1 h2 h3 => ?_⟩, fun y c h => ⟨_, x.cell y c h⟩, e0.hok.fresh (Nat.le_refl _), fun y c h => ?_, fun p hp => absurd (show p ∈ ([] : List (Addr × Obj)) from hp) (by simp), e0.hok.kept hk, ?_⟩
  · exact name_of_addr x.apart (PySem.mem_of_lookup h1) (PySem.mem_of_lookup h2)
  · have hy : scope.names.lookup y = some .cell ∨ scope.names.lookup y = some .free := hy
    rcases hy with hy | hy
    · exact cell_has hy
    · exact absurd rfl (S.nofree _ (PySem.mem_of_lookup hy))
  · exact Nat.le_of_lt (x.above y c (PySem.mem_of_lookup h))
  · have hi : i < vs.length := by
      unfold start at h2
      by_cases hi : i < vs.length
      · exact hi
      · rw [List.getElem?_append_right (by simpa using hi)] at h2
        rw [List.getElem?_replicate] at h2
        split at h2 <;> cases h2
    have ha : vs[i]? = some v := by
      unfold start at h2
      rw [List.getElem?_append_left (by simpa using hi), List.getElem?_map] at h2
      cases e : vs[i]? with
      | none => rw [e] at h2; cases h2
      | some a => rw [e] at h2; cases h2; rfl
    obtain ⟨u, hu, rv⟩ := r.get ha
    have hp : ps[i]? = some y := by
      rw [← S.pre, List.getElem?_take_of_lt (by omega)]; exact h1
    have ndP : ps.Nodup := by rw [← S.pre]; exact S.nd.sublist (List.take_sublist _ _)
    refine ⟨u, rv, ?_⟩
    rcases S.par y (List.mem_of_getElem? hp) with k | k
    · exact .inl ⟨k, bindL_get ndP hp hu k⟩
    · obtain ⟨c, e⟩ := cell_has (n := s.heap.objs.size + 1) k
      refine .inr ⟨.inl k, c, e, ?_⟩
      have q := x.cell y c e
      rw [bindC_get ndP hp hu (by show scope.names.lookup y ≠ _; rw [k]; decide)] at q
      exact q
  · exact e0.hok.fresh (Nat.le_of_lt (x.above y c (PySem.mem_of_lookup h)))
  · unfold start
    show _ = N.length
    rw [List.length_append, List.length_map, List.length_replicate]
    omega
theorem fn_of {CX : CXT} {P : Program} {w : World} {K : PySem.W.Frag} {mg : Str → Option Value} {base : Heap} {k : Nat} {f : Addr} {name qual : Str} {params : Arguments} {body : List Stmt} {scope : Scope} {dV kV doc pm cdv ct oc : Value} {an od : Option Addr}
    {osl : Array (Option Value)} {N ps : List Str} {sp : Sp} (lk : K.lookup f = some ⟨oc, od, .func (PySem.W.fnOf name qual params body scope dV kV doc pm an cdv ct), osl⟩) (hcd : PySem.W.codeIn K cdv qual = true) (S : FnScope N ps scope)
    (len : ∀ vs H Q E, sp vs H Q E → vs.length = ps.length)
    (hbody : ∀ (A : Around) (outer : List Env) (s : Shared) (H : Hp) (vs : List V) (Q : VK) (E : XK), Room k (A.deeper (envOfC qual scope s.heap.objs.size f cdv)) → sp vs H Q E →
      ∃ t, PSs (cxOf CX P w K mg base N qual scope f cdv A outer s H E) body t ∧ t { nx := fun _ H' => Q .non H', rt := Q } (start N vs) H) :
    FnOk P w K mg base CX (k + 1) f (PySem.W.fnOf name qual params body scope dV kV doc pm an cdv ct) ps sp := by
  refine ⟨len, fun A outer s H args us vs Q E hr e0 hb r hsp => ?_⟩
  have hl := len _ _ _ _ hsp
  have KX : K.In s.heap := e0.mod.kin.keeps fun b o e => (e0.bs b o e).1
  have lim : s.heap.NoLimit := e0.mod.nolimit.keeps fun b o e => (e0.bs b o e).1
  have hkind : ∀ y ∈ ps.zip us, scope.names.lookup y.1 = some .local ∨ (scope.names.lookup y.1 = some .cell ∧ ((cellsFrom (s.heap.objs.size + 1) scope.names []).lookup y.1).isSome = true) := fun ⟨n, v⟩ hy => by
    rcases S.par n (List.of_mem_zip hy).1 with q | q
    · exact .inl q
    · exact .inr ⟨q, PySem.W.cellsFrom_some _ _ _ (.inl q)⟩
  refine codeAny_call_function hr.depth (KX _ _ lk) rfl S.co S.gen rfl (PySem.W.codeRec_of KX hcd) (hb _ _ _ _ ?_)
  refine wpAny_newFunctionEnv_cells S.kind hkind fun env he s1 x => ?_
  subst he
  refine ⟨lim.keeps x.toInCall.keep, codeAny_func ?_⟩
  obtain ⟨t, ht, hq⟩ := hbody A outer s H vs Q E (hr.deeper _) hsp
  have I : Inv (cxOf CX P w K mg base N qual scope f cdv A outer s H E) [] (start N vs) H s1 := inv_start S hr.hd e0 hl r x
  refine wpAny_mono (ht [] s1 (start N vs) H _ I hq) (fun fl s' hs => ?_) fun e s' hs => hs
  have fin : ∀ {σ' : St} {H' : Hp} {v : V} {u : Value}, Inv (cxOf CX P w K mg base N qual scope f cdv A outer s H E) [] σ' H' s' → RelV v u → Q v H' → CE outer P w H s Q u s' :=
    fun {σ' H' v u} J rv q => ⟨v, H', J.os, J.bare, J.base, J.hok, rv, q⟩
  cases fl with
  | ret u =>
    obtain ⟨v, σ', H', J, rv, q⟩ := hs
    exact fin J rv q
  | next =>
    obtain ⟨σ', H', J, q⟩ := hs
    exact fin (v := V.non) (u := Value.none) J rfl q
  | brk =>
    obtain ⟨_, _, _, q⟩ := hs
    exact False.elim q
  | cont =>
    obtain ⟨_, _, _, q⟩ := hs
    exact False.elim q
end L2
namespace L2
open PySem PySem.Spec PyProof.Rows
section
variable {X : Cx} {x : Str} {p pos : Pos} {e : Expr} {es : List Expr} {t : TA} {id T : String} {r : List V → Hp → VK → Prop}
def tCB (r : List V → Hp → VK → Prop) (t : TA) : TE := fun σ H Q => t σ H fun vs H1 => r vs H1 Q
theorem pe_callB (hc : CallR X (.builtin id) r) (hg : Gl X x) (hm : X.mg x = none) (hv : bootBuiltins x = some (.builtin id)) (ha : PA X (e :: es) t) (hn : x ≠ "__name__" := by decide) (hdb : (x == ("__debug__" : Str)) = false := by decide)
    (he : starEach (e :: es) X.env = (false, eval e X.env) :: starEach es X.env := by rfl) (hpl : (backTo pos (starEach es X.env)).any (·.1) = false := by rfl) : PE X (.Call (.Name x p) (e :: es) [] pos) (tCB r t) := by
  intro pins s σ H Q I h
  refine wpAny_Call_Name_kw (ld_blt I hg hm hv ?_ hn hdb)
  exact PyProof.Rows.callWith_builtin1 (thn (ha pos pins s σ H _ I h) fun us s1 ⟨vs, H1, I1, r1, q1⟩ => hc pins s1 σ H1 vs us Q I1 r1 q1) he hpl
theorem pe_callTy (hc : CallR X (.type T) r) (hg : Gl X x) (hm : X.mg x = none) (hv : bootBuiltins x = some (.type T)) (ha : PA X (e :: es) t) (hn : x ≠ "__name__" := by decide) (hdb : (x == ("__debug__" : Str)) = false := by decide)
    (he : starEach (e :: es) X.env = (false, eval e X.env) :: starEach es X.env := by rfl) (hpl : (backTo pos (starEach es X.env)).any (·.1) = false := by rfl) : PE X (.Call (.Name x p) (e :: es) [] pos) (tCB r t) := by
  intro pins s σ H Q I h
  refine wpAny_Call_Name_kw (ld_blt I hg hm hv ?_ hn hdb)
  exact PyProof.Rows.callWith_type1 (thn (ha pos pins s σ H _ I h) fun us s1 ⟨vs, H1, I1, r1, q1⟩ => hc pins s1 σ H1 vs us Q I1 r1 q1) he hpl
end
end L2
namespace HT
open PySem PyProof.Rows
section
open PySem.SeqAt
open PySem.AutoSeq1 (wpAny_loadPart')
open PySem.MeetsSeq PySem.MeetsSeq2 PySem.MeetsSeq3
end
section
variable {prog : Program} {w : World} {A : Around} {E : Value → Shared → Prop} {s : Shared}
theorem cat_tup {t b : Addr} {vs ws : List Value} {Q : Value → Shared → Prop} (ht : IsTup s.heap t vs.toArray) (hb : IsTup s.heap b ws.toArray) (hv : vs ≠ [])
    (h1 : ws = [] → Q (.ref t) s) (h2 : ws ≠ [] → Q (.ref s.heap.objs.size) { s with heap := s.heap.push { cls := .type "tuple", data := .seq (vs ++ ws).toArray } })
    (hsz : vs.length + ws.length ≤ sizeLine) : wpAny (model prog w) A (binaryOp .Add (.ref t) (.ref b)) Q E s := by
  obtain ⟨⟨cls, dd, data, sl⟩, ho, hc, n, hd⟩ := id ht
  obtain ⟨⟨cls2, dd2, data2, sl2⟩, ho2, hc2, n2, hd2⟩ := id hb
  simp only at hc hd hc2 hd2
  subst hc hd hc2 hd2
  have e : vs.toArray ++ ws.toArray = (vs ++ ws).toArray := by simp
  by_cases hw : ws = []
  · exact concat_meets ⟨_, ho, rfl⟩ ⟨_, ho2, rfl⟩ noFill_tuple_add seq_tuple_add PySem.F.slot_tuple_add PySem.F.entry_tuple_add (PySem.F.args_tuple_add_2 _ _)
      (tuple_addW1 t b vs.toArray ws.toArray n n2 dd dd2 sl sl2 (by simpa using hv) (by simp [hw])) ⟨ho, ho2, h1 hw⟩
  · refine concat_meets ⟨_, ho, rfl⟩ ⟨_, ho2, rfl⟩ noFill_tuple_add seq_tuple_add PySem.F.slot_tuple_add PySem.F.entry_tuple_add (PySem.F.args_tuple_add_2 _ _)
      (tuple_addW2 t b vs.toArray ws.toArray n n2 dd dd2 sl sl2 (by simpa using hv) (by simpa using hw) (by rw [List.size_toArray, List.size_toArray]; exact hsz)) ⟨ho, ho2, ?_⟩
    rw [e]
    exact h2 hw
def sIx (n d : Nat) : Option Int → Nat
  | none => d
  | some v => if v < 0 then (v + (n : Int)).toNat else min v.toNat n
theorem sIx_le (n d : Nat) (hd : d ≤ n) (o : Option Int) : sIx n d o ≤ n := by
  cases o with
  | none => exact hd
  | some v =>
    show (if v < 0 then (v + (n : Int)).toNat else min v.toNat n) ≤ n
    by_cases hv : v < 0
    · rw [if_pos hv]; omega
    · rw [if_neg hv]; exact Nat.min_le_right _ _
theorem clip_eq (v : Int) (n d : Nat) : (if v < 0 then max (v + (n : Int)) 0 else min v (n : Int)) = ((sIx n d (some v) : Nat) : Int) := by
  show (if v < 0 then max (v + (n : Int)) 0 else min v (n : Int)) = (((if v < 0 then (v + (n : Int)).toNat else min v.toNat n) : Nat) : Int)
  by_cases hv : v < 0
  · simp only [if_pos hv]; omega
  · simp only [if_neg hv]; omega
theorem adjust_gen (lo hi : Option Int) (n : Nat) : Builtin.Slice.sliceAdjust lo hi 1 (n : Int) = (((sIx n 0 lo : Nat) : Int), ((sIx n n hi : Nat) : Int)) := by
  have h1 : ¬ ((1 : Int) < 0) := by omega
  unfold Builtin.Slice.sliceAdjust
  simp only [h1, if_false]
  refine Prod.ext ?_ ?_
  · cases lo with
    | none => rfl
    | some v => exact clip_eq v n 0
  · cases hi with
    | none => rfl
    | some v => exact clip_eq v n n
theorem places_gen (i j : Nat) : Builtin.Slice.slicePlaces (i : Int) (j : Int) 1 = j - i := by
  unfold Builtin.Slice.slicePlaces
  have h1 : (1 : Int) > 0 := by omega
  simp only [h1, if_true, Int.ediv_one]
  split <;> omega
theorem slicePart_ {v : Value} {o : Option Int} {Q : Option Int → Shared → Prop} (p : IsPart v o) (h : Q o s) : wpAny (model prog w) A (Builtin.Slice.slicePartIndex v) Q E s := by
  cases p with
  | none => exact slicePart_none h
  | int i t => exact slicePart_int h
theorem sliceApplied_gen {sl : Addr} {vl vu : Value} {lo hi : Option Int} {n : Nat} {Q : Int × Int × Nat → Shared → Prop} (hs : s.heap.IsSliceOf sl vl vu .none) (pl : IsPart vl lo) (pu : IsPart vu hi)
    (h : Q (((sIx n 0 lo : Nat) : Int), 1, sIx n n hi - sIx n 0 lo) s) : wpAny (model prog w) A (Builtin.Slice.sliceApplied (.ref sl) (pure (n : Int))) Q E s := by
  obtain ⟨os, hos, hcs, hds⟩ := id hs
  unfold Builtin.Slice.sliceApplied Builtin.Slice.sliceFields
  refine wpAny_bind (wpAny_bind (wpAny_field hos hds (x := vl) rfl (wpAny_bind (wpAny_field hos hds (x := vu) rfl (wpAny_bind (wpAny_field hos hds (x := .none) rfl (wpAny_pure ?_)))))))
  refine wpAny_bind (slicePart_none ?_)
  show wpAny _ _ (if ((1 : Int) == 0) = true then _ else _) _ _ s
  rw [if_neg (by decide)]
  refine wpAny_bind (slicePart_ pl (wpAny_bind (slicePart_ pu (wpAny_bind (wpAny_pure ?_)))))
  show wpAny _ _ (match Builtin.Slice.sliceAdjust lo hi 1 (n : Int) with | (lo, hi) => pure (lo, (1 : Int), Builtin.Slice.slicePlaces lo hi 1)) _ _ s
  rw [adjust_gen lo hi n]
  show wpAny _ _ (pure (((sIx n 0 lo : Nat) : Int), (1 : Int), Builtin.Slice.slicePlaces ((sIx n 0 lo : Nat) : Int) ((sIx n n hi : Nat) : Int) 1)) _ _ s
  rw [places_gen]
  exact wpAny_pure h
theorem pick_gen (xs : Array Value) (i k : Nat) : ((List.range k).filterMap fun (m : Nat) => xs[((i : Int) + (m : Int) * 1).toNat]?).toArray = ((xs.toList.drop i).take k).toArray := by
  have e : (fun (m : Nat) => xs[((i : Int) + (m : Int) * 1).toNat]?) = fun m => xs[i + m]? := by
    funext m
    have : ((i : Int) + (m : Int) * 1).toNat = i + m := by omega
    rw [this]
  rw [e]
  have := pick_run xs i k
  rw [List.filterMap_map] at this
  have e2 : ((fun x => xs[x]?) ∘ fun x => i + x) = fun m => xs[i + m]? := rfl
  rw [e2] at this
  rw [this]
theorem getItem_tuple_cut {t sl : Addr} {items : Array Value} {vl vu : Value} {lo hi : Option Int} {Q : Value → Shared → Prop} (ht : IsTup s.heap t items) (hs : s.heap.IsSliceOf sl vl vu .none) (pl : IsPart vl lo) (pu : IsPart vu hi)
    (hw : ¬ (sIx items.size 0 lo = 0 ∧ sIx items.size items.size hi = items.size))
    (h : Q (.ref s.heap.objs.size) { s with heap := s.heap.push { cls := .type "tuple", data := .seq ((items.toList.drop (sIx items.size 0 lo)).take (sIx items.size items.size hi - sIx items.size 0 lo)).toArray } })
    (hsz : items.size ≤ sizeLine) : wpAny (model prog w) A (getItem (.ref t) (.ref sl)) Q E s := by
  have htake : sizeOk (.seq ((items.toList.drop (sIx items.size 0 lo)).take (sIx items.size items.size hi - sIx items.size 0 lo)).toArray) := by
    show ((items.toList.drop (sIx items.size 0 lo)).take (sIx items.size items.size hi - sIx items.size 0 lo)).toArray.size ≤ sizeLine
    rw [List.size_toArray, List.length_take, List.length_drop, Array.length_toList]
    omega
  have hj : sIx items.size items.size hi ≤ items.size := sIx_le _ _ (Nat.le_refl _) hi
  obtain ⟨os, hos, hcs, hds⟩ := id hs
  have hTs : s.TypeIs (.ref sl) "slice" := ⟨os, hos, hcs⟩
  unfold getItem
  try with_reducible refine wpAny_holding ?_
  first | refine wpAny_bind (wpAny_pure ?_) | skip
  refine wpAny_bind (wpAny_sequenceKey ht.typeIs (by decide) ?_)
  refine wpAny_bind (wpAny_callSpecial?_slot (name := Str.ofString "__getitem__") ht.typeIs PyProof.Rows.slot_tuple_getitem
    (wpAny_call_entry PyProof.Rows.slot_tuple_getitem ht.typeIs entry_tuple_getitem ?_ (args_tuple_getitem _ _)))
  show wpAny _ _ (Builtin.Tuple.tupleItemsOf (.ref t) >>= _) _ _ s
  refine wpAny_bind (tupleItemsOf_ ht ?_)
  refine wpAny_bind (wpAny_typeOf hTs ?_)
  rw [if_pos (by decide)]
  refine wpAny_bind (sliceApplied_gen hs pl pu ?_)
  have hno : ¬ ((((sIx items.size 0 lo : Nat) : Int) == 0 && (1 : Int) == 1 && (sIx items.size items.size hi - sIx items.size 0 lo) == items.size) = true) := by
    intro q
    rw [Bool.and_eq_true, Bool.and_eq_true] at q
    have q1 : ((sIx items.size 0 lo : Nat) : Int) = 0 := eq_of_beq q.1.1
    have q2 : sIx items.size items.size hi - sIx items.size 0 lo = items.size := eq_of_beq q.2
    exact hw ⟨by omega, by omega⟩
  show wpAny _ _ (if (((sIx items.size 0 lo : Nat) : Int) == 0 && (1 : Int) == 1 && (sIx items.size items.size hi - sIx items.size 0 lo) == items.size) = true then _ else _) _ _ s
  rw [if_neg hno, pick_gen]
  first
    | exact wpAny_bind (m := Builtin.Tuple.tupleExact _) (wpAny_newObj_type (wpAny_pure ⟨_, rfl, wpAny_pure h⟩) htake)
    | exact wpAny_bind (m := Builtin.Tuple.tupleExact _) (wpAny_newObj_type (wpAny_bind (wpAny_pure (wpAny_pure ⟨_, rfl, wpAny_pure h⟩))) htake)
    | exact wpAny_bind (wpAny_bind (m := Builtin.Tuple.tupleExact _) (wpAny_newObj_type (wpAny_pure (wpAny_pure ⟨_, rfl, wpAny_pure h⟩)) htake))
    | exact wpAny_bind (wpAny_bind (m := Builtin.Tuple.tupleExact _) (wpAny_newObj_type (wpAny_pure ⟨_, rfl, wpAny_pure h⟩) htake))
end
end HT
namespace L2
open PySem PySem.Spec PyProof.Rows
abbrev TO := St → Hp → (Option Int → Hp → Prop) → Prop
def PO (X : Cx) (e : Option Expr) (t : TO) : Prop :=
  ∀ (pins : List (Addr × Obj)) (s : Shared) (σ : St) (H : Hp) (Q : Option Int → Hp → Prop), Inv X pins σ H s → t σ H Q →
    wpAny (model X.prog X.w) X.A (evalPart e X.env) (fun u s' => ∃ o H', Inv X pins σ H' s' ∧ IsPart u o ∧ Q o H') X.xe s
def tNoPart : TO := fun _ H Q => Q none H
def tPart (t : TE) : TO := fun σ H Q => t σ H fun x H1 => ∃ i, x = .int i ∧ Q (some i) H1
section
variable {X : Cx} {e : Expr} {te : TE} {lo hi : Option Expr} {tl th : TO} {pos p2 : Pos}
theorem po_none : PO X none tNoPart := by
  intro pins s σ H Q I h
  rw [evalPart_none]
  exact wpAny_pure ⟨none, H, I, .none, h⟩
theorem po_some (h : PE X e te) : PO X (some e) (tPart te) := by
  intro pins s σ H Q I hw
  rw [evalPart_some]
  refine thn (h pins s σ H _ I hw) fun u s1 ⟨x, H1, I1, r1, q1⟩ => ?_
  obtain ⟨i, rfl, q⟩ := q1
  obtain ⟨t, rfl⟩ := r1
  exact ⟨some i, H1, I1, .int i t, q⟩
def SlR (X : Cx) (r : V → Option Int → Option Int → Hp → VK → Prop) : Prop :=
  ∀ (pins : List (Addr × Obj)) (s : Shared) (σ : St) (H : Hp) (x : V) (v vl vu : Value) (lo hi : Option Int) (sl : Addr) (Q : VK), Inv X pins σ H s → RelV x v → s.heap.IsSliceOf sl vl vu .none → IsPart vl lo → IsPart vu hi → r x lo hi H Q →
    ∃ T id, typeLookup (.type T) "__getitem__" = pure (some (.builtin id)) ∧ s.TypeIs v T ∧ wpAny (model X.prog X.w) X.A (getItem v (.ref sl)) (EP X pins σ Q) X.xe s
theorem SlR.or {r r' : V → Option Int → Option Int → Hp → VK → Prop} (h : SlR X r) (h' : SlR X r') : SlR X (fun x lo hi H Q => r x lo hi H Q ∨ r' x lo hi H Q) := by
  intro pins s σ H x v vl vu lo hi sl Q I rx hs pl pu q
  rcases q with q | q
  · exact h pins s σ H x v vl vu lo hi sl Q I rx hs pl pu q
  · exact h' pins s σ H x v vl vu lo hi sl Q I rx hs pl pu q
def tSl (r : V → Option Int → Option Int → Hp → VK → Prop) (te : TE) (tl th : TO) : TE := fun σ H Q => te σ H fun x H1 => tl σ H1 fun l H2 => th σ H2 fun u H3 => r x l u H3 Q
theorem pe_slice {r : V → Option Int → Option Int → Hp → VK → Prop} (hr : SlR X r) (he : PE X e te) (hl : PO X lo tl) (hu : PO X hi th) : PE X (.Subscript e (.Slice lo hi none p2) pos) (tSl r te tl th) := by
  intro pins s σ H Q I h
  refine Subscript_ (thn (he pins s σ H _ I h) fun v s1 ⟨x, H1, I1, r1, q1⟩ => ?_)
  refine wpAny_Slice (thn (hl pins s1 σ H1 _ I1 q1) fun vl s2 ⟨l, H2, I2, pl, q2⟩ => thn (hu pins s2 σ H2 _ I2 q2) fun vu s3 ⟨u, H3, I3, pu, q3⟩ => ?_)
  rw [evalPart_none]
  refine wpAny_pure ?_
  have I4 : Inv X pins σ H3 { s3 with heap := s3.heap.push { cls := .type "slice", data := .fields #[vl, vu, .none] } } := I3.kept (t' := s3.toks) fun b ob q => Heap.get?_push_of_some _ q
  obtain ⟨T, id, hT, ht, hg⟩ := hr pins { s3 with heap := s3.heap.push { cls := .type "slice", data := .fields #[vl, vu, .none] } } σ H3 x v vl vu l u s3.heap.objs.size Q I4 r1 (Heap.IsSliceOf.new ..) pl pu q3
  show wpAny (model X.prog X.w) X.A (subscriptTail e (.Slice lo hi none p2) v (.ref s3.heap.objs.size)) (EP X pins σ Q) X.xe { s3 with heap := s3.heap.push { cls := .type "slice", data := .fields #[vl, vu, .none] } }
  exact tail_any (ops := [.ref s3.heap.objs.size, v]) ht hT hg (by with_unfolding_all rfl)
def cutV (xs : List V) (lo hi : Option Int) : List V := (xs.drop (HT.sIx xs.length 0 lo)).take (HT.sIx xs.length xs.length hi - HT.sIx xs.length 0 lo)
theorem cutV_length (xs : List V) (lo hi : Option Int) : (cutV xs lo hi).length ≤ xs.length := by
  unfold cutV
  rw [List.length_take, List.length_drop]
  omega
def rSlT (K : PySem.W.Frag) : V → Option Int → Option Int → Hp → VK → Prop := fun x lo hi H Q => ∃ a xs, x = .ref a ∧ SqT K H a xs ∧
  ¬ (HT.sIx xs.length 0 lo = 0 ∧ HT.sIx xs.length xs.length hi = xs.length) ∧ ∀ p, H p = none → Q (.ref p) (upd H p (.tup (cutV xs lo hi)))
theorem sl_tup : SlR X (rSlT X.K) := by
  intro pins s σ H x v vl vu lo hi sl Q I rx hs pl pu h
  obtain ⟨a, xs, rfl, hx, hw, q⟩ := h
  cases rx
  obtain ⟨its, r, ht, hz⟩ := I.tuple hx
  have hlen : its.toArray.size = xs.length := by rw [List.size_toArray]; exact r.length.symm
  refine ⟨"tuple", _, PyProof.Rows.slot_tuple_getitem.lookup, ht.typeIs, ?_⟩
  refine HT.getItem_tuple_cut ht hs pl pu (by rw [hlen]; exact hw) ?_ (by rw [hlen]; exact hz)
  rw [hlen]
  refine ⟨.ref s.heap.objs.size, _, I.laid (t' := s.toks) (o := .tup (cutV xs lo hi)) (fun b ob q => Heap.get?_push_of_some _ q) (Nat.le_refl _) ?_, rfl, q _ (I.hok.fresh (Nat.le_refl _))⟩
  exact ⟨Nat.le_trans (cutV_length xs lo hi) hz, _, (r.drop (HT.sIx xs.length 0 lo)).take (HT.sIx xs.length xs.length hi - HT.sIx xs.length 0 lo), IsTup.new _ _⟩
def rCatT (K : PySem.W.Frag) : R2 := fun x y H Q => ∃ a b xs ys, x = .ref a ∧ y = .ref b ∧ SqT K H a xs ∧ SqT K H b ys ∧ xs ≠ [] ∧ xs.length + ys.length ≤ sizeLine ∧
  (ys = [] → Q (.ref a) H) ∧ (ys ≠ [] → ∀ p, H p = none → Q (.ref p) (upd H p (.tup (xs ++ ys))))
theorem Vals.nil_iff {xs : List V} {us : List Value} (r : Vals xs us) : us = [] ↔ xs = [] := by
  cases r with
  | nil => simp
  | cons _ _ => simp
theorem op_catT : OpR X (binaryOp .Add) (rCatT X.K) := by
  intro pins s σ H x y v u Q I rx ry h
  obtain ⟨a, b, xs, ys, rfl, rfl, ha, hb, hx, hz, q1, q2⟩ := h
  cases rx
  cases ry
  obtain ⟨its, r1, p1, _⟩ := I.tuple ha
  obtain ⟨its2, r2, p2, _⟩ := I.tuple hb
  refine HT.cat_tup p1 p2 (fun z => hx (r1.nil_iff.mp z)) (fun z => ⟨.ref a, H, I, rfl, q1 (r2.nil_iff.mp z)⟩) (fun z => ?_) (by rw [← r1.length, ← r2.length]; exact hz)
  refine ⟨.ref s.heap.objs.size, _, I.laid (t' := s.toks) (o := .tup (xs ++ ys)) (fun b ob q => Heap.get?_push_of_some _ q) (Nat.le_refl _) ?_, rfl, q2 (fun w => z (r2.nil_iff.mpr w)) _ (I.hok.fresh (Nat.le_refl _))⟩
  exact ⟨by rw [List.length_append]; exact hz, _, r1.append r2, IsTup.new _ _⟩
end
end L2
namespace L2
open PySem PySem.Spec PyProof.Rows
def ixN (n : Nat) (i : Int) : Option Nat := if 0 ≤ i then (if i < n then some i.toNat else none) else if -(n : Int) ≤ i then some (i + n).toNat else none
def atI {α : Type} (xs : List α) (i : Int) : Option α := (ixN xs.length i).bind fun j => xs[j]?
theorem ixN_seq {n : Nat} {i : Int} {j : Nat} (h : ixN n i = some j) : seqIndex? i n = some j ∧ j < n ∧ -(n : Int) ≤ i ∧ i < n := by
  unfold ixN at h
  by_cases h0 : 0 ≤ i
  · rw [if_pos h0] at h
    by_cases h1 : i < n
    · rw [if_pos h1] at h
      have e : i.toNat = j := Option.some.inj h
      exact ⟨by rw [seqIndex_of h0 h1, e], by omega, by omega, h1⟩
    · rw [if_neg h1] at h; cases h
  · rw [if_neg h0] at h
    by_cases h1 : -(n : Int) ≤ i
    · rw [if_pos h1] at h
      have e : (i + n).toNat = j := Option.some.inj h
      exact ⟨by rw [seqIndex_neg (by omega) h1, e], by omega, h1, by omega⟩
    · rw [if_neg h1] at h; cases h
theorem atI_get {α : Type} {xs : List α} {i : Int} {v : α} (h : atI xs i = some v) : ∃ j, seqIndex? i xs.length = some j ∧ xs[j]? = some v ∧ j < xs.length ∧ -(xs.length : Int) ≤ i ∧ i < xs.length := by
  unfold atI at h
  cases e : ixN xs.length i with
  | none => rw [e] at h; cases h
  | some j =>
    rw [e] at h
    obtain ⟨h1, h2, h3, h4⟩ := ixN_seq e
    exact ⟨j, h1, h, h2, h3, h4⟩
theorem atI_nat {α : Type} {xs : List α} {j : Nat} {v : α} (h : xs[j]? = some v) : atI xs (j : Int) = some v := by
  have hj : j < xs.length := (List.getElem?_eq_some_iff.mp h).1
  have e : ixN xs.length (j : Int) = some j := by
    unfold ixN
    rw [if_pos (by omega), if_pos (by omega)]; simp
  unfold atI; rw [e]; exact h
def PlainIx (b : Expr) : Prop := ∀ o i, subscripted b false o i = operate [o, i] (getItem o i)
def IxR (X : Cx) (r : R2) : Prop :=
  ∀ (value slice : Expr) (pins : List (Addr × Obj)) (s : Shared) (σ : St) (H : Hp) (x y : V) (v u : Value) (Q : VK), Inv X pins σ H s → RelV x v → RelV y u → r x y H Q →
    subscripted slice false v u = operate [v, u] (getItem v u) → wpAny (model X.prog X.w) X.A (subscriptTail value slice v u) (EP X pins σ Q) X.xe s
def MtR (X : Cx) (id : String) (r : V → List V → Hp → VK → Prop) : Prop :=
  ∀ (pins : List (Addr × Obj)) (s : Shared) (σ : St) (H : Hp) (x : V) (xs : List V) (v : Value) (us : List Value) (Q : VK), Inv X pins σ H s → RelV x v → Vals xs us → r x xs H Q →
    wpAny (model X.prog X.w) X.A (call (.builtin id) (v :: us)) (EP X pins σ Q) X.xe s
section
variable {X : Cx} {a b : Expr} {ta tb : TE} {pos : Pos}
theorem IxR.or {r r' : R2} (h : IxR X r) (h' : IxR X r') : IxR X (fun x y H Q => r x y H Q ∨ r' x y H Q) := by
  intro value slice pins s σ H x y v u Q I rx ry q hs
  rcases q with q | q
  · exact h value slice pins s σ H x y v u Q I rx ry q hs
  · exact h' value slice pins s σ H x y v u Q I rx ry q hs
theorem MtR.or {id : String} {r r' : V → List V → Hp → VK → Prop} (h : MtR X id r) (h' : MtR X id r') : MtR X id (fun x xs H Q => r x xs H Q ∨ r' x xs H Q) := by
  intro pins s σ H x xs v us Q I rx rs q
  rcases q with q | q
  · exact h pins s σ H x xs v us Q I rx rs q
  · exact h' pins s σ H x xs v us Q I rx rs q
theorem pe_ix {r : R2} (hr : IxR X r) (ha : PE X a ta) (hb : PE X b tb) (hs : PlainIx b) : PE X (.Subscript a b pos) (tOp r ta tb) := by
  intro pins s σ H Q I h
  exact Subscript_ (binT ha hb I h fun v u s2 x y H2 I2 rx ry q => hr a b pins s2 σ H2 x y v u Q I2 rx ry q (hs _ _))
def rIxL (K : PySem.W.Frag) : R2 := fun x y H Q => ∃ p xs i v, x = .ref p ∧ y = .int i ∧ SqL K H p xs ∧ atI xs i = some v ∧ Q v H
def rIxT (K : PySem.W.Frag) : R2 := fun x y H Q => ∃ p xs i v, x = .ref p ∧ y = .int i ∧ SqT K H p xs ∧ atI xs i = some v ∧ Q v H
theorem ix_list : IxR X (rIxL X.K) := by
  intro value slice pins s σ H x y v u Q I rx ry h hs
  obtain ⟨p, xs, i, z, rfl, rfl, hq, he, q⟩ := h
  cases rx
  obtain ⟨t, rfl⟩ := ry
  obtain ⟨its, r, pl, hz⟩ := I.list hq
  obtain ⟨j, h1, h2, h3, h4, h5⟩ := atI_get he
  obtain ⟨w, ew, rw'⟩ := r.get h2
  have hl := r.length
  have hn := line63
  have fin : EP X pins σ Q w s := ⟨z, H, I, rw', q⟩
  by_cases h0 : 0 ≤ i
  · have hj : i.toNat = j := by
      rw [seqIndex_of h0 h5] at h1
      exact Option.some.inj h1
    exact item_listR pl.isList h0 (by omega) (by rw [hj]; simpa using ew) fin hs
  · have hj : (i + (its.toArray.size : Int)).toNat = j := by
      rw [seqIndex_neg (by omega) h4] at h1
      rw [List.size_toArray, ← hl]
      exact Option.some.inj h1
    exact subscriptTail_builtinR (x := w) pl.isList.typeIs slot_list_getitem.lookup
      (wpAny_getItem_list_neg (Q := fun r s' => r = w ∧ EP X pins σ Q r s') pl.isList (by omega) (by rw [List.size_toArray] <;> omega) (by omega) (by rw [hj]; simpa using ew) ⟨rfl, fin⟩) hs
theorem ix_tup : IxR X (rIxT X.K) := by
  intro value slice pins s σ H x y v u Q I rx ry h hs
  obtain ⟨p, xs, i, z, rfl, rfl, hq, he, q⟩ := h
  cases rx
  obtain ⟨t, rfl⟩ := ry
  obtain ⟨its, r, pl, hz⟩ := I.tuple hq
  obtain ⟨j, h1, h2, h3, h4, h5⟩ := atI_get he
  obtain ⟨w, ew, rw'⟩ := r.get h2
  have hl := r.length
  have hn := line63
  have fin : EP X pins σ Q w s := ⟨z, H, I, rw', q⟩
  exact subscriptTail_builtinR (x := w) pl.typeIs slot_tuple_getitem.lookup
    (getItem_tuple (j := j) (Q := fun r s' => r = w ∧ EP X pins σ Q r s') pl (by omega) (by omega) (by rw [List.size_toArray, ← hl]; exact h1) (by simpa using ew) ⟨rfl, fin⟩) hs
theorem mapSeq_set (its : List Value) (n j : Nat) (u : Value) : Obj.mapSeq (·.setIfInBounds j u) { cls := .type "list", data := .seq its.toArray n } = { cls := .type "list", data := .seq (its.set j u).toArray n } := by
  simp [Obj.mapSeq]
theorem Inv.lst {pins : List (Addr × Obj)} {σ : St} {H : Hp} {s : Shared} {p : Addr} {xs : List V} (I : Inv X pins σ H s) (h : H p = some (.lst xs)) :
    ∃ (its : List Value) (n : Nat), Vals xs its ∧ s.heap.get? p = some { cls := .type "list", data := .seq its.toArray n } ∧ xs.length ≤ sizeLine := by
  obtain ⟨z, its, n, r, e⟩ := I.hok p _ h
  exact ⟨its, n, r, e, z⟩
theorem Inv.lstUpd {pins : List (Addr × Obj)} {σ : St} {H : Hp} {s : Shared} {p : Addr} {xs ys : List V} {its its' : List Value} {n n' : Nat} {f : Obj → Obj} (I : Inv X pins σ H s) (h : H p = some (.lst xs))
    (ho : s.heap.get? p = some { cls := .type "list", data := .seq its.toArray n }) (hf : f { cls := .type "list", data := .seq its.toArray n } = { cls := .type "list", data := .seq its'.toArray n' }) (r : Vals ys its') (hz : ys.length ≤ sizeLine) (t : Nat) :
    Inv X pins σ (upd H p (.lst ys)) { s with heap := s.heap.update p f, toks := t } := by
  have e : (s.heap.update p f).get? p = some { cls := .type "list", data := .seq its'.toArray n' } := by
    rw [Heap.get?_update_self f ho (by rw [hf] <;> rfl), hf]
  refine I.write (x := p) (e := p) (by rw [h]; trivial) (.inl rfl) (fun b u hb q => (Heap.get?_update_other _ _ (Ne.symm hb)).trans q) ⟨_, e⟩ ?_
  exact ⟨hz, its', n', r, e⟩
def rSetL : V → V → V → Hp → (Hp → Prop) → Prop := fun o i v H Q => ∃ p xs k j, o = .ref p ∧ i = .int k ∧ H p = some (.lst xs) ∧ ixN xs.length k = some j ∧ Q (upd H p (.lst (xs.set j v)))
theorem set_list : PSet X rSetL := by
  intro pins s σ H o i v ov iv u Q I ro ri rv h
  obtain ⟨p, xs, k, j, rfl, rfl, hp, hj, q⟩ := h
  cases ro
  obtain ⟨t, rfl⟩ := ri
  obtain ⟨its, n, r, ho, hz⟩ := I.lst hp
  obtain ⟨h1, h2, h3, h4⟩ := ixN_seq hj
  have hl := r.length
  have hn := line63
  have I' : Inv X pins σ (upd H p (.lst (xs.set j v))) { s with heap := s.heap.update p (Obj.mapSeq (·.setIfInBounds j u)) } :=
    I.lstUpd hp ho (mapSeq_set its n j u) (r.set rv j) (by rw [List.length_set]; exact hz) s.toks
  by_cases h0 : 0 ≤ k
  · have hk : k.toNat = j := by
      rw [seqIndex_of h0 h4] at h1
      exact Option.some.inj h1
    exact PySem.W.ki_setAt ho h0 (by omega) (by rw [List.size_toArray, ← hl]; exact h4) (by rw [hk]; exact ⟨_, I', q⟩)
  · have hk : (k + (its.toArray.size : Int)).toNat = j := by
      rw [seqIndex_neg (by omega) h3] at h1
      rw [List.size_toArray, ← hl]
      exact Option.some.inj h1
    exact PySem.W.ki_setBack ho (by omega) (by rw [List.size_toArray, ← hl]; exact h3) (by omega) (by rw [hk]; exact ⟨_, I', q⟩)
def flatV : V → Bool
  | .non => true
  | .bl _ => true
  | .int _ => true
  | .str _ => true
  | _ => false
def eqV : V → V → Bool
  | .non, .non => true
  | .bl a, .bl b => a == b
  | .bl a, .int b => (if a then 1 else 0) == b
  | .int a, .bl b => a == (if b then 1 else 0)
  | .int a, .int b => a == b
  | .str a, .str b => a == b
  | _, _ => false
theorem eqAt_V {A : Around} {s : Shared} {y x : V} {u v : Value} (ry : RelV y u) (rx : RelV x v) (fy : flatV y = true) (fx : flatV x = true) : SeqAt.EqAt A s u v (eqV y x) := by
  cases y with
  | non =>
    cases ry
    cases x with
    | non => cases rx; exact SeqAt.EqAt.same _
    | bl b => cases rx; exact SeqAt.EqAt.none_bool b
    | int b => obtain ⟨t, rfl⟩ := rx; exact SeqAt.EqAt.none_int b t
    | str b => obtain ⟨t, rfl⟩ := rx; exact SeqAt.EqAt.none_str b t
    | _ => exact absurd (show false = true from fx) Bool.false_ne_true
  | bl a =>
    cases ry
    cases x with
    | non => cases rx; exact SeqAt.EqAt.bool_none a
    | bl b => cases rx; exact SeqAt.EqAt.bool_bool a b
    | int b => obtain ⟨t, rfl⟩ := rx; exact SeqAt.EqAt.bool_int a b t
    | str b => obtain ⟨t, rfl⟩ := rx; exact SeqAt.EqAt.bool_str a b t
    | _ => exact absurd (show false = true from fx) Bool.false_ne_true
  | int a =>
    obtain ⟨t', rfl⟩ := ry
    cases x with
    | non => cases rx; exact SeqAt.EqAt.int_none a t'
    | bl b => cases rx; exact SeqAt.EqAt.int_bool a t' b
    | int b => obtain ⟨t, rfl⟩ := rx; exact SeqAt.EqAt.int_int a t' b t
    | str b => obtain ⟨t, rfl⟩ := rx; exact SeqAt.EqAt.int_str a t' b t
    | _ => exact absurd (show false = true from fx) Bool.false_ne_true
  | str a =>
    obtain ⟨t', rfl⟩ := ry
    cases x with
    | non => cases rx; exact SeqAt.EqAt.str_none a t'
    | bl b => cases rx; exact SeqAt.EqAt.str_bool a t' b
    | int b => obtain ⟨t, rfl⟩ := rx; exact SeqAt.EqAt.str_int a t' b t
    | str b => obtain ⟨t, rfl⟩ := rx; exact SeqAt.EqAt.str_str a t' b t
    | _ => exact absurd (show false = true from fx) Bool.false_ne_true
  | _ => exact absurd (show false = true from fy) Bool.false_ne_true
def eqU (x : V) (u : Value) : Bool := match u with
  | .none => eqV .non x
  | .bool b => eqV (.bl b) x
  | .int i _ => eqV (.int i) x
  | .str z _ => eqV (.str z) x
  | _ => false
theorem eqU_of {x y : V} {u : Value} (r : RelV y u) (f : flatV y = true) : eqU x u = eqV y x := by
  cases y with
  | non => cases r; rfl
  | bl b => cases r; rfl
  | int i => obtain ⟨t, rfl⟩ := r; rfl
  | str z => obtain ⟨t, rfl⟩ := r; rfl
  | _ => exact absurd (show false = true from f) Bool.false_ne_true
theorem any_eqU {x : V} : ∀ {xs : List V} {us : List Value}, Vals xs us → xs.all flatV = true → us.any (eqU x) = xs.any fun y => eqV y x
  | _, _, .nil, _ => rfl
  | y :: xs, u :: us, .cons r t, f => by
    rw [List.all_cons, Bool.and_eq_true] at f
    rw [List.any_cons, List.any_cons, eqU_of r f.1, any_eqU t f.2]
theorem mem_eqAt {A : Around} {s : Shared} {x : V} {v : Value} (rx : RelV x v) (fx : flatV x = true) : ∀ {xs : List V} {us : List Value}, Vals xs us → xs.all flatV = true → ∀ u ∈ us, SeqAt.EqAt A s u v (eqU x u)
  | _, _, .nil, _ => fun u hu => by cases hu
  | y :: xs, u :: us, .cons r t, f => fun u' hu => by
    rw [List.all_cons, Bool.and_eq_true] at f
    rcases List.mem_cons.mp hu with rfl | hu
    · rw [eqU_of r f.1]; exact eqAt_V r rx f.1 fx
    · exact mem_eqAt rx fx t f.2 u' hu
def inV (x : V) (xs : List V) : Bool := xs.any fun y => eqV y x
def rIn (K : PySem.W.Frag) (neg : Bool) : R2 := fun x y H Q => ∃ p xs, y = .ref p ∧ (SqL K H p xs ∨ SqT K H p xs) ∧ flatV x = true ∧ xs.all flatV = true ∧ Q (.bl (if neg then !inV x xs else inV x xs)) H
theorem op_in_seq : OpR X (compareOp .In) (rIn X.K false) := by
  intro pins s σ H x y v u Q I rx ry h
  obtain ⟨p, xs, rfl, hq, fx, fs, q⟩ := h
  cases ry
  rcases hq with hq | hq
  · obtain ⟨its, r, pl, hz⟩ := I.list hq
    refine SeqAt.in_listAt (eqU x) pl.isList (fun w hw => mem_eqAt rx fx r fs w (by simpa using hw)) ⟨.bl _, H, I, rfl, ?_⟩
    rw [show its.toArray.any (eqU x) = its.any (eqU x) by simp, any_eqU r fs]
    exact q
  · obtain ⟨its, r, pl, hz⟩ := I.tuple hq
    refine SeqAt.in_tupleAt (eqU x) pl (fun w hw => mem_eqAt rx fx r fs w (by simpa using hw)) ⟨.bl _, H, I, rfl, ?_⟩
    rw [show its.toArray.any (eqU x) = its.any (eqU x) by simp, any_eqU r fs]
    exact q
theorem call_len_seq : CallR X (.builtin "len") (fun xs H Q => ∃ p ys, xs = [.ref p] ∧ (SqL X.K H p ys ∨ SqT X.K H p ys) ∧ Q (.int ys.length) H) := by
  intro pins s σ H xs us Q I r h
  obtain ⟨p, ys, rfl, hq, q⟩ := h
  obtain ⟨u, rfl, rx⟩ := vals1 r
  cases rx
  have hn := line63
  rcases hq with hq | hq
  · obtain ⟨its, r', pl, hz⟩ := I.list hq
    have hlen := r'.length
    exact Calls.call_len_list pl.isList (by simp only [List.size_toArray] <;> omega) ⟨.int ys.length, H, I.tok _, ⟨s.toks + 1, by rw [List.size_toArray, hlen]⟩, q⟩
  · obtain ⟨its, r', pl, hz⟩ := I.tuple hq
    have hlen := r'.length
    exact len_tuple pl (by simp only [List.size_toArray] <;> omega) ⟨.int ys.length, H, I.tok _, ⟨s.toks + 1, by rw [List.size_toArray, hlen]⟩, q⟩
theorem CallR.or {f : Value} {r r' : List V → Hp → VK → Prop} (h : CallR X f r) (h' : CallR X f r') : CallR X f (fun xs H Q => r xs H Q ∨ r' xs H Q) := by
  intro pins s σ H xs us Q I rs q
  rcases q with q | q
  · exact h pins s σ H xs us Q I rs q
  · exact h' pins s σ H xs us Q I rs q
theorem call_list_of : CallR X (.type "list") (fun xs H Q => ∃ p ys, xs = [.ref p] ∧ (SqL X.K H p ys ∨ SqT X.K H p ys) ∧ ∀ l, H l = none → Q (.ref l) (upd H l (.lst ys))) := by
  intro pins s σ H xs us Q I r h
  obtain ⟨p, ys, rfl, hq, q⟩ := h
  obtain ⟨u, rfl, rx⟩ := vals1 r
  cases rx
  have fin : ∀ (its : List Value), Vals ys its → ys.length ≤ sizeLine → ∀ (h' : Heap) (c' : Nat), (∀ b o', s.heap.get? b = some o' → h'.get? b = some o') →
      h'.get? s.heap.objs.size = some { cls := .type "list", dict := none, data := .seq its.toArray c', slots := #[] } → EP X pins σ Q (.ref s.heap.objs.size) { s with heap := h' } := fun its r' hz h' c' kp e =>
    ⟨.ref s.heap.objs.size, _, I.laid (t' := s.toks) kp (Nat.le_refl _) (show ObjOk X.prog X.w _ h' _ (.lst ys) from ⟨hz, its, c', r', e⟩), rfl, q _ (I.hok.fresh (Nat.le_refl _))⟩
  rcases hq with hq | hq
  · obtain ⟨its, r', pl, hz⟩ := I.list hq
    have hlen := r'.length
    obtain ⟨o, ho, hc, n, hd⟩ := pl.isList
    exact call_list_seq p (.inl rfl) ho hc hd (fun h' c' kp e => fin its r' hz h' c' kp e) (by simp only [List.size_toArray] <;> omega)
  · obtain ⟨its, r', pl, hz⟩ := I.tuple hq
    have hlen := r'.length
    obtain ⟨o, ho, hc, n, hd⟩ := pl
    exact call_list_seq p (.inr rfl) ho hc hd (fun h' c' kp e => fin its r' hz h' c' kp e) (by simp only [List.size_toArray] <;> omega)
theorem call_tuple_of : CallR X (.type "tuple") (fun xs H Q => ∃ p ys, xs = [.ref p] ∧ ((SqL X.K H p ys ∧ ∀ l, H l = none → Q (.ref l) (upd H l (.tup ys))) ∨ (SqT X.K H p ys ∧ Q (.ref p) H))) := by
  intro pins s σ H xs us Q I r h
  obtain ⟨p, ys, rfl, h⟩ := h
  obtain ⟨u, rfl, rx⟩ := vals1 r
  cases rx
  rcases h with ⟨hq, q⟩ | ⟨hq, q⟩
  · obtain ⟨its, r', pl, hz⟩ := I.list hq
    have hlen := r'.length
    refine call_tuple_list pl.isList (fun h' kp => ?_) (by simp only [List.size_toArray] <;> omega)
    have I1 : Inv X pins σ H { s with heap := h' } := I.kept (t' := s.toks) kp
    have I2 : Inv X pins σ (upd H h'.objs.size (.tup ys)) { s with heap := h'.push { cls := .type "tuple", data := .seq its.toArray } } :=
      I1.laid (t' := s.toks) (fun b o e => Heap.get?_push_of_some _ e) (Nat.le_refl _) (show ObjOk X.prog X.w _ _ _ (.tup ys) from ⟨hz, its, r', IsTup.new _ _⟩)
    exact ⟨.ref h'.objs.size, _, I2, rfl, q _ (I1.hok.fresh (Nat.le_refl _))⟩
  · obtain ⟨its, r', pl, hz⟩ := I.tuple hq
    exact call_tuple_same pl ⟨.ref p, H, I, rfl, q⟩
def tyV (K : PySem.W.Frag) (T : String) (x : V) (H : Hp) : Prop := match x with
  | .str _ => T = "str"
  | .int _ => T = "int"
  | .ref p => (T = "list" ∧ ∃ xs, SqL K H p xs) ∨ (T = "tuple" ∧ ∃ o, K.lookup p = some o ∧ o.cls = .type "tuple" ∧ o.dict = none) ∨
      (T = "dict" ∧ ((∃ kvs, H p = some (.dK kvs)) ∨ ∃ kvs, H p = some (.dT kvs))) ∨ (T = "set" ∧ ∃ S n, H p = some (.set S n))
  | _ => False
theorem tyV_is {pins : List (Addr × Obj)} {σ : St} {H : Hp} {s : Shared} {T : String} {x : V} {v : Value} (I : Inv X pins σ H s) (r : RelV x v) (ty : tyV X.K T x H) :
    s.TypeIs v T ∧ ∀ a, v = .ref a → ∃ ob, s.heap.get? a = some ob ∧ ob.dict = none := by
  cases x with
  | str z =>
    obtain ⟨t, rfl⟩ := r
    cases (show T = "str" from ty)
    exact ⟨typeIs_str s z t, fun _ e => nomatch e⟩
  | int i =>
    obtain ⟨t, rfl⟩ := r
    cases (show T = "int" from ty)
    exact ⟨typeIs_int s i t, fun _ e => nomatch e⟩
  | ref p =>
    cases r
    rcases ty with ⟨rfl, xs, hq⟩ | ⟨rfl, o, hk, hc, hd⟩ | ⟨rfl, hk⟩ | ⟨rfl, S, n, hk⟩
    · obtain ⟨its, _, pl, _⟩ := I.list hq
      refine ⟨pl.isList.typeIs, fun a e => ?_⟩
      cases e
      obtain ⟨o, n, e, c, hd, _⟩ := pl
      exact ⟨o, e, hd⟩
    · refine ⟨⟨o, I.kIn p o hk, hc⟩, fun a e => ?_⟩
      cases e
      exact ⟨o, I.kIn _ o hk, hd⟩
    · have z : ∃ o, s.heap.get? p = some o ∧ o.ExactDict := by
        rcases hk with ⟨kvs, hk⟩ | ⟨kvs, hk⟩
        · obtain ⟨_, _, _, _, o, _, _, e, ex, _⟩ := I.hok p _ hk
          exact ⟨o, e, ex⟩
        · obtain ⟨_, _, _, _, o, _, _, e, ex, _⟩ := I.hok p _ hk
          exact ⟨o, e, ex⟩
      obtain ⟨o, e, ex⟩ := z
      refine ⟨⟨o, e, ex.1⟩, fun a e2 => ?_⟩
      cases e2
      exact ⟨o, e, ex.2.1⟩
    · obtain ⟨o, _, _, _, e, ex, _⟩ := I.hok p _ hk
      refine ⟨⟨o, e, ex.1⟩, fun a e2 => ?_⟩
      cases e2
      exact ⟨o, e, ex.2.1⟩
  | _ => exact False.elim ty
def tBM (K : PySem.W.Frag) (T : String) (r : V → List V → Hp → VK → Prop) (to : TE) (t : TA) : TE := fun σ H Q => to σ H fun x H1 => tyV K T x H1 ∧ t σ H1 fun xs H2 => r x xs H2 Q
variable {o e : Expr} {es : List Expr} {to : TE} {t : TA} {name : Str} {apos cpos : Pos} {T id : String} {r : V → List V → Hp → VK → Prop}
theorem pe_bm (pa : PlainAttrs T) (slot : Slot T name id) (hty : typeOf (.builtin id) = pure (.type "method_descriptor")) (hm : MtR X id r) (ho : PE X o to) (ha : PA X (e :: es) t)
    (hbase : attributeBase o name X.env (eval o X.env) = eval o X.env := by rfl)
    (hfew : ((backTo cpos (starEach (e :: es) X.env)).all (fun x => !x.1) && (backToKw cpos (keywordEach [] X.env)).all (fun x => x.1.isSome)
      && decide ((e :: es).length + ([] : List Keyword).length + (if ([] : List Keyword).isEmpty then 0 else 1) < 30)) = true := by rfl)
    (hline : (apos.endLine == cpos.line) = true := by rfl) (hs : starEach (e :: es) X.env = (false, eval e X.env) :: starEach es X.env := by rfl) (hplain : (backTo cpos (starEach es X.env)).any (·.1) = false := by rfl) :
    PE X (.Call (.Attribute o name apos) (e :: es) [] cpos) (tBM X.K T r to t) := by
  intro pins s σ H Q I h
  refine wpAny_Call_method_late hbase hfew hline rfl (thn (ho pins s σ H _ I h) fun v s1 ⟨x, H1, I1, r1, ty, q1⟩ => ?_)
  obtain ⟨h1, h2⟩ := tyV_is I1 r1 ty
  refine ⟨T, id, pa, slot, hty, h1, h2, ?_⟩
  have hA := ha cpos pins s1 σ H1 _ I1 q1
  rw [hs] at hA ⊢
  refine Calls.callWith_builtin (by show (false || (backTo cpos (starEach es X.env)).any (·.1)) = false; rw [hplain] <;> rfl) (Calls.evalArgs_plain ?_)
  exact thn hA fun us s2 ⟨vs, H2, I2, r2, q2⟩ => hm pins s2 σ H2 x vs v us Q I2 r1 r2 q2
/- xs.append(e), list.index on a module's tuple .. are MtR facts of 06m -/
end
end L2
namespace L2
open PySem PySem.Spec PyProof.Rows
def MtM (X : Cx) (id : String) (r : V → List V → Hp → VK → Prop) : Prop :=
  ∀ (pins : List (Addr × Obj)) (s : Shared) (σ : St) (H : Hp) (x : V) (xs : List V) (v : Value) (us : List Value) (Q : VK), Inv X pins σ H s → RelV x v → Vals xs us → r x xs H Q →
    wpAny (model X.prog X.w) X.A (call (.builtin id) (v :: us)) (EP X pins σ Q) X.xe s
theorem Vals.one : ∀ {x : V} {us : List Value}, Vals [x] us → ∃ u, us = [u] ∧ RelV x u
  | _, _, .cons r .nil => ⟨_, rfl, r⟩
theorem Vals.two : ∀ {x y : V} {us : List Value}, Vals [x, y] us → ∃ u v, us = [u, v] ∧ RelV x u ∧ RelV y v
  | _, _, _, .cons r (.cons q .nil) => ⟨_, _, rfl, r, q⟩
theorem Vals.zero : ∀ {us : List Value}, Vals [] us → us = []
  | _, .nil => rfl
theorem Vals.eraseIdx : ∀ {xs : List V} {us : List Value} (i : Nat), Vals xs us → Vals (xs.eraseIdx i) (us.eraseIdx i)
  | _, _, _, .nil => .nil
  | _, _, 0, .cons _ t => t
  | _, _, i + 1, .cons r t => .cons r (Vals.eraseIdx i t)
theorem Vals.reverse {xs : List V} {us : List Value} (h : Vals xs us) : Vals xs.reverse us.reverse := by
  induction h with
  | nil => exact .nil
  | cons r t ih => rw [List.reverse_cons, List.reverse_cons]; exact Vals.append ih (.cons r .nil)
theorem Vals.rep {xs : List V} {us : List Value} (h : Vals xs us) : ∀ k : Nat, Vals (List.replicate k xs).flatten (List.replicate k us).flatten
  | 0 => .nil
  | k + 1 => by
    rw [List.replicate_succ, List.replicate_succ, List.flatten_cons, List.flatten_cons]
    exact Vals.append h (Vals.rep h k)
theorem len_erase {α : Type} : ∀ (l : List α) (i : Nat), (l.eraseIdx i).length ≤ l.length
  | [], _ => Nat.le_refl _
  | _ :: _, 0 => Nat.le_succ _
  | _ :: r, i + 1 => Nat.succ_le_succ (len_erase r i)
theorem foldl_rep (its : List Value) : ∀ (k : Nat) (acc : List Value),
    List.foldl (fun x1 x2 => x1 ++ x2) acc.toArray (List.replicate k its.toArray) = (acc ++ (List.replicate k its).flatten).toArray
  | 0, acc => by simp
  | k + 1, acc => by
    have e : acc.toArray ++ its.toArray = (acc ++ its).toArray := by simp
    have e2 : (acc ++ its) ++ (List.replicate k its).flatten = acc ++ (List.replicate (k + 1) its).flatten := by
      rw [List.replicate_succ, List.flatten_cons, List.append_assoc]
    rw [← e2, ← foldl_rep its k (acc ++ its), ← e, List.replicate_succ, List.foldl_cons]
section
variable {X : Cx} {pins : List (Addr × Obj)} {σ : St} {H : Hp} {s : Shared} {l b : Addr} {xs ys zs : List V}
theorem Inv.lset {its its' : List Value} {n : Nat} {f : Array Value → Array Value} {t' : Nat} (I : Inv X pins σ H s) (hH : H l = some (.lst xs))
    (e : s.heap.get? l = some { cls := .type "list", data := .seq its.toArray n }) (hf : f its.toArray = its'.toArray) (hv : Vals ys its') (hz : ys.length ≤ sizeLine) :
    Inv X pins σ (upd H l (.lst ys)) { s with heap := s.heap.update l (Obj.mapSeq f), toks := t' } := by
  have q := PySem.IsL.update e f
  rw [hf] at q
  refine I.write (x := l) (e := l) (by rw [hH]; exact trivial) (.inl rfl) (fun b' u hb hu => (Heap.get?_update_other s.heap (Obj.mapSeq f) (Ne.symm hb)).trans hu) ⟨_, q⟩ ?_
  exact ⟨hz, its', _, hv, q⟩
theorem Inv.lnew {its : List Value} {t' : Nat} (I : Inv X pins σ H s) (hv : Vals ys its) (hz : ys.length ≤ sizeLine) :
    Inv X pins σ (upd H s.heap.objs.size (.lst ys)) { s with heap := s.heap.push { cls := .type "list", data := .seq its.toArray }, toks := t' } :=
  I.laid (fun _ _ q => Heap.get?_push_of_some _ q) (Nat.le_refl _) ⟨hz, its, 0, hv, Heap.get?_push_size _ rfl⟩
theorem Inv.fresh (I : Inv X pins σ H s) : H s.heap.objs.size = none := I.hok.fresh (Nat.le_refl _)
theorem Inv.lstM (I : Inv X pins σ H s) (hH : H l = some (.lst xs)) : xs.length ≤ sizeLine ∧ ∃ (its : List Value) (n : Nat), Vals xs its ∧ xs.length = its.length ∧ s.heap.get? l = some { cls := .type "list", data := .seq its.toArray n } := by
  obtain ⟨z, its, n, r, e⟩ := I.hok l _ hH
  exact ⟨z, its, n, r, r.length, e⟩
theorem notLongL {n : Nat} (h : n ≤ sizeLine) : Builtin.List.listTooLong n = false := by
  unfold Builtin.List.listTooLong
  exact decide_eq_false (by omega)
end
section
variable {X : Cx}
def rAppend : V → List V → Hp → VK → Prop := fun x vs H Q => ∃ l xs y, x = .ref l ∧ vs = [y] ∧ H l = some (.lst xs) ∧ xs.length < sizeLine ∧ Q .non (upd H l (.lst (xs ++ [y])))
theorem mt_append : MtM X "list.append" rAppend := by
  intro pins s σ H x vs v us Q I rx rv h
  obtain ⟨l, xs, y, rfl, rfl, hH, hz, q⟩ := h
  cases rx
  obtain ⟨u, rfl, ru⟩ := rv.one
  obtain ⟨z, its, n, r, hl, e⟩ := I.lstM hH
  refine call_meets F.slot_list_append ⟨_, e, rfl⟩ F.entry_list_append (F.args_list_append_2 _ _) (PySem.list_append l its.toArray n u (by rw [List.size_toArray]; omega)) ⟨e, ?_⟩
  refine ⟨.non, _, I.lset (its' := its ++ [u]) hH e (by simp) (r.append (.cons ru .nil)) ?_, rfl, q⟩
  rw [List.length_append, List.length_singleton]
  omega
def rExtend : V → List V → Hp → VK → Prop := fun x vs H Q => ∃ l b xs zs, x = .ref l ∧ vs = [.ref b] ∧ H l = some (.lst xs) ∧ H b = some (.lst zs) ∧ xs.length + zs.length ≤ sizeLine ∧ Q .non (upd H l (.lst (xs ++ zs)))
theorem mt_extend : MtM X "list.extend" rExtend := by
  intro pins s σ H x vs v us Q I rx rv h
  obtain ⟨l, b, xs, zs, rfl, rfl, hH, hB, hz, q⟩ := h
  cases rx
  obtain ⟨u, rfl, ru⟩ := rv.one
  cases ru
  obtain ⟨z, its, n, r, hl, e⟩ := I.lstM hH
  obtain ⟨z2, its2, n2, r2, hl2, e2⟩ := I.lstM hB
  have hsz : its.toArray.size + its2.toArray.size ≤ sizeLine := by rw [List.size_toArray, List.size_toArray]; omega
  have hlong : ¬ (!its.toArray.isEmpty && Builtin.List.listTooLong (its.toArray.size + its2.toArray.size)) = true := by
    rw [notLongL hsz, Bool.and_false]
    exact Bool.false_ne_true
  refine call_meets F.slot_list_extend ⟨_, e, rfl⟩ F.entry_list_extend (F.args_list_extend_2 _ _)
    (AutoSeq1.list_extend_list_list_0 l its.toArray n b its2.toArray n2 hlong (by rw [List.size_toArray]; omega) (by omega)) ⟨e, e2, ?_⟩
  refine ⟨.non, _, I.lset (its' := its ++ its2) hH e (by simp) (r.append r2) ?_, rfl, q⟩
  rw [List.length_append]
  omega
def rPopAt : V → List V → Hp → VK → Prop := fun x vs H Q => ∃ l xs i k y, x = .ref l ∧ vs = [.int i] ∧ H l = some (.lst xs) ∧ -(2 ^ 63) ≤ i ∧ i < 2 ^ 63 ∧ seqIndex? i xs.length = some k ∧ xs[k]? = some y ∧ Q y (upd H l (.lst (xs.eraseIdx k)))
theorem mt_popAt : MtM X "list.pop" rPopAt := by
  intro pins s σ H x vs v us Q I rx rv h
  obtain ⟨l, xs, i, k, y, rfl, rfl, hH, h1, h2, hk, hy, q⟩ := h
  cases rx
  obtain ⟨u, rfl, ru⟩ := rv.one
  obtain ⟨t, rfl⟩ := ru
  obtain ⟨z, its, n, r, hl, e⟩ := I.lstM hH
  obtain ⟨w, hw, rw'⟩ := r.get hy
  refine call_meets F.slot_list_pop ⟨_, e, rfl⟩ F.entry_list_pop (F.args_list_pop_2 _ _)
    (MeetsSeq.list_pop_at l its.toArray n i t k w (fitsIndex_both h1 h2) (by rw [List.size_toArray, ← hl]; exact hk) (by rw [← Array.getElem?_toList]; exact hw) (by rw [List.size_toArray]; omega)) ⟨e, ?_⟩
  refine ⟨y, _, I.lset (its' := its.eraseIdx k) hH e ?_ (r.eraseIdx k) ?_, rw', q⟩
  · show its.toArray.eraseIdxIfInBounds k = (its.eraseIdx k).toArray
    rw [List.eraseIdxIfInBounds_toArray]
  · have := len_erase xs k
    omega
def rCat : R2 := fun x y H Q => ∃ l b xs zs, x = .ref l ∧ y = .ref b ∧ H l = some (.lst xs) ∧ H b = some (.lst zs) ∧ xs.length + zs.length ≤ sizeLine ∧ ∀ p, H p = none → Q (.ref p) (upd H p (.lst (xs ++ zs)))
theorem op_cat : OpR X (binaryOp .Add) rCat := by
  intro pins s σ H x y v u Q I rx ry h
  obtain ⟨l, b, xs, zs, rfl, rfl, hH, hB, hz, q⟩ := h
  cases rx
  cases ry
  obtain ⟨z, its, n, r, hl, e⟩ := I.lstM hH
  obtain ⟨z2, its2, n2, r2, hl2, e2⟩ := I.lstM hB
  refine PySem.P.add_list e e2 ?_ (by rw [List.size_toArray, List.size_toArray]; omega)
  have ea : its.toArray ++ its2.toArray = (its ++ its2).toArray := by simp
  rw [ea]
  exact ⟨.ref _, _, I.lnew (t' := s.toks) (r.append r2) (by rw [List.length_append]; omega), rfl, q _ I.fresh⟩
def rRep : R2 := fun x y H Q => ∃ l k xs, x = .ref l ∧ y = .int k ∧ H l = some (.lst xs) ∧ -(2 ^ 63) ≤ k ∧ k < 2 ^ 63 ∧ xs.length * k.toNat ≤ sizeLine ∧
  ∀ p, H p = none → Q (.ref p) (upd H p (.lst (List.replicate k.toNat xs).flatten))
theorem len_rep {α : Type} (xs : List α) (k : Nat) : (List.replicate k xs).flatten.length = k * xs.length := by
  induction k with
  | zero => simp
  | succ k ih => rw [List.replicate_succ, List.flatten_cons, List.length_append, ih, Nat.succ_mul, Nat.add_comm]
theorem op_rep : OpR X (binaryOp .Mult) rRep := by
  intro pins s σ H x y v u Q I rx ry h
  obtain ⟨l, k, xs, rfl, rfl, hH, h1, h2, hz, q⟩ := h
  cases rx
  obtain ⟨t, rfl⟩ := ry
  obtain ⟨z, its, n, r, hl, e⟩ := I.lstM hH
  have hlen : its.toArray.size * k.toNat ≤ sizeLine := by rw [List.size_toArray, ← hl]; exact hz
  have hcap : ¬ its.toArray.size * k.toNat > (2 ^ 63 - 1) / 8 := by
    have : (sizeLine : Nat) ≤ (2 ^ 63 - 1) / 8 := by decide
    omega
  have hfit : ¬ (!Builtin.List.listFitsIndex k) = true := by
    rw [fitsIndex_both h1 h2]
    exact Bool.false_ne_true
  have hlong : ¬ Builtin.List.listTooLong (its.toArray.size * k.toNat) = true := by
    rw [notLongL hlen]
    exact Bool.false_ne_true
  have hnew : List.foldl (fun x1 x2 => x1 ++ x2) #[] (List.replicate (if its.toArray.isEmpty = true then 0 else k.toNat) its.toArray) = (List.replicate k.toNat its).flatten.toArray := by
    have f0 : ∀ m : Nat, List.foldl (fun x1 x2 => x1 ++ x2) #[] (List.replicate m its.toArray) = (List.replicate m its).flatten.toArray := fun m => by
      have := foldl_rep its m []
      rw [List.nil_append] at this
      exact this
    rw [f0]
    cases its with
    | nil => simp
    | cons a r' => rw [if_neg (by simp)]
  refine wpAny_binaryOp_repeat_ref (T := "list") (U := "int") (by decide) ⟨_, e, rfl⟩ (fun s' => typeIs_int s' k t) noFill_list_mul F.fills_int_mul F.slot_int_rmul repeat_list F.slot_int_index.lookup
    (call_meets F.slot_int_rmul (typeIs_int s k t) F.entry_int_rmul (F.args_int_rmul_2 _ _) (int___rmul___int_list k t l its.toArray n)
      ⟨e, rfl, ⟨_, e, rfl⟩, call_meets F.slot_list_mul ⟨_, e, rfl⟩ F.entry_list_mul (F.args_list_mul_2 _ _) (AutoListH.list___mul___list_int_3 l its.toArray n k t hfit hcap hlong) ⟨e, ?_⟩⟩)
  rw [hnew]
  exact ⟨.ref _, _, I.lnew (t' := s.toks) (r.rep k.toNat) (by rw [len_rep, Nat.mul_comm]; exact hz), rfl, q _ I.fresh⟩
end
section
variable {prog : Program} {w : World} {A : Around} {E : Value → Shared → Prop} {s : Shared}
end
section
variable {X : Cx}
end
end L2
namespace Att
open PySem PySem.W PySem.Calls PyProof.Rows
theorem ints_of_wellAll {P : Params} {h : Heap} : ∀ (ns : List Int) (vs : List Value), WellAll P h vs (ns.map WData.int) → IntsAre vs ns := by
  intro ns
  induction ns with
  | nil =>
    intro vs w
    rw [List.map_nil] at w
    cases w
    exact .nil
  | cons n ns ih =>
    intro vs w
    rw [List.map_cons] at w
    cases w with
    | cons a b =>
      cases a
      exact .cons _ _ (ih _ b)
theorem script_of {l : OpenLaw} {n : Nat} (hn : l.most = some n) {P : Params} {h : Heap} {args : List WData} {vals : List Value}
    (hpre : l.row.toRowW.claim.pre args = true) (hwl : WellAll P h vals args) :
    ∃ a vs ns, vals = [Value.ref a] ∧ args = [WData.list (ns.map WData.int)] ∧ h.get? a = some { cls := .type "list", data := .seq vs.toArray } ∧ IntsAre vs ns ∧ ns.length ≤ n := by
  have hsh : WShape.hasAll [] args [.list .int] = true := (pre_splitW hpre).1
  have hc : l.pre.holds [] { args := args } = true := (pre_splitW hpre).2
  obtain ⟨d, r, rfl, h1, h2⟩ := hasAllW_cons hsh
  obtain rfl := hasAllW_nil h2
  obtain ⟨xs, rfl, h3⟩ := hasW_list h1
  obtain ⟨ns, rfl⟩ := items_int h3
  have hlen : ns.length ≤ n := by
    unfold OpenLaw.pre at hc
    have h4 : (WTm.not (.lt (.lit (.int (n : Int))) (.len (.arg 0)))).holds [] { args := [.list (ns.map .int)] } = true := by
      have h4 := (holds_andW hc).1
      rw [hn] at h4
      exact h4
    have h5 := condW_of h4 (w_not (w_lt w_lit (w_len_list (w_arg rfl))))
    rw [List.length_map] at h5
    refine Nat.le_of_not_lt fun q => ?_
    have q' : (n : Int) < ((ns.length : Nat) : Int) := by omega
    first
      | (rw [decide_eq_true q'] at h5; exact absurd h5 (by decide))
      | (simp at h5; omega)
  cases hwl with
  | cons w1 w2 =>
    cases w2
    cases w1 with
    | list ho hall => exact ⟨_, _, ns, rfl, rfl, ho, ints_of_wellAll ns _ hall, hlen⟩
theorem post_true (l : OpenLaw) (args : List WData) : l.row.toRowW.claim.post args (.bool true) args = true :=
  postW_of (r := l.row.toRowW) (X := (true == true))
    (show WShape.has [] (.bool true) .bool = true by first | rfl | decide | simp [WShape.has, WShape.arms, WShape.armsAll])
    (show (WTm.eq .res (.lit (.bool true))).value [] { args := args, res := some (.bool true), after := args } = some (.bool (true == true)) from w_eq_bool (w_res rfl) w_lit) rfl
theorem attach_call {l : OpenLaw} {n : Nat} {q : Program} {loose : List Str} {XP : (Str → Option Value) → Heap → Prop} {YP : World → Heap → Prop} {d : DefRec}
    (hn : l.most = some n) (hdf : d.params.defaults = [])
    (call : ∀ (w : World) (s₀ s₁ : Shared) (mg mb : Str → Option Value) (fa : Addr) (o : Obj) (pm cd doc : Value) (a : Addr) (vs : List Value) (ns : List Int),
      Ground q loose [] XP w s₀ mg mb s₁.heap → YP w s₁.heap →
      s₁.heap.get? fa = some o → o.data = .func (docDef d.name d.params d.body d.scope pm cd doc) → s₁.heap.CodeRec cd d.name → mg d.name = some (.ref fa) →
      s₁.heap.get? a = some { cls := .type "list", data := .seq vs.toArray } → IntsAre vs ns → ns.length ≤ n → s₁.gens = #[] →
      codeAny (model l.prog w) callerA (.call (.ref fa) ⟨[.ref a], []⟩) (fun r s' => r = .ok (.ret (.bool true)) ∧ OldK s₁.heap s'.heap ∧ s'.os = s₁.os ∧ AllBare s'.gens) s₁) :
    WalkO q loose XP YP l.row.toRowW d [] (fun f vs => PySem.call f vs) := by
  intro w s₀ s₁ mg mb G Y fa o pm cd doc dV kV ho hd hcd hD hmg hg args vals as hpre hlay hrd hwl hlo
  obtain rfl : dV = .none := Dflts.none hD hdf
  obtain rfl : kV = .none := Dflts.noKw hD
  obtain ⟨a, vs, ns, rfl, rfl, hobj, hints, hlen⟩ := script_of hn hpre hwl
  refine enter_call (codeAny_mono (call w s₀ s₁ mg mb fa o pm cd doc a vs ns G Y ho (fd_plain hd) hcd hmg hobj hints hlen hg) fun r s' hq => ?_)
  obtain ⟨rfl, h2, h3, h4⟩ := hq
  exact ⟨.inl ⟨.bool true, .bool true, [], rfl, fun _ => rfl, .bool true, post_true l _, fun _ => ⟨List.Pairwise.nil, fun _ hm => (nomatch hm)⟩⟩, h2, h3, h4⟩
section
variable {prog : Program} {w : World} {A : Around} {E : Value → Shared → Prop} {s : Shared} {K : Frag}
end
end Att
namespace L2
open PySem PySem.Spec PyProof.Rows
theorem vals_ints : ∀ {vs : List Value} {ns : List Int}, IntsAre vs ns → Vals (ns.map V.int) vs
  | _, _, .nil => .nil
  | _, _, .cons n t h => .cons ⟨t, rfl⟩ (vals_ints h)
def Only (H : Hp) : Prop := ∀ b, H b = none ∨ ∃ o xs, H b = some (.frz o (.lst xs))
theorem law_call {P : Program} {w : World} {K : PySem.W.Frag} {mg mb : Str → Option Value} {CX : CXT} {k : Nat} {fa a : Addr} {fd : FuncData} {x : Str} {sp : Sp} {s₁ : Shared} {vs : List Value} {ns : List Int}
    (KX : K.In s₁.heap) (hns : s₁.heap.Ns mainGlobals mg) (hb : s₁.heap.Ns builtinsNs mb) (hbb : ∀ x : Str, x ≠ "__name__" → mb x = bootBuiltins x) (hlim : s₁.heap.NoLimit) (hg : s₁.gens = #[])
    (ha : s₁.heap.get? a = some { cls := .type "list", data := .seq vs.toArray }) (hi : IntsAre vs ns) (hl : ns.length ≤ sizeLine) (hr : Room k callerA)
    (F : ∀ base : Heap, K.In base → base.Ns mainGlobals mg → FnOk P w K mg base CX k fa fd [x] sp) (hbind : ∀ (s : Shared) (u : Value), BindsTo s fd ⟨[u], []⟩ [(x, u)])
    (hsp : ∀ H : Hp, Only H → SqL K H a (ns.map V.int) → sp [.ref a] H (fun v _ => v = .bl true) fun _ _ _ => False)
    (hCX : ∀ H e s', CX [] H s₁ (fun _ _ _ => False) e s' → False) :
    codeAny (model P w) callerA (.call (.ref fa) ⟨[.ref a], []⟩) (fun r s' => r = .ok (.ret (.bool true)) ∧ OldK s₁.heap s'.heap ∧ s'.os = s₁.os ∧ AllBare s'.gens) s₁ := by
  have rv := vals_ints hi
  have lenV := hi.length
  -- from an abstract heap in which nothing but the script may be tracked
  have core : ∀ H : Hp, Only H → SqL K H a (ns.map V.int) → HOk P w H s₁.heap → (∀ b, H b ≠ none → b = a) → (H a ≠ none → K.lookup a = none) →
      codeAny (model P w) callerA (.call (.ref fa) ⟨[.ref a], []⟩) (fun r s' => r = .ok (.ret (.bool true)) ∧ OldK s₁.heap s'.heap ∧ s'.os = s₁.os ∧ AllBare s'.gens) s₁ := by
    intro H hO hS hok hA hK
    have base_of : ∀ {b : Addr} {o : Obj}, s₁.heap.get? b = some o → H b = none → (hidT s₁.heap H).get? b = some o := fun e n => hidT_get e n
    have noA : ∀ {b : Addr} {o : Obj} {es : Array DictEntry} {ep : Nat}, s₁.heap.get? b = some o → o.data = .dict es ep → H b = none := fun {b o es ep} e d => by
      cases q : H b with
      | none => rfl
      | some u =>
        have e' : b = a := hA b (by rw [q]; simp)
        subst e'
        rw [ha] at e; cases e
        have d' : Data.seq vs.toArray _ = Data.dict es ep := d
        cases d'
    have nsK : ∀ {b : Addr} {m : Str → Option Value}, s₁.heap.Ns b m → (hidT s₁.heap H).Ns b m := fun {b m} ⟨o, es, ep, e, d, r⟩ => ⟨o, es, ep, base_of e (noA e d), d, r⟩
    have hKb : K.In (hidT s₁.heap H) := fun b o e => base_of (KX b o e) (by
      cases q : H b with
      | none => rfl
      | some u =>
        have e' : b = a := hA b (by rw [q]; simp)
        subst e'
        rw [hK (by rw [q]; simp)] at e; cases e)
    have hM : Mod K mg (hidT s₁.heap H) := ⟨hKb, nsK hns, ⟨mb, nsK hb, hbb⟩, let ⟨mc, h1, h2⟩ := hlim; ⟨mc, nsK h1, h2⟩⟩
    have e0 : Env0 P w K mg (hidT s₁.heap H) callerA [] s₁ H := ⟨rfl, hM, fun b o e => of_hidT e, Nat.le_of_eq (hidT_size _ _), trivial, fun b hb => absurd (show b ∈ ([] : List Addr) from hb) (by simp), hok, .of_eq hg⟩
    refine codeAny_mono ((F _ hKb (nsK hns)).run callerA [] s₁ H ⟨[.ref a], []⟩ [.ref a] [.ref a] _ _ hr e0 (hbind s₁ (.ref a)) (.cons rfl .nil) (hsp H hO hS)) fun r s' h => ?_
    cases r with
    | error e => exact (hCX H e s' h).elim
    | ok fl =>
      cases fl with
      | next => exact False.elim h
      | brk => exact False.elim h
      | cont => exact False.elim h
      | ret u =>
        obtain ⟨v, H', os, bare, un, hok', r', q⟩ := h
        have q' : v = .bl true := q
        subst q'
        obtain rfl : u = Value.bool true := r'
        refine ⟨rfl, OldK.of_keep fun b o e => ?_, os, bare⟩
        cases q : H b with
        | none => exact un.keep b o e q (by intro z; exact absurd (show b ∈ ([] : List Addr) from z) (by simp)) (by simp)
        | some u =>
          rcases hO b with z | ⟨ob, xs, z⟩
          · rw [q] at z; cases z
          · have z2 := un.frzs b ob _ z
            obtain ⟨e1, _⟩ := hok b _ z
            obtain ⟨e2, _⟩ := hok' b _ z2
            rw [e] at e1; cases e1
            exact e2
  cases hk : K.lookup a with
  | some o =>
    -- the script is one of the module's own objects
    have e := KX a o hk
    rw [ha] at e
    cases e
    refine core (fun _ => none) (fun _ => .inl rfl) (.inr ⟨_, vs.toArray, _, hk, rfl, rfl, rfl, by rw [List.size_toArray, lenV]; exact hl, by simpa using rv⟩) (fun b u z => by have z' : (none : Option HO) = some u := z; cases z') (fun b z => absurd rfl z) fun z => absurd rfl z
  | none =>
    refine core (fun b => if b = a then some (.frz { cls := .type "list", data := .seq vs.toArray } (.lst (ns.map V.int))) else none) (fun b => ?_) (.inl (.inr ⟨{ cls := .type "list", data := .seq vs.toArray }, if_pos rfl⟩)) (fun b u z => ?_) (fun b z => ?_) fun _ => hk
    · by_cases hb : b = a
      · exact .inr ⟨_, _, if_pos hb⟩
      · exact .inl (if_neg hb)
    · by_cases hb : b = a
      · have z' := (if_pos hb).symm.trans z
        cases z'
        subst hb
        exact ⟨ha, by rw [List.length_map]; exact hl, vs, _, rv, ha⟩
      · have z' := (if_neg hb).symm.trans z
        cases z'
    · by_cases hb : b = a
      · exact hb
      · exact absurd (if_neg hb) z
end L2
namespace L2
open PySem PySem.Spec PyProof.Rows
abbrev KOf {K : PySem.W.Frag} {h : Heap} (_ : K.In h) : PySem.W.Frag := K
theorem walk_of {l : PySem.W.OpenLaw} {n k : Nat} {q : Program} {loose : List Str} {XP : (Str → Option Value) → Heap → Prop} {YP : World → Heap → Prop} {d : DefRec} {K : Params → PySem.W.Frag} {CX : World → CXT} {sp : World → Sp} {x : Str}
    (hn : l.most = some n) (hn2 : n ≤ sizeLine) (hdf : d.params.defaults = []) (hr : Room k callerA)
    (hY : ∀ (w : World) (h : Heap), YP w h → (K w.params).In h)
    (F : ∀ (w : World) (mg : Str → Option Value) (fa : Addr) (h : Heap), (K w.params).In h → h.Ns mainGlobals mg → mg d.name = some (.ref fa) →
      ∃ fd : FuncData, (∀ (s : Shared) (u : Value), BindsTo s fd ⟨[u], []⟩ [(x, u)]) ∧
        ∀ base : Heap, (K w.params).In base → base.Ns mainGlobals mg → FnOk l.prog w (K w.params) mg base (CX w) k fa fd [x] (sp w))
    (hsp : ∀ (w : World) (H : Hp) (a : Addr) (ns : List Int), ns.length ≤ n → Only H → SqL (K w.params) H a (ns.map V.int) → sp w [.ref a] H (fun v _ => v = .bl true) fun _ _ _ => False)
    (hCX : ∀ (w : World) (H : Hp) (s : Shared) (e : Value) (s' : Shared), CX w [] H s (fun _ _ _ => False) e s' → False) :
    PySem.W.WalkO q loose XP YP l.row.toRowW d [] (fun f vs => PySem.call f vs) := by
  refine Att.attach_call hn hdf fun w s₀ s₁ mg mb fa o pm cd doc a vs ns G Y ho hd hcd hmg hobj hints hlen hg => ?_
  have KX := hY w _ Y
  obtain ⟨fd, hb, hF⟩ := F w mg fa _ KX G.T.g hmg
  exact law_call KX G.T.g G.T.b G.T.builtins G.T.nolimit hg hobj hints (Nat.le_trans hlen hn2) hr hF hb (fun H hO hS => hsp w H a ns hlen hO hS) fun H e s' => hCX w H s₁ e s'
end L2

/- THE LAST THEOREM (shape; LID, My.* are yours):
   My.Adr: a structure of the addresses that your layer names (classes, functions); My.Txt K t: a structure (Prop) of the equations over K;
   My.txt_mk : {K} {implicit addresses ..} (e1 : nsIn K mainGlobals "law" = some (some (.ref f))) (e2 : K.lookup f = some ⟨oc, od, .func (fnOf "law" "law" params body scope dV kV doc pm an cdv ct), sl⟩) (e3 : codeIn K cdv "law" = true) .. : ∃ t, My.Txt K t

set_option maxRecDepth 100000 in
set_option maxHeartbeats 0 in
theorem PySem.Challenge.cw_LID_holds : PySem.Challenge.rw_LID.Holds := by
  w_on; o_law; k_head; (case hw => w_witness2)
  k_fill
  refine L2.walk_of (l := PySem.Challenge.rw_LID) (n := 63) (k := 40) (x := "script") (CX := fun w => ..) (sp := fun _ => My.sp_law) rfl (by decide) rfl ⟨rfl, by decide, by decide⟩ (fun w h Y => PySem.W.kIn_of Y) ?F ?S ?C
  case F =>
    intro w mg fa h KX G hmg
    have T : ∃ t, My.Txt (L2.KOf KX) t := by
      dsimp only [L2.KOf]                          -- K must stand as «<heap const> w.params» for k_is
      refine' My.txt_mk ?e1 ?e2 ?e3 ..
      (case e1 => PySem.W.k_is)                    -- in the order: a name -> its address -> its object -> its parts
      (case e2 => PySem.W.k_is)
      ..
    obtain ⟨t, T⟩ := T
    have e0 := hmg.symm.trans (PySem.W.mg_of KX G T.law)
    cases e0                                       -- fa is the law's own address
    exact ⟨_, fun s u => .of_eq rfl, fun base kb nb => My.law_fn T kb nb⟩     -- if «.of_eq rfl» comes too early: refine' ⟨_, ?b, fun base kb nb => My.law_fn T kb nb⟩; exact fun s u => .of_eq rfl
  case S => exact fun w H a ns hl hO hS => ..
  case C => exact ..
(the tactic k_is has no namespace: write k_is) -/
namespace L2
open PySem PySem.Spec PyProof.Rows
def defArgs (s : Stmt) : Arguments := match s with
  | .FunctionDef _ a _ _ _ _ _ _ _ _ => a
  | _ => { posonlyargs := [], args := [], vararg := none, kwonlyargs := [], kw_defaults := [], kwarg := none, defaults := [] }
def defBody (s : Stmt) : List Stmt := match s with
  | .FunctionDef _ _ b _ _ _ _ _ _ _ => b
  | _ => []
def defScope (s : Stmt) : Scope := match s with
  | .FunctionDef _ _ _ _ _ _ sc _ _ _ => sc
  | _ => { kind := .function, names := [], isGenerator := false, isCoroutine := false }
abbrev CX0 : CXT := fun _ _ _ _ _ _ => False
abbrev E0 : XK := fun _ _ _ => False
theorem pass0 {X : Cx} : Passes CX0 X E0 := fun _ _ _ _ _ _ _ h => h.elim
structure Fun (K : PySem.W.Frag) (x qual : Str) (st : Stmt) (f : Addr) (fd : FuncData) : Prop where
  ex : ∃ (oc : Value) (od : Option Addr) (kV doc pm : Value) (an : Option Addr) (cdv ct : Value) (osl : Array (Option Value)),
    fd = PySem.W.fnOf x qual (defArgs st) (defBody st) (defScope st) .none kV doc pm an cdv ct ∧ K.lookup f = some ⟨oc, od, .func fd, osl⟩ ∧ PySem.W.codeIn K cdv qual = true
  kp : PySem.W.keepIn K (.ref f) = true
section
variable {P : Program} {w : World} {K : PySem.W.Frag} {mg : Str → Option Value} {base : Heap}
theorem Fun.ok {x qual : Str} {st : Stmt} {f : Addr} {fd : FuncData} {N ps : List Str} {k : Nat} {sp : Sp} (F : Fun K x qual st f fd) (S : FnScope N ps (defScope st)) (len : ∀ vs H Q E, sp vs H Q E → vs.length = ps.length)
    (hbody : ∀ (cdv : Value) (A : Around) (outer : List Env) (s : Shared) (H : Hp) (vs : List V) (Q : VK) (E : XK), Room k (A.deeper (envOfC qual (defScope st) s.heap.objs.size f cdv)) → sp vs H Q E →
      ∃ t, PSs (cxOf CX0 P w K mg base N qual (defScope st) f cdv A outer s H E).nox (defBody st) t ∧ t { nx := fun _ H' => Q .non H', rt := Q } (start N vs) H) : FnOk P w K mg base CX0 (k + 1) f fd ps sp := by
  obtain ⟨oc, od, kV, doc, pm, an, cdv, ct, osl, rfl, lk, hcd⟩ := F.ex
  refine fn_of lk hcd S len fun A outer s H vs Q E hr hsp => ?_
  obtain ⟨t, h, q⟩ := hbody cdv A outer s H vs Q E hr hsp
  exact ⟨t, h.nox, q⟩
theorem Fun.binds {x qual : Str} {st : Stmt} {f : Addr} {fd : FuncData} {ps : List Str} (F : Fun K x qual st f fd)
    (h : ∀ (kV doc pm : Value) (an : Option Addr) (cdv ct : Value) (us : List Value), us.length = ps.length → bindArgs (PySem.W.fnOf x qual (defArgs st) (defBody st) (defScope st) .none kV doc pm an cdv ct) ⟨us, []⟩ = pure (ps.zip us)) : Binds K fd ps [] := by
  obtain ⟨oc, od, kV, doc, pm, an, cdv, ct, osl, rfl, lk, hcd⟩ := F.ex
  exact .all (h kV doc pm an cdv ct)
theorem fun_mk {x qual : Str} {st : Stmt} {f : Addr} {oc : Value} {od an : Option Addr} {osl : Array (Option Value)} {kV doc pm cdv ct : Value} (l : K.lookup f = some ⟨oc, od, .func (PySem.W.fnOf x qual (defArgs st) (defBody st) (defScope st) .none kV doc pm an cdv ct), osl⟩)
    (c : PySem.W.codeIn K cdv qual = true) (k : PySem.W.keepIn K (.ref f) = true) : Fun K x qual st f (PySem.W.fnOf x qual (defArgs st) (defBody st) (defScope st) .none kV doc pm an cdv ct) := ⟨⟨oc, od, kV, doc, pm, an, cdv, ct, osl, rfl, l, c⟩, k⟩
end
theorem small1000 {n : Nat} (h : n ≤ 1000) : n < sizeLine := Nat.lt_of_le_of_lt h (by decide)
section
variable {X : Cx}
theorem pv (i : Nat) {x : Str} {pos : Pos} (hN : X.N[i]? = some x := by rfl) (hv : Vis X.env.scope x := by first | exact Or.inl rfl | exact Or.inr (Or.inl rfl) | exact Or.inr (Or.inr rfl)) (hd : (x == ("__debug__" : Str)) = false := by decide)
    (hcd : (x == ("__classdict__" : Str)) = false := by decide) : PE X (.Name x pos) (tVar i) := pe_var hN hv hd hcd
end
theorem iteF {A B : Prop} (h : B) : if false = true then A else B := by
  rw [if_neg Bool.false_ne_true]
  exact h
theorem iteT {A B : Prop} (h : A) : if true = true then A else B := by
  rw [if_pos rfl]
  exact h
theorem ite2 {c A B : Prop} [Decidable c] (h1 : c → A) (h2 : ¬ c → B) : if c then A else B := by
  by_cases h : c
  · rw [if_pos h]
    exact h1 h
  · rw [if_neg h]
    exact h2 h
def Same (H H' : Hp) : Prop := ∀ b o, H b = some o → H' b = some o
theorem Same.refl (H : Hp) : Same H H := fun _ _ h => h
theorem Same.trans {H H1 H2 : Hp} (a : Same H H1) (b : Same H1 H2) : Same H H2 := fun c o h => b c o (a c o h)
theorem Same.free {H H' : Hp} (e : Same H H') {l : Addr} (h : H' l = Option.none) : H l = Option.none := by
  cases q : H l with
  | none => rfl
  | some o =>
    rw [e l o q] at h
    cases h
theorem Same.seq {K : PySem.W.Frag} {H H' : Hp} {a : Addr} {xs : List V} (e : Same H H') (h : SqL K H a xs) : SqL K H' a xs := by
  rcases h with (h | ⟨o, h⟩) | h
  · exact .inl (.inl (e _ _ h))
  · exact .inl (.inr ⟨o, e _ _ h⟩)
  · exact .inr h
end L2
set_option Elab.async false
set_option linter.all false
set_option maxRecDepth 100000
set_option maxHeartbeats 4000000
namespace L2
open PySem PySem.Spec PyProof.Rows
def closL (env : Env) : List (Str × NameKind) → List (Str × Addr) → List (Str × Addr)
  | [], acc => acc
  | (n, k) :: r, acc => if k == .free then closL env r ((n, (env.cells.lookup n).getD 0) :: acc) else closL env r acc
theorem closureFor_closL {env : Env} {scope : Scope} (h : ∀ x ∈ scope.names, x.2 = .free → ∃ c, env.cells.lookup x.1 = some c) : closureFor scope env = pure (closL env scope.names []) := by
  unfold closureFor
  have go : ∀ (names : List (Str × NameKind)) (acc : List (Str × Addr)), (∀ x ∈ names, x.2 = .free → ∃ c, env.cells.lookup x.1 = some c) →
      (forIn names acc fun x r => match x with
        | (name, kind) => if (kind == NameKind.free) = true then do let __do_lift ← cellOf env name; pure (ForInStep.yield ((name, __do_lift) :: r)) else pure (ForInStep.yield r) : Sem (List (Str × Addr))) = pure (closL env names acc) := by
    intro names
    induction names with
    | nil => intro acc _; rfl
    | cons x r ih =>
      intro acc hx
      obtain ⟨n, k⟩ := x
      rw [List.forIn_cons]
      have hr := fun y hy => hx y (List.mem_cons_of_mem _ hy)
      by_cases hk : k = .free
      · subst hk
        obtain ⟨c, hc⟩ := hx (n, .free) List.mem_cons_self rfl
        have hc' : env.cells.lookup n = some c := hc
        unfold closL
        simp only [beq_self_eq_true, if_true, cellOf, hc', Option.getD_some, pure_bind]
        exact ih _ hr
      · have hb : (k == NameKind.free) = false := by simpa using hk
        unfold closL
        simp only [hb, Bool.false_eq_true, if_false, pure_bind]
        exact ih _ hr
  have := go scope.names [] h
  simp only [this]
  first | rfl | simp
theorem closL_mem {env : Env} : ∀ (names : List (Str × NameKind)) (acc : List (Str × Addr)), (∀ x ∈ names, x.2 = .free → ∃ c, env.cells.lookup x.1 = some c) → (∀ p ∈ acc, env.cells.lookup p.1 = some p.2) →
    ∀ p ∈ closL env names acc, env.cells.lookup p.1 = some p.2
  | [], _, _, ha, p, hp => ha p hp
  | (n, k) :: r, acc, h, ha, p, hp => by
    unfold closL at hp
    have hr := fun y hy => h y (List.mem_cons_of_mem _ hy)
    split at hp
    · rename_i hk
      have hk : k = .free := by simpa using hk
      obtain ⟨c, hc⟩ := h (n, k) List.mem_cons_self hk
      have hc' : env.cells.lookup n = some c := hc
      refine closL_mem r _ hr (fun q hq => ?_) p hp
      rcases List.mem_cons.mp hq with rfl | hq
      · show env.cells.lookup n = some ((env.cells.lookup n).getD 0)
        rw [hc']; rfl
      · exact ha q hq
    · exact closL_mem r acc hr ha p hp
theorem closL_acc {env : Env} : ∀ (names : List (Str × NameKind)) (acc : List (Str × Addr)), ∀ p ∈ acc, p ∈ closL env names acc
  | [], _, _, hp => hp
  | (n, k) :: r, acc, p, hp => by
    unfold closL
    split
    · exact closL_acc r _ p (List.mem_cons_of_mem _ hp)
    · exact closL_acc r acc p hp
theorem closL_has {env : Env} : ∀ (names : List (Str × NameKind)) (acc : List (Str × Addr)) (n : Str), (n, NameKind.free) ∈ names → ∃ c, (n, c) ∈ closL env names acc
  | (m, k) :: r, acc, n, hn => by
    unfold closL
    rcases List.mem_cons.mp hn with e | hn
    · cases e
      simp only [beq_self_eq_true, if_true]
      exact ⟨_, closL_acc r _ _ List.mem_cons_self⟩
    · split
      · exact closL_has r _ n hn
      · exact closL_has r _ n hn
theorem closL_names {env : Env} : ∀ (names : List (Str × NameKind)) (acc : List (Str × Addr)), ∀ p ∈ closL env names acc, p ∈ acc ∨ (p.1, NameKind.free) ∈ names
  | [], _, _, hp => .inl hp
  | (n, k) :: r, acc, p, hp => by
    unfold closL at hp
    split at hp
    · rename_i hk
      have hk : k = .free := by simpa using hk
      subst hk
      rcases closL_names r _ p hp with z | z
      · rcases List.mem_cons.mp z with rfl | z
        · exact .inr List.mem_cons_self
        · exact .inl z
      · exact .inr (List.mem_cons_of_mem _ z)
    · rcases closL_names r _ p hp with z | z
      · exact .inl z
      · exact .inr (List.mem_cons_of_mem _ z)
theorem cellsFrom_mem : ∀ (names : List (Str × NameKind)) (n : Nat) (acc : List (Str × Addr)), ∀ p ∈ cellsFrom n names acc, p ∈ acc ∨ (n ≤ p.2 ∧ (p.1, NameKind.cell) ∈ names)
  | [], _, _, _, hp => .inl hp
  | (x, k) :: r, n, acc, p, hp => by
    unfold cellsFrom at hp
    split at hp
    · rename_i hk
      have hk : k = .cell := by simpa using hk
      subst hk
      rcases cellsFrom_mem r (n + 1) _ p hp with z | ⟨z, w⟩
      · rcases List.mem_cons.mp z with rfl | z
        · exact .inr ⟨Nat.le_refl _, List.mem_cons_self⟩
        · exact .inl z
      · exact .inr ⟨Nat.le_of_succ_le z, List.mem_cons_of_mem _ w⟩
    · rcases cellsFrom_mem r n acc p hp with z | ⟨z, w⟩
      · exact .inl z
      · exact .inr ⟨z, List.mem_cons_of_mem _ w⟩
theorem cellsFrom_acc : ∀ (names : List (Str × NameKind)) (n : Nat) (acc : List (Str × Addr)), ∀ p ∈ acc, p ∈ cellsFrom n names acc
  | [], _, _, _, hp => hp
  | (x, k) :: r, n, acc, p, hp => by
    unfold cellsFrom
    split
    · exact cellsFrom_acc r _ _ p (List.mem_cons_of_mem _ hp)
    · exact cellsFrom_acc r _ _ p hp
theorem cellsFrom_has : ∀ (names : List (Str × NameKind)) (n : Nat) (acc : List (Str × Addr)) (x : Str), (x, NameKind.cell) ∈ names → ∃ c, (x, c) ∈ cellsFrom n names acc
  | (y, k) :: r, n, acc, x, hx => by
    unfold cellsFrom
    rcases List.mem_cons.mp hx with e | hx
    · cases e
      simp only [beq_self_eq_true, if_true]
      exact ⟨_, cellsFrom_acc r _ _ _ List.mem_cons_self⟩
    · split
      · exact cellsFrom_has r _ _ x hx
      · exact cellsFrom_has r _ _ x hx
theorem cellsFrom_new : ∀ (names : List (Str × NameKind)) (h : Heap) (acc : List (Str × Addr)), ∀ p ∈ cellsFrom h.objs.size names acc, p ∈ acc ∨ (pushCells h names).IsCell p.2 none
  | [], _, _, _, hp => .inl hp
  | (x, k) :: r, h, acc, p, hp => by
    unfold cellsFrom at hp
    unfold pushCells
    split at hp
    · rename_i hk
      rw [if_pos hk]
      have := cellsFrom_new r (h.push { cls := .type "cell", data := .cell none }) ((x, h.objs.size) :: acc) p (by rw [Heap.size_push]; exact hp)
      rcases this with z | z
      · rcases List.mem_cons.mp z with rfl | z
        · exact .inr ⟨_, pushCells_keeps _ _ _ _ (Heap.get?_push_size _ rfl), rfl⟩
        · exact .inl z
      · exact .inr z
    · rename_i hk
      rw [if_neg hk]
      exact cellsFrom_new r h acc p hp
theorem cellsFrom_apart : ∀ (names : List (Str × NameKind)) (n : Nat) (acc : List (Str × Addr)), (acc.Pairwise fun x y => x.2 ≠ y.2) → (∀ p ∈ acc, p.2 < n) → (cellsFrom n names acc).Pairwise fun x y => x.2 ≠ y.2
  | [], _, _, h, _ => h
  | (x, k) :: r, n, acc, h, hl => by
    unfold cellsFrom
    split
    · refine cellsFrom_apart r (n + 1) _ (List.pairwise_cons.mpr ⟨fun y hy e => ?_, h⟩) fun p hp => ?_
      · have h1 := hl y hy
        have e' : n = y.2 := e
        exact absurd h1 (by rw [← e']; exact Nat.lt_irrefl _)
      · rcases List.mem_cons.mp hp with rfl | hp
        · exact Nat.lt_succ_self _
        · exact Nat.lt_succ_of_lt (hl p hp)
    · exact cellsFrom_apart r n acc h hl
theorem closL_apart {env : Env} (inj : ∀ x y c, env.cells.lookup x = some c → env.cells.lookup y = some c → x = y) : ∀ (names : List (Str × NameKind)) (acc : List (Str × Addr)), (names.map (·.1)).Nodup →
    (∀ x ∈ names, x.2 = .free → ∃ c, env.cells.lookup x.1 = some c) → (acc.Pairwise fun x y => x.2 ≠ y.2) → (∀ p ∈ acc, env.cells.lookup p.1 = some p.2 ∧ p.1 ∉ names.map (·.1)) → (closL env names acc).Pairwise fun x y => x.2 ≠ y.2
  | [], _, _, _, h, _ => h
  | (n, k) :: r, acc, nd, hf, h, ha => by
    unfold closL
    have nd' := List.nodup_cons.mp nd
    have hr := fun y hy => hf y (List.mem_cons_of_mem _ hy)
    split
    · rename_i hk
      have hk : k = .free := by simpa using hk
      obtain ⟨c, hc⟩ := hf (n, k) List.mem_cons_self hk
      have hc' : env.cells.lookup n = some c := hc
      refine closL_apart inj r _ nd'.2 hr (List.pairwise_cons.mpr ⟨fun y hy e => ?_, h⟩) fun p hp => ?_
      · have e' : (env.cells.lookup n).getD 0 = y.2 := e
        rw [hc'] at e'
        have e2 : c = y.2 := e'
        have q := (ha y hy).1
        have := inj n y.1 c hc' (by rw [e2]; exact q)
        exact (ha y hy).2 (by rw [← this]; exact List.mem_cons_self)
      · rcases List.mem_cons.mp hp with rfl | hp
        · refine ⟨?_, nd'.1⟩
          show env.cells.lookup n = some ((env.cells.lookup n).getD 0)
          rw [hc']; rfl
        · exact ⟨(ha p hp).1, fun z => (ha p hp).2 (List.mem_cons_of_mem _ z)⟩
    · exact closL_apart inj r acc nd'.2 hr h fun p hp => ⟨(ha p hp).1, fun z => (ha p hp).2 (List.mem_cons_of_mem _ z)⟩
theorem relabel_lookup {env : Env} : ∀ (names : List (Str × NameKind)) (x : Str),
    (names.map fun (n, k) => if (k == NameKind.free && env.scope.kind == .function && env.kindOf n == some .cell) then (n, NameKind.cell) else (n, k)).lookup x =
      (names.lookup x).map fun k => if (k == NameKind.free && env.scope.kind == .function && env.kindOf x == some .cell) then NameKind.cell else k
  | [], x => rfl
  | (n, k) :: r, x => by
    have ih := relabel_lookup (env := env) r x
    rw [List.map_cons]
    show List.lookup x ((if (k == NameKind.free && env.scope.kind == .function && env.kindOf n == some .cell) = true then (n, NameKind.cell) else (n, k)) :: _) = _
    split
    · rename_i hc
      rw [List.lookup_cons, List.lookup_cons]
      cases hx : x == n with
      | false => exact ih
      | true =>
        have e : x = n := by simpa using hx
        subst e
        simp only [Option.map_some]
        rw [if_pos hc]
    · rename_i hc
      rw [List.lookup_cons, List.lookup_cons]
      cases hx : x == n with
      | false => exact ih
      | true =>
        have e : x = n := by simpa using hx
        subst e
        simp only [Option.map_some]
        rw [if_neg hc]
theorem mem_lookup_nodup {α : Type} : ∀ {l : List (Str × α)} {n : Str} {c : α}, (l.map (·.1)).Nodup → (n, c) ∈ l → l.lookup n = some c
  | (k, v) :: r, n, c, nd, h => by
    have nd' := List.nodup_cons.mp nd
    rw [List.lookup_cons]
    rcases List.mem_cons.mp h with e | h2
    · cases e; simp
    · cases hb : n == k with
      | true =>
        have e : n = k := by simpa using hb
        exact absurd (List.mem_map.mpr ⟨(n, c), h2, e⟩ : k ∈ r.map (·.1)) nd'.1
      | false => exact mem_lookup_nodup nd'.2 h2
theorem lookup_of_mem {α : Type} : ∀ {l : List (Str × α)} {n : Str} {c : α}, (n, c) ∈ l → ∃ d, l.lookup n = some d
  | (k, v) :: r, n, c, h => by
    rw [List.lookup_cons]
    cases hb : n == k with
    | true => exact ⟨v, rfl⟩
    | false =>
      rcases List.mem_cons.mp h with e | h
      · cases e; simp at hb
      · exact lookup_of_mem h
abbrev compCx (X : Cx) (scope : Scope) (N' : List Str) (s2 : Shared) (H2 : Hp) (cs : List (Str × Addr)) (C : Addr) (fp : List Addr) : Cx where
  prog := X.prog
  w := X.w
  K := X.K
  mg := X.mg
  base := X.base
  A := X.A
  N := N'
  s₀ := s2
  H₀ := H2
  env := compEnvC scope cs C X.env
  outer := X.stack
  stack := X.stack
  ex := fp
  fn := fun x => scope.names.lookup x == some .cell
  calm := X.calm
  pn := X.pn
  xe := fun _ _ => False
def compOk (sc0 sc : Scope) (own cn N : List Str) (js : List Nat) : Bool :=
  (decide (sc.kind = .function)) && (sc.names.all fun x => !decide (x.2 = .free) || decide (sc0.names.lookup x.1 = some .cell) || decide (sc0.names.lookup x.1 = some .free))
  && decide ((sc.names.map (·.1)).Nodup) && (own.all fun x => decide (sc.names.lookup x = some .local) || decide (sc.names.lookup x = some .cell)) && (cn.all fun x => decide (sc.names.lookup x = some .free))
  && decide ((own ++ cn).Nodup) && decide (js.map (fun j => N[j]?) = cn.map some)
def capS (k : Nat) (js : List Nat) (σ : St) : St := List.replicate k none ++ js.map fun j => (σ[j]?).join
def PIfs (X : Cx) (ifs : List Expr) (t : TT) : Prop :=
  ∀ (pins : List (Addr × Obj)) (s : Shared) (σ : St) (H : Hp) (Q : Bool → Hp → Prop), Inv X pins σ H s → t σ H Q →
    wpAny (model X.prog X.w) X.A (forIn ifs true fun c r => if r = true then do let ok ← isTrue c X.env (eval c X.env); pure (ForInStep.yield ok) else pure (ForInStep.yield r)) (TP X pins σ Q) X.xe s
theorem pifs_nil {X : Cx} : PIfs X [] (fun _ H Q => Q true H) := fun _ _ _ H _ I h => wpAny_tests_nil ⟨H, I, h⟩
theorem pifs_one {X : Cx} {c : Expr} {t : TT} (h : PT X c t) : PIfs X [c] t := fun pins s σ H Q I hw => wpAny_tests_one (h pins s σ H Q I hw)
theorem comp_env {M : Model} {A : Around} {E : Value → Shared → Prop} {s : Shared} {scope : Scope} {env : Env} {cl : List (Str × Addr)} {Q : Env → Shared → Prop}
    (h : Q (newEnv scope s.heap.objs.size env.globals (cellsFrom (s.heap.objs.size + 1) scope.names cl) env.qual none .none (some env) builtinsNs) { s with heap := pushCells (s.heap.push { cls := .type "dict", data := .dict #[] }) scope.names }) :
    wpAny M A (newFunctionEnv scope env.globals cl [] env.qual none .none (some env)) Q E s := by
  simp only [newFunctionEnv, Option.isSome_some, if_true]
  refine wpAny_bind (wpAny_alloc ?_)
  refine wpAny_bind (wpAny_layCells _ (fun name kind cells => by cases hkc : kind == NameKind.cell <;> simp [hkc]) _ _ _ _ ?_)
  rw [show ({ s with heap := s.heap.push { cls := .type "dict", data := .dict #[] } } : Shared).heap.objs.size = s.heap.objs.size + 1 from Heap.size_push ..]
  refine wpAny_bind ?_
  rw [List.forIn_nil]
  exact wpAny_pure (wpAny_pure h)
theorem codeAny_compLoop_own {prog : Program} {w : World} {A : Around} {R : Result → Shared → Prop} {s : Shared} {elt target iter : Expr} {ifs : List Expr} {scope : Scope} {pos : Pos} {it acc : Value} {env : Env} (I : Nat → Shared → Prop)
    (turn : ∀ n s, I n s → wpAny (model prog w) A (pyNext it) (fun r s₁ => match r with
      | none => R (.ok .next) s₁
      | some v => wpAny (model prog w) A (letOwnedTupleGo target it v) (fun _ s₁' => wpAny (model prog w) A (assign target env v) (fun _ s₂ =>
          wpAny (model prog w) A (forIn ifs true fun c r => if r = true then do let ok ← isTrue c env (eval c env); pure (ForInStep.yield ok) else pure (ForInStep.yield r)) (fun ok s₃ =>
            if ok = true then wpAny (model prog w) A (eval elt env) (fun x s₄ =>
              wpAny (model prog w) A (call (.builtin "list.append") [acc, x]) (fun _ s₅ => ∃ m, m < n ∧ I m s₅) (fun _ _ => False) s₄) (fun _ _ => False) s₃
            else ∃ m, m < n ∧ I m s₃) (fun _ _ => False) s₂) (fun _ _ => False) s₁') (fun _ _ => False) s₁) (fun _ _ => False) s)
    (n : Nat) (h : I n s) :
    codeAny (model prog w) A (.compLoop (.ListComp elt [⟨target, iter, ifs, 0⟩] scope pos) 0 it acc env) R s := by
  refine codeAny_loop rfl I (fun n s hI => ?_) n h
  show wpAny _ A ((compTurn (.ListComp elt [⟨target, iter, ifs, 0⟩] scope pos) 0 it acc env).onRaise (fun x => do noteFrame x env; theTreesLotGoes x)) _ _ s
  refine wpAny_noted ?_
  rw [compTurn_list]
  refine wpAny_bind (wpAny_standAt (wpAny_bind (wpAny_mono (turn n s hI) (fun r s₁ h₁ => ?_) fun _ _ h' => False.elim h')))
  cases r with
  | none => exact wpAny_pure h₁
  | some v =>
    refine wpAny_bind (wpAny_mono h₁ (fun _ s₁' h₁' => ?_) fun _ _ h' => False.elim h')
    refine wpAny_bind (wpAny_mono h₁' (fun _ s₂ h₂ => wpAny_bind (wpAny_mono h₂ (fun ok s₃ h₃ => ?_) fun _ _ h' => False.elim h')) fun _ _ h' => False.elim h')
    cases ok with
    | false => exact wpAny_pure ⟨rfl, h₃⟩
    | true =>
      exact wpAny_bind (wpAny_bind (wpAny_mono h₃ (fun x s₄ h₄ => wpAny_bind (wpAny_mono h₄ (fun _ s₅ h₅ => wpAny_pure (wpAny_pure ⟨rfl, h₅⟩)) fun _ _ h' => False.elim h')) fun _ _ h' => False.elim h'))
def CompW (J : It) (g : TG) (tt : TT) (te : TE) (D : Addr) (σ' : St) (Q : List V → Hp → Prop) (W : Nat → Nat → List V → Hp → Prop) : Prop :=
  ∀ i m ys H, W i m ys H → (J.stop i H ∧ Q ys H) ∨ (J.go i H ∧ ∃ N : List V → Hp → Prop, (∀ ys' H', N ys' H' → ∃ m', m' < m ∧ W (i + 1) m' ys' H') ∧ ∀ x H', J.yld i H x H' → g x σ' H' fun σ2 H2 => tt σ2 H2 fun b H3 =>
    if b = true then te σ2 H3 fun v H4 => H4 D = some (.lst ys) ∧ ys.length < sizeLine ∧ N (ys ++ [v]) (upd H4 D (.lst (ys ++ [v]))) else N ys H3)
def tComp (wi : TI) (g : TG) (tt : TT) (te : TE) (k : Nat) (js : List Nat) : TE := fun σ H Q => wi σ H fun J H1 => ∀ D, H1 D = none →
  ∃ W : Nat → Nat → List V → Hp → Prop, (∃ m, W 0 m [] (upd H1 D (.lst []))) ∧ CompW J g tt te D (capS k js σ) (fun _ H => Q (.ref D) H) W
section
variable {X : Cx} {pins : List (Addr × Obj)} {σ : St} {H2 : Hp} {s2 : Shared} {tg elt iter : Expr} {ifs : List Expr} {scope : Scope} {pos : Pos} {own cn : List Str} {js : List Nat} {g : TG} {tt : TT} {te : TE}
theorem comp_block (hok : compOk X.env.scope scope own cn X.N js = true) (hc : X.calm = true)
    (hg : ∀ s2 H2 cs C fp, PG (compCx X scope (own ++ cn) s2 H2 cs C fp) tg g) (ht : ∀ s2 H2 cs C fp, PIfs (compCx X scope (own ++ cn) s2 H2 cs C fp) ifs tt) (he : ∀ s2 H2 cs C fp, PE (compCx X scope (own ++ cn) s2 H2 cs C fp) elt te)
    (I2 : Inv X pins σ H2 s2) {it : Addr} {fp : List Addr} {tn : Nat → Heap → Prop} {J : It} (T : Turn X.prog X.w X.K tg J fp it tn) (st2 : tn 0 s2.heap) (f2 : ∀ b ∈ fp, FpOk X pins H2 b)
    {Qe : Hp → Prop} (hW : ∃ W : Nat → Nat → List V → Hp → Prop, (∃ m, W 0 m [] (upd H2 s2.heap.objs.size (.lst []))) ∧ CompW J g tt te s2.heap.objs.size (capS own.length js σ) (fun _ H => Qe H) W)
    {RR : Value → Addr → Result → Shared → Prop}
    (hRR : ∀ C H' s', Inv X pins σ H' s' → FpOk X pins H' C → (∃ m, s'.heap.Ns C m) → Qe H' → RR (.ref s2.heap.objs.size) C (.ok .next) s') :
    wpAny (model X.prog X.w) X.A (newList []) (fun acc s₃ => wpAny (model X.prog X.w) X.A (newFunctionEnv scope X.env.globals (closL X.env scope.names []) [] X.env.qual none .none (some X.env)) (fun cenv s₄ =>
      codeAny (model X.prog X.w) X.A (.compStart (.ListComp elt [⟨tg, iter, ifs, 0⟩] scope pos) 0 (.ref it) acc { cenv with scope := relabel scope X.env }) (RR acc cenv.locals) s₄) X.xe s₃) X.xe s2 := by
  unfold compOk at hok
  simp only [Bool.and_eq_true, decide_eq_true_eq, List.all_eq_true, Bool.or_eq_true, Bool.not_eq_true', decide_eq_false_iff_not] at hok
  obtain ⟨⟨⟨⟨⟨⟨k1, k2⟩, k3⟩, k4⟩, k5⟩, k6⟩, k7⟩ := hok
  have hfreeK : ∀ x ∈ scope.names, x.2 = .free → X.env.kindOf x.1 = some .cell ∨ X.env.kindOf x.1 = some .free := fun x hx hf => by
    rcases k2 x hx with (z | z) | z
    · exact absurd hf z
    · exact .inl z
    · exact .inr z
  have hfree : ∀ x ∈ scope.names, x.2 = .free → ∃ c, X.env.cells.lookup x.1 = some c := fun x hx hf => I2.ok.has x.1 (hfreeK x hx hf)
  -- the heap behind the making
  refine wpAny_newObj_type (comp_env ?_)
  have hsz3 : (s2.heap.push { cls := .type "list", dict := none, data := .seq ([] : List Value).toArray }).objs.size = s2.heap.objs.size + 1 := Heap.size_push ..
  dsimp only
  generalize hh3 : s2.heap.push { cls := .type "list", dict := none, data := .seq ([] : List Value).toArray } = h3 at hsz3 ⊢
  have old3 : ∀ b o, s2.heap.get? b = some o → h3.get? b = some o := fun b o e => hh3 ▸ Heap.get?_push_of_some _ e
  have hD3 : h3.get? s2.heap.objs.size = some { cls := .type "list", data := .seq ([] : List Value).toArray } := hh3 ▸ Heap.get?_push_size _ rfl
  generalize hcs : cellsFrom (h3.objs.size + 1) scope.names (closL X.env scope.names []) = cs
  generalize hh4 : pushCells (h3.push { cls := .type "dict", data := .dict #[] }) scope.names = h4
  have old4 : ∀ b o, h3.get? b = some o → h4.get? b = some o := fun b o e => hh4 ▸ pushCells_keeps _ _ b o (Heap.get?_push_of_some _ e)
  have old : ∀ b o, s2.heap.get? b = some o → h4.get? b = some o := fun b o e => old4 b o (old3 b o e)
  have hD4 : h4.get? s2.heap.objs.size = some { cls := .type "list", data := .seq ([] : List Value).toArray } := old4 _ _ hD3
  have hNs : h4.Ns h3.objs.size (fun _ => none) := hh4 ▸ (Heap.Ns.new h3 (.type "dict")).keeps (pushCells_keeps _ _)
  generalize hC : h3.objs.size = C at hNs hcs ⊢
  have hCD : @Eq Nat C (s2.heap.objs.size + 1) := by rw [← hC]; exact hsz3
  have clM := closL_mem (env := X.env) scope.names [] hfree (fun p hp => absurd hp (by simp))
  have cellLt : ∀ x c, X.env.cells.lookup x = some c → @LT.lt Nat _ c s2.heap.objs.size := fun x c e => by obtain ⟨v, z⟩ := I2.cell x c e; exact z.lt
  have apart : cs.Pairwise fun x y => x.2 ≠ y.2 := by
    rw [← hcs]
    refine cellsFrom_apart _ _ _ (closL_apart I2.ok.inj scope.names [] k3 hfree List.Pairwise.nil fun p hp => absurd hp (by simp)) fun p hp => ?_
    have := cellLt _ _ (clM p hp)
    show @LT.lt Nat _ p.2 (C + 1)
    omega
  have csM : ∀ p ∈ cs, X.env.cells.lookup p.1 = some p.2 ∨ (C + 1 ≤ p.2 ∧ (p.1, NameKind.cell) ∈ scope.names ∧ h4.IsCell p.2 none) := fun p hp => by
    have hp0 := hp
    rw [← hcs] at hp
    rcases cellsFrom_mem _ _ _ p hp with z | ⟨z, y⟩
    · exact .inl (clM p z)
    · have e : h3.objs.size + 1 = (h3.push { cls := .type "dict", data := .dict #[] }).objs.size := by rw [Heap.size_push]
      have hp' := hp
      rw [← hC, e] at hp'
      rcases cellsFrom_new _ _ _ p hp' with q | q
      · exact .inl (clM p q)
      · exact .inr ⟨z, y, hh4 ▸ q⟩
  -- facts of the block's context
  have hX : (compCx X scope (own ++ cn) s2 H2 cs C fp).Ok := by
    refine ⟨I2.ok.mod, k1, I2.ok.glob, I2.ok.blt, by show @LE.le Nat _ s2.heap.objs.size C; omega, fun x y c h1 h2 => name_of_addr apart (PySem.mem_of_lookup h1) (PySem.mem_of_lookup h2), fun x hx => ?_, fun x c hf hx => ?_, I2.ok.hd, I2.ok.frames, .inl rfl, fun b hb => ?_, I2.bs, Nat.le_trans I2.ok.bsz I2.sz, fun b o e hb => ?_, fun b hb hf => ?_, I2.stack, I2.stkFree⟩
    · have hx' : (relabel scope X.env).names.lookup x = some .cell ∨ (relabel scope X.env).names.lookup x = some .free := hx
      have hl : scope.names.lookup x = some .cell ∨ scope.names.lookup x = some .free := by
        unfold relabel at hx'
        dsimp only at hx'
        rw [relabel_lookup] at hx'
        cases e : scope.names.lookup x with
        | none => rw [e] at hx'; simp at hx'
        | some k =>
          rw [e] at hx'
          cases k <;> simp_all
      have : ∃ c, (x, c) ∈ cs := by
        rw [← hcs]
        rcases hl with hl | hl
        · exact cellsFrom_has _ _ _ x (PySem.mem_of_lookup hl)
        · obtain ⟨c, hc'⟩ := closL_has (env := X.env) scope.names [] x (PySem.mem_of_lookup hl)
          exact ⟨c, cellsFrom_acc _ _ _ _ hc'⟩
      obtain ⟨c, hm⟩ := this
      exact lookup_of_mem hm
    · have hf' : scope.names.lookup x = some .cell := by simpa using hf
      have hm := PySem.mem_of_lookup (show cs.lookup x = some c from hx)
      rcases csM _ hm with z | ⟨z, _⟩
      · -- own cells are not captured ones: the captured of that name would be free in the scope
        rw [← hcs] at hm
        rcases cellsFrom_mem _ _ _ _ hm with q | ⟨q, _⟩
        · rcases closL_names (env := X.env) scope.names [] _ q with q' | q'
          · exact absurd q' (by simp)
          · have := mem_lookup_nodup k3 q'
            have h2 : scope.names.lookup x = some .free := this
            rw [hf'] at h2; cases h2
        · show @LE.le Nat _ s2.heap.objs.size c
          have q2 : @LE.le Nat _ (C + 1) c := q
          omega
      · show @LE.le Nat _ s2.heap.objs.size c
        have z2 : @LE.le Nat _ (C + 1) c := z
        omega
    · obtain ⟨f0, f1, f2', f3, f4, f5⟩ := f2 b hb
      obtain ⟨o, ho, _⟩ := T.obj 0 _ st2 b hb
      have hb2 : @LT.lt Nat _ b s2.heap.objs.size := Heap.lt_size ho
      refine ⟨?_, fun x c e => ?_⟩
      · show @Ne Nat b C
        omega
      · rcases csM _ (PySem.mem_of_lookup (show cs.lookup x = some c from e)) with z | ⟨z, _⟩
        · exact f4 x c z
        · have z2 : @LE.le Nat _ (C + 1) c := z
          show @Ne Nat c b
          omega
    · obtain ⟨f0, f1, f2', f3, f4, f5⟩ := f2 b hb
      rcases f3 with z | z
      · exact I2.ok.noex b o e z
      · exact absurd (Nat.lt_of_lt_of_le (Heap.lt_size e) (Nat.le_trans I2.ok.bsz z)) (Nat.lt_irrefl _)
    · obtain ⟨f0, f1, f2', _⟩ := f2 b hb
      rcases List.mem_cons.mp (I2.stkSub b hf) with z | z
      · exact f1 z
      · exact f2' z
  have hDn : H2 s2.heap.objs.size = none := I2.fresh
  have hCn : H2 C = none := I2.hok.fresh (show @LE.le Nat _ s2.heap.objs.size C by omega)
  have stkNe : ∀ b, b ≠ X.env.locals → b ∉ X.fs → b ∉ frs X.stack := fun b h1 h2 hb => by
    rcases List.mem_cons.mp (I2.stkSub b hb) with z | z
    · exact h1 z
    · exact h2 z
  have I4 : Inv (compCx X scope (own ++ cn) s2 H2 cs C fp) pins (capS own.length js σ) (upd H2 s2.heap.objs.size (.lst [])) { s2 with heap := h4 } := by
    refine ⟨hX, rfl, I2.bare, Un.laid old (Nat.le_refl _) hDn, ⟨fun _ => none, hNs, fun i x v e1 e2 e3 => ?_⟩, fun x c e => ?_, ?_, fun x c e => ?_, fun p hp => ?_, I2.hok.laid old (Nat.le_refl _) ⟨Nat.zero_le _, [], 0, .nil, hD4⟩, ?_⟩
    · -- a captured name
      have hi : own.length ≤ i := by
        rcases Nat.lt_or_ge i own.length with z | z
        · exfalso
          unfold capS at e2
          rw [List.getElem?_append_left (by simpa using z), List.getElem?_replicate, if_pos z] at e2
          cases e2
        · exact z
      have e1' : cn[i - own.length]? = some x := by
        have : (own ++ cn)[i]? = some x := e1
        rw [List.getElem?_append_right hi] at this
        exact this
      have e2' : (js.map fun j => (σ[j]?).join)[i - own.length]? = some (some v) := by
        unfold capS at e2
        rw [List.getElem?_append_right (by simpa using hi)] at e2
        simpa using e2
      rw [List.getElem?_map] at e2'
      cases hj : js[i - own.length]? with
      | none => rw [hj] at e2'; cases e2'
      | some j =>
        rw [hj] at e2'
        have e2'' : (σ[j]?).join = some v := by simpa using e2'
        have hσ : σ[j]? = some (some v) := by
          cases q : σ[j]? with
          | none => rw [q] at e2''; cases e2''
          | some z => rw [q] at e2''; simp at e2''; rw [e2'']
        have hNx : X.N[j]? = some x := by
          have := congrArg (fun l => l[i - own.length]?) k7
          simp only [List.getElem?_map, hj, e1', Option.map_some] at this
          exact Option.some.inj this
        have hfx : scope.names.lookup x = some .free := k5 x (List.mem_of_getElem? e1')
        have hK := hfreeK (x, .free) (PySem.mem_of_lookup hfx) rfl
        have hK' : X.env.kindOf x = some .cell ∨ X.env.kindOf x = some .free := hK
        obtain ⟨m, hn, hl⟩ := I2.loc
        have hvis : Vis X.env.scope x := by
          rcases hK' with z | z
          · exact .inr (.inl z)
          · exact .inr (.inr z)
        obtain ⟨u, r, l⟩ := hl j x v hNx hσ hvis
        refine ⟨u, r, .inr ?_⟩
        rcases l with ⟨l1, _⟩ | ⟨l1, c, l2, l3⟩
        · rcases hK' with z | z
          · rw [z] at l1; cases l1
          · rw [z] at l1; cases l1
        · have hrl : (compEnvC scope cs C X.env).kindOf x = some .cell ∨ (compEnvC scope cs C X.env).kindOf x = some .free := by
            show (relabel scope X.env).names.lookup x = _ ∨ (relabel scope X.env).names.lookup x = _
            unfold relabel
            dsimp only
            rw [relabel_lookup, hfx]
            simp only [Option.map_some]
            split
            · exact .inl rfl
            · exact .inr rfl
          refine ⟨hrl, c, ?_, l3.keeps fun b o e => old b o e⟩
          show cs.lookup x = some c
          obtain ⟨c', hc'⟩ := hX.has x hrl
          have hc2 : cs.lookup x = some c' := hc'
          rw [hc2]
          have hm := PySem.mem_of_lookup hc2
          have : X.env.cells.lookup x = some c' := by
            rcases csM _ hm with z | ⟨_, z, _⟩
            · exact z
            · have := mem_lookup_nodup k3 z
              have h2 : scope.names.lookup x = some .cell := this
              rw [hfx] at h2; cases h2
          rw [l2] at this
          exact this.symm
    · rcases csM _ (PySem.mem_of_lookup (show cs.lookup x = some c from e)) with z | ⟨_, _, z⟩
      · obtain ⟨v, q⟩ := I2.cell _ _ z
        exact ⟨v, q.keeps fun b o e => old b o e⟩
      · exact ⟨none, z⟩
    · show upd H2 s2.heap.objs.size (.lst []) C = none
      rw [upd_ne (show @Ne Nat C s2.heap.objs.size by omega)]; exact hCn
    · have hne : c ≠ s2.heap.objs.size ∧ H2 c = none := by
        rcases csM _ (PySem.mem_of_lookup (show cs.lookup x = some c from e)) with z | ⟨z, _, _⟩
        · exact ⟨Nat.ne_of_lt (cellLt _ _ z), I2.freeC _ _ z⟩
        · have z2 : @LE.le Nat _ (C + 1) c := z
          exact ⟨show @Ne Nat c s2.heap.objs.size by omega, I2.hok.fresh (show @LE.le Nat _ s2.heap.objs.size c by omega)⟩
      rw [upd_ne hne.1]; exact hne.2
    · obtain ⟨e, n, ne, nf, d⟩ := I2.pin p hp
      have hlt : @LT.lt Nat _ p.1 s2.heap.objs.size := Heap.lt_size e
      refine ⟨old _ _ e, ?_, ?_, stkNe _ ne nf, d⟩
      · rw [upd_ne (Nat.ne_of_lt hlt)]; exact n
      · show @Ne Nat p.1 C
        omega
    · show (capS own.length js σ).length = (own ++ cn).length
      unfold capS
      have hl := congrArg List.length k7
      simp only [List.length_map] at hl
      simp [hl]
  have stat : ∀ {H' : Hp}, (∀ b ∈ fp, H' b = none) → ∀ b ∈ fp, FpOk (compCx X scope (own ++ cn) s2 H2 cs C fp) pins H' b := fun hn b hb => by
    obtain ⟨f0, f1, f2', f3, f4, f5⟩ := f2 b hb
    exact ⟨hn b hb, (hX.exf b hb).1, stkNe b f1 f2', .inl hb, fun x c e => (hX.exf b hb).2 x c e, f5⟩
  have back : ∀ {σ' : St} {H' : Hp} {s' : Shared}, Inv (compCx X scope (own ++ cn) s2 H2 cs C fp) pins σ' H' s' → Inv X pins σ H' s' := fun {σ' H' s'} J' =>
    I2.call' (ch := fp) J'.os J'.base J'.hok J'.bare fun b hb => by
      obtain ⟨f0, f1, f2', f3, f4, f5⟩ := f2 b hb
      exact ⟨f3, f1, f4, f5⟩
  obtain ⟨W, ⟨m0, w0⟩, turn⟩ := hW
  have loop : codeAny (model X.prog X.w) X.A (.compLoop (.ListComp elt [⟨tg, iter, ifs, 0⟩] scope pos) 0 (.ref it) (.ref s2.heap.objs.size) (compEnvC scope cs C X.env)) (RR (.ref s2.heap.objs.size) C) { s2 with heap := h4 } := by
    refine codeAny_compLoop_own (fun n s' => ∃ i ys H', Inv (compCx X scope (own ++ cn) s2 H2 cs C fp) pins (capS own.length js σ) H' s' ∧ tn i s'.heap ∧ (∀ b ∈ fp, H' b = none) ∧ W i n ys H') ?_ m0
      ⟨0, [], _, I4, T.keep _ _ _ st2 fun b hb o e => old b o e, fun b hb => ?_, w0⟩
    · rintro n s3 ⟨i, ys, H3, I3, st3, fr3, w3⟩
      rcases turn i n ys H3 w3 with ⟨stop, q⟩ | ⟨go, N, hN, step⟩
      · refine thn (T.done (compCx X scope (own ++ cn) s2 H2 cs C fp) rfl rfl rfl hc i pins s3 _ H3 _ I3 (stat fr3) st3 stop) fun r s4 ⟨hr, I5⟩ => ?_
        subst hr
        obtain ⟨m, hn, _⟩ := I5.loc
        exact hRR C H3 s4 (back I5) (I2.fpOk (show @LE.le Nat _ s2.heap.objs.size C by omega) I5.free) ⟨m, hn⟩ q
      · refine thn (T.item (compCx X scope (own ++ cn) s2 H2 cs C fp) rfl rfl rfl hc i pins s3 _ H3 _ I3 (stat fr3) st3 go) fun r s4 ⟨u, hr, h4'⟩ => ?_
        subst hr
        refine thn h4' fun _ s5 ⟨x, H5, I5, r5, y5, st5, fr5⟩ => ?_
        have I5' := I5.pinned (stat fr5) (T.obj _ _ st5)
        refine thn (hg s2 H2 cs C fp _ s5 _ H5 x u _ I5' r5 (step x H5 y5)) fun _ s6 ⟨σ6, H6, I6, q6⟩ => ?_
        refine thn (ht s2 H2 cs C fp _ s6 σ6 H6 _ I6 q6) fun b s7 ⟨H7, I7, q7⟩ => ?_
        have again : ∀ {σ8 : St} {H8 : Hp} {s8 : Shared} {ys8 : List V}, Inv (compCx X scope (own ++ cn) s2 H2 cs C fp) (pins ++ pinsAt fp s5.heap) σ8 H8 s8 → (∀ (j : Nat) v, (capS own.length js σ)[j]? = some (some v) → σ8[j]? = some (some v)) → (∃ m', m' < n ∧ W (i + 1) m' ys8 H8) →
            ∃ m, m < n ∧ ∃ i ys H', Inv (compCx X scope (own ++ cn) s2 H2 cs C fp) pins (capS own.length js σ) H' s8 ∧ tn i s8.heap ∧ (∀ b ∈ fp, H' b = none) ∧ W i m ys H' := fun {σ8 H8 s8 ys8} I8 hw8 ⟨m', hm, w8⟩ => by
          refine ⟨m', hm, i + 1, ys8, H8, I8.unpinned.weak (by rw [I8.len, I4.len]) hw8, T.keep _ _ _ st5 fun b hb o e => (I8.pin (b, o) (List.mem_append_right _ (List.mem_append_right _ (mem_pinsAt hb e)))).1, fun b hb => ?_, w8⟩
          obtain ⟨o, e, d⟩ := T.obj _ _ st5 b hb
          exact (I8.pin (b, o) (List.mem_append_right _ (List.mem_append_right _ (mem_pinsAt hb e)))).2.1
        -- the captured slots outlive the turn: what they said ahead of it is said of the cells
        have capK : ∀ {σ8 : St} {H8 : Hp} {s8 : Shared}, Inv (compCx X scope (own ++ cn) s2 H2 cs C fp) (pins ++ pinsAt fp s5.heap) σ8 H8 s8 → Inv (compCx X scope (own ++ cn) s2 H2 cs C fp) (pins ++ pinsAt fp s5.heap) (capS own.length js σ) H8 s8 := fun {σ8 H8 s8} I8 => by
          have IX := back I8.unpinned
          refine ⟨I8.ok, I8.os, I8.bare, I8.base, ?_, I8.cell, I8.free, I8.freeC, I8.pin, I8.hok, I4.len⟩
          obtain ⟨m, hn, _⟩ := I8.loc
          refine ⟨m, hn, fun i x v e1 e2 e3 => ?_⟩
          obtain ⟨mx, hnx, hlx⟩ := IX.loc
          have hi : own.length ≤ i := by
            rcases Nat.lt_or_ge i own.length with z | z
            · exfalso
              unfold capS at e2
              rw [List.getElem?_append_left (by simpa using z), List.getElem?_replicate, if_pos z] at e2
              cases e2
            · exact z
          have e1' : cn[i - own.length]? = some x := by
            have : (own ++ cn)[i]? = some x := e1
            rw [List.getElem?_append_right hi] at this
            exact this
          have e2' : (js.map fun j => (σ[j]?).join)[i - own.length]? = some (some v) := by
            unfold capS at e2
            rw [List.getElem?_append_right (by simpa using hi)] at e2
            simpa using e2
          rw [List.getElem?_map] at e2'
          cases hj : js[i - own.length]? with
          | none => rw [hj] at e2'; cases e2'
          | some j =>
            rw [hj] at e2'
            have e2'' : (σ[j]?).join = some v := by simpa using e2'
            have hσ : σ[j]? = some (some v) := by
              cases q : σ[j]? with
              | none => rw [q] at e2''; cases e2''
              | some z => rw [q] at e2''; simp at e2''; rw [e2'']
            have hNx : X.N[j]? = some x := by
              have := congrArg (fun l => l[i - own.length]?) k7
              simp only [List.getElem?_map, hj, e1', Option.map_some] at this
              exact Option.some.inj this
            have hfx : scope.names.lookup x = some .free := k5 x (List.mem_of_getElem? e1')
            have hK' : X.env.kindOf x = some .cell ∨ X.env.kindOf x = some .free := hfreeK (x, .free) (PySem.mem_of_lookup hfx) rfl
            have hvis : Vis X.env.scope x := by
              rcases hK' with z | z
              · exact .inr (.inl z)
              · exact .inr (.inr z)
            obtain ⟨u, r, l⟩ := hlx j x v hNx hσ hvis
            refine ⟨u, r, .inr ?_⟩
            rcases l with ⟨l1, _⟩ | ⟨l1, c, l2, l3⟩
            · rcases hK' with z | z
              · rw [z] at l1; cases l1
              · rw [z] at l1; cases l1
            · have hrl : (compEnvC scope cs C X.env).kindOf x = some .cell ∨ (compEnvC scope cs C X.env).kindOf x = some .free := by
                show (relabel scope X.env).names.lookup x = _ ∨ (relabel scope X.env).names.lookup x = _
                unfold relabel
                dsimp only
                rw [relabel_lookup, hfx]
                simp only [Option.map_some]
                split
                · exact .inl rfl
                · exact .inr rfl
              refine ⟨hrl, c, ?_, l3⟩
              show cs.lookup x = some c
              obtain ⟨c', hc'⟩ := hX.has x hrl
              have hc2 : cs.lookup x = some c' := hc'
              rw [hc2]
              have hm := PySem.mem_of_lookup hc2
              have : X.env.cells.lookup x = some c' := by
                rcases csM _ hm with z | ⟨_, z, _⟩
                · exact z
                · have := mem_lookup_nodup k3 z
                  have h2 : scope.names.lookup x = some .cell := this
                  rw [hfx] at h2; cases h2
              rw [l2] at this
              exact this.symm
        cases b with
        | false =>
          rw [if_neg Bool.false_ne_true]
          rw [if_neg Bool.false_ne_true] at q7
          exact again (capK I7) (fun _ _ e => e) (hN _ _ q7)
        | true =>
          rw [if_pos rfl]
          rw [if_pos rfl] at q7
          refine thn (he s2 H2 cs C fp _ s7 σ6 H7 _ I7 q7) fun y s8 ⟨v, H8, I8, r8, hD8, hz8, q8⟩ => ?_
          refine thn (mt_append (X := compCx X scope (own ++ cn) s2 H2 cs C fp) _ s8 σ6 H8 (.ref s2.heap.objs.size) [v] (.ref s2.heap.objs.size) [y] (fun _ H9 => H9 = upd H8 s2.heap.objs.size (.lst (ys ++ [v]))) I8 rfl (.cons r8 .nil) ⟨_, ys, v, rfl, rfl, hD8, hz8, rfl⟩) fun _ s9 ⟨z, H9, I9, r9, e9⟩ => ?_
          subst e9
          exact again (capK I9) (fun _ _ e => e) (hN _ _ q8)
    · obtain ⟨f0, _⟩ := f2 b hb
      obtain ⟨o, ho, _⟩ := T.obj 0 _ st2 b hb
      rw [upd_ne (Nat.ne_of_lt (Heap.lt_size ho))]; exact f0
  exact codeAny_compStart_list loop (T.self _ 0 _ _ _ (T.keep _ _ _ st2 fun b hb o e => old b o e) loop)
theorem pe_comp {wi : TI} (own cn : List Str) (js : List Nat) (hi : PI X tg iter wi) (hg : ∀ s2 H2 cs C fp, PG (compCx X scope (own ++ cn) s2 H2 cs C fp) tg g) (ht : ∀ s2 H2 cs C fp, PIfs (compCx X scope (own ++ cn) s2 H2 cs C fp) ifs tt)
    (he : ∀ s2 H2 cs C fp, PE (compCx X scope (own ++ cn) s2 H2 cs C fp) elt te) (hc : X.calm = true := by rfl) (hok : compOk X.env.scope scope own cn X.N js = true := by kernel_rfl)
    (hs : ∀ x, foldedSetIterable iter X.env x = pure x := by intro _; rfl) : PE X (.ListComp elt [⟨tg, iter, ifs, 0⟩] scope pos) (tComp wi g tt te own.length js) := by
  intro pins s σ H Q I h
  have hok' := hok
  unfold compOk at hok'
  simp only [Bool.and_eq_true, decide_eq_true_eq, List.all_eq_true, Bool.or_eq_true, Bool.not_eq_true', decide_eq_false_iff_not] at hok'
  obtain ⟨⟨⟨⟨⟨⟨k1, k2⟩, k3⟩, k4⟩, k5⟩, k6⟩, k7⟩ := hok'
  have hfree : ∀ x ∈ scope.names, x.2 = .free → ∃ c, X.env.cells.lookup x.1 = some c := fun x hx hf => I.ok.has x.1 (by
    rcases k2 x hx with (z | z) | z
    · exact absurd hf z
    · exact .inl z
    · exact .inr z)
  rw [eval_ListComp]
  refine wpAny_comprehension_free (use := none) rfl hs (closureFor_closL hfree) k1 (fun x hx hl => ?_) (thn (hi pins s σ H _ I h) fun v s1 h1 => thn h1 fun itv s2 h2 => ?_)
  · have := mem_lookup_nodup k3 (show (x.1, x.2) ∈ scope.names from hx)
    rw [this, hl]
  · obtain ⟨it, fp, tn, J, H2, e, I2, T, st2, f2, q⟩ := h2
    subst e
    refine comp_block (RR := fun acc C => compPost (model X.prog X.w) X.A X.xe none (EP X pins σ Q) acc C) hok hc hg ht he I2 T st2 f2 (q _ I2.fresh) ?_
    intro C H' s' I' fC ⟨m, hn⟩ q'
    obtain ⟨f0, f1, f2', f3, f4, f5⟩ := fC
    refine ⟨m, hn, fun h' hs' => ⟨.ref s2.heap.objs.size, H', ?_, rfl, q'⟩⟩
    exact I'.turned (t' := s'.toks) (fun b o hb e => (hs'.2 b hb).trans e) f0 f1 f3 f4 f5
theorem ps_setComp {wi : TI} {i : Nat} {x : Str} {px spos : Pos} (own cn : List Str) (js : List Nat) (hN : X.N.Nodup) (hix : X.N[i]? = some x) (hx : X.env.scope.names.lookup x = some .local) (hi : PI X tg iter wi)
    (hg : ∀ s2 H2 cs C fp, PG (compCx X scope (own ++ cn) s2 H2 cs C fp) tg g) (ht : ∀ s2 H2 cs C fp, PIfs (compCx X scope (own ++ cn) s2 H2 cs C fp) ifs tt)
    (he : ∀ s2 H2 cs C fp, PE (compCx X scope (own ++ cn) s2 H2 cs C fp) elt te) (hc : X.calm = true := by rfl) (hok : compOk X.env.scope scope own cn X.N js = true := by kernel_rfl)
    (hsw : swapsWith (.ListComp elt [⟨tg, iter, ifs, 0⟩] scope pos) (some (.Name x px)) spos.line X.env = pure true := by rfl)
    (hs : ∀ x, foldedSetIterable iter X.env x = pure x := by intro _; rfl) : PS X (.Assign [.Name x px] (.ListComp elt [⟨tg, iter, ifs, 0⟩] scope pos) spos) (tAsg (tComp wi g tt te own.length js) (gName i)) := by
  intro pins s σ H D I h
  have hok' := hok
  unfold compOk at hok'
  simp only [Bool.and_eq_true, decide_eq_true_eq, List.all_eq_true, Bool.or_eq_true, Bool.not_eq_true', decide_eq_false_iff_not] at hok'
  obtain ⟨⟨⟨⟨⟨⟨k1, k2⟩, k3⟩, k4⟩, k5⟩, k6⟩, k7⟩ := hok'
  have hfree : ∀ x ∈ scope.names, x.2 = .free → ∃ c, X.env.cells.lookup x.1 = some c := fun x hx hf => I.ok.has x.1 (by
    rcases k2 x hx with (z | z) | z
    · exact absurd hf z
    · exact .inl z
    · exact .inr z)
  rw [exec_Assign_Name_used _ _ _ _ hsw]
  refine wpAny_bind (wpAny_standAt (wpAny_bind ?_))
  show wpAny _ X.A (do let _ ← comprehension (.ListComp elt [⟨tg, iter, ifs, 0⟩] scope pos) scope X.env _ (newList []) false (eval iter X.env) (some (assign (.Name x px) X.env))) _ _ s
  refine wpAny_bind (wpAny_mono (wpAny_comprehension_free (use := some (assign (.Name x px) X.env)) (Q := fun _ s' => SP X pins D .next s') rfl hs (closureFor_closL hfree) k1 (fun x hx hl => ?_)
    (thn (hi pins s σ H _ I h) fun v s1 h1 => thn h1 fun itv s2 h2 => ?_)) (fun _ s' hq => wpAny_pure (wpAny_pure hq)) fun _ _ e => e)
  · have := mem_lookup_nodup k3 (show (x.1, x.2) ∈ scope.names from hx)
    rw [this, hl]
  · obtain ⟨it, fp, tn, J, H2, e, I2, T, st2, f2, q⟩ := h2
    subst e
    refine comp_block (RR := fun acc C => compPost (model X.prog X.w) X.A X.xe (some (assign (.Name x px) X.env)) (fun _ s' => SP X pins D .next s') acc C) hok hc hg ht he I2 T st2 f2 (q _ I2.fresh) ?_
    intro C H' s' I' fC ⟨m, hn⟩ q'
    obtain ⟨f0, f1, f2', f3, f4, f5⟩ := fC
    show wpAny _ X.A (assign (.Name x px) X.env (.ref s2.heap.objs.size)) _ _ _
    refine wpAny_assign_Name (store_ok2 I' hN hix (.inl hx) (v := .ref s2.heap.objs.size) rfl (fun s3 I3 hch => ?_) (.inr hx))
    obtain ⟨a, hsb, ha⟩ := hch
    have hCa : C ≠ a := by
      rcases ha with z | z
      · rw [z]; exact f1
      · exact fun e => f4 x a z e.symm
    refine ⟨m, hn.sameBut hsb hCa, fun h' hs' => ?_⟩
    exact ⟨_, H', I3.turned (t' := s3.toks) (fun b o hb e => (hs'.2 b hb).trans e) f0 f1 f3 f4 f5, q'⟩
end
section
variable {g : TG} {tt : TT} {te : TE} {D : Addr} {σ' : St} {Q : List V → Hp → Prop} {H1 : Hp}
abbrev CompTurn (g : TG) (tt : TT) (te : TE) (D : Addr) (σ' : St) (ys : List V) (N : List V → Hp → Prop) (x : V) (H : Hp) : Prop :=
  g x σ' H fun σ2 H2 => tt σ2 H2 fun b H3 => if b = true then te σ2 H3 fun v H4 => H4 D = some (.lst ys) ∧ ys.length < sizeLine ∧ N (ys ++ [v]) (upd H4 D (.lst (ys ++ [v]))) else N ys H3
theorem comp_range {lo : Int} {n : Nat} (Pv : Nat → List V → Hp → Prop) (h0 : Pv 0 [] (upd H1 D (.lst [])))
    (hs : ∀ i ys H, i < n → Pv i ys H → CompTurn g tt te D σ' ys (Pv (i + 1)) (.int (lo + i)) H) (hd : ∀ ys H, Pv n ys H → Q ys H) :
    ∃ W : Nat → Nat → List V → Hp → Prop, (∃ m, W 0 m [] (upd H1 D (.lst []))) ∧ CompW (Itr lo n) g tt te D σ' Q W := by
  refine ⟨fun i m ys H => m = n - i ∧ i ≤ n ∧ Pv i ys H, ⟨n, by simp, Nat.zero_le _, h0⟩, ?_⟩
  rintro i m ys H ⟨rfl, hi, p⟩
  by_cases hlt : i < n
  · refine .inr ⟨hlt, Pv (i + 1), fun ys' H' p' => ⟨n - (i + 1), by omega, rfl, hlt, p'⟩, fun x H' y => ?_⟩
    obtain ⟨e, y⟩ := y
    subst e y
    exact hs i ys _ hlt p
  · have e : i = n := by omega
    subst e
    exact .inl ⟨Nat.le_refl _, hd ys H p⟩
theorem comp_tup {K : PySem.W.Frag} {a : Addr} {xs : List V} (Pv : Nat → List V → Hp → Prop) (h0 : Pv 0 [] (upd H1 D (.lst []))) (hl : ∀ i ys H, i ≤ xs.length → Pv i ys H → SqT K H a xs)
    (hs : ∀ i x ys H, xs[i]? = some x → Pv i ys H → CompTurn g tt te D σ' ys (Pv (i + 1)) x H) (hd : ∀ ys H, Pv xs.length ys H → Q ys H) :
    ∃ W : Nat → Nat → List V → Hp → Prop, (∃ m, W 0 m [] (upd H1 D (.lst []))) ∧ CompW (Itt K a) g tt te D σ' Q W := by
  refine ⟨fun i m ys H => m = xs.length - i ∧ i ≤ xs.length ∧ Pv i ys H, ⟨xs.length, by simp, Nat.zero_le _, h0⟩, ?_⟩
  rintro i m ys H ⟨rfl, hi, p⟩
  have q := hl i ys H hi p
  by_cases hlt : i < xs.length
  · refine .inr ⟨⟨xs, xs[i], q, by simp [hlt]⟩, Pv (i + 1), fun ys' H' p' => ⟨xs.length - (i + 1), by omega, rfl, hlt, p'⟩, fun x H' y => ?_⟩
    obtain ⟨e, y⟩ := y
    subst e
    exact hs i x ys _ (y xs q) p
  · have e : i = xs.length := by omega
    subst e
    exact .inl ⟨⟨xs, q, Nat.le_refl _⟩, hd ys H p⟩
end
end L2
set_option Elab.async false
set_option linter.all false
set_option maxRecDepth 100000
set_option maxHeartbeats 4000000
namespace PySem
open AutoSeq1 (wpAny_loadPart')
section
variable {prog : Program} {w : World} {A : Around} {E : Value → Shared → Prop} {s : Shared}
theorem hue_nextOf_tuple_item {it l : Addr} {i : Nat} {items} {x : Value} {Q : Value → Shared → Prop} (hit : s.heap.IsTupleIter it l i)
    (hl : s.heap.IsTuple l items) (hx : items[i]? = some x)
    (hQ : ∀ h', h'.IsTupleIter it l (i + 1) → Heap.SameBut it s.heap h' → Q x { s with heap := h' }) :
    wpAny (model prog w) A (Builtin.SmallTypes.nextOf (.ref it)) Q E s := by
  obtain ⟨o, ho, hc, hd⟩ := id hit
  obtain ⟨ol, hol, _, nl, hdl⟩ := hl
  unfold Builtin.SmallTypes.nextOf
  refine wpAny_bind (wpAny_callSpecial?_slot (name := Str.ofString "__next__") hit.typeIs F.slot_tuple_iterator_next
    (wpAny_call_entry F.slot_tuple_iterator_next hit.typeIs F.entry_tuple_iterator_next ?_ (F.args_tuple_iterator_next_1 _)))
  show wpAny _ _ (field (.ref it) 0 >>= _) _ _ s
  refine wpAny_bind (wpAny_field ho hd (x := .ref l) rfl ?_)
  show wpAny _ _ (if (Value.ref l == Value.none) = true then _ else _) _ _ s
  rw [if_neg (show ¬ ((Value.ref l == Value.none) = true) from Bool.false_ne_true)]
  show wpAny _ _ (field (.ref it) 1 >>= _) _ _ s
  refine wpAny_bind (wpAny_field ho hd (x := .int i 0) rfl ?_)
  show wpAny _ _ (seqItems? (.ref l) >>= _) _ _ s
  refine wpAny_bind (wpAny_seqItems hol hdl ?_)
  simp only [Int.toNat_natCast, hx]
  refine wpAny_bind (wpAny_setField ho hd (by simp) (wpAny_pure ⟨x, rfl, wpAny_pure (hQ _ ?_ (Heap.SameBut.update ..))⟩))
  exact ⟨_, Heap.get?_update_self _ ho (Obj.isFreed_of_fields (Obj.data_mapFields hd _)), (Obj.cls_mapFields ..).trans hc, by
    rw [Obj.data_mapFields hd]; simp [rawInt]⟩
theorem hue_nextOf_tuple_end {it l : Addr} {i : Nat} {items} {Q : Value → Shared → Prop} (hh : A.handled = none)
    (hit : s.heap.IsTupleIter it l i) (hl : s.heap.IsTuple l items) (hx : items[i]? = none)
    (hE : ∀ h' e, Heap.ExtBut it s.heap h' → (∃ o, h'.get? e = some o ∧ o.cls = .type "StopIteration") → E (.ref e) { s with heap := h' }) :
    wpAny (model prog w) A (Builtin.SmallTypes.nextOf (.ref it)) Q E s := by
  obtain ⟨o, ho, hc, hd⟩ := id hit
  obtain ⟨ol, hol, _, nl, hdl⟩ := hl
  unfold Builtin.SmallTypes.nextOf
  refine wpAny_bind (wpAny_callSpecial?_slot (name := Str.ofString "__next__") hit.typeIs F.slot_tuple_iterator_next
    (wpAny_call_entry F.slot_tuple_iterator_next hit.typeIs F.entry_tuple_iterator_next ?_ (F.args_tuple_iterator_next_1 _)))
  show wpAny _ _ (field (.ref it) 0 >>= _) _ _ s
  refine wpAny_bind (wpAny_field ho hd (x := .ref l) rfl ?_)
  show wpAny _ _ (if (Value.ref l == Value.none) = true then _ else _) _ _ s
  rw [if_neg (show ¬ ((Value.ref l == Value.none) = true) from Bool.false_ne_true)]
  show wpAny _ _ (field (.ref it) 1 >>= _) _ _ s
  refine wpAny_bind (wpAny_field ho hd (x := .int i 0) rfl ?_)
  show wpAny _ _ (seqItems? (.ref l) >>= _) _ _ s
  refine wpAny_bind (wpAny_seqItems hol hdl ?_)
  simp only [Int.toNat_natCast, hx]
  refine wpAny_bind (wpAny_rule (wpAny_bind (wpAny_setField ho hd (by simp) ?_)))
  first
    | refine wpAny_bind (wpAny_letGo ?_)
    | skip
  show wpAny _ _ (newExc (.type "StopIteration") [] >>= _) _ _ _
  refine wpAny_bind ?_
  simp only [newExc, newTuple]
  refine wpAny_bind (wpAny_newObj_type ?_ (by size_fits))
  refine wpAny_bind (m := firstArgMember _ _) (wpAny_of_eq (a := Value.none) (by first | rfl | (simp only [firstArgMember]; rfl)) ?_)
  refine wpAny_newObj_type ?_ (by size_fits)
  simp only [raiseNew]
  refine wpAny_bind (wpAny_handled ?_)
  first | rw [show A.in1.handled = none from hh] | rw [hh]
  refine wpAny_bind (wpAny_pure (wpAny_throw ?_))
  exact hE _ _ (((Heap.SameBut.update ..).extBut.push _).push _) ⟨_, Heap.get?_push_size _ rfl, rfl⟩
end
theorem hue_draws_tuple {prog : Program} {w : World} {A : Around} (hh : A.handled = none) (it l : Addr) (hne : l ≠ it) (items : Array Value) :
    Draws prog w A it [it, l] items.size (fun i v => items[i]? = some v) (fun i h => h.IsTupleIter it l i ∧ h.IsTuple l items) where
  live := fun _ _ st => let ⟨o, ho, _⟩ := st.1; ⟨o, ho⟩
  frame := fun _ _ _ st hk => ⟨st.1.at fun o e => hk it (by simp) o e, let ⟨o, ho, r⟩ := st.2; ⟨o, hk l (by simp) o ho, r⟩⟩
  item := fun i s Q E hi st hQ => by
    refine hue_nextOf_tuple_item st.1 st.2 (x := items[i]) (by simp [hi]) fun h' hit' hs' => ?_
    exact hQ _ h' s.toks (by simp [hi]) ⟨hit', st.2.extBut hs'.extBut hne⟩ hs'
  done := fun s Q E st hE => hue_nextOf_tuple_end hh st.1 st.2 (by simp) hE
theorem hue_enumerate_newT (l : Addr) (items : Array Value) (n : Nat) (dct : Option Addr) (sl : Array (Option Value)) :
    Meets (Builtin.«enumerate.__new__» ⟨[.type "enumerate", .ref l], []⟩) (fun _ R s => s.heap.get? l = some { cls := .type "tuple", dict := dct, data := .seq items n, slots := sl } ∧
      R (.ok (.ret (.ref (s.heap.push { cls := .type "tuple_iterator", data := .fields #[.ref l, .int 0 0] }).objs.size)))
        { s with heap := (s.heap.push { cls := .type "tuple_iterator", data := .fields #[.ref l, .int 0 0] }).push { cls := .type "enumerate", data := .fields #[.none, .bool false, .ref s.heap.objs.size, rawInt 0, .none, .none] } }) :=
  .of_wp fun prog w A R s h => by
    obtain ⟨hp, g, d, tk, os⟩ := s; obtain ⟨hl, h⟩ := h
    have hsub := sub_enumerate
    have hL : Heap.IsTuple (Shared.heap ⟨hp, g, d, tk, os⟩) l items := ⟨_, hl, rfl, n, rfl⟩
    wp_walk using wpAny_loadPart' hl
    refine wpAny_stack_any fun st => wpAny_pure ?_
    split
    · rename_i c _ _ _ _ _
      cases (c == Value.type "enumerate")
      · wp_walk using wpAny_loadPart' hl, wpAny_pyIter_tuple hL
        exact ⟨_, rfl, h⟩
      · wp_walk using wpAny_loadPart' hl, wpAny_pyIter_tuple hL
        exact ⟨_, rfl, h⟩
    · wp_walk using wpAny_loadPart' hl, wpAny_pyIter_tuple hL
      exact ⟨_, rfl, h⟩
section
variable {prog : Program} {w : World} {A : Around} {E : Value → Shared → Prop} {s : Shared}
theorem hue_call_enumerate_tuple {l : Addr} {items : Array Value} {Q : Value → Shared → Prop} (hL : s.heap.IsTuple l items)
    (h : ∀ h', IsEnum h' (s.heap.objs.size + 1) s.heap.objs.size 0 .none → h'.IsTupleIter s.heap.objs.size l 0 → h'.objs.size = s.heap.objs.size + 2 →
      (∀ b o, s.heap.get? b = some o → h'.get? b = some o) → Q (.ref (s.heap.objs.size + 1)) { s with heap := h' }) :
    wpAny (model prog w) A (call (.type "enumerate") [.ref l]) Q E s := by
  obtain ⟨⟨c, dct, dt, sl⟩, hl, hc, n, hd⟩ := hL
  replace hc : c = .type "tuple" := hc
  replace hd : dt = .seq items n := hd
  subst hc hd
  refine callType_new F.called_enumerate (by decide) (F.typeCall_enumerate_1 _) (F.newCall_enumerate_1 _) (fun obj => F.args_object_init_2 obj _) F.entry_enumerate_new
    (hue_enumerate_newT l items n dct sl) ⟨hl, ?_⟩
  have hz : (s.heap.push { cls := .type "tuple_iterator", data := .fields #[.ref l, .int 0 0] }).objs.size = s.heap.objs.size + 1 := Heap.size_push ..
  show _ ∧ _
  rw [hz]
  have he : IsEnum ((s.heap.push { cls := .type "tuple_iterator", data := .fields #[.ref l, .int 0 0] }).push
      { cls := .type "enumerate", data := .fields #[.none, .bool false, .ref s.heap.objs.size, rawInt 0, .none, .none] }) (s.heap.objs.size + 1) s.heap.objs.size 0 .none := by
    have := Heap.get?_push_size (s.heap.push { cls := .type "tuple_iterator", data := .fields #[.ref l, .int 0 0] })
      (o := { cls := .type "enumerate", data := .fields #[.none, .bool false, .ref s.heap.objs.size, rawInt 0, .none, .none] }) rfl
    rw [hz] at this; exact this
  refine ⟨⟨_, he, rfl⟩, h _ he ⟨_, Heap.get?_push_of_some _ (Heap.get?_push_size _ rfl), rfl, rfl⟩ (by rw [Heap.size_push, hz]) fun b o x => Heap.get?_push_of_some _ (Heap.get?_push_of_some _ x)⟩
end
end PySem
namespace L2
open PySem PySem.Spec PyProof.Rows
section
variable {X : Cx} {pins : List (Addr × Obj)} {σ : St} {H : Hp} {s : Shared} {h' : Heap}
theorem Inv.turnedL {t' : Nat} {ch : List Addr} (I : Inv X pins σ H s) (k : ∀ b o, b ∉ ch → s.heap.get? b = some o → h'.get? b = some o) (hf : ∀ b ∈ ch, FpOk X pins H b) : Inv X pins σ H { s with heap := h', toks := t' } := by
  have nit : ∀ b u, H b = some u → b ∉ ch := fun b u e z => by rw [(hf b z).1] at e; cases e
  refine I.step (g' := s.gens) (d' := s.drawn) (ch := ch) (fun b hb => ?_) (fun b o _ _ hc e _ => k b o hc e) (fun b o _ _ hc e _ => ⟨o.slots, k b o hc e⟩) (fun _ _ _ _ n => n)
    (fun b o hc e => ⟨o, k b o hc e⟩) (fun _ _ e => e) (fun _ _ _ e => e) (fun b ps e => ⟨#[], by rw [e]; simp⟩) (fun m hm => ?_) (fun b u e => ?_) I.bare
  · obtain ⟨f0, f1, f2, f3, f4, f5⟩ := hf b hb
    exact ⟨f3, f1, f4, f5⟩
  · obtain ⟨o, es, ep, ho, r⟩ := hm
    exact ⟨o, es, ep, k _ o (fun z => (hf _ z).2.1 rfl) ho, r⟩
  · refine (I.hok b u e).stay (fun c v hc q => k c v ?_ q) (fun _ q => q) fun _ _ q => q
    rcases hc with z | z
    · rw [z]; exact nit b u e
    · exact nit c _ z
theorem Inv.turnLay {t' : Nat} {ch : List Addr} {o : HO} (I : Inv X pins σ H s) (k : ∀ b u, b ∉ ch → s.heap.get? b = some u → h'.get? b = some u) (hf : ∀ b ∈ ch, FpOk X pins H b)
    (new : ObjOk X.prog X.w (upd H s.heap.objs.size o) h' s.heap.objs.size o) : Inv X pins σ (upd H s.heap.objs.size o) { s with heap := h', toks := t' } := by
  have hT : H s.heap.objs.size = none := I.fresh
  have nit : ∀ b u, H b = some u → b ∉ ch := fun b u e z => by rw [(hf b z).1] at e; cases e
  have lt : ∀ b u, s.heap.get? b = some u → b ≠ s.heap.objs.size := fun b u e => Nat.ne_of_lt (Heap.lt_size e)
  refine I.step (g' := s.gens) (d' := s.drawn) (ch := ch) (fun b hb => ?_) (fun b o _ _ hc e _ => k b o hc e) (fun b o _ _ hc e _ => ⟨o.slots, k b o hc e⟩) (fun b u _ e n => by rw [upd_ne (lt b u e)]; exact n)
    (fun b o hc e => ⟨o, k b o hc e⟩) (fun b xs e => by rw [upd_ne (ne_of_none e hT)]; exact e) (fun b u xs e => by rw [upd_ne (ne_of_none e hT)]; exact e) (fun b ps e => ⟨#[], by rw [upd_ne (ne_of_none e hT), e]; simp⟩) (fun m hm => ?_) (fun b u e => ?_) I.bare
  · obtain ⟨f0, f1, f2, f3, f4, f5⟩ := hf b hb
    exact ⟨f3, f1, f4, f5⟩
  · obtain ⟨o, es, ep, ho, r⟩ := hm
    exact ⟨o, es, ep, k _ o (fun z => (hf _ z).2.1 rfl) ho, r⟩
  · by_cases hb : b = s.heap.objs.size
    · subst hb; rw [upd_same] at e; cases e; exact new
    · rw [upd_ne hb] at e
      refine (I.hok b u e).stay (fun c v hc q => k c v ?_ q) (fun c q => by rw [upd_ne (ne_of_none q hT)]; exact q) fun c xs q => by rw [upd_ne (ne_of_none q hT)]; exact q
      rcases hc with z | z
      · rw [z]; exact nit b u e
      · exact nit c _ z
end
def IteL (K : PySem.W.Frag) (a : Addr) : It :=
  ⟨fun i H => ∃ xs x, SqL K H a xs ∧ xs[i]? = some x, fun i H x H' => ∃ p v, H p = none ∧ x = .ref p ∧ (∀ xs, SqL K H a xs → xs[i]? = some v) ∧ H' = upd H p (.tup [.int i, v]), fun i H => ∃ xs, SqL K H a xs ∧ xs.length = i⟩
def IteT (K : PySem.W.Frag) (a : Addr) : It :=
  ⟨fun i H => ∃ xs x, SqT K H a xs ∧ xs[i]? = some x, fun i H x H' => ∃ p v, H p = none ∧ x = .ref p ∧ (∀ xs, SqT K H a xs → xs[i]? = some v) ∧ H' = upd H p (.tup [.int i, v]), fun i H => ∃ xs, SqT K H a xs ∧ xs.length = i⟩
theorem two_le : 2 ≤ sizeLine := by decide
theorem turn_enumL {P : Program} {w : World} {K : PySem.W.Frag} {elts : List Expr} {kx : Nat} {tp : Pos} (a e it : Addr) (hei : e ≠ it) (hae : a ≠ e) (hai : a ≠ it) : Turn P w K (.Tuple elts kx tp) (IteL K a) [e, it] e (fun i h => (∃ old, IsEnum h e it i old) ∧ h.IsListIter it a i) where
  mem := by simp
  obj := fun i h st b hb => by
    rcases List.mem_cons.mp hb with rfl | hb
    · obtain ⟨⟨old, z⟩, _⟩ := st
      exact ⟨_, z, fun v q => by cases q⟩
    · have e' : b = it := by simpa using hb
      subst e'
      obtain ⟨o, q, c, d⟩ := st.2
      exact ⟨o, q, fun v z => by rw [d] at z; cases z⟩
  keep := fun i h h' st k => ⟨let ⟨old, z⟩ := st.1; ⟨old, k e (by simp) _ z⟩, st.2.at fun o q => k it (by simp) o q⟩
  item := by
    intro X hP hw hK hc i pins s σ H E I hf st hg
    subst hP hw hK
    obtain ⟨xs, x, hq, hx⟩ := hg
    obtain ⟨its, rv, p, hz⟩ := I.list hq
    obtain ⟨u, hu, ru⟩ := rv.get hx
    obtain ⟨⟨old, he⟩, hli⟩ := st
    have hil : i < its.toArray.size := by
      have := (List.getElem?_eq_some_iff.mp hu).1
      simpa using this
    refine wpAny_pyNext_enum_itemD (Draws.list (prog := X.prog) (w := X.w) (A := X.A.in1) (show X.A.in1.handled = none from I.ok.hd hc) it a hai its.toArray) he ⟨hli, p.isList⟩ hil hei (by simp [hei, Ne.symm hae]) fun y h' tk hy ho hs' hT hsz hk => ?_
    have hyu : y = u := by
      have : its.toArray[i]? = some u := by simpa using hu
      rw [this] at hy; exact (Option.some.inj hy).symm
    subst hyu
    refine ⟨_, rfl, ?_⟩
    have I1 : Inv X pins σ (upd H s.heap.objs.size (.tup [.int i, x])) { s with heap := h', toks := tk + 1 } :=
      I.turnLay (ch := [e, it]) (fun b o hb q => hk b o (fun z => hb (by simp [z])) (fun z => hb (by simp [z])) q) hf ⟨two_le, [.int i tk, y], .cons ⟨tk, rfl⟩ (.cons ru .nil), ⟨_, hT, rfl, _, rfl⟩⟩
    refine wpAny_letOwnedTupleGo_enum ho fun h2 he2 hs2 => ?_
    have hfp1 : ∀ b ∈ [e, it], FpOk X pins (upd H s.heap.objs.size (.tup [.int i, x])) b := fun b hb => by
      obtain ⟨f0, f1⟩ := hf b hb
      have hbl : b ≠ s.heap.objs.size := by
        rcases List.mem_cons.mp hb with rfl | hb
        · exact Nat.ne_of_lt (Heap.lt_size he)
        · have e' : b = it := by simpa using hb
          subst e'
          obtain ⟨o, q, _⟩ := hli
          exact Nat.ne_of_lt (Heap.lt_size q)
      exact ⟨by rw [upd_ne hbl]; exact f0, f1⟩
    have I2 : Inv X pins σ (upd H s.heap.objs.size (.tup [.int i, x])) { s with heap := h2, toks := tk + 1 } :=
      Inv.turnedL (s := { s with heap := h', toks := tk + 1 }) (t' := tk + 1) (ch := [e, it]) I1 (fun b o hb q => (hs2.2 b (fun z => hb (by simp [z]))).trans q) hfp1
    refine ⟨.ref s.heap.objs.size, _, I2, rfl, ⟨_, x, I.fresh, rfl, fun ys hy => by rw [I.list_inj hy hq]; exact hx, rfl⟩, ⟨⟨y, by simpa using he2⟩, hs'.1.extBut hs2.extBut (Ne.symm hei)⟩, fun b hb => (hfp1 b hb).1⟩
  done := by
    intro X hP hw hK hc i pins s σ H E I hf st hg
    subst hP hw hK
    obtain ⟨xs, hq, hx⟩ := hg
    obtain ⟨its, rv, p, hz⟩ := I.list hq
    obtain ⟨⟨old, he⟩, hli⟩ := st
    have hl := rv.length
    have hn : its.toArray.size = i := by simp; omega
    refine wpAny_pyNext_enum_endD (Draws.list (prog := X.prog) (w := X.w) (A := X.A.in1) (show X.A.in1.handled = none from I.ok.hd hc) it a hai its.toArray) he (by rw [hn]; exact ⟨hli, p.isList⟩) fun h' eb => ⟨rfl, I.turnedL (t' := s.toks) (ch := [e, it]) (fun b o hb q => eb b o (fun z => hb (by simp [z])) q) hf⟩
  self := fun _ _ _ _ _ st h => let ⟨old, z⟩ := st.1; wpAny_pyIter_enum z h
theorem turn_enumT {P : Program} {w : World} {K : PySem.W.Frag} {elts : List Expr} {kx : Nat} {tp : Pos} (a e it : Addr) (hei : e ≠ it) (hae : a ≠ e) (hai : a ≠ it) : Turn P w K (.Tuple elts kx tp) (IteT K a) [e, it] e (fun i h => (∃ old, IsEnum h e it i old) ∧ h.IsTupleIter it a i) where
  mem := by simp
  obj := fun i h st b hb => by
    rcases List.mem_cons.mp hb with rfl | hb
    · obtain ⟨⟨old, z⟩, _⟩ := st
      exact ⟨_, z, fun v q => by cases q⟩
    · have e' : b = it := by simpa using hb
      subst e'
      obtain ⟨o, q, c, d⟩ := st.2
      exact ⟨o, q, fun v z => by rw [d] at z; cases z⟩
  keep := fun i h h' st k => ⟨let ⟨old, z⟩ := st.1; ⟨old, k e (by simp) _ z⟩, st.2.at fun o q => k it (by simp) o q⟩
  item := by
    intro X hP hw hK hc i pins s σ H E I hf st hg
    subst hP hw hK
    obtain ⟨xs, x, hq, hx⟩ := hg
    obtain ⟨its, rv, p, hz⟩ := I.tuple hq
    obtain ⟨u, hu, ru⟩ := rv.get hx
    obtain ⟨⟨old, he⟩, hli⟩ := st
    have hil : i < its.toArray.size := by
      have := (List.getElem?_eq_some_iff.mp hu).1
      simpa using this
    refine wpAny_pyNext_enum_itemD (hue_draws_tuple (prog := X.prog) (w := X.w) (A := X.A.in1) (show X.A.in1.handled = none from I.ok.hd hc) it a hai its.toArray) he ⟨hli, p⟩ hil hei (by simp [hei, Ne.symm hae]) fun y h' tk hy ho hs' hT hsz hk => ?_
    have hyu : y = u := by
      have : its.toArray[i]? = some u := by simpa using hu
      rw [this] at hy; exact (Option.some.inj hy).symm
    subst hyu
    refine ⟨_, rfl, ?_⟩
    have I1 : Inv X pins σ (upd H s.heap.objs.size (.tup [.int i, x])) { s with heap := h', toks := tk + 1 } :=
      I.turnLay (ch := [e, it]) (fun b o hb q => hk b o (fun z => hb (by simp [z])) (fun z => hb (by simp [z])) q) hf ⟨two_le, [.int i tk, y], .cons ⟨tk, rfl⟩ (.cons ru .nil), ⟨_, hT, rfl, _, rfl⟩⟩
    refine wpAny_letOwnedTupleGo_enum ho fun h2 he2 hs2 => ?_
    have hfp1 : ∀ b ∈ [e, it], FpOk X pins (upd H s.heap.objs.size (.tup [.int i, x])) b := fun b hb => by
      obtain ⟨f0, f1⟩ := hf b hb
      have hbl : b ≠ s.heap.objs.size := by
        rcases List.mem_cons.mp hb with rfl | hb
        · exact Nat.ne_of_lt (Heap.lt_size he)
        · have e' : b = it := by simpa using hb
          subst e'
          obtain ⟨o, q, _⟩ := hli
          exact Nat.ne_of_lt (Heap.lt_size q)
      exact ⟨by rw [upd_ne hbl]; exact f0, f1⟩
    have I2 : Inv X pins σ (upd H s.heap.objs.size (.tup [.int i, x])) { s with heap := h2, toks := tk + 1 } :=
      Inv.turnedL (s := { s with heap := h', toks := tk + 1 }) (t' := tk + 1) (ch := [e, it]) I1 (fun b o hb q => (hs2.2 b (fun z => hb (by simp [z]))).trans q) hfp1
    refine ⟨.ref s.heap.objs.size, _, I2, rfl, ⟨_, x, I.fresh, rfl, fun ys hy => by rw [I.tuple_inj hy hq]; exact hx, rfl⟩, ⟨⟨y, by simpa using he2⟩, hs'.1.extBut hs2.extBut (Ne.symm hei)⟩, fun b hb => (hfp1 b hb).1⟩
  done := by
    intro X hP hw hK hc i pins s σ H E I hf st hg
    subst hP hw hK
    obtain ⟨xs, hq, hx⟩ := hg
    obtain ⟨its, rv, p, hz⟩ := I.tuple hq
    obtain ⟨⟨old, he⟩, hli⟩ := st
    have hl := rv.length
    have hn : its.toArray.size = i := by simp; omega
    refine wpAny_pyNext_enum_endD (hue_draws_tuple (prog := X.prog) (w := X.w) (A := X.A.in1) (show X.A.in1.handled = none from I.ok.hd hc) it a hai its.toArray) he (by rw [hn]; exact ⟨hli, p⟩) fun h' eb => ⟨rfl, I.turnedL (t' := s.toks) (ch := [e, it]) (fun b o hb q => eb b o (fun z => hb (by simp [z])) q) hf⟩
  self := fun _ _ _ _ _ st h => let ⟨old, z⟩ := st.1; wpAny_pyIter_enum z h
section
variable {X : Cx}
def iEnum (K : PySem.W.Frag) (ta : TA) : TI := fun σ H R => ta σ H fun vs H1 => ∃ a, vs = [.ref a] ∧ (((∃ xs, SqL K H1 a xs) ∧ R (IteL K a) H1) ∨ ((∃ xs, SqT K H1 a xs) ∧ R (IteT K a) H1))
theorem boot_enumerate : bootBuiltins "enumerate" = some (.type "enumerate") := by decide +kernel
theorem pi_enum {a : Expr} {ta : TA} {p pos : Pos} {elts : List Expr} {kx : Nat} {tp : Pos} (hg : Gl X "enumerate") (hm : X.mg "enumerate" = none) (ha : PA X [a] ta) (hs : starEach [a] X.env = [(false, eval a X.env)] := by rfl) :
    PI X (.Tuple elts kx tp) (.Call (.Name "enumerate" p) [a] [] pos) (iEnum X.K ta) := by
  intro pins s σ H R I h
  refine Call_ (ld_blt I hg hm boot_enumerate (PyProof.Rows.callWith_type1 (thn (ha pos pins s σ H _ I h) fun us s1 ⟨vs, H1, I1, r1, q1⟩ => ?_) hs rfl))
  obtain ⟨l, e, q1⟩ := q1
  subst e
  cases r1 with
  | cons r rr =>
    cases rr
    cases r
    rcases q1 with ⟨⟨xs, hq⟩, q⟩ | ⟨⟨xs, hq⟩, q⟩
    · obtain ⟨its, rv, pl, hz⟩ := I1.list hq
      have hlt : @LT.lt Nat _ l s1.heap.objs.size := by obtain ⟨o, n, e, _⟩ := pl; exact Heap.lt_size e
      refine call_enumerate_list pl.isList fun h' he hli hsz hk => ?_
      refine wpAny_pyIter_enum he ?_
      have I2 : Inv X pins σ H1 { s1 with heap := h' } := I1.kept (t' := s1.toks) hk
      refine ⟨s1.heap.objs.size + 1, [s1.heap.objs.size + 1, s1.heap.objs.size], _, _, H1, rfl, I2, turn_enumL l _ s1.heap.objs.size (show @Ne Nat _ _ by omega) (show @Ne Nat _ _ by omega) (show @Ne Nat _ _ by omega), ⟨⟨_, he⟩, hli⟩, fun b hb => ?_, q⟩
      have hb2 : @LE.le Nat _ s1.heap.objs.size b := by
        rcases List.mem_cons.mp hb with rfl | hb
        · exact Nat.le_succ _
        · have e : b = s1.heap.objs.size := by simpa using hb
          rw [e]; exact Nat.le_refl _
      exact I1.fpOk hb2 (I1.hok.fresh hb2)
    · obtain ⟨its, rv, pl, hz⟩ := I1.tuple hq
      have hlt : @LT.lt Nat _ l s1.heap.objs.size := by obtain ⟨o, e, _⟩ := pl; exact Heap.lt_size e
      refine hue_call_enumerate_tuple (show s1.heap.IsTuple l its.toArray from pl) fun h' he hli hsz hk => ?_
      refine wpAny_pyIter_enum he ?_
      have I2 : Inv X pins σ H1 { s1 with heap := h' } := I1.kept (t' := s1.toks) hk
      refine ⟨s1.heap.objs.size + 1, [s1.heap.objs.size + 1, s1.heap.objs.size], _, _, H1, rfl, I2, turn_enumT l _ s1.heap.objs.size (show @Ne Nat _ _ by omega) (show @Ne Nat _ _ by omega) (show @Ne Nat _ _ by omega), ⟨⟨_, he⟩, hli⟩, fun b hb => ?_, q⟩
      have hb2 : @LE.le Nat _ s1.heap.objs.size b := by
        rcases List.mem_cons.mp hb with rfl | hb
        · exact Nat.le_succ _
        · have e : b = s1.heap.objs.size := by simpa using hb
          rw [e]; exact Nat.le_refl _
      exact I1.fpOk hb2 (I1.hok.fresh hb2)
end
section
variable {X : Cx}
end
theorem insert_eq (its : List Value) (k : Nat) (y : Value) : (its.toArray.extract 0 k).push y ++ its.toArray.extract k = (its.take k ++ y :: its.drop k).toArray := by
  apply Array.toList_inj.mp
  simp
  first
    | done
    | exact List.take_of_length_le (by simp)
section
variable {X : Cx}
def rInsert : V → List V → Hp → VK → Prop := fun x vs H Q => ∃ l xs i y, x = .ref l ∧ vs = [.int i, y] ∧ H l = some (.lst xs) ∧ 0 ≤ i ∧ i ≤ xs.length ∧ xs.length < sizeLine ∧ Q .non (upd H l (.lst (xs.take i.toNat ++ y :: xs.drop i.toNat)))
theorem mt_insert : MtM X "list.insert" rInsert := by
  intro pins s σ H x vs v us Q I rx rv h
  obtain ⟨l, xs, i, y, rfl, rfl, hH, h0, h1, hz, q⟩ := h
  cases rx
  obtain ⟨u1, u2, rfl, ⟨t, rfl⟩, ru⟩ := Vals.two rv
  obtain ⟨z, its, n, r, hl, e⟩ := I.lstM hH
  have hn := line63
  refine call_meets F.slot_list_insert ⟨_, e, rfl⟩ F.entry_list_insert (F.args_list_insert_3 _ _ _) (AutoSeq1.list_insert_list_int_val_1 l its.toArray n i t u2 (by rw [fitsIndex_both (by omega) (by omega)]; exact Bool.false_ne_true) (by rw [List.size_toArray]; omega)) ⟨e, ?_⟩
  refine ⟨.non, _, I.lset (its' := its.take i.toNat ++ u2 :: its.drop i.toNat) hH e ?_ (Vals.append (r.take _) (.cons ru (r.drop _))) ?_, rfl, q⟩
  · have hk : (if i < 0 then (i + (its.toArray.size : Int)).toNat else min i.toNat its.toArray.size) = i.toNat := by
      rw [if_neg (by omega), List.size_toArray]; omega
    show (let k := if i < 0 then (i + (its.toArray.size : Int)).toNat else min i.toNat its.toArray.size; (its.toArray.extract 0 k).push u2 ++ its.toArray.extract k) = _
    rw [hk]
    exact insert_eq its i.toNat u2
  · rw [List.length_append, List.length_take, List.length_cons, List.length_drop]
    omega
def eqVs (xs ys : List V) : Bool := xs.length == ys.length && (xs.zip ys).all fun p => eqV p.1 p.2
def rEqL (K : PySem.W.Frag) (neg : Bool) : R2 := fun x y H Q => ∃ a b xs ys, x = .ref a ∧ y = .ref b ∧ SqL K H a xs ∧ SqL K H b ys ∧ ((xs.all flatV = true ∧ ys.all flatV = true) ∨ xs = [] ∨ ys = []) ∧ Q (.bl (if neg then !eqVs xs ys else eqVs xs ys)) H
theorem eqVs_range {xs ys : List V} (hl : xs.length = ys.length) : (List.range xs.length).all (fun j => eqV (xs.getD j .non) (ys.getD j .non)) = eqVs xs ys := by
  have e1 : eqVs xs ys = (xs.zip ys).all fun p => eqV p.1 p.2 := by unfold eqVs; simp [hl]
  rw [e1, Bool.eq_iff_iff, List.all_eq_true, List.all_eq_true]
  constructor
  · intro h p hp
    obtain ⟨j, hj, e⟩ := List.mem_iff_getElem.mp hp
    have hj1 : j < xs.length := by simp at hj; omega
    have hj2 : j < ys.length := by omega
    have := h j (List.mem_range.mpr hj1)
    rw [← e]
    simpa [List.getD, hj1, hj2] using this
  · intro h j hj
    have hj1 : j < xs.length := List.mem_range.mp hj
    have hj2 : j < ys.length := by omega
    have := h (xs[j], ys[j]) (List.mem_iff_getElem.mpr ⟨j, by simp; omega, by simp⟩)
    simpa [List.getD, hj1, hj2] using this
theorem eqAt_lists {xs ys : List V} {us ws : List Value} {A : Around} {s : Shared} (r1 : Vals xs us) (r2 : Vals ys ws) (f : (xs.all flatV = true ∧ ys.all flatV = true) ∨ xs = [] ∨ ys = []) :
    ∀ j (h1 : j < us.toArray.size) (h2 : j < ws.toArray.size), SeqAt.EqAt A s us.toArray[j] ws.toArray[j] (eqV (xs.getD j .non) (ys.getD j .non)) := by
  intro j h1 h2
  have l1 := r1.length
  have l2 := r2.length
  simp only [List.size_toArray] at h1 h2
  have hj1 : j < xs.length := by omega
  have hj2 : j < ys.length := by omega
  obtain ⟨f1, f2⟩ : xs.all flatV = true ∧ ys.all flatV = true := by
    rcases f with f | f | f
    · exact f
    · subst f; simp at hj1
    · subst f; simp at hj2
  obtain ⟨u, eu, ru⟩ := r1.get (i := j) (x := xs[j]) (by simp [hj1])
  obtain ⟨w', ew, rw'⟩ := r2.get (i := j) (x := ys[j]) (by simp [hj2])
  have e1 : us.toArray[j] = u := by
    have := List.getElem?_eq_some_iff.mp eu
    obtain ⟨_, q⟩ := this
    simpa using q
  have e2 : ws.toArray[j] = w' := by
    obtain ⟨_, q⟩ := List.getElem?_eq_some_iff.mp ew
    simpa using q
  rw [e1, e2]
  have g1 : xs.getD j .non = xs[j] := by simp [List.getD, hj1]
  have g2 : ys.getD j .non = ys[j] := by simp [List.getD, hj2]
  rw [g1, g2]
  exact eqAt_V ru rw' (List.all_eq_true.mp f1 _ (List.getElem_mem hj1)) (List.all_eq_true.mp f2 _ (List.getElem_mem hj2))
theorem op_neL (hu : X.A.units < cLine) : OpR X (compareOp .NotEq) (rEqL X.K true) := by
  intro pins s σ H x y v u Q I rx ry h
  obtain ⟨a, b, xs, ys, rfl, rfl, h1, h2, f, q⟩ := h
  cases rx
  cases ry
  obtain ⟨its1, r1, p1, _⟩ := I.list h1
  obtain ⟨its2, r2, p2, _⟩ := I.list h2
  have l1 := r1.length
  have l2 := r2.length
  by_cases hl : xs.length = ys.length
  · refine (SeqAt.RcNeAt.lists p1.isList p2.isList (by simp; omega) hu (eqAt_lists r1 r2 f)) _ _ _ _ ?_
    refine ⟨.bl _, H, I, rfl, ?_⟩
    rw [List.size_toArray, ← l1, eqVs_range hl]
    exact q
  · refine (SeqAt.RcNeAt.lists_lengths p1.isList p2.isList (by simp; omega) hu) _ _ _ _ ?_
    refine ⟨.bl true, H, I, rfl, ?_⟩
    have e : eqVs xs ys = false := by unfold eqVs; simp [hl]
    rw [show (if true = true then !eqVs xs ys else eqVs xs ys) = !eqVs xs ys from rfl, e] at q
    exact q
theorem call_isi1 : CallR X (.builtin "isinstance") (fun xs H Q => ∃ x T t b, xs = [x, .ty T] ∧ TyOf X.K H x t ∧ PySem.W.kitOne X.K t (.type T) = some b ∧ Q (.bl b) H) := by
  intro pins s σ H xs us Q I r h
  obtain ⟨x, T, t, b, rfl, ty, e, q⟩ := h
  obtain ⟨u1, u2, rfl, r1, r2⟩ := Vals.two r
  cases r2
  exact isinst_ok I r1 ty e fun tk => ⟨.bl b, H, I.tok tk, rfl, q⟩
theorem isinstT_ok {pins : List (Addr × Obj)} {σ : St} {H : Hp} {s : Shared} {A : Around} {E : Value → Shared → Prop} {Q : Value → Shared → Prop} {b : Bool} {x : V} {u t : Value} {tp : Addr} {dd : Option Addr} {its : List Value} {n : Nat} {sl : Array (Option Value)} (I : Inv X pins σ H s) (rx : RelV x u) (ty : TyOf X.K H x t)
    (htp : s.heap.get? tp = some ⟨.type "tuple", dd, .seq its.toArray n, sl⟩) (e : PySem.W.kitAny X.K t its = some b) (h : ∀ tk, Q (.bool b) { s with toks := tk }) :
    wpAny (model X.prog X.w) A (call (.builtin "isinstance") [u, .ref tp]) Q E s := by
  cases ty with
  | non => cases (show u = Value.none from rx); exact PySem.W.kia_tup PySem.W.kitx_none I.kIn True.intro htp e (fun z => nomatch z) h
  | bl y => cases (show u = Value.bool y from rx); exact PySem.W.kia_tup PySem.W.kitx_bool I.kIn True.intro htp e (fun z => nomatch z) h
  | int i => obtain ⟨t, q⟩ := (show ∃ t, u = Value.int i t from rx); cases q; exact PySem.W.kia_tup PySem.W.kitx_int I.kIn True.intro htp e (fun z => nomatch z) h
  | str y => obtain ⟨t, q⟩ := (show ∃ t, u = Value.str y t from rx); cases q; exact PySem.W.kia_tup PySem.W.kitx_str I.kIn True.intro htp e (fun z => nomatch z) h
  | flt y => obtain ⟨t, q⟩ := (show ∃ t, u = Value.float y t from rx); cases q; exact PySem.W.kia_tup PySem.W.kitx_float I.kIn True.intro htp e (fun z => nomatch z) h
  | @lst a xs ea =>
    cases (show u = Value.ref a from rx)
    obtain ⟨_, _, n, _, h1⟩ := (show ObjOk X.prog X.w H s.heap a (.lst xs) from I.hok a _ ea)
    exact PySem.W.kia_tup PySem.W.kitx_list I.kIn ⟨_, h1, rfl⟩ htp e (fun z => nomatch z) h
  | @frz a ob xs ea =>
    cases (show u = Value.ref a from rx)
    obtain ⟨_, _, _, n, _, h1⟩ := (show ObjOk X.prog X.w H s.heap a (.frz ob (.lst xs)) from I.hok a _ ea)
    exact PySem.W.kia_tup PySem.W.kitx_list I.kIn ⟨_, h1, rfl⟩ htp e (fun z => nomatch z) h
  | @tup a xs ea =>
    cases (show u = Value.ref a from rx)
    obtain ⟨_, _, _, p⟩ := (show ObjOk X.prog X.w H s.heap a (.tup xs) from I.hok a _ ea)
    obtain ⟨o, h1, h2, _⟩ := p
    exact PySem.W.kia_tup PySem.W.kitx_tuple I.kIn ⟨o, h1, h2⟩ htp e (fun z => nomatch z) h
  | @dK a kvs ea =>
    cases (show u = Value.ref a from rx)
    obtain ⟨_, _, vs, _, p⟩ := (show ObjOk X.prog X.w H s.heap a (.dK kvs) from I.hok a _ ea)
    obtain ⟨o, es, ep, h1, h2, _⟩ := p
    exact PySem.W.kia_tup PySem.W.kitx_dict I.kIn ⟨o, h1, h2.1⟩ htp e (fun z => nomatch z) h
  | @dT a kvs ea =>
    cases (show u = Value.ref a from rx)
    obtain ⟨_, _, xs, _, o, es, ep, h1, h2, _⟩ := (show ObjOk X.prog X.w H s.heap a (.dT kvs) from I.hok a _ ea)
    exact PySem.W.kia_tup PySem.W.kitx_dict I.kIn ⟨o, h1, h2.1⟩ htp e (fun z => nomatch z) h
  | @ins a C dx fs ea cl ha hn htk hm =>
    cases (show u = Value.ref a from rx)
    obtain ⟨mA, O, _⟩ := ins_get I.hok ea
    obtain ⟨od, J, _⟩ := O.look
    exact PySem.W.kia_tup (PySem.W.kitx_own (cl.get _) cl.hd ha hn htk hm) I.kIn J htp e (fun z => nomatch z) h
theorem vals_ty : ∀ (Ts : List String) {us : List Value}, Vals (Ts.map V.ty) us → us = Ts.map Value.type
  | [], _, .nil => rfl
  | T :: r, _, .cons h t => by cases h; rw [vals_ty r t]; rfl
theorem call_isiT : CallR X (.builtin "isinstance") (fun xs H Q => ∃ (x : V) (p : Addr) (Ts : List String) (t : Value) (b : Bool), xs = [x, .ref p] ∧ H p = some (.tup (Ts.map V.ty)) ∧ TyOf X.K H x t ∧ PySem.W.kitAny X.K t (Ts.map Value.type) = some b ∧ Q (.bl b) H) := by
  intro pins s σ H xs us Q I r h
  obtain ⟨x, p, Ts, t, b, rfl, hp, ty, e, q⟩ := h
  obtain ⟨u1, u2, rfl, r1, r2⟩ := Vals.two r
  cases r2
  obtain ⟨_, its, rv, ⟨⟨c, dd, dt, sl⟩, h1, h2, n, h3⟩⟩ := (show ObjOk X.prog X.w H s.heap p (.tup (Ts.map V.ty)) from I.hok p _ hp)
  have ei := vals_ty Ts rv
  subst ei
  replace h2 : c = .type "tuple" := h2
  replace h3 : dt = .seq (Ts.map Value.type).toArray n := h3
  subst h2 h3
  exact isinstT_ok I r1 ty h1 e fun tk => ⟨.bl b, H, I.tok tk, rfl, q⟩
theorem call_allB (hc : X.calm = true) : CallR X (.builtin "all") (fun xs H Q => ∃ (a : Addr) (bs : List Bool), xs = [.ref a] ∧ SqL X.K H a (bs.map V.bl) ∧ Q (.bl (bs.all id)) H) := by
  intro pins s σ H xs us Q I r h
  obtain ⟨a, bs, rfl, hq, q⟩ := h
  obtain ⟨u, rfl, ru⟩ := vals1 r
  cases ru
  obtain ⟨its, rv, pl, hz⟩ := I.list hq
  have hl := rv.length
  rw [List.length_map] at hl
  refine call_all_walk (wpAny_pyIter_list pl.isList ?_)
  have hlt : a < s.heap.objs.size := by obtain ⟨o, n, e, _⟩ := pl; exact Heap.lt_size e
  refine ⟨s.heap.objs.size, _, _, _, _, _, fun i => bs.getD i false, rfl, Walks.list (by exact I.ok.hd hc) s.heap.objs.size a (Nat.ne_of_lt hlt) its.toArray, ⟨⟨_, Heap.get?_push_size _ rfl, rfl, rfl⟩, pl.isList.push _⟩, ?_, fun h' tk hk => ?_⟩
  · intro i v s' Q' E' hv hQ'
    have hv' : its[i]? = some v := by simpa using hv
    have hi : i < its.length := (List.getElem?_eq_some_iff.mp hv').1
    have hb : (bs.map V.bl)[i]? = some (.bl (bs[i]'(by omega))) := by simp
    obtain ⟨u', eu, ru'⟩ := rv.get hb
    rw [hv'] at eu
    cases eu
    cases ru'
    have hg : bs.getD i false = bs[i]'(by omega) := by simp [List.getD, show i < bs.length by omega]
    have hQ2 : Q' (bs.getD i false) s' := hQ'
    rw [hg] at hQ2
    exact wpAny_truthy_bool hQ2
  · have I1 : Inv X pins σ H { s with heap := h', toks := tk } := I.kept fun b o e => hk b o (by simp; exact Nat.ne_of_lt (Heap.lt_size e)) (Heap.get?_push_of_some _ e)
    refine ⟨.bl _, H, I1, rfl, ?_⟩
    have e : (List.range its.toArray.size).all (fun i => bs.getD i false) = bs.all id := by
      rw [List.size_toArray, ← hl, Bool.eq_iff_iff, List.all_eq_true, List.all_eq_true]
      constructor
      · intro h b hb
        obtain ⟨j, hj, e⟩ := List.mem_iff_getElem.mp hb
        have := h j (List.mem_range.mpr hj)
        simpa [List.getD, hj, e] using this
      · intro h j hj
        have hj1 : j < bs.length := List.mem_range.mp hj
        have := h bs[j] (List.getElem_mem hj1)
        simpa [List.getD, hj1] using this
    rw [e]
    exact q
theorem call_rng1 : CallR X (.type "range") (fun xs H Q => ∃ b, xs = [.int b] ∧ ∀ p, H p = none → Q (.ref p) (upd H p (.rng 0 b))) := by
  intro pins s σ H xs us Q I r h
  obtain ⟨b, rfl, q⟩ := h
  obtain ⟨u1, rfl, ⟨t, rfl⟩⟩ := vals1 r
  refine call_range_1 ⟨.ref s.heap.objs.size, _, I.laid (o := .rng 0 b) (fun b o e => Heap.get?_push_of_some _ e) (Nat.le_refl _) ⟨_, _, _, Heap.get?_push_size _ rfl⟩, rfl, q _ I.fresh⟩
def rngV (lo : Int) (n : Nat) : List V := (List.range n).map fun (i : Nat) => V.int (lo + (i : Int))
theorem rngV_length (lo : Int) (n : Nat) : (rngV lo n).length = n := by unfold rngV; simp
theorem call_listRng (hc : X.calm = true) : CallR X (.type "list") (fun xs H Q => ∃ p a b, xs = [.ref p] ∧ H p = some (.rng a b) ∧ -(2 ^ 62) ≤ a ∧ a < 2 ^ 62 ∧ -(2 ^ 62) ≤ b ∧ b < 2 ^ 62 ∧ (b - a).toNat ≤ 100000 ∧ ∀ l, H l = none → Q (.ref l) (upd H l (.lst (rngV a (b - a).toNat)))) := by
  intro pins s σ H xs us Q I r h
  obtain ⟨p, a, b, rfl, hp, h1, h2, h3, h4, h5, q⟩ := h
  obtain ⟨u, rfl, ru⟩ := vals1 r
  cases ru
  obtain ⟨t, u', v, ho⟩ := (show ObjOk X.prog X.w H s.heap p (.rng a b) from I.hok p _ hp)
  have hn : Builtin.Range.rangeSize a b 1 = (((b - a).toNat : Nat) : Int) := by rw [rangeSize_one]; split <;> omega
  refine call_list_range (I.ok.hd hc) (show IsRange s.heap p a b 1 t u' v from ho) (small_one h1 h2 h3 h4) hn (by omega) fun h' tk acc c' kp e hi => ?_
  have hz : (b - a).toNat ≤ sizeLine := Nat.le_trans h5 (by decide)
  refine ⟨.ref s.heap.objs.size, _, I.laid kp (Nat.le_refl _) (show ObjOk X.prog X.w _ h' _ (.lst (rngV a (b - a).toNat)) from ⟨by rw [rngV_length]; exact hz, acc.toList, c', ?_, by simpa using e⟩), rfl, q _ I.fresh⟩
  obtain ⟨hs, hv⟩ := hi
  have key : ∀ (n : Nat) (l : List Value) (lo : Int), l.length = n → (∀ (j : Nat) (v : Value), l[j]? = some v → ∃ t, v = Value.int (lo + (j : Int)) t) → Vals ((List.range n).map fun (i : Nat) => V.int (lo + (i : Int))) l := by
    intro n
    induction n with
    | zero => intro l lo hl _; cases l with | nil => exact .nil | cons _ _ => simp at hl
    | succ n ih =>
      intro l lo hl hv
      cases l with
      | nil => simp at hl
      | cons x r =>
        rw [List.range_succ_eq_map, List.map_cons, List.map_map]
        refine .cons ?_ ?_
        · obtain ⟨t, e⟩ := hv 0 x (by simp)
          exact ⟨t, e⟩
        · have := ih r (lo + 1) (by simpa using hl) fun j v hj => by
            obtain ⟨t, e⟩ := hv (j + 1) v (by simpa using hj)
            refine ⟨t, ?_⟩
            rw [e]
            congr 1
            omega
          have e2 : ((fun (i : Nat) => V.int (lo + (i : Int))) ∘ Nat.succ) = fun (i : Nat) => V.int (lo + 1 + (i : Int)) := by
            funext i
            show V.int (lo + ((i + 1 : Nat) : Int)) = V.int (lo + 1 + (i : Int))
            congr 1
            omega
          rw [e2]
          exact this
  refine key _ _ a (by simpa using hs) fun j v hj => ?_
  obtain ⟨t, e⟩ := hv j v (by simpa using hj)
  exact ⟨t, by rw [e]; congr 1; omega⟩
end
theorem comp_enumT {K : PySem.W.Frag} {a : Addr} {xs : List V} {g : TG} {tt : TT} {te : TE} {D : Addr} {σ' : St} {Q : List V → Hp → Prop} {H1 : Hp} (Pv : Nat → List V → Hp → Prop) (h0 : Pv 0 [] (upd H1 D (.lst []))) (hl : ∀ i ys H, i ≤ xs.length → Pv i ys H → SqT K H a xs)
    (hs : ∀ i x ys H p, xs[i]? = some x → Pv i ys H → H p = none → CompTurn g tt te D σ' ys (Pv (i + 1)) (.ref p) (upd H p (.tup [.int i, x]))) (hd : ∀ ys H, Pv xs.length ys H → Q ys H) :
    ∃ W : Nat → Nat → List V → Hp → Prop, (∃ m, W 0 m [] (upd H1 D (.lst []))) ∧ CompW (IteT K a) g tt te D σ' Q W := by
  refine ⟨fun i m ys H => m = xs.length - i ∧ i ≤ xs.length ∧ Pv i ys H, ⟨xs.length, by simp, Nat.zero_le _, h0⟩, ?_⟩
  rintro i m ys H ⟨rfl, hi, p⟩
  have q := hl i ys H hi p
  by_cases hlt : i < xs.length
  · refine .inr ⟨⟨xs, xs[i], q, by simp [hlt]⟩, Pv (i + 1), fun ys' H' p' => ⟨xs.length - (i + 1), by omega, rfl, hlt, p'⟩, fun x H' y => ?_⟩
    obtain ⟨pp, v, hp, e1, hv, e2⟩ := y
    subst e1 e2
    exact hs i v ys _ pp (hv xs q) p hp
  · have e : i = xs.length := by omega
    subst e
    exact .inl ⟨⟨xs, q, rfl⟩, hd ys H p⟩
end L2
set_option Elab.async false
set_option linter.all false
set_option maxRecDepth 100000
set_option maxHeartbeats 4000000
namespace Hue
open PySem L2
def top (i : Nat) : Stmt := PySem.Challenge.pw_huedties_k38_papers_by_places_and_sets.main.body.getD i (.Pass ⟨0, 0, 0, 0⟩)
abbrev sTape : Stmt := top 24
abbrev sDraw : Stmt := top 25
abbrev sPairs : Stmt := top 26
abbrev sWeb : Stmt := top 27
theorem b_abs : bootBuiltins "abs" = some (.builtin "abs") := by decide +kernel
theorem b_min : bootBuiltins "min" = some (.builtin "min") := by decide +kernel
theorem b_max : bootBuiltins "max" = some (.builtin "max") := by decide +kernel
theorem b_len : bootBuiltins "len" = some (.builtin "len") := by decide +kernel
theorem b_all : bootBuiltins "all" = some (.builtin "all") := by decide +kernel
theorem b_isi : bootBuiltins "isinstance" = some (.builtin "isinstance") := by decide +kernel
theorem b_int : bootBuiltins "int" = some (.type "int") := by decide +kernel
theorem b_list : bootBuiltins "list" = some (.type "list") := by decide +kernel
theorem b_tuple : bootBuiltins "tuple" = some (.type "tuple") := by decide +kernel
theorem b_bool : bootBuiltins "bool" = some (.type "bool") := by decide +kernel
theorem b_range : bootBuiltins "range" = some (.type "range") := by decide +kernel
theorem ps_via {X : Cx} {st : Stmt} {t : TS} (t' : TS) (h : PS X st t) (imp : ∀ D σ H, t' D σ H → t D σ H) : PS X st t' := fun pins s σ H D I hw => h pins s σ H D I (imp D σ H hw)
theorem pe_via {X : Cx} {e : Expr} {t : TE} (t' : TE) (h : PE X e t) (imp : ∀ σ H Q, t' σ H Q → t σ H Q) : PE X e t' := fun pins s σ H Q I hw => h pins s σ H Q I (imp σ H Q hw)
theorem b01 (b : Bool) : -(2 ^ 64) < (if b = true then (1 : Int) else 0) ∧ (if b = true then (1 : Int) else 0) < 2 ^ 64 := by cases b <;> decide
def Ext (t : Addr) (H H' : Hp) : Prop := ∀ b o, b ≠ t → H b = some o → H' b = some o
theorem Ext.refl (t : Addr) (H : Hp) : Ext t H H := fun _ _ _ h => h
theorem Ext.trans {t : Addr} {H H1 H2 : Hp} (a : Ext t H H1) (b : Ext t H1 H2) : Ext t H H2 := fun c o n h => b c o n (a c o n h)
theorem Ext.new {t p : Addr} {H H1 : Hp} {o : HO} (a : Ext t H H1) (n : H1 p = none) : Ext t H (upd H1 p o) := fun c u ne h => by
  have h1 := a c u ne h
  rw [upd_ne (ne_of_none h1 n)]; exact h1
theorem Ext.free {t p : Addr} {H H1 : Hp} (a : Ext t H H1) (n : H1 p = none) (ne : p ≠ t) : H p = none := by
  cases q : H p with
  | none => rfl
  | some o => rw [a p o ne q] at n; cases n
def Tape (H : Hp) (t : Addr) : Prop := ∃ d e : Int, H t = some (.lst [.int d, .int e]) ∧ 0 ≤ d ∧ 0 ≤ e ∧ e < 2147483647
theorem Tape.some {H : Hp} {t : Addr} (h : Tape H t) : ∃ o, H t = Option.some o := let ⟨_, _, h, _⟩ := h; ⟨_, h⟩
theorem Tape.keep {H H' : Hp} {t : Addr} (h : Tape H t) (k : ∀ o, H t = Option.some o → H' t = Option.some o) : Tape H' t := let ⟨d, e, h, r⟩ := h; ⟨d, e, k _ h, r⟩
theorem Tape.new {H : Hp} {t p : Addr} {o : HO} (h : Tape H t) (n : H p = none) : Tape (upd H p o) t := h.keep fun u q => by rw [upd_ne (ne_of_none q n)]; exact q
theorem Tape.ne {H : Hp} {t p : Addr} (h : Tape H t) (n : H p = none) : p ≠ t := by
  obtain ⟨o, e⟩ := h.some
  exact (ne_of_none e n).symm
def spTape (K : PySem.W.Frag) : Sp := fun vs H Q _ => ∃ (a : Addr) (ns : List Int) (k : Int), vs = [.ref a, .int k] ∧ SqL K H a (ns.map V.int) ∧ 0 ≤ k ∧ ns.length ≤ 63 ∧
  ∀ (t : Addr) (H' : Hp), H t = none → Tape H' t → Same H H' → Q (.ref t) H'
def spDraw : Sp := fun vs H Q _ => ∃ (t : Addr) (m : Int), vs = [.ref t, .int m] ∧ Tape H t ∧ 0 < m ∧ m < 1073741824 ∧
  ∀ (r : Int) (H' : Hp), 0 ≤ r → r < m → Tape H' t → Ext t H H' → Q (.int r) H'
structure Txt (K : PySem.W.Frag) (mg : Str → Option Value) : Prop where
  len : mg "len" = none
  abs : mg "abs" = none
  int : mg "int" = none
  min : mg "min" = none
  max : mg "max" = none
  range : mg "range" = none
  tuple : mg "tuple" = none
  list : mg "list" = none
  enum : mg "enumerate" = none
  zip : mg "zip" = none
  isi : mg "isinstance" = none
  all : mg "all" = none
  str : mg "str" = none
  bool : mg "bool" = none
section
variable {P : Program} {w : World} {K : PySem.W.Frag} {mg : Str → Option Value} {base : Heap}
theorem scTape : FnScope ["_law_script", "_law_k", "_law_cell", "_law_digits"] ["_law_script", "_law_k"] (defScope sTape) := ⟨rfl, rfl, rfl, by decide +kernel, rfl, by decide +kernel, by decide +kernel⟩
theorem ok_tape {f : Addr} {fd : FuncData} (F : Fun K "_law_tape" "_law_tape" sTape f fd) (T : Txt K mg) : FnOk P w K mg base CX0 1 f fd ["_law_script", "_law_k"] (spTape K) := by
  refine F.ok scTape (fun vs H Q E h => ?_) (fun cdv A outer s H vs Q E hr h => ?_)
  · obtain ⟨a, ns, k, rfl, _⟩ := h; rfl
  · obtain ⟨a, ns, k, rfl, hS, hk, hn, q⟩ := h
    refine ⟨_, pss_cons (ps_set (i := 2) scTape.nd rfl (Or.inl rfl) pe_int)
      (pss_cons (ps_if (pt_cmpR op_lt (pv 1) (pe_callB call_len_seq (by rfl) T.len b_len (pa_cons (pv 0) pa_nil)) (nomark _))
        (pss_one (ps_set (i := 2) scTape.nd rfl (Or.inl rfl) (pe_ix ix_list (pv 0) (pv 1) (fun _ _ => rfl)))) pss_nil)
      (pss_cons (ps_set (i := 3) scTape.nd rfl (Or.inl rfl) (pe_op op_mul (pe_callB call_abs (by rfl) T.abs b_abs (pa_cons (pv 2) pa_nil))
        (pe_callTy call_int1 (by rfl) T.int b_int (pa_cons (pe_cmpR op_ge (pe_callB call_abs (by rfl) T.abs b_abs (pa_cons (pv 2) pa_nil)) (pe_op op_pow pe_int pe_int) (nomark _)) pa_nil))))
      (pss_one (ps_ret (pe_lst (pa_cons (pv 3) (pa_cons (pe_op op_mod (pe_op op_mul (pe_op op_mod (pe_op op_add (pe_op op_add (pv 2) (pe_op op_mul pe_int (pv 1))) pe_int) pe_int) pe_int) pe_int) pa_nil))))))), ?_⟩
    have rest : ∀ c : Int, ∀ b : Bool, ∀ p, H p = none → Q (.ref p) (upd H p (.lst [.int ((if c < 0 then -c else c) * (if b then 1 else 0)), .int ((c + 7919 * k + 1) % 2147483647 * 48271 % 2147483647)])) := by
      intro c b p hp
      refine q p _ hp ⟨_, _, upd_same, ?_, ?_, ?_⟩ fun x o e => ?_
      · split <;> split <;> omega
      · omega
      · omega
      · rw [upd_ne (ne_of_none e hp)]; exact e
    refine ⟨_, rfl, _, rfl, a, _, rfl, .inl hS, _, _, rfl, rfl, _, rfl, ?_⟩
    refine ite2 (fun hlt => ?_) (fun hlt => ?_)
    · have hlt' : k < ((ns.map V.int).length : Nat) := of_decide_eq_true hlt
      rw [List.length_map] at hlt'
      have hg : (ns.map V.int)[k.toNat]? = some (V.int (ns.getD k.toNat 0)) := by
        rw [List.getElem?_map]
        have : k.toNat < ns.length := by omega
        simp [List.getD, this]
      refine ⟨_, rfl, _, rfl, a, _, _, _, rfl, rfl, hS, (by have := atI_nat hg; rwa [Int.toNat_of_nonneg hk] at this), ?_⟩
      refine ⟨_, rfl, _, rfl, _, rfl, _, rfl, _, _, rfl, rfl, ⟨by decide, by decide, by decide⟩, _, _, rfl, rfl, .inr ⟨_, rfl, ?_⟩⟩
      refine ⟨_, _, rfl, rfl, .inr (b01 _), ?_⟩
      refine ⟨_, rfl, _, rfl, _, rfl, _, _, rfl, rfl, .inl ⟨by decide, by decide⟩, _, _, rfl, rfl, _, _, rfl, rfl, _, _, rfl, rfl, (by show (0 : Int) < 2147483647; decide), _, _, rfl, rfl, .inr ⟨by decide, by decide⟩, _, _, rfl, rfl, (by show (0 : Int) < 2147483647; decide), ?_⟩
      exact ⟨by show 2 ≤ sizeLine; decide, fun p hp => rest _ _ p hp⟩
    · refine ⟨_, rfl, _, rfl, _, rfl, _, rfl, _, _, rfl, rfl, ⟨by decide, by decide, by decide⟩, _, _, rfl, rfl, .inr ⟨_, rfl, ?_⟩⟩
      refine ⟨_, _, rfl, rfl, .inr (b01 _), ?_⟩
      refine ⟨_, rfl, _, rfl, _, rfl, _, _, rfl, rfl, .inl ⟨by decide, by decide⟩, _, _, rfl, rfl, _, _, rfl, rfl, _, _, rfl, rfl, (by show (0 : Int) < 2147483647; decide), _, _, rfl, rfl, .inr ⟨by decide, by decide⟩, _, _, rfl, rfl, (by show (0 : Int) < 2147483647; decide), ?_⟩
      exact ⟨by show 2 ≤ sizeLine; decide, fun p hp => rest _ _ p hp⟩
theorem scDraw : FnScope ["_law_tape_here", "_law_many", "_law_found", "_law_once"] ["_law_tape_here", "_law_many"] (defScope sDraw) := ⟨rfl, rfl, rfl, by decide +kernel, rfl, by decide +kernel, by decide +kernel⟩
theorem ok_draw {f : Addr} {fd : FuncData} (F : Fun K "_law_draw" "_law_draw" sDraw f fd) (T : Txt K mg) : FnOk P w K mg base CX0 1 f fd ["_law_tape_here", "_law_many"] spDraw := by
  refine F.ok scDraw (fun vs H Q E h => ?_) (fun cdv A outer s H vs Q E hr h => ?_)
  · obtain ⟨t, m, rfl, _⟩ := h; rfl
  · obtain ⟨t, m, rfl, ⟨d, e, ht, hd, he0, he1⟩, hm, hm2, q⟩ := h
    refine ⟨_, pss_cons (ps_if (pt_cmpR op_gt (pe_ix ix_list (pv 0) pe_int (fun _ _ => rfl)) pe_int (nomark _))
        (pss_cons (ps_set (i := 2) scDraw.nd rfl (Or.inl rfl) (pe_op op_mod (pe_ix ix_list (pv 0) pe_int (fun _ _ => rfl)) (pv 1)))
        (pss_cons (ps_asg (pe_op op_fdiv (pe_ix ix_list (pv 0) pe_int (fun _ _ => rfl)) (pv 1)) (pg_sub (pv 0) pe_int set_list))
        (pss_one (ps_ret (pv 2))))) pss_nil)
      (pss_cons (ps_asg (pe_op op_mod (pe_op op_add (pe_op op_mul (pe_ix ix_list (pv 0) pe_int (fun _ _ => rfl)) pe_int) pe_int) pe_int) (pg_sub (pv 0) pe_int set_list))
      (pss_cons (ps_set (i := 3) scDraw.nd rfl (Or.inl rfl) (pe_op op_mod (pe_op op_mul (pe_ix ix_list (pv 0) pe_int (fun _ _ => rfl)) (pe_op op_add (pe_op op_mod (pe_ix ix_list (pv 0) pe_int (fun _ _ => rfl)) pe_int) pe_int)) pe_int))
      (pss_one (ps_ret (pe_op op_mod (pe_op op_mod (pe_op op_mul (pv 3) (pe_op op_add (pe_op op_mod (pv 3) pe_int) pe_int)) pe_int) (pv 1)))))), ?_⟩
    have fin : ∀ (r d' e' : Int), 0 ≤ r → r < m → 0 ≤ d' → 0 ≤ e' → e' < 2147483647 → Q (.int r) (upd H t (.lst [.int d', .int e'])) := fun r d' e' h1 h2 h3 h4 h5 =>
      q r _ h1 h2 ⟨d', e', upd_same, h3, h4, h5⟩ fun b o hb z => by rw [upd_ne hb]; exact z
    refine ⟨_, rfl, t, _, _, _, rfl, rfl, SqL.of ht, (rfl : atI [V.int d, V.int e] 0 = some (.int d)), _, _, rfl, rfl, _, rfl, ?_⟩
    refine ite2 (fun hlt => ?_) (fun hlt => ?_)
    · refine ⟨_, rfl, t, _, _, _, rfl, rfl, SqL.of ht, (rfl : atI [V.int d, V.int e] 0 = some (.int d)), _, rfl, _, _, rfl, rfl, hm, ?_⟩
      refine ⟨_, rfl, t, _, _, _, rfl, rfl, SqL.of ht, (rfl : atI [V.int d, V.int e] 0 = some (.int d)), _, rfl, _, _, rfl, rfl, ⟨hm, hm2⟩, ?_⟩
      refine ⟨_, rfl, t, _, 0, 0, rfl, rfl, ht, rfl, _, rfl, ?_⟩
      exact fin _ _ _ (Int.emod_nonneg _ (by omega)) (Int.emod_lt_of_pos _ hm) (Int.ediv_nonneg hd (by omega)) he0 he1
    · refine ⟨_, rfl, t, _, _, _, rfl, rfl, SqL.of ht, (rfl : atI [V.int d, V.int e] 1 = some (.int e)), _, _, rfl, rfl, .inr ⟨by decide, by decide⟩, _, _, rfl, rfl, _, _, rfl, rfl, (by show (0 : Int) < 2147483647; decide), ?_⟩
      refine ⟨_, rfl, t, _, 1, 1, rfl, rfl, ht, rfl, ?_⟩
      have h5 : (0 : Int) ≤ (e * 48271 + 12345) % 2147483647 := by omega
      have h6 : (e * 48271 + 12345) % 2147483647 < 2147483647 := by omega
      have ht2 : (upd H t (.lst ([V.int d, V.int e].set 1 (.int ((e * 48271 + 12345) % 2147483647))))) t = some (.lst [.int d, .int ((e * 48271 + 12345) % 2147483647)]) := upd_same
      refine ⟨_, rfl, t, _, _, _, rfl, rfl, SqL.of ht2, (rfl : atI [V.int d, V.int ((e * 48271 + 12345) % 2147483647)] 1 = some (.int ((e * 48271 + 12345) % 2147483647))), _, rfl, t, _, _, _, rfl, rfl, SqL.of ht2, (rfl : atI [V.int d, V.int ((e * 48271 + 12345) % 2147483647)] 1 = some (.int ((e * 48271 + 12345) % 2147483647))), _, _, rfl, rfl, (by show (0 : Int) < 1009; decide), _, _, rfl, rfl, _, _, rfl, rfl, .inl ⟨by omega, by omega⟩, _, _, rfl, rfl, (by show (0 : Int) < 2147483629; decide), ?_⟩
      have hz0 : ∃ z, ((e * 48271 + 12345) % 2147483647) * (((e * 48271 + 12345) % 2147483647) % 1009 + 3) % 2147483629 = z := ⟨_, rfl⟩
      obtain ⟨z, hz⟩ := hz0
      have hz1 : 0 ≤ z := by rw [← hz]; exact Int.emod_nonneg _ (by decide)
      have hz2 : z < 2147483629 := by rw [← hz]; exact Int.emod_lt_of_pos _ (by decide)
      refine ⟨_, rfl, _, rfl, _, _, rfl, rfl, (by show (0 : Int) < 997; decide), _, _, rfl, rfl, _, _, rfl, rfl, .inl (by rw [hz]; omega), _, _, rfl, rfl, (by show (0 : Int) < 998244353; decide), _, rfl, _, _, rfl, rfl, hm, ?_⟩
      exact fin _ _ _ (Int.emod_nonneg _ (by omega)) (Int.emod_lt_of_pos _ hm) hd h5 h6
end
end Hue
set_option Elab.async false
set_option linter.all false
set_option maxRecDepth 100000
set_option maxHeartbeats 4000000
namespace Hue
open PySem L2
structure Callee (P : Program) (w : World) (K : PySem.W.Frag) (mg : Str → Option Value) (base : Heap) (k : Nat) (x : Str) (ps : List Str) (sp : Sp) : Prop where
  ex : ∃ f fd, FnOk P w K mg base CX0 k f fd ps sp ∧ mg x = some (.ref f) ∧ PySem.W.keepIn K (.ref f) = true ∧ Binds K fd ps []
theorem pe_def {X : Cx} {k : Nat} {x : Str} {ps : List Str} {sp : Sp} {e : Expr} {es : List Expr} {t : TA} {p pos : Pos} (C : Callee X.prog X.w X.K X.mg X.base k x ps sp) (hr : Room k X.A) (hg : Gl X x) (ha : PA X (e :: es) t)
    (hdb : (x == ("__debug__" : Str)) = false := by decide) (he : starEach (e :: es) X.env = (false, eval e X.env) :: starEach es X.env := by rfl) (hpl : (backTo pos (starEach es X.env)).any (·.1) = false := by rfl) :
    PE X (.Call (.Name x p) (e :: es) [] pos) (tCall sp [] E0 t) := by
  obtain ⟨f, fd, F, hm, hk, hb⟩ := C.ex
  exact pe_call F hr hg hm hk hb .nil pass0 ha hdb he hpl
def tTo (S S' : St → Hp → Prop) : TS := fun D σ H => S σ H ∧ ∀ σ' H', S' σ' H' → D.nx σ' H'
def KeepT (H H' : Hp) : Prop := ∀ b xs, H b = some (.tup xs) → H' b = some (.tup xs)
theorem KeepT.refl (H : Hp) : KeepT H H := fun _ _ h => h
theorem KeepT.trans {H H1 H2 : Hp} (a : KeepT H H1) (b : KeepT H1 H2) : KeepT H H2 := fun c xs h => b c xs (a c xs h)
theorem KeepT.new {H : Hp} {p : Addr} {o : HO} (n : H p = none) : KeepT H (upd H p o) := fun c xs h => by rw [upd_ne (ne_of_none h n)]; exact h
theorem KeepT.lst {H : Hp} {l : Addr} {xs : List V} {o : HO} (n : H l = some (.lst xs)) : KeepT H (upd H l o) := fun c ys h => by rw [upd_ne (ne_of h n (by intro z; cases z))]; exact h
theorem Ext.keepT {t : Addr} {H H' : Hp} (a : Ext t H H') (T : Tape H t) : KeepT H H' := fun b xs h => by
  obtain ⟨d, e, ht, _⟩ := T
  exact a b _ (ne_of h ht (by intro z; cases z)) h
theorem Ext.own {t l : Addr} {H0 H : Hp} {o : HO} (a : Ext t H0 H) (n : H0 l = none) : Ext t H0 (upd H l o) := fun b u ne h => by
  rw [upd_ne (ne_of_none h n)]; exact a b u ne h
theorem Tape.upd {t l : Addr} {H : Hp} {o : HO} (h : Tape H t) (ne : t ≠ l) : Tape (upd H l o) t := h.keep fun u q => by rw [upd_ne ne]; exact q
def PairAt (H : Hp) (m : Int) (v : V) : Prop := ∃ q i j, v = .ref q ∧ H q = some (.tup [.int i, .int j]) ∧ 0 ≤ i ∧ i < m ∧ 0 ≤ j ∧ j < m ∧ i ≠ j
def Pairs (H : Hp) (m : Int) (vs : List V) : Prop := ∀ v ∈ vs, PairAt H m v
theorem PairAt.mono {H H' : Hp} {m : Int} {v : V} (h : PairAt H m v) (k : KeepT H H') : PairAt H' m v := let ⟨q, i, j, e, h, r⟩ := h; ⟨q, i, j, e, k _ _ h, r⟩
theorem Pairs.mono {H H' : Hp} {m : Int} {vs : List V} (h : Pairs H m vs) (k : KeepT H H') : Pairs H' m vs := fun v hv => (h v hv).mono k
theorem Pairs.nil {H : Hp} {m : Int} : Pairs H m [] := fun _ h => nomatch h
theorem Pairs.app {H : Hp} {m : Int} {xs ys : List V} (a : Pairs H m xs) (b : Pairs H m ys) : Pairs H m (xs ++ ys) := fun v hv => (List.mem_append.mp hv).elim (a v) (b v)
theorem Pairs.one {H : Hp} {m : Int} {v : V} (a : PairAt H m v) : Pairs H m [v] := fun u hu => by rw [List.mem_singleton.mp hu]; exact a
theorem pairAt_new {H : Hp} {m i j : Int} {p : Addr} (h1 : 0 ≤ i) (h2 : i < m) (h3 : 0 ≤ j) (h4 : j < m) (h5 : i ≠ j) : PairAt (upd H p (.tup [.int i, .int j])) m (.ref p) := ⟨p, i, j, rfl, upd_same, h1, h2, h3, h4, h5⟩
structure FS (t : Addr) (H0 H : Hp) (l : Addr) (ps : List V) (m : Int) : Prop where
  tape : Tape H t
  ext : Ext t H0 H
  fr : H0 l = none
  ne : t ≠ l
  at' : H l = some (.lst ps)
  prs : Pairs H m ps
section
variable {t l : Addr} {H0 H H' : Hp} {ps : List V} {m : Int}
theorem FS.draw (h : FS t H0 H l ps m) (T : Tape H' t) (e : Ext t H H') : FS t H0 H' l ps m := ⟨T, h.ext.trans e, h.fr, h.ne, e _ _ h.ne.symm h.at', h.prs.mono (e.keepT h.tape)⟩
theorem FS.new {p : Addr} {o : HO} (h : FS t H0 H l ps m) (n : H p = none) : FS t H0 (upd H p o) l ps m :=
  ⟨h.tape.new n, h.ext.new n, h.fr, h.ne, by rw [upd_ne (ne_of_none h.at' n)]; exact h.at', h.prs.mono (.new n)⟩
theorem FS.set {qs : List V} (h : FS t H0 H l ps m) (q : Pairs H m qs) : FS t H0 (upd H l (.lst qs)) l qs m :=
  ⟨h.tape.upd h.ne, h.ext.own h.fr, h.fr, h.ne, upd_same, q.mono (.lst h.at')⟩
theorem FS.lay {p : Addr} {qs : List V} (T : Tape H t) (e : Ext t H0 H) (T0 : Tape H0 t) (n : H p = none) (q : Pairs H m qs) : FS t H0 (upd H p (.lst qs)) p qs m :=
  ⟨T.new n, e.new n, e.free n (T.ne n), (T.ne n).symm, upd_same, q.mono (.new n)⟩
end
theorem FS.oth {t l D : Addr} {H0 H : Hp} {ps xs : List V} {m : Int} {o : HO} (h : FS t H0 H l ps m) (hD : H D = some (.lst xs)) (n0 : H0 D = none) (hne : l ≠ D) (tne : t ≠ D) : FS t H0 (upd H D o) l ps m :=
  ⟨h.tape.upd tne, h.ext.own n0, h.fr, h.ne, by rw [upd_ne hne]; exact h.at', h.prs.mono (.lst hD)⟩
theorem FS.none {t l : Addr} {H0 H : Hp} {m m' : Int} (h : FS t H0 H l [] m) : FS t H0 H l [] m' := ⟨h.tape, h.ext, h.fr, h.ne, h.at', .nil⟩
theorem mod2 {x m : Int} (h0 : 0 ≤ x) (h1 : x < 2 * m) : x % m = if x < m then x else x - m := by
  split
  · exact Int.emod_eq_of_lt h0 (by assumption)
  · have e : x = (x - m) + m * 1 := by omega
    have : x % m = (x - m) % m := by
      conv => lhs; rw [e]
      rw [Int.add_mul_emod_self_left]
    rw [this]
    exact Int.emod_eq_of_lt (by omega) (by omega)
theorem nd_km : ((["_law_k"] : List Str) ++ (["_law_many"] : List Str)).Nodup := by decide +kernel
theorem nd_k : ((["_law_k"] : List Str) ++ ([] : List Str)).Nodup := by decide +kernel
theorem nd_jk : ((["_law_j"] : List Str) ++ (["_law_k"] : List Str)).Nodup := by decide +kernel
theorem nd_jkt : ((["_law_j"] : List Str) ++ (["_law_k", "_law_tape_here"] : List Str)).Nodup := by decide +kernel
theorem eqI {a b : Int} (h : decide (V.int a = V.int b) = true) : a = b := by
  have := of_decide_eq_true h
  injection this
theorem neI {a b : Int} (h : ¬ decide (V.int a = V.int b) = true) : a ≠ b := fun e => h (by rw [e]; simp)
theorem sl3 {n : Nat} (h : n ≤ 1000) : n ≤ sizeLine := Nat.le_of_lt (small1000 h)
theorem compT {i : Nat} {te : TE} {D : Addr} {x : V} {σ' : St} {ys : List V} {N : List V → Hp → Prop} {H : Hp} (h : te (σ'.set i (some x)) H fun v H4 => H4 D = some (.lst ys) ∧ ys.length < sizeLine ∧ N (ys ++ [v]) (upd H4 D (.lst (ys ++ [v])))) :
    CompTurn (gName i) (fun _ H Q => Q true H) te D σ' ys N x H := by
  unfold CompTurn gName
  simp only [if_true]
  exact h
def spPairs : Sp := fun vs H Q _ => ∃ (t : Addr) (g : Bool), vs = [.ref t, .bl g] ∧ Tape H t ∧
  ∀ (p l : Addr) (m : Int) (ps : List V) (H' : Hp), H p = none → H' p = some (.tup [.int m, .ref l]) → FS t H H' l ps m → ps.length ≤ 60 → 0 ≤ m → m ≤ 12 → Q (.ref p) H'
section
variable {P : Program} {w : World} {K : PySem.W.Frag} {mg : Str → Option Value} {base : Heap}
abbrev CDraw (P : Program) (w : World) (K : PySem.W.Frag) (mg : Str → Option Value) (base : Heap) : Prop := Callee P w K mg base 1 "_law_draw" ["_law_tape_here", "_law_many"] spDraw
theorem scPairs : FnScope ["_law_tape_here", "_law_great", "_law_way", "_law_many", "_law_found", "_law_turn", "_law_one", "_law_k", "_law_sides"] ["_law_tape_here", "_law_great"] (defScope sPairs) := ⟨rfl, rfl, rfl, by decide +kernel, rfl, by decide +kernel, by decide +kernel⟩
def PSt (t : Addr) (g : Bool) (H0 : Hp) (j : Int) (σ : St) (H : Hp) : Prop := ∃ (way m : Int) (l : Addr) (ps : List V) (o5 o6 o7 o8 : Option V),
  σ = [some (.ref t), some (.bl g), some (.int way), some (.int m), some (.ref l), o5, o6, o7, o8] ∧ FS t H0 H l ps m ∧ ps.length ≤ 60 ∧ 0 ≤ m ∧ m ≤ 12 ∧ 0 ≤ way ∧ way < 8 ∧ (j ≤ way → ps = [])
theorem ok_pairs {f : Addr} {fd : FuncData} (F : Fun K "_law_pairs_by" "_law_pairs_by" sPairs f fd) (T : Txt K mg) (CD : CDraw P w K mg base) : FnOk P w K mg base CX0 2 f fd ["_law_tape_here", "_law_great"] spPairs := by
  refine F.ok scPairs (fun vs H Q E h => ?_) (fun cdv A outer s H vs Q E hr h => ?_)
  · obtain ⟨t, g, rfl, _⟩ := h; rfl
  · obtain ⟨t, g, rfl, T0, q⟩ := h
    refine ⟨_, pss_cons (ps_set (i := 2) scPairs.nd rfl (Or.inl rfl) (pe_def CD hr (by rfl) (pa_cons (pv 0) (pa_cons pe_int pa_nil))))
      (pss_cons (ps_set (i := 3) scPairs.nd rfl (Or.inr rfl) (pe_ix ix_list (pe_lst (pa_cons (pe_def CD hr (by rfl) (pa_cons (pv 0) (pa_cons pe_int pa_nil))) (pa_cons (pe_op op_add pe_int (pe_def CD hr (by rfl) (pa_cons (pv 0) (pa_cons pe_int pa_nil)))) pa_nil)))
        (pe_callTy call_int1 (by rfl) T.int b_int (pa_cons (pv 1) pa_nil)) (fun _ _ => rfl)))
      (pss_cons (ps_set (i := 4) scPairs.nd rfl (Or.inl rfl) (pe_lst pa_nil))
      (pss_cons (ps_via (tTo (PSt t g H 0) (PSt t g H 3)) (ps_if (pw_and (pt_cmpR op_lt (pv 2) pe_int (nomark _)) (pw_and1 (pt_cmpR op_gt (pv 3) pe_int (nomark _)))).pt
          (pss_one (ps_for PassesOwn.never rfl (pi_range1 (by rfl) T.range (pa_cons (pe_def CD hr (by rfl) (pa_cons (pv 0) (pa_cons (pe_op op_add (pe_op op_mul pe_int (pv 3)) pe_int) pa_nil))) pa_nil)) (pg_name (i := 5) scPairs.nd rfl (Or.inl rfl))
            (pss_cons (ps_set (i := 6) scPairs.nd rfl (Or.inl rfl) (pe_def CD hr (by rfl) (pa_cons (pv 0) (pa_cons (pv 3) pa_nil))))
            (pss_one (ps_expr (pe_bm PySem.F.plainAttrs_list PySem.F.slot_list_append PySem.F.type_list_append mt_append (pv 4) (pa_cons (pe_tup (pa_cons (pv 6) (pa_cons (pe_op op_mod (pe_op op_add (pe_op op_add (pv 6) pe_int) (pe_def CD hr (by rfl) (pa_cons (pv 0) (pa_cons (pe_op op_sub (pv 3) pe_int) pa_nil)))) (pv 3)) pa_nil))) pa_nil))))))) pss_nil) ?i1)
      (pss_cons (ps_via (tTo (PSt t g H 3) (PSt t g H 4)) (ps_if (pw_and (pt_cmpR op_eq (pv 2) pe_int (nomark _)) (pw_and1 (pt_cmpR op_gt (pv 3) pe_int (nomark _)))).pt
          (pss_one (ps_set (i := 4) scPairs.nd rfl (Or.inl rfl) (pe_op op_cat (pe_comp ["_law_k"] ["_law_many"] [3] (pi_range1 (by rfl) T.range (pa_cons (pv 3) pa_nil)) (fun _ _ _ _ _ => pg_name (i := 0) nd_km rfl (Or.inl rfl)) (fun _ _ _ _ _ => pifs_nil)
              (fun _ _ _ _ _ => pe_tup (pa_cons (pv 0) (pa_cons (pe_op op_mod (pe_op op_add (pv 0) pe_int) (pv 1)) pa_nil))))
            (pe_lst (pa_cons (pe_tup (pa_cons pe_int (pa_cons (pe_op op_add (pe_def CD hr (by rfl) (pa_cons (pv 0) (pa_cons (pe_op op_sub (pv 3) pe_int) pa_nil))) pe_int) pa_nil))) pa_nil))))) pss_nil) ?i2)
      (pss_cons (ps_via (tTo (PSt t g H 4) (PSt t g H 5)) (ps_if (pw_and (pt_cmpR op_eq (pv 2) pe_int (nomark _)) (pw_and1 (pt_cmpR op_gt (pv 3) pe_int (nomark _)))).pt
          (pss_one (ps_setComp (i := 4) ["_law_k"] [] [] scPairs.nd rfl rfl (pi_range2 (by rfl) T.range (pa_cons pe_int (pa_cons (pv 3) pa_nil))) (fun _ _ _ _ _ => pg_name (i := 0) nd_k rfl (Or.inl rfl)) (fun _ _ _ _ _ => pifs_nil)
              (fun _ _ _ _ _ => pe_tup (pa_cons pe_int (pa_cons (pv 0) pa_nil))))) pss_nil) ?i3)
      (pss_cons (ps_via (tTo (PSt t g H 5) (PSt t g H 6)) (ps_if (pt_cmpR op_eq (pv 2) pe_int (nomark _))
          (pss_cons (ps_set (i := 3) scPairs.nd rfl (Or.inr rfl) (pe_callB (call_min2 rfl) (by rfl) T.min b_min (pa_cons (pv 3) (pa_cons (pe_op op_add pe_int (pe_callTy call_int1 (by rfl) T.int b_int (pa_cons (pv 1) pa_nil))) pa_nil))))
          (pss_one (ps_for PassesOwn.never rfl (pi_range1 (by rfl) T.range (pa_cons (pv 3) pa_nil)) (pg_name (i := 7) scPairs.nd rfl (Or.inr rfl))
            (pss_one (ps_expr (pe_bm PySem.F.plainAttrs_list PySem.F.slot_list_extend PySem.F.type_list_extend mt_extend (pv 4) (pa_cons (pe_comp ["_law_j"] ["_law_k"] [7] (pi_range1 (by rfl) T.range (pa_cons (pv 7) pa_nil)) (fun _ _ _ _ _ => pg_name (i := 0) nd_jk rfl (Or.inl rfl)) (fun _ _ _ _ _ => pifs_nil)
              (fun _ _ _ _ _ => pe_tup (pa_cons (pv 0) (pa_cons (pv 1) pa_nil)))) pa_nil))))))) pss_nil) ?i4)
      (pss_cons (ps_via (tTo (PSt t g H 6) (PSt t g H 7)) (ps_if (pt_cmpR op_eq (pv 2) pe_int (nomark _))
          (pss_cons (ps_set (i := 8) scPairs.nd rfl (Or.inl rfl) (pe_op op_add pe_int (pe_op op_fdiv (pv 3) pe_int)))
          (pss_one (ps_for PassesOwn.never rfl (pi_range1 (by rfl) T.range (pa_cons (pv 8) pa_nil)) (pg_name (i := 7) scPairs.nd rfl (Or.inr rfl))
            (pss_one (ps_expr (pe_bm PySem.F.plainAttrs_list PySem.F.slot_list_extend PySem.F.type_list_extend mt_extend (pv 4) (pa_cons (pe_comp ["_law_j"] ["_law_k", "_law_tape_here"] [7, 0] (pi_range2 (by rfl) T.range (pa_cons (pv 8) (pa_cons (pv 3) pa_nil))) (fun _ _ _ _ _ => pg_name (i := 0) nd_jkt rfl (Or.inl rfl))
              (fun _ _ _ _ _ => pifs_one (pt_cmpR op_gt (pe_def CD hr (by rfl) (pa_cons (pv 2) (pa_cons pe_int pa_nil))) pe_int (nomark _)))
              (fun _ _ _ _ _ => pe_tup (pa_cons (pv 1) (pa_cons (pv 0) pa_nil)))) pa_nil))))))) pss_nil) ?i5)
      (pss_cons (ps_via (tTo (PSt t g H 7) (PSt t g H 8)) (ps_if (pt_cmpR op_eq (pv 2) pe_int (nomark _))
          (pss_cons (ps_set (i := 3) scPairs.nd rfl (Or.inr rfl) (pe_op op_add pe_int (pe_op op_fdiv (pv 3) pe_int)))
          (pss_one (ps_for PassesOwn.never rfl (pi_range1 (by rfl) T.range (pa_cons pe_int pa_nil)) (pg_name (i := 7) scPairs.nd rfl (Or.inr rfl))
            (pss_one (ps_expr (pe_bm PySem.F.plainAttrs_list PySem.F.slot_list_extend PySem.F.type_list_extend mt_extend (pv 4) (pa_cons (pe_op op_rep (pe_lst (pa_cons (pe_tup (pa_cons (pv 7) (pa_cons (pe_op op_mod (pe_op op_add (pv 7) pe_int) pe_int) pa_nil))) pa_nil))
              (pe_op op_add pe_int (pe_def CD hr (by rfl) (pa_cons (pv 0) (pa_cons pe_int pa_nil))))) pa_nil))))))) pss_nil) ?i6)
      (pss_one (ps_ret (pe_tup (pa_cons (pv 3) (pa_cons (pv 4) pa_nil))))))))))))), ?_⟩
    case i1 =>
      rintro D σ Hx ⟨⟨way, m, l, ps, o5, o6, o7, o8, rfl, fs, hl, hm0, hm1, hw0, hw1, hj⟩, kn⟩
      obtain rfl : ps = [] := hj hw0
      have out : D.nx [some (.ref t), some (.bl g), some (.int way), some (.int m), some (.ref l), o5, o6, o7, o8] Hx := kn _ _ ⟨way, m, l, [], _, _, _, _, rfl, fs, hl, hm0, hm1, hw0, hw1, fun _ => rfl⟩
      refine ⟨_, rfl, _, _, rfl, rfl, _, rfl, ?_⟩
      refine ite2 (fun h1 => ?_) (fun h1 => iteF out)
      have h1 := of_decide_eq_true h1
      refine ⟨_, rfl, _, _, rfl, rfl, _, rfl, ?_⟩
      refine ite2 (fun h2 => ?_) (fun h2 => out)
      have h2 := of_decide_eq_true h2
      refine ⟨_, rfl, _, rfl, _, _, rfl, rfl, .inl ⟨by decide, by decide⟩, _, _, rfl, rfl, t, _, rfl, fs.tape, by omega, by omega, fun r H1 hr0 hr1 T1 E1 => ?_⟩
      refine ⟨r, rfl, by omega, by omega, for_range (lo := 0) (n := r.toNat) (fun i σ H2 => ∃ (ps' : List V) (o5 o6 : Option V), σ = [some (.ref t), some (.bl g), some (.int way), some (.int m), some (.ref l), o5, o6, o7, o8] ∧ FS t H H2 l ps' m ∧ ps'.length ≤ i)
        ⟨[], o5, o6, rfl, fs.draw T1 E1, Nat.le_refl _⟩ ?_ ?_⟩
      · rintro i σ H2 hi ⟨ps', o5', o6', rfl, fs', hl'⟩
        refine ⟨_, rfl, _, rfl, t, _, rfl, fs'.tape, by omega, by omega, fun a H3 ha0 ha1 T3 E3 => ?_⟩
        have fs3 := fs'.draw T3 E3
        refine ⟨_, rfl, .inl ⟨rfl, _, SqL.of fs3.at'⟩, _, rfl, _, rfl, _, _, rfl, rfl, _, rfl, _, rfl, _, _, rfl, rfl, t, _, rfl, fs3.tape, by omega, by omega, fun b H4 hb0 hb1 T4 E4 => ?_⟩
        have fs4 := fs3.draw T4 E4
        refine ⟨_, _, rfl, rfl, _, rfl, _, _, rfl, rfl, (show (0 : Int) < m by omega), by show 2 ≤ sizeLine; decide, fun p hp => ?_⟩
        have fs5 := fs4.new (o := .tup [.int a, .int ((a + 1 + b) % m)]) hp
        have e := mod2 (x := a + 1 + b) (m := m) (by omega) (by omega)
        have pr : PairAt (upd H4 p (.tup [.int a, .int ((a + 1 + b) % m)])) m (.ref p) := pairAt_new ha0 ha1 (by rw [e]; split <;> omega) (by rw [e]; split <;> omega) (by rw [e]; split <;> omega)
        refine ⟨l, ps', _, rfl, rfl, fs5.at', small1000 (by omega), ?_⟩
        exact ⟨ps' ++ [.ref p], _, _, rfl, fs5.set (fs5.prs.app (.one pr)), by rw [List.length_append, List.length_singleton]; omega⟩
      · rintro σ H2 ⟨ps', o5', o6', rfl, fs', hl'⟩
        exact kn _ _ ⟨way, m, l, ps', _, _, _, _, rfl, fs', by omega, hm0, hm1, hw0, hw1, fun h => absurd h (by omega)⟩
    case i2 =>
      rintro D σ Hx ⟨⟨way, m, l, ps, o5, o6, o7, o8, rfl, fs, hl, hm0, hm1, hw0, hw1, hj⟩, kn⟩
      have out : ¬ way = 3 ∨ ps = [] → D.nx [some (.ref t), some (.bl g), some (.int way), some (.int m), some (.ref l), o5, o6, o7, o8] Hx := fun hn => kn _ _ ⟨way, m, l, ps, _, _, _, _, rfl, fs, hl, hm0, hm1, hw0, hw1, fun h => by
        rcases hn with hn | hn
        · exact hj (by omega)
        · exact hn⟩
      refine ⟨_, rfl, rfl, _, rfl, ?_⟩
      refine ite2 (fun h1 => ?_) (fun h1 => iteF (out (.inl (neI h1))))
      have h1 := eqI h1
      refine ⟨_, rfl, _, _, rfl, rfl, _, rfl, ?_⟩
      refine ite2 (fun h2 => ?_) (fun h2 => out (.inr (hj (by omega))))
      have h2 := of_decide_eq_true h2
      refine ⟨_, rfl, m, rfl, by omega, by omega, fun Dl hD => comp_range (lo := 0) (n := m.toNat) (fun i ys H2 => FS t H H2 Dl ys m ∧ ys.length ≤ i) ⟨FS.lay fs.tape fs.ext T0 hD .nil, Nat.le_refl _⟩ ?_ ?_⟩
      · rintro i ys H2 hi ⟨fs', hl'⟩
        refine compT ?_
        refine ⟨_, rfl, _, rfl, _, _, rfl, rfl, _, rfl, _, _, rfl, rfl, (show (0 : Int) < m by omega), by show 2 ≤ sizeLine; decide, fun p hp => ?_⟩
        have fs5 := fs'.new (o := .tup [.int (0 + (i : Int)), .int ((0 + (i : Int) + 1) % m)]) hp
        have e := mod2 (x := 0 + (i : Int) + 1) (m := m) (by omega) (by omega)
        have pr : PairAt (upd H2 p (.tup [.int (0 + (i : Int)), .int ((0 + (i : Int) + 1) % m)])) m (.ref p) := pairAt_new (by omega) (by omega) (by rw [e]; split <;> omega) (by rw [e]; split <;> omega) (by rw [e]; split <;> omega)
        exact ⟨fs5.at', small1000 (by omega), fs5.set (fs5.prs.app (.one pr)), by rw [List.length_append, List.length_singleton]; omega⟩
      · rintro ys H2 ⟨fs', hl'⟩
        refine ⟨_, rfl, _, rfl, _, _, rfl, rfl, t, _, rfl, fs'.tape, by omega, by omega, fun b H4 hb0 hb1 T4 E4 => ?_⟩
        have fs4 := fs'.draw T4 E4
        refine ⟨_, _, rfl, rfl, by show 2 ≤ sizeLine; decide, fun p hp => ?_⟩
        have fs5 := fs4.new (o := .tup [.int 0, .int (b + 1)]) hp
        have pr : PairAt (upd H4 p (.tup [.int 0, .int (b + 1)])) m (.ref p) := pairAt_new (by omega) (by omega) (by omega) (by omega) (by omega)
        refine ⟨by show 1 ≤ sizeLine; decide, fun l2 hl2 => ?_⟩
        have fs6 := fs5.new (o := .lst [.ref p]) hl2
        refine ⟨Dl, l2, ys, [.ref p], rfl, rfl, fs6.at', upd_same, sl3 (by show ys.length + 1 ≤ 1000; omega), fun q2 hq2 => ?_⟩
        refine kn _ _ ⟨way, m, q2, ys ++ [.ref p], _, _, _, _, rfl, FS.lay fs6.tape fs6.ext T0 hq2 (fs6.prs.app (.one (pr.mono (.new hl2)))), by rw [List.length_append, List.length_singleton]; omega, hm0, hm1, hw0, hw1, fun h => absurd h (by omega)⟩
    case i3 =>
      rintro D σ Hx ⟨⟨way, m, l, ps, o5, o6, o7, o8, rfl, fs, hl, hm0, hm1, hw0, hw1, hj⟩, kn⟩
      have out : ¬ way = 4 ∨ ps = [] → D.nx [some (.ref t), some (.bl g), some (.int way), some (.int m), some (.ref l), o5, o6, o7, o8] Hx := fun hn => kn _ _ ⟨way, m, l, ps, _, _, _, _, rfl, fs, hl, hm0, hm1, hw0, hw1, fun h => by
        rcases hn with hn | hn
        · exact hj (by omega)
        · exact hn⟩
      refine ⟨_, rfl, rfl, _, rfl, ?_⟩
      refine ite2 (fun h1 => ?_) (fun h1 => iteF (out (.inl (neI h1))))
      have h1 := eqI h1
      refine ⟨_, rfl, _, _, rfl, rfl, _, rfl, ?_⟩
      refine ite2 (fun h2 => ?_) (fun h2 => out (.inr (hj (by omega))))
      have h2 := of_decide_eq_true h2
      refine ⟨_, rfl, 1, m, rfl, ⟨by decide, by decide, by omega, by omega⟩, fun Dl hD => comp_range (lo := 1) (n := (m - 1).toNat) (fun i ys H2 => FS t H H2 Dl ys m ∧ ys.length ≤ i) ⟨FS.lay fs.tape fs.ext T0 hD .nil, Nat.le_refl _⟩ ?_ ?_⟩
      · rintro i ys H2 hi ⟨fs', hl'⟩
        refine compT ?_
        refine ⟨_, rfl, by show 2 ≤ sizeLine; decide, fun p hp => ?_⟩
        have fs5 := fs'.new (o := .tup [.int 0, .int (1 + (i : Int))]) hp
        have pr : PairAt (upd H2 p (.tup [.int 0, .int (1 + (i : Int))])) m (.ref p) := pairAt_new (by omega) (by omega) (by omega) (by omega) (by omega)
        exact ⟨fs5.at', small1000 (by omega), fs5.set (fs5.prs.app (.one pr)), by rw [List.length_append, List.length_singleton]; omega⟩
      · rintro ys H2 ⟨fs', hl'⟩
        exact kn _ _ ⟨way, m, Dl, ys, _, _, _, _, rfl, fs', by omega, hm0, hm1, hw0, hw1, fun h => absurd h (by omega)⟩
    case i4 =>
      rintro D σ Hx ⟨⟨way, m, l, ps, o5, o6, o7, o8, rfl, fs, hl, hm0, hm1, hw0, hw1, hj⟩, kn⟩
      refine ⟨_, rfl, rfl, _, rfl, ?_⟩
      refine ite2 (fun h1 => ?_) (fun h1 => kn _ _ ⟨way, m, l, ps, _, _, _, _, rfl, fs, hl, hm0, hm1, hw0, hw1, fun h => hj (by have := neI h1; omega)⟩)
      have h1 := eqI h1
      obtain rfl : ps = [] := hj (by omega)
      refine ⟨_, rfl, _, rfl, .inr ⟨g, rfl, _, _, rfl, rfl, m, _, rfl, ?_⟩⟩
      obtain ⟨m', em, hm'0, hm'1⟩ : ∃ m' : Int, (if (5 + if g = true then (1 : Int) else 0) < m then (5 + if g = true then (1 : Int) else 0) else m) = m' ∧ 0 ≤ m' ∧ m' ≤ 6 := ⟨_, rfl, by split <;> (try split) <;> omega, by split <;> (try split) <;> omega⟩
      rw [em]
      refine ⟨_, rfl, m', rfl, by omega, by omega, for_range (lo := 0) (n := m'.toNat) (fun i σ H2 => ∃ (ps' : List V) (o7 : Option V), σ = [some (.ref t), some (.bl g), some (.int way), some (.int m'), some (.ref l), o5, o6, o7, o8] ∧ FS t H H2 l ps' m' ∧ ps'.length ≤ 6 * i)
        ⟨[], o7, rfl, fs.none, Nat.zero_le _⟩ ?_ ?_⟩
      · rintro i σ H2 hi ⟨ps', o7', rfl, fs', hl'⟩
        refine ⟨_, rfl, .inl ⟨rfl, _, SqL.of fs'.at'⟩, _, rfl, 0 + (i : Int), rfl, by omega, by omega, fun Dl hD => comp_range (lo := 0) (n := (0 + (i : Int)).toNat) (fun k ys H3 => FS t H H3 l ps' m' ∧ FS t H H3 Dl ys m' ∧ ys.length ≤ k ∧ l ≠ Dl)
          ⟨fs'.new hD, FS.lay fs'.tape fs'.ext T0 hD .nil, Nat.le_refl _, ne_of_none fs'.at' hD⟩ ?_ ?_⟩
        · rintro k ys H3 hk ⟨fl, fd', hly, hne⟩
          refine compT ?_
          refine ⟨_, rfl, _, rfl, by show 2 ≤ sizeLine; decide, fun p hp => ?_⟩
          have f5 := fd'.new (o := .tup [.int (0 + (k : Int)), .int (0 + (i : Int))]) hp
          have g5 := fl.new (o := .tup [.int (0 + (k : Int)), .int (0 + (i : Int))]) hp
          have pr : PairAt (upd H3 p (.tup [.int (0 + (k : Int)), .int (0 + (i : Int))])) m' (.ref p) := pairAt_new (by omega) (by omega) (by omega) (by omega) (by omega)
          exact ⟨f5.at', small1000 (by omega), g5.oth f5.at' f5.fr hne f5.ne, f5.set (f5.prs.app (.one pr)), by rw [List.length_append, List.length_singleton]; omega, hne⟩
        · rintro ys H3 ⟨fl, fd', hly, hne⟩
          refine ⟨l, Dl, ps', ys, rfl, rfl, fl.at', fd'.at', sl3 (by omega), ?_⟩
          exact ⟨ps' ++ ys, _, rfl, fl.set (fl.prs.app fd'.prs), by rw [List.length_append]; omega⟩
      · rintro σ H2 ⟨ps', o7', rfl, fs', hl'⟩
        exact kn _ _ ⟨way, m', l, ps', _, _, _, _, rfl, fs', by omega, hm'0, by omega, hw0, hw1, fun h => absurd h (by omega)⟩
    case i5 =>
      rintro D σ Hx ⟨⟨way, m, l, ps, o5, o6, o7, o8, rfl, fs, hl, hm0, hm1, hw0, hw1, hj⟩, kn⟩
      refine ⟨_, rfl, rfl, _, rfl, ?_⟩
      refine ite2 (fun h1 => ?_) (fun h1 => kn _ _ ⟨way, m, l, ps, _, _, _, _, rfl, fs, hl, hm0, hm1, hw0, hw1, fun h => hj (by have := neI h1; omega)⟩)
      have h1 := eqI h1
      obtain rfl : ps = [] := hj (by omega)
      refine ⟨_, rfl, _, _, rfl, rfl, ⟨by decide, by decide⟩, _, _, rfl, rfl, ?_⟩
      obtain ⟨sd, es, hs0, hs1⟩ : ∃ sd : Int, 1 + m / 2 = sd ∧ 1 ≤ sd ∧ sd ≤ 7 := ⟨_, rfl, by omega, by omega⟩
      refine ⟨_, rfl, sd, congrArg (fun z => [V.int z]) es, by omega, by omega, for_range (lo := 0) (n := sd.toNat) (fun i σ H2 => ∃ (ps' : List V) (o7 : Option V), σ = [some (.ref t), some (.bl g), some (.int way), some (.int m), some (.ref l), o5, o6, o7, some (.int sd)] ∧ FS t H H2 l ps' m ∧ ps'.length ≤ 5 * i)
        ⟨[], o7, by rw [← es]; rfl, fs, Nat.zero_le _⟩ ?_ ?_⟩
      · rintro i σ H2 hi ⟨ps', o7', rfl, fs', hl'⟩
        refine ⟨_, rfl, .inl ⟨rfl, _, SqL.of fs'.at'⟩, _, rfl, _, rfl, sd, m, rfl, ⟨by omega, by omega, by omega, by omega⟩, fun Dl hD => comp_range (lo := sd) (n := (m - sd).toNat) (fun k ys H3 => FS t H H3 l ps' m ∧ FS t H H3 Dl ys m ∧ ys.length ≤ k ∧ l ≠ Dl)
          ⟨fs'.new hD, FS.lay fs'.tape fs'.ext T0 hD .nil, Nat.le_refl _, ne_of_none fs'.at' hD⟩ ?_ ?_⟩
        · rintro k ys H3 hk ⟨fl, fd', hly, hne⟩
          refine ⟨_, rfl, t, 3, rfl, fd'.tape, by decide, by decide, fun r H4 hr0 hr1 T4 E4 => ?_⟩
          have fl4 := fl.draw T4 E4
          have fd4 := fd'.draw T4 E4
          refine ⟨_, _, rfl, rfl, _, rfl, ?_⟩
          refine ite2 (fun _ => ?_) (fun _ => ⟨fl4, fd4, by omega, hne⟩)
          refine ⟨_, rfl, _, rfl, by show 2 ≤ sizeLine; decide, fun p hp => ?_⟩
          have f5 := fd4.new (o := .tup [.int (0 + (i : Int)), .int (sd + (k : Int))]) hp
          have g5 := fl4.new (o := .tup [.int (0 + (i : Int)), .int (sd + (k : Int))]) hp
          have pr : PairAt (upd H4 p (.tup [.int (0 + (i : Int)), .int (sd + (k : Int))])) m (.ref p) := pairAt_new (by omega) (by omega) (by omega) (by omega) (by omega)
          exact ⟨f5.at', small1000 (by omega), g5.oth f5.at' f5.fr hne f5.ne, f5.set (f5.prs.app (.one pr)), by rw [List.length_append, List.length_singleton]; omega, hne⟩
        · rintro ys H3 ⟨fl, fd', hly, hne⟩
          refine ⟨l, Dl, ps', ys, rfl, rfl, fl.at', fd'.at', sl3 (by omega), ?_⟩
          exact ⟨ps' ++ ys, _, rfl, fl.set (fl.prs.app fd'.prs), by rw [List.length_append]; omega⟩
      · rintro σ H2 ⟨ps', o7', rfl, fs', hl'⟩
        exact kn _ _ ⟨way, m, l, ps', _, _, _, _, rfl, fs', by omega, hm0, hm1, hw0, hw1, fun h => absurd h (by omega)⟩
    case i6 =>
      rintro D σ Hx ⟨⟨way, m, l, ps, o5, o6, o7, o8, rfl, fs, hl, hm0, hm1, hw0, hw1, hj⟩, kn⟩
      refine ⟨_, rfl, rfl, _, rfl, ?_⟩
      refine ite2 (fun h1 => ?_) (fun h1 => kn _ _ ⟨way, m, l, ps, _, _, _, _, rfl, fs, hl, hm0, hm1, hw0, hw1, fun h => hj (by omega)⟩)
      have h1 := eqI h1
      obtain rfl : ps = [] := hj (by omega)
      refine ⟨_, rfl, _, _, rfl, rfl, ⟨by decide, by decide⟩, _, _, rfl, rfl, ?_⟩
      obtain ⟨m', em, hm'0, hm'1⟩ : ∃ m' : Int, 3 + m / 3 = m' ∧ 3 ≤ m' ∧ m' ≤ 12 := ⟨_, rfl, by omega, by omega⟩
      refine ⟨3, rfl, by decide, by decide, for_range (lo := 0) (n := 3) (fun i σ H2 => ∃ (ps' : List V) (o7 : Option V), σ = [some (.ref t), some (.bl g), some (.int way), some (.int m'), some (.ref l), o5, o6, o7, o8] ∧ FS t H H2 l ps' m' ∧ ps'.length ≤ 3 * i)
        ⟨[], o7, by rw [← em]; rfl, fs.none, Nat.zero_le _⟩ ?_ ?_⟩
      · rintro i σ H2 hi ⟨ps', o7', rfl, fs', hl'⟩
        refine ⟨_, rfl, .inl ⟨rfl, _, SqL.of fs'.at'⟩, _, rfl, _, rfl, _, _, rfl, rfl, _, _, rfl, rfl, (by show (0 : Int) < 3; decide), by show 2 ≤ sizeLine; decide, fun p hp => ?_⟩
        have f5 := fs'.new (o := .tup [.int (0 + (i : Int)), .int ((0 + (i : Int) + 1) % 3)]) hp
        have pr : PairAt (upd H2 p (.tup [.int (0 + (i : Int)), .int ((0 + (i : Int) + 1) % 3)])) m' (.ref p) := pairAt_new (by omega) (by omega) (by omega) (by omega) (by omega)
        refine ⟨by show 1 ≤ sizeLine; decide, fun l2 hl2 => ?_⟩
        have f6 := f5.new (o := .lst [.ref p]) hl2
        refine ⟨_, rfl, t, 3, rfl, f6.tape, by decide, by decide, fun b H4 hb0 hb1 T4 E4 => ?_⟩
        have f7 := f6.draw T4 E4
        have hl2' : H4 l2 = some (.lst [.ref p]) := E4 _ _ (f5.tape.ne hl2) upd_same
        have pr7 : PairAt H4 m' (.ref p) := (pr.mono (.new hl2)).mono (E4.keepT f6.tape)
        refine ⟨_, _, rfl, rfl, l2, 1 + b, [.ref p], rfl, rfl, hl2', by omega, by omega, sl3 (by show 1 * (1 + b).toNat ≤ 1000; omega), fun q2 hq2 => ?_⟩
        have f8 := f7.new (o := .lst (List.replicate (1 + b).toNat [V.ref p]).flatten) hq2
        have hlen : (List.replicate (1 + b).toNat [V.ref p]).flatten.length = (1 + b).toNat := by rw [len_rep]; simp
        refine ⟨l, q2, ps', _, rfl, rfl, f8.at', upd_same, sl3 (by rw [hlen]; omega), ?_⟩
        refine ⟨_, _, rfl, f8.set (f8.prs.app fun v hv => ?_), by rw [List.length_append, hlen]; omega⟩
        obtain ⟨x, hx, hvx⟩ := List.mem_flatten.mp hv
        have ex := List.eq_of_mem_replicate hx
        subst ex
        rw [List.mem_singleton.mp hvx]
        exact pr7.mono (.new hq2)
      · rintro σ H2 ⟨ps', o7', rfl, fs', hl'⟩
        exact kn _ _ ⟨way, m', l, ps', _, _, _, _, rfl, fs', by omega, by omega, hm'1, hw0, hw1, fun h => absurd h (by omega)⟩
    -- the whole
    refine ⟨_, rfl, t, 8, rfl, T0, by decide, by decide, fun way H1 hw0 hw1 T1 E1 => ?_⟩
    refine ⟨_, rfl, t, 7, rfl, T1, by decide, by decide, fun a H2 ha0 ha1 T2 E2 => ?_⟩
    refine ⟨_, rfl, t, 6, rfl, T2, by decide, by decide, fun b H3 hb0 hb1 T3 E3 => ?_⟩
    refine ⟨_, _, rfl, rfl, by show 2 ≤ sizeLine; decide, fun p hp => ?_⟩
    have E4 : Ext t H (upd H3 p (.lst [.int a, .int (7 + b)])) := ((E1.trans E2).trans E3).new hp
    have T4 : Tape (upd H3 p (.lst [.int a, .int (7 + b)])) t := T3.new hp
    refine ⟨_, rfl, .inr ⟨g, rfl, ?_⟩⟩
    obtain ⟨m, hm, hm0, hm1⟩ : ∃ m : Int, atI [V.int a, V.int (7 + b)] (if g = true then 1 else 0) = some (.int m) ∧ 0 ≤ m ∧ m ≤ 12 := by
      cases g
      · exact ⟨a, rfl, by omega, by omega⟩
      · exact ⟨7 + b, rfl, by omega, by omega⟩
    refine ⟨p, _, _, _, rfl, rfl, SqL.of upd_same, hm, ?_⟩
    refine ⟨by show 0 ≤ sizeLine; decide, fun l hl => ?_⟩
    refine ⟨⟨way, m, l, [], none, none, none, none, rfl, FS.lay T4 E4 T0 hl .nil, Nat.zero_le _, hm0, hm1, hw0, hw1, fun _ => rfl⟩, fun _ _ h => ⟨h, fun _ _ h => ⟨h, fun _ _ h => ⟨h, fun _ _ h => ⟨h, fun _ _ h => ⟨h, ?_⟩⟩⟩⟩⟩⟩
    rintro σ H5 ⟨way, m, l, ps, o5, o6, o7, o8, rfl, fs, hl, hm0, hm1, _, _, _⟩
    refine ⟨_, rfl, _, rfl, by show 2 ≤ sizeLine; decide, fun p5 hp5 => ?_⟩
    exact q p5 l m ps _ (fs.ext.free hp5 (fs.tape.ne hp5)) upd_same (fs.new hp5) hl hm0 hm1
end
end Hue
set_option Elab.async false
set_option linter.all false
set_option maxRecDepth 100000
set_option maxHeartbeats 4000000
namespace Hue
open PySem L2
section
variable {X : Cx} {K : PySem.W.Frag}
theorem ix_listK (hK : X.K = K) : IxR X (rIxL K) := hK ▸ ix_list
theorem ix_tupK (hK : X.K = K) : IxR X (rIxT K) := hK ▸ ix_tup
theorem call_lenK (hK : X.K = K) : CallR X (.builtin "len") (fun xs H Q => ∃ p ys, xs = [.ref p] ∧ (SqL K H p ys ∨ SqT K H p ys) ∧ Q (.int ys.length) H) := hK ▸ call_len_seq
theorem op_inK (hK : X.K = K) : OpR X (compareOp .In) (rIn K false) := hK ▸ op_in_seq
end
structure GS (t : Addr) (H0 H : Hp) (l : Addr) (vs : List V) : Prop where
  tape : Tape H t
  ext : Ext t H0 H
  fr : H0 l = none
  ne : t ≠ l
  at' : H l = some (.lst vs)
section
variable {t l : Addr} {H0 H H' : Hp} {ps : List V}
theorem GS.draw (h : GS t H0 H l ps) (T : Tape H' t) (e : Ext t H H') : GS t H0 H' l ps := ⟨T, h.ext.trans e, h.fr, h.ne, e _ _ h.ne.symm h.at'⟩
theorem GS.new {p : Addr} {o : HO} (h : GS t H0 H l ps) (n : H p = none) : GS t H0 (upd H p o) l ps :=
  ⟨h.tape.new n, h.ext.new n, h.fr, h.ne, by rw [upd_ne (ne_of_none h.at' n)]; exact h.at'⟩
theorem GS.set {qs : List V} (h : GS t H0 H l ps) : GS t H0 (upd H l (.lst qs)) l qs := ⟨h.tape.upd h.ne, h.ext.own h.fr, h.fr, h.ne, upd_same⟩
theorem GS.oth {D : Addr} {xs : List V} {o : HO} (h : GS t H0 H l ps) (n0 : H0 D = none) (hne : l ≠ D) (tne : t ≠ D) : GS t H0 (upd H D o) l ps :=
  ⟨h.tape.upd tne, h.ext.own n0, h.fr, h.ne, by rw [upd_ne hne]; exact h.at'⟩
theorem GS.lay {p : Addr} {qs : List V} (T : Tape H t) (e : Ext t H0 H) (n : H p = none) : GS t H0 (upd H p (.lst qs)) p qs := ⟨T.new n, e.new n, e.free n (T.ne n), (T.ne n).symm, upd_same⟩
theorem FS.up {H1 : Hp} {m : Int} (h : FS t H H' l ps m) (e : Ext t H0 H) : FS t H0 H' l ps m := ⟨h.tape, e.trans h.ext, e.free h.fr h.ne.symm, h.ne, h.at', h.prs⟩
end
def TieAt (H : Hp) (m : Int) (v : V) : Prop := ∃ q i j, v = .ref q ∧ H q = some (.tup [.int i, .int j]) ∧ 0 ≤ i ∧ i < j ∧ j < m
def Ties (H : Hp) (m : Int) (vs : List V) : Prop := ∀ v ∈ vs, TieAt H m v
theorem TieAt.mono {H H' : Hp} {m : Int} {v : V} (h : TieAt H m v) (k : KeepT H H') : TieAt H' m v := let ⟨q, i, j, e, h, r⟩ := h; ⟨q, i, j, e, k _ _ h, r⟩
theorem Ties.mono {H H' : Hp} {m : Int} {vs : List V} (h : Ties H m vs) (k : KeepT H H') : Ties H' m vs := fun v hv => (h v hv).mono k
def WebAt (H : Hp) (w : Addr) (m : Int) (vs : List V) : Prop := ∃ ts, H w = some (.tup [.int m, .ref ts]) ∧ H ts = some (.tup vs) ∧ Ties H m vs ∧ vs.length ≤ 63 ∧ 0 ≤ m ∧ m ≤ 12
theorem WebAt.mono {H H' : Hp} {w : Addr} {m : Int} {vs : List V} (h : WebAt H w m vs) (k : KeepT H H') : WebAt H' w m vs := let ⟨ts, a, b, c, r⟩ := h; ⟨ts, k _ _ a, k _ _ b, c.mono k, r⟩
def spWeb : Sp := fun vs H Q _ => ∃ (t : Addr) (g : Bool), vs = [.ref t, .bl g] ∧ Tape H t ∧ ∀ (w : Addr) (m : Int) (vs : List V) (H' : Hp), WebAt H' w m vs → Tape H' t → Ext t H H' → Q (.ref w) H'
theorem nd_tpt : ((["_law_turn"] : List Str) ++ (["_law_pairs", "_law_tape_here"] : List Str)).Nodup := by decide +kernel
section
variable {P : Program} {w : World} {K : PySem.W.Frag} {mg : Str → Option Value} {base : Heap}
abbrev CPairs (P : Program) (w : World) (K : PySem.W.Frag) (mg : Str → Option Value) (base : Heap) : Prop := Callee P w K mg base 2 "_law_pairs_by" ["_law_tape_here", "_law_great"] spPairs
theorem scWeb : FnScope ["_law_tape_here", "_law_great", "_law_many", "_law_pairs", "_law_ties", "_law_one", "_law_other"] ["_law_tape_here", "_law_great"] (defScope sWeb) := ⟨rfl, rfl, rfl, by decide +kernel, rfl, by decide +kernel, by decide +kernel⟩
def WSt (t : Addr) (g : Bool) (H0 : Hp) (B : Nat) (σ : St) (H : Hp) : Prop := ∃ (m : Int) (l : Addr) (ps : List V), σ = [some (.ref t), some (.bl g), some (.int m), some (.ref l), none, none, none] ∧ FS t H0 H l ps m ∧ ps.length ≤ B ∧ 0 ≤ m ∧ m ≤ 12
theorem ok_web {f : Addr} {fd : FuncData} (F : Fun K "_law_web" "_law_web" sWeb f fd) (T : Txt K mg) (CD : CDraw P w K mg base) (CP : CPairs P w K mg base) : FnOk P w K mg base CX0 3 f fd ["_law_tape_here", "_law_great"] spWeb := by
  refine F.ok scWeb (fun vs H Q E h => ?_) (fun cdv A outer s H vs Q E hr h => ?_)
  · obtain ⟨t, g, rfl, _⟩ := h; rfl
  · obtain ⟨t, g, rfl, T0, q⟩ := h
    have hr1 : Room 1 _ := hr.mono (by decide)
    have hu := hr.units0
    refine ⟨_, pss_cons (ps_asg (pe_def CP hr (by rfl) (pa_cons (pv 0) (pa_cons (pv 1) pa_nil))) (pg_tup rfl (pgs_cons (pg_name (i := 2) scWeb.nd rfl (Or.inl rfl)) (pgs_cons (pg_name (i := 3) scWeb.nd rfl (Or.inr rfl)) pgs_nil))))
      (pss_cons (ps_via (tTo (WSt t g H 60) (WSt t g H 63)) (ps_if (pw_and (pt_cmpR (op_neL hu) (pv 3) (pe_lst pa_nil) (nomark _)) (pw_and1 (pt_cmpR op_eq (pe_def CD hr1 (by rfl) (pa_cons (pv 0) (pa_cons pe_int pa_nil))) pe_int (nomark _)))).pt
          (pss_one (ps_set (i := 3) scWeb.nd rfl (Or.inr rfl) (pe_op op_cat (pv 3) (pe_comp ["_law_turn"] ["_law_pairs", "_law_tape_here"] [3, 0] (pi_range1 (by rfl) T.range (pa_cons (pe_op op_add pe_int (pe_def CD hr1 (by rfl) (pa_cons (pv 0) (pa_cons pe_int pa_nil)))) pa_nil)) (fun _ _ _ _ _ => pg_name (i := 0) nd_tpt rfl (Or.inl rfl)) (fun _ _ _ _ _ => pifs_nil)
              (fun _ _ _ _ _ => pe_ix (ix_listK (K := K) rfl) (pv 1) (pe_def CD hr1 (by rfl) (pa_cons (pv 2) (pa_cons (pe_callB (call_lenK (K := K) rfl) (by rfl) T.len b_len (pa_cons (pv 1) pa_nil)) pa_nil))) (fun _ _ => rfl)))))) pss_nil) ?i2)
      (pss_cons (ps_set (i := 4) scWeb.nd rfl (Or.inl rfl) (pe_lst pa_nil))
      (pss_cons (ps_for PassesOwn.never rfl (pi_list (pv 3)) (pg_tup rfl (pgs_cons (pg_name (i := 5) scWeb.nd rfl (Or.inl rfl)) (pgs_cons (pg_name (i := 6) scWeb.nd rfl (Or.inl rfl)) pgs_nil)))
          (pss_one (ps_expr (pe_bm PySem.F.plainAttrs_list PySem.F.slot_list_insert PySem.F.type_list_insert mt_insert (pv 4) (pa_cons (pe_def CD hr1 (by rfl) (pa_cons (pv 0) (pa_cons (pe_op op_add (pe_callB call_len_seq (by rfl) T.len b_len (pa_cons (pv 4) pa_nil)) pe_int) pa_nil)))
            (pa_cons (pe_tup (pa_cons (pe_callB (call_min2 rfl) (by rfl) T.min b_min (pa_cons (pv 5) (pa_cons (pv 6) pa_nil))) (pa_cons (pe_callB (call_max2 rfl) (by rfl) T.max b_max (pa_cons (pv 5) (pa_cons (pv 6) pa_nil))) pa_nil))) pa_nil))))))
      (pss_one (ps_ret (pe_tup (pa_cons (pv 2) (pa_cons (pe_callTy call_tuple_of (by rfl) T.tuple b_tuple (pa_cons (pv 4) pa_nil)) pa_nil)))))))), ?_⟩
    case i2 =>
      rintro D σ Hx ⟨⟨m, l, ps, rfl, fs, hl, hm0, hm1⟩, kn⟩
      refine ⟨_, rfl, by show 0 ≤ sizeLine; decide, fun p hp => ?_⟩
      have f1 := fs.new (o := .lst []) hp
      refine ⟨l, p, ps, [], rfl, rfl, SqL.of f1.at', SqL.of upd_same, .inr (.inr rfl), _, rfl, ?_⟩
      refine ite2 (fun hne => ?_) (fun _ => iteF (kn _ _ ⟨m, l, ps, rfl, f1, by omega, hm0, hm1⟩))
      have hps : 0 < ps.length := by
        cases ps with
        | nil => exact absurd hne (by decide)
        | cons _ _ => simp
      refine ⟨_, rfl, t, 4, rfl, f1.tape, by decide, by decide, fun r H2 hr0 hr1' T2 E2 => ?_⟩
      have f2 := f1.draw T2 E2
      refine ⟨rfl, _, rfl, ?_⟩
      refine ite2 (fun _ => ?_) (fun _ => kn _ _ ⟨m, l, ps, rfl, f2, by omega, hm0, hm1⟩)
      refine ⟨_, rfl, _, rfl, t, 3, rfl, f2.tape, by decide, by decide, fun b H3 hb0 hb1 T3 E3 => ?_⟩
      have f3 := f2.draw T3 E3
      refine ⟨_, _, rfl, rfl, 1 + b, rfl, by omega, by omega, fun Dl hD => comp_range (lo := 0) (n := (1 + b).toNat) (fun k ys H4 => FS t H H4 l ps m ∧ FS t H H4 Dl ys m ∧ ys.length ≤ k ∧ l ≠ Dl)
        ⟨f3.new hD, FS.lay f3.tape f3.ext T0 hD .nil, Nat.le_refl _, ne_of_none f3.at' hD⟩ ?_ ?_⟩
      · rintro k ys H4 hk ⟨fl, fd', hly, hne⟩
        refine compT ?_
        refine ⟨_, rfl, _, rfl, _, rfl, l, ps, rfl, .inl (SqL.of fl.at'), t, _, rfl, fl.tape, by omega, by omega, fun c H5 hc0 hc1 T5 E5 => ?_⟩
        have fl5 := fl.draw T5 E5
        have fd5 := fd'.draw T5 E5
        have hget : ps[c.toNat]? = some (ps[c.toNat]'(by omega)) := by simp
        refine ⟨l, ps, c, _, rfl, rfl, SqL.of fl5.at', (by have := atI_nat hget; rwa [Int.toNat_of_nonneg hc0] at this), ?_⟩
        exact ⟨fd5.at', small1000 (by omega), fl5.oth fd5.at' fd5.fr hne fd5.ne, fd5.set (fd5.prs.app (.one (fl5.prs _ (List.getElem_mem _)))), by rw [List.length_append, List.length_singleton]; omega, hne⟩
      · rintro ys H4 ⟨fl, fd', hly, hne⟩
        refine ⟨l, Dl, ps, ys, rfl, rfl, fl.at', fd'.at', sl3 (by omega), fun q2 hq2 => ?_⟩
        exact kn _ _ ⟨m, q2, ps ++ ys, rfl, FS.lay fl.tape fl.ext T0 hq2 (fl.prs.app fd'.prs), by rw [List.length_append]; omega, hm0, hm1⟩
    -- the whole
    refine ⟨_, rfl, _, rfl, t, g, rfl, T0, fun p2 l2 m2 ps2 H2 hp2 hH2 fs2 hl2 h0 h1 => ?_⟩
    refine ⟨p2, _, rfl, SqT.of hH2, rfl, _, _, rfl, _, _, rfl, rfl, ?_⟩
    refine ⟨⟨m2, l2, ps2, rfl, fs2, hl2, h0, h1⟩, ?_⟩
    rintro σ H3 ⟨m, l, ps, rfl, fs, hl, hm0, hm1⟩
    refine ⟨by show 0 ≤ sizeLine; decide, fun d hd => ?_⟩
    have f4 := fs.new (o := .lst []) hd
    refine ⟨_, rfl, l, rfl, ⟨_, SqL.of f4.at'⟩, for_list (K := K) (a := l) (xs := ps) (fun i σ H4 => ∃ (vs : List V) (o5 o6 : Option V), σ = [some (.ref t), some (.bl g), some (.int m), some (.ref l), some (.ref d), o5, o6] ∧ FS t H H4 l ps m ∧ GS t H H4 d vs ∧ Ties H4 m vs ∧ vs.length = i)
      ⟨[], none, none, rfl, f4, GS.lay fs.tape fs.ext hd, (fun _ h => nomatch h), rfl⟩ (fun i σ H4 _ ⟨_, _, _, _, f, _⟩ => SqL.of f.at') ?_ ?_⟩
    · rintro i x σ H4 hx ⟨vs, o5, o6, rfl, fl, gs, ts, hvl⟩
      have hil : i < ps.length := (List.getElem?_eq_some_iff.mp hx).1
      obtain ⟨qa, a, b, rfl, hqa, ha0, ha1, hb0, hb1, hab⟩ := fl.prs x (List.mem_of_getElem? hx)
      have hne : l ≠ d := ne_of_none fs.at' hd
      refine ⟨qa, _, rfl, SqT.of hqa, rfl, _, _, rfl, _, _, rfl, rfl, ?_⟩
      refine ⟨_, rfl, .inl ⟨rfl, _, SqL.of gs.at'⟩, _, rfl, _, rfl, d, vs, rfl, .inl (SqL.of gs.at'), _, _, rfl, rfl, t, _, rfl, gs.tape, by omega, by omega, fun c H5 hc0 hc1 T5 E5 => ?_⟩
      have fl5 := fl.draw T5 E5
      have gs5 := gs.draw T5 E5
      have ts5 := ts.mono (E5.keepT gs.tape)
      refine ⟨_, rfl, _, rfl, a, b, rfl, _, rfl, _, rfl, a, b, rfl, by show 2 ≤ sizeLine; decide, fun p hp => ?_⟩
      have gs6 := gs5.new (o := .tup [.int (if b < a then b else a), .int (if b > a then b else a)]) hp
      have fl6 := fl5.new (o := .tup [.int (if b < a then b else a), .int (if b > a then b else a)]) hp
      have tn : TieAt (upd H5 p (.tup [.int (if b < a then b else a), .int (if b > a then b else a)])) m (.ref p) := ⟨p, _, _, rfl, upd_same, by split <;> omega, by split <;> split <;> omega, by split <;> omega⟩
      refine ⟨d, vs, c, _, rfl, rfl, gs6.at', hc0, by omega, small1000 (by omega), ?_⟩
      refine ⟨vs.take c.toNat ++ .ref p :: vs.drop c.toNat, _, _, rfl, fl6.oth gs6.at' gs6.fr hne gs6.ne, gs6.set, fun v hv => ?_, ?_⟩
      · refine TieAt.mono ?_ (.lst gs6.at')
        rcases List.mem_append.mp hv with hv | hv
        · exact (ts5 v (List.mem_of_mem_take hv)).mono (.new hp)
        · rcases List.mem_cons.mp hv with rfl | hv
          · exact tn
          · exact (ts5 v (List.mem_of_mem_drop hv)).mono (.new hp)
      · rw [List.length_append, List.length_cons, List.length_take, List.length_drop]; omega
    · rintro σ H4 ⟨vs, o5, o6, rfl, fl, gs, ts, hvl⟩
      refine ⟨_, rfl, _, rfl, d, vs, rfl, .inl ⟨SqL.of gs.at', fun l3 hl3 => ?_⟩⟩
      refine ⟨by show 2 ≤ sizeLine; decide, fun p3 hp3 => ?_⟩
      have g3 := (gs.new (o := .tup vs) hl3).new (o := .tup [.int m, .ref l3]) hp3
      refine q p3 m vs _ ⟨l3, upd_same, ?_, (ts.mono (.new hl3)).mono (.new hp3), by omega, hm0, hm1⟩ g3.tape g3.ext
      rw [upd_ne (ne_of_none (upd_same (H := H4) (a := l3) (o := .tup vs)) hp3)]
      exact upd_same
end
end Hue
set_option Elab.async false
set_option linter.all false
set_option maxRecDepth 100000
set_option maxHeartbeats 1500000
namespace Hue
open PySem L2
theorem keepN {H : Hp} {b p : Addr} {o u : HO} (h : H b = some o) (n : H p = none) : (upd H p u) b = some o := by rw [upd_ne (ne_of_none h n)]; exact h
theorem keepO {H : Hp} {b p : Addr} {o u : HO} (h : H b = some o) (n : b ≠ p) : (upd H p u) b = some o := by rw [upd_ne n]; exact h
def ktn (t c : String) : Option Bool := if (Value.type t == Value.type c) = true then some true else if PySem.W.kitMeta c = true then (fastBuiltinMro t).map (·.contains (.type c)) else none
theorem kit_n {K : PySem.W.Frag} (t c : String) : PySem.W.kitOne K (.type t) (.type c) = ktn t c := rfl
theorem kt_ll : ktn "list" "list" = some true := by decide +kernel
theorem kt_il : ktn "int" "list" = some false := by decide +kernel
theorem kt_it : ktn "int" "tuple" = some false := by decide +kernel
theorem kt_ii : ktn "int" "int" = some true := by decide +kernel
theorem kt_ib : ktn "int" "bool" = some false := by decide +kernel
theorem kt_nl : ktn "NoneType" "list" = some false := by decide +kernel
theorem kt_nt : ktn "NoneType" "tuple" = some false := by decide +kernel
theorem kt_tl : ktn "tuple" "list" = some false := by decide +kernel
theorem kt_tt : ktn "tuple" "tuple" = some true := by decide +kernel
theorem any_lst {K : PySem.W.Frag} : PySem.W.kitAny K (.type "list") (["list", "tuple"].map Value.type) = some true := by
  show (match PySem.W.kitOne K (.type "list") (.type "list") with | some true => some true | some false => PySem.W.kitAny K (.type "list") [.type "tuple"] | none => none) = some true
  rw [kit_n, kt_ll]
theorem any_two_f {K : PySem.W.Frag} {t : String} (h1 : ktn t "list" = some false) (h2 : ktn t "tuple" = some false) : PySem.W.kitAny K (.type t) (["list", "tuple"].map Value.type) = some false := by
  show (match PySem.W.kitOne K (.type t) (.type "list") with | some true => some true | some false => (match PySem.W.kitOne K (.type t) (.type "tuple") with | some true => some true | some false => some false | none => none) | none => none) = some false
  rw [kit_n, h1]
  show (match PySem.W.kitOne K (.type t) (.type "tuple") with | some true => some true | some false => some false | none => none) = some false
  rw [kit_n, h2]
theorem pss_no {X : Cx} {sts : List Stmt} : PSs X sts (fun _ _ _ => False) := fun _ _ _ _ _ _ h => h.elim
theorem pg_tupK {X : Cx} {K : PySem.W.Frag} {es : List Expr} {k : Nat} {t : TGs} {n : Nat} {pos : Pos} (hK : X.K = K) (hc : X.calm = true) (h : PGs X es t)
    (hn : (assignEach es X.env).length = n := by rfl) (hst : (assignEach es X.env).findIdx? (·.1) = none := by rfl) : PG X (.Tuple es k pos) (gTup K n t) := hK ▸ pg_tup hc h hn hst
theorem bl_t {Q : VK} {c : Prop} [Decidable c] {H : Hp} (h : c) (q : Q (.bl true) H) : Q (.bl (decide c)) H := by rw [decide_eq_true h]; exact q
theorem iteD {c A B : Prop} [Decidable c] (h : c) (a : A) : if decide c = true then A else B := by rw [if_pos (decide_eq_true h)]; exact a
theorem iteND {c A B : Prop} [Decidable c] (h : ¬ c) (a : B) : if decide c = true then A else B := by rw [if_neg (by rw [decide_eq_true_eq]; exact h)]; exact a
def Atom (v : V) : Prop := v = .non ∨ ∃ n : Int, v = .int n
def Sm : Nat → Hp → V → V → Prop
  | 0, _, x, y => x = y ∧ Atom x
  | n + 1, H, x, y => ∃ a b xs ys, x = .ref a ∧ y = .ref b ∧ H a = some (.lst xs) ∧ H b = some (.lst ys) ∧ xs.length = ys.length ∧ xs.length ≤ 900 ∧ ∀ (i : Nat) u v, xs[i]? = some u → ys[i]? = some v → Sm n H u v
theorem Sm.mono {H H' : Hp} (s : Same H H') : ∀ (n : Nat) {x y : V}, Sm n H x y → Sm n H' x y
  | 0, _, _, h => h
  | n + 1, _, _, ⟨a, b, xs, ys, e1, e2, h1, h2, l1, l2, q⟩ => ⟨a, b, xs, ys, e1, e2, s _ _ h1, s _ _ h2, l1, l2, fun i u v hu hv => (q i u v hu hv).mono s n⟩
theorem same_new {H H' : Hp} {p : Addr} {o : HO} (s : Same H H') (n : H' p = none) : Same H (upd H' p o) := fun b u e => keepN (s b u e) n
theorem same_own {H H' : Hp} {p : Addr} {o : HO} (s : Same H H') (n : H p = none) : Same H (upd H' p o) := fun b u e => keepO (s b u e) (ne_of_none e n)
end Hue
set_option Elab.async false
set_option linter.all false
set_option maxRecDepth 100000
set_option maxHeartbeats 4000000
namespace L2
open PySem PySem.Spec PyProof.Rows
def srt (ns : List Int) : List Int := ns.mergeSort (fun a b => decide (a ≤ b))
theorem srt_perm (ns : List Int) : (srt ns).Perm ns := List.mergeSort_perm _ _
theorem srt_le (ns : List Int) : (srt ns).Pairwise (· ≤ ·) := by
  have h := List.pairwise_mergeSort (le := fun (a b : Int) => decide (a ≤ b)) (fun a b c h1 h2 => by simp only [decide_eq_true_eq] at *; omega) (fun a b => by simp only [Bool.or_eq_true, decide_eq_true_eq]; omega) ns
  exact h.imp fun h => of_decide_eq_true h
theorem srt_eq {ns ns' : List Int} (hp : ns'.Perm ns) (hs : ns'.Pairwise (· ≤ ·)) : ns' = srt ns :=
  List.Perm.eq_of_pairwise (fun _ _ _ _ a b => Int.le_antisymm a b) hs (srt_le ns) (hp.trans (srt_perm ns).symm)
theorem vals_intsAre : ∀ {ns : List Int} {us : List Value}, Vals (ns.map V.int) us → IntsAre us ns
  | [], _, .nil => .nil
  | _ :: _, _, .cons ⟨_, e⟩ t => by subst e; exact .cons _ _ (vals_intsAre t)
theorem ints_vals : ∀ {ns : List Int} {us : List Value}, IntsAre us ns → Vals (ns.map V.int) us
  | _, _, .nil => .nil
  | _, _, .cons _ _ t => .cons ⟨_, rfl⟩ (ints_vals t)
theorem b_sorted : bootBuiltins "sorted" = some (.builtin "sorted") := by decide +kernel
section
variable {X : Cx}
theorem call_sorted : CallR X (.builtin "sorted") (fun xs H Q => ∃ p ns, xs = [.ref p] ∧ SqL X.K H p (ns.map V.int) ∧ ns.length < 64 ∧ ∀ l, H l = none → Q (.ref l) (upd H l (.lst ((srt ns).map V.int)))) := by
  intro pins s σ H xs us Q I r h
  obtain ⟨p, ns, rfl, hq, h64, q⟩ := h
  obtain ⟨u, rfl, rx⟩ := vals1 r
  cases rx
  obtain ⟨its, r', pl, hz⟩ := I.list hq
  have hlen := r'.length
  rw [List.length_map] at hlen
  refine sorted_ints pl.isList (vals_intsAre r') (by omega) fun out ns' a1 a2 a3 => ?_
  obtain ⟨e, he⟩ := sortedAll_at s.heap its out
  have en := srt_eq a2 a3
  subst en
  refine ⟨.ref (s.heap.objs.size + 1), _, I.laid (t' := s.toks) (fun b o h => sortedAll_old h) (Nat.le_succ _) (show ObjOk X.prog X.w _ _ _ (.lst ((srt ns).map V.int)) from ⟨?_, out.toList, e, ints_vals a1, by simpa using he⟩), rfl, q _ (I.hok.fresh (Nat.le_succ _))⟩
  rw [List.length_map, a2.length_eq]
  exact Nat.le_trans (Nat.le_of_lt h64) (by decide)
end
end L2
set_option Elab.async false
set_option linter.all false
set_option maxRecDepth 100000
set_option maxHeartbeats 4000000
namespace L2
open PySem PySem.Spec PyProof.Rows
section
variable {κ : Type} [DecidableEq κ]
def valV (kvs : List (κ × V)) (k : κ) : Option V := (kvs.find? fun kv => decide (kv.1 = k)).map (·.2)
def putK (kvs : List (κ × V)) (k : κ) (v : V) : List (κ × V) :=
  if (kvs.any fun kv => decide (kv.1 = k)) = true then kvs.map (fun kv => if kv.1 = k then (kv.1, v) else kv) else kvs ++ [(k, v)]
def dropK (kvs : List (κ × V)) (k : κ) : List (κ × V) := kvs.filter fun kv => decide (kv.1 ≠ k)
theorem valV_pos {p : κ × V} {r : List (κ × V)} {k : κ} (e : p.1 = k) : valV (p :: r) k = some p.2 := by simp [valV, List.find?_cons, e]
theorem valV_neg {p : κ × V} {r : List (κ × V)} {k : κ} (e : ¬ p.1 = k) : valV (p :: r) k = valV r k := by simp [valV, List.find?_cons, e]
theorem valV_any (k : κ) : ∀ kvs : List (κ × V), (kvs.any fun kv => decide (kv.1 = k)) = (valV kvs k).isSome
  | [] => rfl
  | p :: r => by
    rw [List.any_cons]
    by_cases e : p.1 = k
    · simp only [valV_pos e, decide_eq_true e, Bool.true_or, Option.isSome_some]
    · rw [valV_neg e, decide_eq_false e, Bool.false_or]; exact valV_any k r
theorem RelO.isSome_eq {o : Option V} {u : Option Value} (r : RelO o u) : o.isSome = u.isSome := by
  cases o with
  | none => cases u with
    | none => rfl
    | some _ => exact (show False from r).elim
  | some _ => cases u with
    | none => exact (show False from r).elim
    | some _ => rfl
theorem RelO.getD {o : Option V} {u : Option Value} {d : V} {d' : Value} (r : RelO o u) (rd : RelV d d') : RelV (o.getD d) (u.getD d') := by
  cases o with
  | none => cases u with
    | none => exact rd
    | some _ => exact (show False from r).elim
  | some _ => cases u with
    | none => exact (show False from r).elim
    | some _ => exact r
theorem KV.val {kvs : List (κ × V)} {vs : List (κ × Value)} (r : KV kvs vs) (k : κ) : RelO (valV kvs k) (valueAt vs k) := by
  unfold KV at r
  induction r with
  | nil => exact True.intro
  | @cons p q ps qs h t ih =>
    obtain ⟨h1, h2⟩ := h
    by_cases e : p.1 = k
    · have e' : q.1 = k := h1.symm.trans e
      have b : valueAt (q :: qs) k = some q.2 := by simp [valueAt, List.find?_cons, e']
      rw [valV_pos e, b]; exact h2
    · have e' : ¬ q.1 = k := fun z => e (h1.trans z)
      have b : valueAt (q :: qs) k = valueAt qs k := by simp [valueAt, List.find?_cons, e']
      rw [valV_neg e, b]; exact ih
theorem KV.any {kvs : List (κ × V)} {vs : List (κ × Value)} (r : KV kvs vs) (k : κ) : (kvs.any fun kv => decide (kv.1 = k)) = vs.any fun kv => decide (kv.1 = k) := by
  unfold KV at r
  induction r with
  | nil => rfl
  | cons h t ih => rw [List.any_cons, List.any_cons, ih, h.1]
theorem KV.repl {kvs : List (κ × V)} {vs : List (κ × Value)} (r : KV kvs vs) (k : κ) {y : V} {u : Value} (ry : RelV y u) :
    KV (kvs.map fun kv => if kv.1 = k then (kv.1, y) else kv) (vs.map fun kv => if kv.1 = k then (kv.1, u) else kv) := by
  unfold KV at r ⊢
  induction r with
  | nil => exact .nil
  | @cons p q ps qs h t ih =>
    rw [List.map_cons, List.map_cons]
    refine .cons ?_ ih
    obtain ⟨h1, h2⟩ := h
    by_cases e : p.1 = k
    · rw [if_pos e, if_pos (h1.symm.trans e)]; exact ⟨h1, ry⟩
    · rw [if_neg e, if_neg (fun z => e (h1.trans z))]; exact ⟨h1, h2⟩
theorem KV.put {kvs : List (κ × V)} {vs : List (κ × Value)} (r : KV kvs vs) (k : κ) {y : V} {u : Value} (ry : RelV y u) : KV (putK kvs k y) (stored vs k u) := by
  unfold putK stored
  rw [r.any k]
  by_cases e : (vs.any fun kv => decide (kv.1 = k)) = true
  · rw [if_pos e, if_pos e]; exact r.repl k ry
  · rw [if_neg e, if_neg e]; exact Paired.snoc r ⟨rfl, ry⟩
theorem KV.drop {kvs : List (κ × V)} {vs : List (κ × Value)} (r : KV kvs vs) (k : κ) : KV (dropK kvs k) (without vs k) := by
  unfold KV at r ⊢
  unfold dropK without
  induction r with
  | nil => exact .nil
  | @cons p q ps qs h t ih =>
    obtain ⟨h1, h2⟩ := h
    rw [List.filter_cons, List.filter_cons]
    by_cases e : p.1 = k
    · have a : ¬ decide (p.1 ≠ k) = true := by simp [e]
      have b : ¬ decide (q.1 ≠ k) = true := by simp [h1.symm.trans e]
      rw [if_neg a, if_neg b]; exact ih
    · have e' : ¬ q.1 = k := fun z => e (h1.trans z)
      have a : decide (p.1 ≠ k) = true := by simp [e]
      have b : decide (q.1 ≠ k) = true := by simp [e']
      rw [if_pos a, if_pos b]; exact .cons ⟨h1, h2⟩ ih
theorem KV.keys {kvs : List (κ × V)} {vs : List (κ × Value)} (r : KV kvs vs) : kvs.map (·.1) = vs.map (·.1) := by
  unfold KV at r
  induction r with
  | nil => rfl
  | cons h t ih => rw [List.map_cons, List.map_cons, ih, h.1]
theorem KV.length {kvs : List (κ × V)} {vs : List (κ × Value)} (r : KV kvs vs) : kvs.length = vs.length := Paired.length r
end
abbrev KT (H : Hp) : List (List Key × V) → List (List Key × Addr × Value) → Prop := Paired fun p q => p.1 = q.1 ∧ H q.2.1 = some (.tup (p.1.map kV)) ∧ RelV p.2 q.2.2
theorem KT.val {H : Hp} {kvs : List (List Key × V)} {xs : List (List Key × Addr × Value)} (r : KT H kvs xs) (k : List Key) : RelO (valV kvs k) ((atKey xs k).map (·.2)) := by
  induction r with
  | nil => exact True.intro
  | @cons p q ps qs h t ih =>
    obtain ⟨h1, _, h2⟩ := h
    by_cases e : p.1 = k
    · have e' : q.1 = k := h1.symm.trans e
      have b : atKey (q :: qs) k = some q.2 := by simp [atKey, List.find?_cons, e']
      rw [valV_pos e, b]; exact h2
    · have e' : ¬ q.1 = k := fun z => e (h1.trans z)
      have b : atKey (q :: qs) k = atKey qs k := by simp [atKey, List.find?_cons, e']
      rw [valV_neg e, b]; exact ih
theorem KT.repl {H : Hp} {kvs : List (List Key × V)} {xs : List (List Key × Addr × Value)} (r : KT H kvs xs) (k : List Key) {y : V} {u : Value} (ry : RelV y u) :
    KT H (kvs.map fun kv => if kv.1 = k then (kv.1, y) else kv) (xs.map (putAt k u)) := by
  induction r with
  | nil => exact .nil
  | @cons p q ps qs h t ih =>
    rw [List.map_cons, List.map_cons]
    refine .cons ?_ ih
    obtain ⟨h1, h2, h3⟩ := h
    unfold putAt
    by_cases e : p.1 = k
    · rw [if_pos e, if_pos (h1.symm.trans e)]; exact ⟨h1, h2, ry⟩
    · rw [if_neg e, if_neg (fun z => e (h1.trans z))]; exact ⟨h1, h2, h3⟩
theorem KT.put {H : Hp} {kvs : List (List Key × V)} {xs : List (List Key × Addr × Value)} (r : KT H kvs xs) (k : List Key) {b : Addr} {y : V} {u : Value} (hb : H b = some (.tup (k.map kV))) (ry : RelV y u) :
    KT H (putK kvs k y) (storedH xs k b u) := by
  have e : (kvs.any fun kv => decide (kv.1 = k)) = (atKey xs k).isSome := by
    rw [valV_any, (r.val k).isSome_eq, Option.isSome_map]
  unfold putK storedH
  rw [e]
  by_cases q : (atKey xs k).isSome = true
  · rw [if_pos q, if_pos q]; exact r.repl k ry
  · rw [if_neg q, if_neg q]; exact Paired.snoc r ⟨rfl, hb, ry⟩
theorem KT.keeps {H H' : Hp} {kvs : List (List Key × V)} {xs : List (List Key × Addr × Value)} (r : KT H kvs xs) (ht : ∀ b ys, H b = some (.tup ys) → H' b = some (.tup ys)) : KT H' kvs xs :=
  Paired.mapP r fun _ _ z => ⟨z.1, ht _ _ z.2.1, z.2.2⟩
section
variable {P : Program} {w : World} {H : Hp} {h : Heap} {a : Addr}
end
def DGet (H : Hp) (a : Addr) (y : V) (r : Option V) : Prop :=
  (∃ kvs k, Rd H a (.dK kvs) ∧ y = kV k ∧ r = valV kvs k) ∨ ∃ kvs k b, Rd H a (.dT kvs) ∧ y = .ref b ∧ H b = some (.tup (k.map kV)) ∧ r = valV kvs k
def DPut (H : Hp) (a : Addr) (y v : V) (H' : Hp) : Prop :=
  (∃ kvs k, H a = some (.dK kvs) ∧ y = kV k ∧ kvs.length < sizeLine ∧ H' = upd H a (.dK (putK kvs k v))) ∨
  ∃ kvs k b, H a = some (.dT kvs) ∧ y = .ref b ∧ H b = some (.tup (k.map kV)) ∧ kvs.length < sizeLine ∧ H' = upd H a (.dT (putK kvs k v))
theorem DGet.k {H : Hp} {a : Addr} {kvs : List (Key × V)} {k : Key} (e : H a = some (.dK kvs)) : DGet H a (kV k) (valV kvs k) := .inl ⟨kvs, k, .inl e, rfl, rfl⟩
theorem DGet.t {H : Hp} {a b : Addr} {kvs : List (List Key × V)} {k : List Key} (e : H a = some (.dT kvs)) (eb : H b = some (.tup (k.map kV))) : DGet H a (.ref b) (valV kvs k) := .inr ⟨kvs, k, b, .inl e, rfl, eb, rfl⟩
theorem DPut.k {H : Hp} {a : Addr} {kvs : List (Key × V)} {k : Key} {v : V} (e : H a = some (.dK kvs)) (hl : kvs.length < sizeLine) : DPut H a (kV k) v (upd H a (.dK (putK kvs k v))) := .inl ⟨kvs, k, e, rfl, hl, rfl⟩
theorem DPut.t {H : Hp} {a b : Addr} {kvs : List (List Key × V)} {k : List Key} {v : V} (e : H a = some (.dT kvs)) (eb : H b = some (.tup (k.map kV))) (hl : kvs.length < sizeLine) :
    DPut H a (.ref b) v (upd H a (.dT (putK kvs k v))) := .inr ⟨kvs, k, b, e, rfl, eb, hl, rfl⟩
section
variable {X : Cx} {pins : List (Addr × Obj)} {σ : St} {H : Hp} {s : Shared} {a : Addr} {y v : V} {u r : Value} {o : Option V} {A : Around} {E : Value → Shared → Prop}
end
section
variable {X : Cx} {pins : List (Addr × Obj)} {σ : St} {H : Hp} {s : Shared} {a : Addr} {kvs : List (Key × V)} {k : Key} {u : Value} {A : Around} {E : Value → Shared → Prop}
end
section
variable {X : Cx} {o i e value : Expr} {pos pos' tpos : Pos} {td ty tv : TE}
end
section
variable {X : Cx} {pos : Pos}
end
section
variable {X : Cx} {pins : List (Addr × Obj)} {σ : St} {H : Hp} {s : Shared} {a : Addr} {y d : V} {u r : Value} {o : Option V} {A : Around} {E : Value → Shared → Prop}
end
section
variable {X : Cx} {o e f : Expr} {apos cpos : Pos} {td ty tx : TE}
end
section
variable {X : Cx} {pins : List (Addr × Obj)} {σ : St} {H : Hp} {s : Shared} {a : Addr} {kvs : List (Key × V)} {A : Around} {E : Value → Shared → Prop}
end
section
variable {X : Cx} {pins : List (Addr × Obj)} {σ : St} {H : Hp} {s : Shared} {a : Addr} {y : V} {u : Value} {A : Around} {E : Value → Shared → Prop}
end
end L2
namespace L2
open PySem PySem.Spec PyProof.Rows
section
variable {X : Cx}
end
section
variable {κ : Type} [DecidableEq κ]
end
end L2
set_option Elab.async false
set_option linter.all false
set_option maxRecDepth 100000
set_option maxHeartbeats 4000000
namespace L2
open PySem PySem.Spec PyProof.Rows
section
variable {prog : Program} {w : World} {A : Around} {E : Value → Shared → Prop} {s : Shared}
end
section
variable {X : Cx} {pins : List (Addr × Obj)} {σ : St} {H : Hp} {s : Shared} {a : Addr} {A : Around} {E : Value → Shared → Prop}
end
section
variable {X : Cx} {o e f : Expr} {apos cpos : Pos} {td ty tx : TE}
end
end L2
set_option Elab.async false
set_option linter.all false
set_option maxRecDepth 100000
set_option maxHeartbeats 4000000
namespace L2
open PySem PySem.Spec PyProof.Rows
section
variable {X : Cx}
end
end L2
set_option Elab.async false
set_option linter.all false
set_option maxRecDepth 100000
set_option maxHeartbeats 4000000
namespace L2
open PySem PySem.Spec PyProof.Rows
mutual
def Dat (H : Hp) : V → PyData → Prop
  | x, .none => x = .non
  | x, .bool b => x = .bl b
  | x, .int i => x = .int i
  | x, .str s => x = .str s
  | x, .list ds => ∃ a xs, x = .ref a ∧ H a = some (.lst xs) ∧ DatAll H xs ds
  | x, .tuple ds => ∃ a xs, x = .ref a ∧ H a = some (.tup xs) ∧ DatAll H xs ds
  | _, .dict _ => False
def DatAll (H : Hp) : List V → List PyData → Prop
  | [], [] => True
  | x :: xs, d :: ds => Dat H x d ∧ DatAll H xs ds
  | [], _ :: _ => False
  | _ :: _, [] => False
end
mutual
theorem Dat.mono {H H' : Hp} (k : ∀ b o, H b = some o → H' b = some o) : ∀ (x : V) (d : PyData), Dat H x d → Dat H' x d
  | _, .none, h => by unfold Dat at h ⊢; exact h
  | _, .bool _, h => by unfold Dat at h ⊢; exact h
  | _, .int _, h => by unfold Dat at h ⊢; exact h
  | _, .str _, h => by unfold Dat at h ⊢; exact h
  | x, .list ds, h => by
    unfold Dat at h ⊢
    obtain ⟨a, xs, e, h1, h2⟩ := h
    exact ⟨a, xs, e, k _ _ h1, DatAll.mono k xs ds h2⟩
  | x, .tuple ds, h => by
    unfold Dat at h ⊢
    obtain ⟨a, xs, e, h1, h2⟩ := h
    exact ⟨a, xs, e, k _ _ h1, DatAll.mono k xs ds h2⟩
  | _, .dict _, h => by unfold Dat at h; exact h.elim
theorem DatAll.mono {H H' : Hp} (k : ∀ b o, H b = some o → H' b = some o) : ∀ (xs : List V) (ds : List PyData), DatAll H xs ds → DatAll H' xs ds
  | [], [], _ => by unfold DatAll; trivial
  | x :: xs, d :: ds, h => by
    unfold DatAll at h ⊢
    exact ⟨Dat.mono k x d h.1, DatAll.mono k xs ds h.2⟩
  | [], _ :: _, h => by unfold DatAll at h; exact h.elim
  | _ :: _, [], h => by unfold DatAll at h; exact h.elim
end
theorem DatAll.length {H : Hp} : ∀ {xs : List V} {ds : List PyData}, DatAll H xs ds → xs.length = ds.length
  | [], [], _ => rfl
  | x :: xs, d :: ds, h => by unfold DatAll at h; simp [DatAll.length h.2]
  | [], _ :: _, h => by unfold DatAll at h; exact h.elim
  | _ :: _, [], h => by unfold DatAll at h; exact h.elim
theorem DatAll.get {H : Hp} : ∀ {xs : List V} {ds : List PyData} {i : Nat} {x : V}, DatAll H xs ds → xs[i]? = some x → ∃ d, ds[i]? = some d ∧ Dat H x d
  | x :: xs, d :: ds, 0, y, h, e => by
    unfold DatAll at h
    cases e
    exact ⟨d, rfl, h.1⟩
  | x :: xs, d :: ds, i + 1, y, h, e => by
    unfold DatAll at h
    exact DatAll.get (xs := xs) (ds := ds) (i := i) h.2 (by simpa using e)
  | [], [], i, y, _, e => by simp at e
  | [], _ :: _, i, y, h, e => by unfold DatAll at h; exact h.elim
  | _ :: _, [], i, y, h, e => by unfold DatAll at h; exact h.elim
theorem DatAll.app {H : Hp} : ∀ {xs : List V} {ds : List PyData} {ys : List V} {es : List PyData}, DatAll H xs ds → DatAll H ys es → DatAll H (xs ++ ys) (ds ++ es)
  | [], [], _, _, _, h => h
  | x :: xs, d :: ds, ys, es, h, h' => by
    unfold DatAll at h
    show DatAll H (x :: (xs ++ ys)) (d :: (ds ++ es))
    unfold DatAll
    exact ⟨h.1, h.2.app h'⟩
  | [], _ :: _, _, _, h, _ => by unfold DatAll at h; exact h.elim
  | _ :: _, [], _, _, h, _ => by unfold DatAll at h; exact h.elim
theorem DatAll.of {H : Hp} : ∀ {xs : List V}, (∀ x ∈ xs, ∃ d, Dat H x d) → ∃ ds, DatAll H xs ds
  | [], _ => ⟨[], by unfold DatAll; trivial⟩
  | x :: xs, h => by
    obtain ⟨d, hd⟩ := h x (List.mem_cons_self ..)
    obtain ⟨ds, hs⟩ := DatAll.of (xs := xs) fun y hy => h y (List.mem_cons_of_mem _ hy)
    exact ⟨d :: ds, by unfold DatAll; exact ⟨hd, hs⟩⟩
section
variable {X : Cx} {pins : List (Addr × Obj)} {σ : St} {H : Hp} {s : Shared}
end
section
variable {X : Cx}
end
section
variable {X : Cx} {a b c d : Expr} {ta tb tc td : TE} {pos : Pos}
end
section
variable {X : Cx} {a b : Expr} {ta : TE} {pos : Pos}
end
section
variable {X : Cx}
theorem hue_cat0 {prog : Program} {w : World} {A : Around} {E : Value → Shared → Prop} {s : Shared} {t b : Addr} {ws : List Value} {Q : Value → Shared → Prop} (ht : IsTup s.heap t #[]) (hb : IsTup s.heap b ws.toArray) (h1 : Q (.ref b) s) :
    wpAny (model prog w) A (binaryOp .Add (.ref t) (.ref b)) Q E s := by
  obtain ⟨⟨cls, dd, data, sl⟩, ho, hc, n, hd⟩ := id ht
  obtain ⟨⟨cls2, dd2, data2, sl2⟩, ho2, hc2, n2, hd2⟩ := id hb
  simp only at hc hd hc2 hd2
  subst hc hd hc2 hd2
  exact concat_meets ⟨_, ho, rfl⟩ ⟨_, ho2, rfl⟩ noFill_tuple_add seq_tuple_add PySem.F.slot_tuple_add PySem.F.entry_tuple_add (PySem.F.args_tuple_add_2 _ _)
      (tuple_addW0 t b #[] ws.toArray n n2 dd dd2 sl sl2 (by simp)) ⟨ho, ho2, h1⟩
def rCat0 (K : PySem.W.Frag) : R2 := fun x y H Q => ∃ a b ys, x = .ref a ∧ y = .ref b ∧ SqT K H a [] ∧ SqT K H b ys ∧ Q (.ref b) H
theorem op_cat0 : OpR X (binaryOp .Add) (rCat0 X.K) := by
  intro pins s σ H x y v u Q I rx ry h
  obtain ⟨a, b, ys, rfl, rfl, ha, hb, q⟩ := h
  cases rx
  cases ry
  obtain ⟨its, r1, p1, _⟩ := I.tuple ha
  obtain ⟨its2, r2, p2, _⟩ := I.tuple hb
  cases r1
  exact hue_cat0 p1 p2 ⟨.ref b, H, I, rfl, q⟩
end
section
variable {prog : Program} {w : World} {A : Around} {E : Value → Shared → Prop} {s : Shared}
open HT in
theorem hue_slice_all {t sl : Addr} {items : Array Value} {vl vu : Value} {lo hi : Option Int} {Q : Value → Shared → Prop} (ht : IsTup s.heap t items) (hs : s.heap.IsSliceOf sl vl vu .none) (pl : IsPart vl lo) (pu : IsPart vu hi)
    (hw : sIx items.size 0 lo = 0 ∧ sIx items.size items.size hi = items.size) (h : Q (.ref t) s) : wpAny (model prog w) A (getItem (.ref t) (.ref sl)) Q E s := by
  obtain ⟨os, hos, hcs, hds⟩ := id hs
  have hTs : s.TypeIs (.ref sl) "slice" := ⟨os, hos, hcs⟩
  unfold getItem
  try with_reducible refine wpAny_holding ?_
  first | refine wpAny_bind (wpAny_pure ?_) | skip
  refine wpAny_bind (wpAny_sequenceKey ht.typeIs (by decide) ?_)
  refine wpAny_bind (wpAny_callSpecial?_slot (name := Str.ofString "__getitem__") ht.typeIs PyProof.Rows.slot_tuple_getitem
    (wpAny_call_entry PyProof.Rows.slot_tuple_getitem ht.typeIs entry_tuple_getitem ?_ (args_tuple_getitem _ _)))
  show wpAny _ _ (Builtin.Tuple.tupleItemsOf (.ref t) >>= _) _ _ s
  refine wpAny_bind (tupleItemsOf_ ht ?_)
  refine wpAny_bind (wpAny_typeOf hTs ?_)
  rw [if_pos (by decide)]
  refine wpAny_bind (sliceApplied_gen hs pl pu ?_)
  have hyes : (((sIx items.size 0 lo : Nat) : Int) == 0 && (1 : Int) == 1 && (sIx items.size items.size hi - sIx items.size 0 lo) == items.size) = true := by
    rw [hw.1, hw.2]; simp
  show wpAny _ _ (if (((sIx items.size 0 lo : Nat) : Int) == 0 && (1 : Int) == 1 && (sIx items.size items.size hi - sIx items.size 0 lo) == items.size) = true then _ else _) _ _ s
  rw [if_pos hyes]
  unfold Builtin.Tuple.tupleIsExact
  refine wpAny_bind (wpAny_bind (wpAny_typeOf ht.typeIs (wpAny_pure ?_)))
  rw [if_pos (by decide)]
  exact wpAny_bind (wpAny_rule (wpAny_pure ⟨_, rfl, wpAny_pure h⟩))
end
section
variable {X : Cx}
def rSlA (K : PySem.W.Frag) : V → Option Int → Option Int → Hp → VK → Prop := fun x lo hi H Q => ∃ a xs, x = .ref a ∧ SqT K H a xs ∧ (HT.sIx xs.length 0 lo = 0 ∧ HT.sIx xs.length xs.length hi = xs.length) ∧ Q (.ref a) H
theorem sl_tupW : SlR X (rSlA X.K) := by
  intro pins s σ H x v vl vu lo hi sl Q I rx hs pl pu h
  obtain ⟨a, xs, rfl, hx, hw, q⟩ := h
  cases rx
  obtain ⟨its, r, ht, hz⟩ := I.tuple hx
  have hlen : its.toArray.size = xs.length := by rw [List.size_toArray]; exact r.length.symm
  exact ⟨"tuple", _, PyProof.Rows.slot_tuple_getitem.lookup, ht.typeIs, hue_slice_all ht hs pl pu (by rw [hlen]; exact hw) ⟨.ref a, H, I, rfl, q⟩⟩
theorem cutV_all (xs : List V) (lo hi : Option Int) (h : HT.sIx xs.length 0 lo = 0 ∧ HT.sIx xs.length xs.length hi = xs.length) : cutV xs lo hi = xs := by
  unfold cutV
  rw [h.1, h.2]; simp
end
end L2
set_option Elab.async false
set_option linter.all false
set_option maxRecDepth 100000
set_option maxHeartbeats 4000000
namespace L2
open PySem PySem.Spec PyProof.Rows
theorem b_set : bootBuiltins "set" = some (.type "set") := by decide +kernel
section
variable {X : Cx}
end
section
variable {prog : Program} {w : World} {A : Around} {E : Value → Shared → Prop} {s : Shared}
def IsPr (h : Heap) (v : Value) (a b : Int) : Prop := ∃ p o n t u, v = .ref p ∧ h.get? p = some o ∧ o.cls = .type "tuple" ∧ o.data = .seq #[.int a t, .int b u] n
theorem IsPr.at {h h' : Heap} {v : Value} {a b : Int} (x : IsPr h v a b) (k : ∀ p o, h.get? p = some o → o.cls = .type "tuple" → h'.get? p = some o) : IsPr h' v a b := by
  obtain ⟨p, o, n, t1, t2, e, ho, hc, hd⟩ := x
  exact ⟨p, o, n, t1, t2, e, k p o ho hc, hc, hd⟩
end
section
variable {X : Cx}
end
section
variable {prog : Program} {w : World} {κ : Type} [DecidableEq κ] {knd : HeapKind prog w κ} {A : Around} {E : Value → Shared → Prop} {s : Shared}
end
section
variable {X : Cx}
end
end L2
set_option Elab.async false
set_option linter.all false
set_option maxRecDepth 100000
set_option maxHeartbeats 4000000
namespace L2
open PySem PySem.Spec PyProof.Rows
def Up (xs : Array Nat) : Prop := ∀ i j (hi : i < xs.size) (hj : j < xs.size), i < j → xs[i] < xs[j]
theorem up_list {xs : Array Nat} : Up xs ↔ xs.toList.Pairwise (· < ·) := by
  rw [List.pairwise_iff_getElem]
  exact ⟨fun h i j hi hj hij => by simpa using h i j (by simpa using hi) (by simpa using hj) hij, fun h i j hi hj hij => by
    have := h i j (by simpa using hi) (by simpa using hj) hij
    rwa [Array.getElem_toList, Array.getElem_toList] at this⟩
theorem below_go {xs : Array Nat} (hu : Up xs) (j : Nat) : ∀ (f lo hi : Nat), hi ≤ xs.size → lo ≤ hi → hi - lo ≤ f → (∀ i (h : i < xs.size), i < lo → xs[i] < j) → (∀ i (h : i < xs.size), hi ≤ i → j ≤ xs[i]) →
    (SetTable.below.go xs j f lo hi) ≤ xs.size ∧ (∀ i (h : i < xs.size), i < SetTable.below.go xs j f lo hi → xs[i] < j) ∧ (∀ i (h : i < xs.size), SetTable.below.go xs j f lo hi ≤ i → j ≤ xs[i]) := by
  intro f
  induction f with
  | zero =>
    intro lo hi h1 h2 h3 h4 h5
    have : lo = hi := by omega
    subst this
    unfold SetTable.below.go
    exact ⟨h1, h4, h5⟩
  | succ f ih =>
    intro lo hi h1 h2 h3 h4 h5
    unfold SetTable.below.go
    by_cases hlh : lo < hi
    · rw [if_pos hlh]
      have hm : (lo + hi) / 2 < xs.size := by omega
      have e : xs.getD ((lo + hi) / 2) j = xs[(lo + hi) / 2] := by simp [Array.getD, hm]
      dsimp only
      rw [e]
      by_cases hc : xs[(lo + hi) / 2] < j
      · rw [if_pos hc]
        refine ih _ _ h1 (by omega) (by omega) (fun i h hi' => ?_) h5
        by_cases z : i = (lo + hi) / 2
        · subst z; exact hc
        · exact Nat.lt_trans (hu i _ h hm (by omega)) hc
      · rw [if_neg hc]
        refine ih _ _ (by omega) (by omega) (by omega) h4 (fun i h hi' => ?_)
        by_cases z : i = (lo + hi) / 2
        · subst z; omega
        · have := hu _ i hm h (by omega); omega
    · rw [if_neg hlh]
      have : lo = hi := by omega
      subst this
      exact ⟨h1, h4, h5⟩
theorem below_ok {xs : Array Nat} (hu : Up xs) (j : Nat) : SetTable.below xs j ≤ xs.size ∧ (∀ i (h : i < xs.size), i < SetTable.below xs j → xs[i] < j) ∧ (∀ i (h : i < xs.size), SetTable.below xs j ≤ i → j ≤ xs[i]) :=
  below_go hu j xs.size 0 xs.size (Nat.le_refl _) (Nat.zero_le _) (by omega) (fun i _ h => absurd h (Nat.not_lt_zero _)) (fun i h h' => absurd h (Nat.not_lt.mpr h'))
theorem up_put {xs : Array Nat} (hu : Up xs) {j : Nat} (hn : xs[SetTable.below xs j]? ≠ some j) : Up (SetTable.insertAt xs (SetTable.below xs j) j) := by
  obtain ⟨h1, h2, h3⟩ := below_ok hu j
  rw [up_list, SetTable.toList_insertAt]
  have hl := up_list.mp hu
  have hgt : ∀ i (h : i < xs.size), SetTable.below xs j ≤ i → j < xs[i] := by
    intro i h hi
    have := h3 i h hi
    by_cases z : SetTable.below xs j = i
    · have : xs[i] ≠ j := fun e => hn (by rw [z]; simp [h, e])
      omega
    · have a := hu _ i (by omega) h (Nat.lt_of_le_of_ne hi z)
      have b := h3 (SetTable.below xs j) (by omega) (Nat.le_refl _)
      omega
  rw [List.pairwise_append]
  refine ⟨hl.take, ?_, ?_⟩
  · rw [List.pairwise_cons]
    refine ⟨fun y hy => ?_, hl.drop⟩
    obtain ⟨i, hi, e⟩ := List.mem_iff_getElem.mp hy
    rw [List.getElem_drop] at e
    have hi' : SetTable.below xs j + i < xs.size := by simp at hi; omega
    have := hgt _ hi' (Nat.le_add_right _ _)
    rw [← e]; simpa using this
  · intro x hx y hy
    obtain ⟨i, hi, e⟩ := List.mem_iff_getElem.mp hx
    have hib : i < SetTable.below xs j := by simp at hi; omega
    have hx' : x < j := by
      rw [← e, List.getElem_take]
      have := h2 i (by omega) hib
      simpa using this
    rcases List.mem_cons.mp hy with rfl | hy
    · exact hx'
    · obtain ⟨k, hk, e2⟩ := List.mem_iff_getElem.mp hy
      rw [List.getElem_drop] at e2
      have hk' : SetTable.below xs j + k < xs.size := by simp at hk; omega
      have := hgt _ hk' (Nat.le_add_right _ _)
      have h : xs.toList[SetTable.below xs j + k]'(by simpa using hk') = xs[SetTable.below xs j + k] := by simp
      rw [h] at e2
      omega
structure Tab (w : World) (t : SetTable) : Prop where
  up : Up t.place
  no : t.dummies = #[]
  led : t.led = !w.params.followText "set-order"
theorem tab_slot {w : World} {t : SetTable} (T : Tab w t) (j : Nat) : t.slot j ≠ .dummy := by
  unfold SetTable.slot
  rw [T.no]
  dsimp only
  split
  · exact fun z => nomatch z
  · have : SetTable.has #[] j = false := rfl
    rw [this]
    exact fun z => nomatch z
theorem tab_go {w : World} {t : SetTable} (T : Tab w t) (g : Nat → Int) (h : Int) : ∀ (f : Nat) (p : SetTable.Probe) (j : Nat) (d : Option Nat), p.dummy = none → SetTable.probe.go t g h f p = some (.empty j d) → t.slot j = .empty ∧ d = none := by
  intro f
  induction f with
  | zero => intro p j d _ e; unfold SetTable.probe.go at e; cases e
  | succ f ih =>
    intro p j d hp e
    have adv : ∀ q : SetTable.Probe, q.dummy = none → (t.advance q).dummy = none := by
      intro q hq
      unfold SetTable.advance
      split
      · exact hq
      · exact hq
    unfold SetTable.probe.go at e
    split at e
    · rename_i hs
      cases e
      exact ⟨hs, hp⟩
    · rename_i hs
      exact absurd hs (tab_slot T _)
    · split at e
      · cases e
      · exact ih _ _ _ (adv _ hp) e
theorem tab_free {w : World} {t : SetTable} (T : Tab w t) {h : Int} {j : Nat} {b : Bool} (e : t.freeSlot h = some (j, b)) : t.place[SetTable.below t.place j]? ≠ some j := by
  unfold SetTable.freeSlot at e
  split at e
  · rename_i j' d hp
    unfold SetTable.probe at hp
    obtain ⟨hs, hd⟩ := tab_go T _ _ _ _ _ _ rfl hp
    subst hd
    cases e
    unfold SetTable.slot at hs
    dsimp only [Option.getD_none] at hs ⊢
    split at hs
    · cases hs
    · rename_i hn
      intro z
      exact hn (by rw [z]; simp)
  · cases e
theorem tab_stand {w : World} {t : SetTable} (T : Tab w t) (n : Nat) : Tab w (t.standIn n) := by
  refine ⟨?_, rfl, T.led⟩
  show Up (Array.range n)
  intro i j hi hj hij
  simpa using hij
theorem tab_or {w : World} {t : SetTable} (T : Tab w t) (n : Nat) : Tab w (t.orStandIn n) := by
  unfold SetTable.orStandIn
  split
  · exact T
  · exact tab_stand T n
theorem tab_lay {w : World} {t : SetTable} (T : Tab w t) (es : Array (Int × Value)) (h : Int) (x : Value) : Tab w (layNew t es h x).2.1 := by
  unfold layNew
  split
  · rename_i j b e
    refine tab_or (t := (t.put j).1) ⟨up_put T.up (tab_free T e), ?_, T.led⟩ _
    show (if SetTable.has t.dummies j = true then _ else t.dummies) = #[]
    rw [T.no]
    rfl
  · exact tab_stand T _
theorem tab_relay {w : World} {t : SetTable} (T : Tab w t) (es : Array (Int × Value)) (n : Nat) : Tab w (relayAll t es n).2.1 := by
  unfold relayAll
  split
  · rename_i t' order e
    dsimp only
    split
    · unfold SetTable.relaid SetTable.laid at e
      obtain ⟨owner, _, e⟩ := Option.bind_eq_some_iff.mp e
      have e' := Option.some.inj e
      have e1 := congrArg Prod.fst e'
      subst e1
      refine ⟨?_, rfl, T.led⟩
      rw [up_list]
      have key : ∀ l : List Nat, l.Pairwise (· < ·) → ((l.filterMap fun j => (owner.getD j none).map (j, ·)).map (·.1)).Pairwise (· < ·) := by
        intro l hl
        have : (l.filterMap fun j => (owner.getD j none).map (j, ·)).map (·.1) = l.filter fun j => (owner.getD j none).isSome := by
          induction l with
          | nil => rfl
          | cons a l ih =>
            have ih := ih (List.pairwise_cons.mp hl).2
            cases ho : owner.getD a none with
            | none => rw [List.filterMap_cons_none (by rw [ho]; rfl), List.filter_cons_of_neg (by rw [ho]; simp), ih]
            | some b => rw [List.filterMap_cons_some (b := (a, b)) (by rw [ho]; rfl), List.filter_cons_of_pos (by rw [ho]; rfl), List.map_cons, ih]
        rw [this]
        exact hl.filter _
      simpa using key _ List.pairwise_lt_range
    · exact tab_stand T _
  · exact tab_stand T _
def SetX (prog : Program) (w : World) (h : Heap) (a : Addr) (L : List Int) : Prop :=
  ∃ o es ep t, h.get? a = some o ∧ o.ExactSet ∧ o.data = .set es ep t ∧ ElemsOf (intKind prog w) es.toList ∧ es.size < scanBound ∧ t.fits es.size = true ∧ Tab w t ∧ (es.toList.map fun e => numOf e.2).Perm L
section
variable {prog : Program} {w : World} {A : Around} {E : Value → Shared → Prop} {s : Shared}
theorem SetX.keep {h h' : Heap} {a : Addr} {L : List Int} (x : SetX prog w h a L) (k : ∀ o, h.get? a = some o → h'.get? a = some o) : SetX prog w h' a L := by
  obtain ⟨o, es, ep, t, ho, r⟩ := x
  exact ⟨o, es, ep, t, k o ho, r⟩
theorem int_num {k : Int} {v : Value} (h : (intKind prog w).is k v = true) : numOf v = k := by
  obtain ⟨t, rfl⟩ := Value.isInt_shape (k := k) (v := v) h
  rfl
theorem storeX {h : Heap} {a : Addr} {o : Obj} {es es' : Array (Int × Value)} {ep : Nat} {t t' : SetTable} {L : List Int} (ho : h.get? a = some o) (hx : o.ExactSet) (hd : o.data = .set es ep t)
    (he : ElemsOf (intKind prog w) es'.toList) (hb : es'.size < scanBound) (hf : t'.fits es'.size = true) (hT : Tab w t') (hp : (es'.toList.map fun e => numOf e.2).Perm L) :
    (h.update a (Obj.putSet es' t')).get? a = some { o with data := .set es' (ep + 1) t' } ∧ SetX prog w (h.update a (Obj.putSet es' t')) a L := by
  have g := Heap.get?_update_self (Obj.putSet es' t') ho (by rw [putSet_of es' t' hd]; rfl)
  rw [putSet_of es' t' hd] at g
  exact ⟨g, _, es', ep + 1, t', g, hx, rfl, he, hb, hf, hT, hp⟩
theorem tailX {g : Bool → Sem Unit} (hg : ∀ (b : Bool) (s₁ : Shared) (Q' : Unit → Shared → Prop), Q' () s₁ → wpAny (model prog w) A (g b) Q' E s₁) {a : Addr} {o : Obj} {es es1 : Array (Int × Value)} {ep : Nat} {t t2 : SetTable} {L : List Int} {dm : Bool}
    {R : Option Bool → Shared → Prop} (ho : s.heap.get? a = some o) (hx : o.ExactSet) (hd : o.data = .set es ep t) (he : ElemsOf (intKind prog w) es1.toList) (hb : es1.size < scanBound) (hf : t2.fits es1.size = true) (hT : Tab w t2) (hp : (es1.toList.map fun e => numOf e.2).Perm L)
    (h : ∀ h', Heap.SameBut a s.heap h' → SetX prog w h' a L → R (some true) { s with heap := h' }) :
    wpAny (model prog w) A (do
        storeSet a es1 t2
        if (!dm && t2.tooFull) = true then do
            g (relayAll t2 es1 (SetTable.grown es1.size)).2.2
            storeSet a (relayAll t2 es1 (SetTable.grown es1.size)).1 (relayAll t2 es1 (SetTable.grown es1.size)).2.1
            pure (some true)
          else pure (some true)) R E s := by
  obtain ⟨g1, x1⟩ := storeX (prog := prog) ho hx hd he hb hf hT hp
  have b1 := Heap.SameBut.update s.heap a (Obj.putSet es1 t2)
  refine wpAny_bind (wpAny_storeSet_of ho hd ?_ (fits_of_scanBound hb))
  by_cases hc : (!dm && t2.tooFull) = true
  · rw [if_pos hc]
    have hpr := relayAll_perm t2 es1 (SetTable.grown es1.size)
    have hfr := relayAll_fits t2 es1 (SetTable.grown es1.size)
    have hTr := tab_relay hT es1 (SetTable.grown es1.size)
    have hsz : (relayAll t2 es1 (SetTable.grown es1.size)).1.size < scanBound := by
      rw [← Array.length_toList, hpr.length_eq, Array.length_toList]; exact hb
    obtain ⟨_, x2⟩ := storeX (prog := prog) g1 hx rfl (he.perm hpr) hsz hfr hTr ((hpr.map _).trans hp)
    exact wpAny_bind (hg _ _ _ (wpAny_bind (wpAny_storeSet_of g1 rfl (wpAny_pure (h _ (b1.trans (Heap.SameBut.update _ a _)) x2)) (fits_of_scanBound hsz))))
  · rw [if_neg hc]
    exact wpAny_pure (h _ b1 x1)
theorem addX {a : Addr} {L : List Int} {k : Int} {tk : Tok} {Q : Bool → Shared → Prop} (hX : SetX prog w s.heap a L) (hroom : L.length + 1 < scanBound)
    (h : ∀ h' b, Heap.SameBut a s.heap h' → SetX prog w h' a (step_dedup L k) → Q b { s with heap := h' }) : wpAny (model prog w) A (setAddHashed a (.int k tk) ((intKind prog w).hash k)) Q E s := by
  obtain ⟨o, es, ep, t, ho, hx, hd, hel, hb, hf, hT, hp⟩ := hX
  have hkey : (intKind prog w).is k (.int k tk) = true := intKind_is _ _ _ _
  have hsz : es.size = L.length := by rw [← hp.length_eq, List.length_map, Array.length_toList]
  unfold setAddHashed setAddHashedIn
  refine wpAny_holding (wpAny_bind (wpAny_setState_of ho hd hf ?_))
  dsimp only
  rw [byScan_of (knd := intKind prog w) rfl hb hel, if_pos rfl]
  unfold setAddByScan
  refine wpAny_bind (wpAny_bind (wpAny_rule (wpAny_bind (wpAny_setScan_of hkey ho hd hf hel ?_))))
  have hin : (L.any (· == k)) = true ↔ ∃ e ∈ es.toList, (intKind prog w).is k e.2 = true := by
    rw [List.any_eq_true]
    constructor
    · rintro ⟨x, hxL, e⟩
      obtain ⟨y, hy, ey⟩ := List.mem_map.mp (hp.mem_iff.mpr hxL)
      obtain ⟨⟨k', hk', _⟩, _⟩ := hel y hy
      have : numOf y.2 = k' := int_num hk'
      have : k' = k := by rw [← this, ey]; simpa using e
      subst this
      exact ⟨y, hy, hk'⟩
    · rintro ⟨y, hy, hk'⟩
      refine ⟨k, hp.mem_iff.mp (List.mem_map.mpr ⟨y, hy, int_num hk'⟩), by simp⟩
  cases hr : List.findIdx? (fun e => (intKind prog w).is k e.2) es.toList with
  | some j =>
    obtain ⟨hj, hpj, _⟩ := List.findIdx?_eq_some_iff_getElem.mp hr
    have hL : step_dedup L k = L := by unfold step_dedup; rw [if_pos (hin.mpr ⟨_, List.getElem_mem hj, hpj⟩)]
    refine wpAny_pure (wpAny_pure ?_)
    exact h s.heap _ (Heap.SameBut.refl a s.heap) (by rw [hL]; exact ⟨o, es, ep, t, ho, hx, hd, hel, hb, hf, hT, hp⟩)
  | none =>
    have hL : step_dedup L k = L ++ [k] := by
      unfold step_dedup
      rw [if_neg]
      intro z
      obtain ⟨e, he, hk'⟩ := hin.mp z
      have := List.findIdx?_eq_none_iff.mp hr e he
      rw [hk'] at this
      cases this
    have q1 := layNew_perm t es ((intKind prog w).hash k) (.int k tk)
    have q2 := layNew_fits t es ((intKind prog w).hash k) (.int k tk)
    have q3 := tab_lay hT es ((intKind prog w).hash k) (.int k tk)
    generalize layNew t es ((intKind prog w).hash k) (.int k tk) = lay at q1 q2 q3 ⊢
    obtain ⟨es1, t1, dm, gv⟩ := lay
    dsimp only at q1 q2 q3 ⊢
    rw [Array.toList_push] at q1
    have he1 : ElemsOf (intKind prog w) es1.toList := (hel.push hkey rfl).perm q1
    have hz1 : es1.size < scanBound := by
      rw [← Array.length_toList, q1.length_eq, List.length_append, Array.length_toList, hsz]; simpa using hroom
    have hp1 : (es1.toList.map fun e => numOf e.2).Perm (step_dedup L k) := by
      rw [hL]
      refine (q1.map _).trans ?_
      rw [List.map_append]
      exact hp.append_right _
    have hgw : ∀ (b : Bool) (s₁ : Shared) (Q' : Unit → Shared → Prop), Q' () s₁ → wpAny (model prog w) A (match b with | true => rule "set.scan.the-table-gave-way" | false => pure ()) Q' E s₁ :=
      fun b s₁ Q' hq => by cases b <;> first | exact wpAny_pure hq | exact wpAny_rule hq
    refine wpAny_bind (hgw _ _ _ ?_)
    split
    · refine wpAny_bind ?_
      rw [hashByValue_scannable 8 rfl]
      refine wpAny_pure (tailX hgw ho hx hd he1 hz1 q2 q3 hp1 fun h' hsb hX' => ?_)
      exact wpAny_pure (h h' _ hsb hX')
    · refine wpAny_bind (wpAny_pure ?_)
      rw [if_pos rfl]
      refine tailX hgw ho hx hd he1 hz1 q2 q3 hp1 fun h' hsb hX' => ?_
      exact wpAny_pure (h h' _ hsb hX')
end
section
variable {prog : Program} {w : World} {A : Around} {R : Result → Shared → Prop} {I : Addr} {fp wr : List Addr} {G : Array GenState → Array GenState → Prop} {n : Nat} {P : Nat → Value → Prop} {St : Nat → Shared → Prop}
theorem updX (W : WalksS prog w A.in1 I fp wr G n P St) (S : Addr) (hSf : S ∉ fp) (val : Nat → Int) (hval : ∀ i v, P i v → ∃ t, v = .int (val i) t) (hb : n + 1 < scanBound) :
    ∀ (k i : Nat) (s : Shared), i + k = n → St i s → SetX prog w s.heap S (firstMet val i) →
      (∀ s', Moved (S :: wr) G s s' → SetX prog w s'.heap S (firstMet val n) → R (.ok (.ret .none)) s') →
      codeAny (model prog w) A (.builtin "set.update.loop" ⟨[.ref S, .ref I], []⟩) R s := by
  have nw : S ∉ wr := fun z => hSf (W.sub _ z)
  have up : ∀ b ∈ wr, b ∈ S :: wr := fun b hb => List.mem_cons_of_mem _ hb
  intro k
  induction k with
  | zero =>
    intro i s hk hst hX hR
    obtain rfl : i = n := hk
    refine codeAny_builtin F.entry_set_update_loop ?_
    rw [Around.under_plainId F.plain_set_update_loop _]
    exact wpAny_bind (m := pyNext (.ref I)) (W.done s _ _ hst fun s' hm => wpAny_pure (hR s' (hm.mono up) (hX.keep fun o e => hm.heap S o nw e)))
  | succ k ih =>
    intro i s hk hst hX hR
    refine codeAny_builtin F.entry_set_update_loop ?_
    rw [Around.under_plainId F.plain_set_update_loop _]
    refine wpAny_bind (m := pyNext (.ref I)) (W.item i s _ _ (by omega) hst fun v s1 hP st1 hm => ?_)
    obtain ⟨t, rfl⟩ := hval i v hP
    refine wpAny_bind (m := holding [Value.int (val i) t] (setAdd S (.int (val i) t))) (wpAny_holding ?_)
    unfold setAdd
    have X1 : SetX prog w s1.heap S (firstMet val i) := hX.keep fun o e => hm.heap S o nw e
    have room : (firstMet val i).length + 1 < scanBound := by have := firstMet_length_le val i; omega
    refine wpAny_holding (wpAny_bind ((intKind prog w).pyHash (k := val i) (intKind_is _ _ _ _) ?_))
    refine addX (s := { s1 with toks := s1.toks + 1 }) X1 room fun h2 b hsb X2 => ?_
    rw [← firstMet_succ] at X2
    have oth : ∀ b o, b ≠ S → s1.heap.get? b = some o → h2.get? b = some o := fun b o hne e => (hsb.2 b hne).trans e
    refine wpAny_pure ⟨plainId_quiet F.plain_set_update_loop _, ih (i + 1) _ (by omega) (W.frame _ s1 _ _ st1 (Nat.le_succ _) fun b hbf o e => oth b o (fun z => hSf (z ▸ hbf)) e) X2 fun s3 m3 X3 => ?_⟩
    exact hR s3 (Moved.trans W.gtrans ((hm.mono up).then_heap (Nat.le_succ _) fun b o hb e => oth b o (fun z => hb (by rw [z]; exact List.mem_cons_self)) e) m3) X3
end
section
variable {prog : Program} {w : World} {A : Around} {E : Value → Shared → Prop} {s : Shared}
abbrev set0 (w : World) : Obj := { cls := .type "set", dict := none, data := .set #[] 0 (.fresh 0 0 (!w.params.followText "set-order")) }
theorem newX (a : Value) {Q₁ : Value → Shared → Prop} (h : Q₁ (.ref s.heap.objs.size) { s with heap := s.heap.push (set0 w) }) : codeAny (model prog w) A (.call (.builtin "set.__new__") ⟨[.type "set", a], []⟩) (wants Q₁ E) s := by
  refine codeAny_of_tree ?_
  show wpAny _ A.in1 (checkBuiltinCall "set.__new__" ⟨[.type "set", a], []⟩ >>= fun _ => again (.builtin "set.__new__" ⟨[.type "set", a], []⟩)) _ _ s
  refine wpAny_bind (wpAny_of_eq (F.newCall_set_1 a) (wpAny_pure ⟨plainId_quiet F.plain_set_new _, codeAny_builtin F.entry_set_new ?_⟩))
  rw [Around.under_plainId F.plain_set_new _]
  unfold Builtin.«set.__new__» Builtin.Frozenset.newClass
  have sub := sub_set_self
  obtain ⟨hp, g, d, tk, os⟩ := s
  dsimp only
  wp_walk
  refine wpAny_askSetting (wpAny_pure ?_)
  dsimp only
  simp only [newObj]
  exact wpAny_bind (wpAny_alloc (wpAny_pure (wpAny_pure h)))
theorem freshX (h : Heap) : SetX prog w (h.push (set0 w)) h.objs.size [] :=
  ⟨_, #[], 0, _, Heap.get?_push_size _ rfl, ⟨rfl, rfl, rfl⟩, rfl, fun e he => by simp at he, by decide, rfl, ⟨fun i j hi => absurd hi (Nat.not_lt_zero _), rfl, rfl⟩, by simp⟩
set_option maxHeartbeats 8000000 in
theorem callX {l : Addr} {items : Array Value} {ns : List Int} {Q : Value → Shared → Prop} (hh : A.handled = none) (hl : s.heap.IsList l items) (hi : IntsAre items.toList ns) (hb : items.size + 1 < scanBound)
    (h : ∀ (h' : Heap) (tk : Nat), SetX prog w h' s.heap.objs.size (firstMet (fun i => ns.getD i 0) items.size) → (∀ b o, b < s.heap.objs.size → s.heap.get? b = some o → h'.get? b = some o) → Q (.ref s.heap.objs.size) { s with heap := h', toks := tk }) :
    wpAny (model prog w) A (call (.type "set") [.ref l]) Q E s := by
  obtain ⟨c, tl, hmro⟩ := F.called_set.mro
  have made := F.called_set.made
  have sub := F.called_set.sub
  have u1 := F.called_set.notType
  have u2 := F.called_set.canCreate
  have u3 := F.typeCall_set_1 (.ref l)
  refine wpAny_call (codeAny_of_tree ?_)
  show wpAny _ _ (callAny (.type "set") _) _ _ _
  refine wpAny_pure ⟨Code.quiet_builtin _ (by decide +kernel), codeAny_builtin F.entry_type_call ?_⟩
  rw [Around.under_plain (weight_type_call_type "set" [.ref l] []) rfl]
  repeat (any_goals (first | assumption | wp_step))
  refine codeAny_mono (newX (.ref l) (E := E) (Q₁ := fun obj s₁ => obj = .ref s.heap.objs.size ∧ s₁ = { s with heap := s.heap.push (set0 w) }) ⟨rfl, rfl⟩) fun r s₁ hr => ?_
  cases r with
  | error e => exact hr
  | ok fl =>
    cases fl with
    | ret obj =>
      obtain ⟨rfl, rfl⟩ := hr
      have gS : (s.heap.push (set0 w)).get? s.heap.objs.size = some (set0 w) := Heap.get?_push_size _ rfl
      have hT : Shared.TypeIs { s with heap := s.heap.push (set0 w) } (.ref s.heap.objs.size) "set" := ⟨_, gS, rfl⟩
      have u4 := F.called_set.init.lookup
      have u5 := F.called_set.init.bind (.ref s.heap.objs.size)
      repeat (any_goals (first | assumption | wp_step))
      refine codeAny_mono (codeAny_call_builtin (R := wants (fun r s₂ => r = .none ∧ ∃ h' tk, s₂ = { s with heap := h', toks := tk } ∧ SetX prog w h' s.heap.objs.size (firstMet (fun i => ns.getD i 0) items.size) ∧
          (∀ b o, b < s.heap.objs.size → s.heap.get? b = some o → h'.get? b = some o)) E) F.called_set.init.plain F.entry_set_init (check_set_init_1 hT ?_)) fun r₂ s₂ hr₂ => ?_
      · obtain ⟨⟨cl, di, da, sl⟩, ol, cl', nl, da'⟩ := hl
        simp only at cl' da'
        subst cl' da'
        have hol : (s.heap.push (set0 w)).get? l = some { cls := .type "list", dict := di, data := .seq items nl, slots := sl } := Heap.get?_push_of_some _ ol
        have v1 := F.sub_list_set
        have v2 := F.sub_list_frozenset
        have v3 : (Value.type "list" == Value.type "dict") = false := by decide
        have hl1 : (s.heap.push (set0 w)).IsList l items := ⟨_, hol, rfl, nl, rfl⟩
        unfold Builtin.«set.__init__» noKeywords Builtin.Frozenset.updateFrom
        generalize hPI : pyIter = PI
        wp_walk
        subst hPI
        refine wpAny_pyIter_list hl1 (wpAny_bind (wpAny_runValue ?_))
        have lS : l < s.heap.objs.size := Heap.lt_size ol
        have z1 : (s.heap.push (set0 w)).objs.size = s.heap.objs.size + 1 := Heap.size_push _ _
        have lI : l ≠ (s.heap.push (set0 w)).objs.size := by rw [z1]; exact Nat.ne_of_lt (Nat.lt_succ_of_lt lS)
        have hSf : s.heap.objs.size ∉ [(s.heap.push (set0 w)).objs.size, l] := by
          rw [z1]
          intro z
          rcases List.mem_cons.mp z with z | z
          · exact absurd z (Nat.ne_of_lt (Nat.lt_succ_self _))
          · exact absurd (List.mem_singleton.mp z) (Nat.ne_of_gt lS)
        have hval : ∀ (i : Nat) (v : Value), items[i]? = some v → ∃ t, v = .int ((fun i => ns.getD i 0) i) t := fun i v hv => IntsAre.int_at hi i v (by rw [Array.getElem?_toList]; exact hv)
        refine updX ((Walks.list (by simp [hh]) _ l lI items).toS) s.heap.objs.size hSf (fun i => ns.getD i 0) hval hb items.size 0 _ (Nat.zero_add _)
          ⟨⟨_, Heap.get?_push_size _ rfl, rfl, rfl⟩, hl1.push _⟩ ((freshX s.heap).keep fun o e => Heap.get?_push_of_some _ e) fun s' hm X' => ?_
        obtain ⟨h', g', d', tk', os'⟩ := s'
        obtain rfl : g' = s.gens := hm.gens
        obtain rfl : d' = s.drawn := hm.drawn
        obtain rfl : os' = s.os := hm.os
        refine wpAny_pure (wpAny_pure ⟨rfl, h', tk', rfl, X', fun b o hb e => hm.heap b o (fun z => ?_) (Heap.get?_push_of_some _ (Heap.get?_push_of_some _ e))⟩)
        rcases List.mem_cons.mp z with z | z
        · exact absurd z (Nat.ne_of_lt hb)
        · have z' := List.mem_singleton.mp z
          rw [z1] at z'
          exact absurd z' (Nat.ne_of_lt (Nat.lt_succ_of_lt hb))
      · cases r₂ with
        | error e => exact hr₂
        | ok fl₂ =>
          cases fl₂ with
          | ret r =>
            obtain ⟨rfl, h', tk, rfl, X', hk'⟩ := hr₂
            repeat (any_goals (first | assumption | wp_step))
            exact h _ _ X' hk'
          | _ => exact hr₂.elim
    | _ => exact hr.elim
end
end L2
set_option Elab.async false
set_option linter.all false
set_option maxRecDepth 100000
set_option maxHeartbeats 4000000
namespace L2
open PySem PySem.Spec PyProof.Rows
namespace SiF
theorem slot_si_next : Slot "set_iterator" "__next__" "set_iterator.__next__" :=
  .of (owner := "set_iterator") (n := "__next__") (by rw [typeLookup_type, builtinLookup_eq_fast]; kernel_rfl) (by decide +kernel) (by decide +kernel) (by decide +kernel)
    (by first | exact .inl (by decide +kernel) | exact .inr (by decide +kernel)) (by rw [isSubtype_type]; kernel_rfl)
theorem entry_si_next : entryFor table "set_iterator.__next__" = some Builtin.«set_iterator.__next__» := entryFor_of_fast (by kernel_rfl)
theorem args_si_next (a : Value) : argsOk "set_iterator.__next__" ⟨[a], []⟩ := by unfold argsOk; kernel_rfl
theorem slot_si_iter : Slot "set_iterator" "__iter__" "set_iterator.__iter__" :=
  .of (owner := "set_iterator") (n := "__iter__") (by rw [typeLookup_type, builtinLookup_eq_fast]; kernel_rfl) (by decide +kernel) (by decide +kernel) (by decide +kernel)
    (by first | exact .inl (by decide +kernel) | exact .inr (by decide +kernel)) (by rw [isSubtype_type]; kernel_rfl)
theorem entry_si_iter : entryFor table "set_iterator.__iter__" = some Builtin.«dict_keyiterator.__iter__» := entryFor_alias (id' := "dict_keyiterator.__iter__") (by kernel_rfl) rfl (by decide +kernel) (by kernel_rfl)
theorem args_si_iter (a : Value) : argsOk "set_iterator.__iter__" ⟨[a], []⟩ := by unfold argsOk; kernel_rfl
theorem entry_set_iter : entryFor table "set.__iter__" = some Builtin.«frozenset.__iter__» := entryFor_alias (id' := "frozenset.__iter__") (by kernel_rfl) rfl (by decide +kernel) (by kernel_rfl)
end SiF
theorem erase_perm {α : Type} : ∀ {l : List α} {i : Nat} (h : i < l.length), (l[i] :: l.eraseIdx i).Perm l
  | a :: l, 0, h => .rfl
  | a :: l, i + 1, h => (List.Perm.swap a _ _).trans ((erase_perm (l := l) (i := i) (by simpa using h)).cons a)
section
variable {prog : Program} {w : World} {A : Around} {E : Value → Shared → Prop}
theorem chooseW {src : Source} {n : Nat} (hn : n ≠ 0) {s : Shared} {Q : Nat → Shared → Prop} (h : ∀ i d, i < n → Q i { s with drawn := d }) : wpAny (model prog w) A (choose src n) Q E s := by
  intro Γ p hΓ
  show Sem.wp _ _ (.choose src n .pure) _ _ _ _
  rw [Sem.wp_choose]
  exact ⟨hn, h _ _ (Nat.mod_lt _ (Nat.pos_of_ne_zero hn))⟩
theorem drawW {α : Type} : ∀ (n : Nat) (xs : List α) (s : Shared) (Q : List α → Shared → Prop), xs.length = n → (∀ ys d, ys.Perm xs → Q ys { s with drawn := d }) → wpAny (model prog w) A (drawOrder n xs) Q E s
  | 0, xs, s, Q, hl, h => by
    unfold drawOrder
    have : xs = [] := List.eq_nil_of_length_eq_zero hl
    subst this
    exact wpAny_pure (h [] s.drawn .rfl)
  | n + 1, [], s, Q, hl, h => by cases hl
  | n + 1, x :: xs, s, Q, hl, h => by
    unfold drawOrder
    refine wpAny_bind (chooseW (by simp) fun i d hi => ?_)
    rw [List.getElem?_eq_getElem hi]
    dsimp only
    refine wpAny_bind (drawW n _ _ _ (by rw [List.length_eraseIdx_of_lt hi]; simp at hl ⊢; omega) fun ys d' hp => wpAny_pure (h _ d' ?_))
    exact ((hp.cons _)).trans (erase_perm hi)
end
theorem pick_go {α : Type} (f : Nat → Nat) : ∀ (n k : Nat) (left : List α) (out : Array α), left.length = n → (pickOrder.go f n k left out).toList.Perm (out.toList ++ left)
  | 0, k, left, out, hl => by
    have : left = [] := List.eq_nil_of_length_eq_zero hl
    subst this
    unfold pickOrder.go
    simp
  | n + 1, k, left, out, hl => by
    unfold pickOrder.go
    have hi : f k % left.length < left.length := Nat.mod_lt _ (by omega)
    rw [List.getElem?_eq_getElem hi]
    dsimp only
    refine (pick_go f n (k + 1) _ _ (by rw [List.length_eraseIdx_of_lt hi]; omega)).trans ?_
    rw [Array.toList_push, List.append_assoc]
    exact List.Perm.append_left _ (erase_perm hi)
theorem pick_perm {α : Type} (f : Nat → Nat) (xs : Array α) : (pickOrder f xs).toList.Perm xs.toList := by
  unfold pickOrder
  simpa using pick_go f xs.size 0 xs.toList #[] (by simp)
end L2
set_option Elab.async false
set_option linter.all false
set_option maxRecDepth 100000
set_option maxHeartbeats 400000
namespace L2
open PySem PySem.Spec PyProof.Rows
def SetAt (w : World) (h : Heap) (a : Addr) (es : Array (Int × Value)) (ep : Nat) (t : SetTable) : Prop := ∃ o, h.get? a = some o ∧ o.cls = .type "set" ∧ o.data = .set es ep t ∧ t.fits es.size = true ∧ Tab w t
theorem SetAt.keep {w : World} {h h' : Heap} {a : Addr} {es : Array (Int × Value)} {ep : Nat} {t : SetTable} (x : SetAt w h a es ep t) (k : ∀ o, h.get? a = some o → h'.get? a = some o) : SetAt w h' a es ep t := let ⟨o, e, r⟩ := x; ⟨o, k o e, r⟩
def slotAt (t : SetTable) (i : Nat) : Nat := if i = 0 then 0 else t.place.getD (i - 1) 0 + 1
theorem slot_below {w : World} {t : SetTable} (T : Tab w t) {i : Nat} (hi : i ≤ t.place.size) : SetTable.below t.place (slotAt t i) = i := by
  obtain ⟨h1, h2, h3⟩ := below_ok T.up (slotAt t i)
  by_cases z : i = 0
  · subst z
    have e : slotAt t 0 = 0 := rfl
    rw [e] at h2 h1 ⊢
    by_cases q : SetTable.below t.place 0 = 0
    · exact q
    · have := h2 0 (by omega) (by omega)
      omega
  · have e : slotAt t i = t.place[i - 1]'(by omega) + 1 := by unfold slotAt; rw [if_neg z]; simp [Array.getD, show i - 1 < t.place.size by omega]
    rw [e] at h1 h2 h3 ⊢
    rcases Nat.lt_trichotomy (SetTable.below t.place (t.place[i - 1]'(by omega) + 1)) i with q | q | q
    · have := h3 (i - 1) (by omega) (by omega)
      omega
    · exact q
    · have hi2 : i < t.place.size := by omega
      have a := h2 i hi2 q
      have b := T.up (i - 1) i (by omega) hi2 (by omega)
      omega
inductive Way (w : World) (h : Heap) (T0 S : Addr) (es : Array (Int × Value)) (ep : Nat) (t : SetTable) (fs : List (Int × Value)) (i : Nat) : Value → Prop where
  | text (hw : w.params.followText "set-order" = true) (hf : fs = (pickOrder (w.params.setOrder S ep) es).toList) : Way w h T0 S es ep t fs i (.int 0 0)
  | table (hw : w.params.followText "set-order" = false) (hd : (!t.plain && decide (es.size > 1)) = false) (hf : fs = es.toList) : Way w h T0 S es ep t fs i (.int (slotAt t i : Nat) 0)
  | drawn (hw : w.params.followText "set-order" = false) (pl : List Nat) (o : Obj) (n : Nat) (ho : h.get? T0 = some o) (hd : o.data = .seq (pl.map fun k => Value.int (k : Nat) 0).toArray n) (hl : pl.length = fs.length)
      (hf : ∀ (k : Nat) p, pl[k]? = some p → es[p]? = fs[k]?) : Way w h T0 S es ep t fs i (.ref T0)
def Sit (w : World) (h : Heap) (T0 I S : Addr) (es : Array (Int × Value)) (ep : Nat) (t : SetTable) (fs : List (Int × Value)) (i : Nat) : Prop :=
  ∃ o first, h.get? I = some o ∧ o.cls = .type "set_iterator" ∧ o.data = .fields #[first, .int (i : Nat) 0, .ref S, .int (es.size : Nat) 0, .int (ep : Nat) 0] ∧ Way w h T0 S es ep t fs i first
section
variable {prog : Program} {w : World} {A : Around} {E : Value → Shared → Prop} {s : Shared} {T0 I S : Addr} {es : Array (Int × Value)} {ep : Nat} {t : SetTable} {fs : List (Int × Value)} {i : Nat}
theorem Sit.typeIs (x : Sit w s.heap T0 I S es ep t fs i) : s.TypeIs (.ref I) "set_iterator" := let ⟨o, _, e, c, _⟩ := x; ⟨o, e, c⟩
theorem byText_of {b : Bool} (hw : w.params.followText "set-order" = b) {Q : Bool → Shared → Prop} (h : Q b s) : wpAny (model prog w) A setsByText Q E s := by
  unfold setsByText
  refine wpAny_bind (wpAny_askSetting (wpAny_pure ?_))
  show Q (w.params.followText "set-order") s
  rw [hw]; exact h
theorem setNext_text {sl : Nat} {Q : Option (Value × Nat) → Shared → Prop} (y : SetAt w s.heap S es ep t) (hw : w.params.followText "set-order" = true) (h : Q (((pickOrder (w.params.setOrder S ep) es)[i]?).map fun e => (e.2, sl)) s) :
    wpAny (model prog w) A (setNext S sl i ep) Q E s := by
  obtain ⟨oS, hoS, hcS, hdS, hf, T⟩ := y
  unfold setNext
  refine wpAny_bind (wpAny_setState_of hoS hdS hf ?_)
  dsimp only
  refine wpAny_bind (byText_of hw ?_)
  rw [if_pos rfl, if_neg (by simp)]
  refine wpAny_bind ?_
  unfold setWalk
  refine wpAny_bind (wpAny_setState_of hoS hdS hf ?_)
  dsimp only
  refine wpAny_bind (byText_of hw ?_)
  rw [if_pos rfl]
  refine wpAny_bind (wpAny_askSetting (wpAny_pure ?_))
  exact wpAny_pure h
theorem setNext_table {Q : Option (Value × Nat) → Shared → Prop} (y : SetAt w s.heap S es ep t) (hw : w.params.followText "set-order" = false) (hd : (!t.plain && decide (es.size > 1)) = false) (hi : i ≤ es.size)
    (h : Q (match es[i]?, t.place[i]? with | some (_, x), some j => some (x, j + 1) | _, _ => none) s) : wpAny (model prog w) A (setNext S (slotAt t i) i ep) Q E s := by
  obtain ⟨oS, hoS, hcS, hdS, hf, T⟩ := y
  have hsz : t.place.size = es.size := by
    simp only [SetTable.fits, Bool.and_eq_true, beq_iff_eq] at hf
    exact hf.1
  unfold setNext
  refine wpAny_bind (wpAny_setState_of hoS hdS hf ?_)
  dsimp only
  refine wpAny_bind (byText_of hw ?_)
  rw [if_neg Bool.false_ne_true]
  show wpAny _ _ (if (!t.plain && decide (es.size > 1)) = true then _ else _) _ _ _
  rw [hd, if_neg Bool.false_ne_true]
  show wpAny _ _ ((if (!t.led && !es.isEmpty) = true then unsupported "set:maker-not-led" else pure ()) >>= _) _ _ _
  rw [T.led, hw]
  refine wpAny_bind ?_
  rw [show (!(!false) && !es.isEmpty) = false from rfl, if_neg Bool.false_ne_true]
  refine wpAny_pure (wpAny_pure ?_)
  rw [slot_below T (by omega)]
  exact h
theorem next_item {e : Int × Value} {Q : Option Value → Shared → Prop} (x : Sit w s.heap T0 I S es ep t fs i) (y : SetAt w s.heap S es ep t) (hl : fs.length = es.size) (hi : fs[i]? = some e)
    (hQ : ∀ h', Heap.SameBut I s.heap h' → Sit w h' T0 I S es ep t fs (i + 1) → Q (some e.2) { s with heap := h' }) : wpAny (model prog w) A (pyNext (.ref I)) Q E s := by
  obtain ⟨o, first, ho, hc, hd, W⟩ := id x
  obtain ⟨oS, hoS, hcS, hdS, hf, T⟩ := id y
  have hlt : i < es.size := by rw [← hl]; exact (List.getElem?_eq_some_iff.mp hi).1
  unfold pyNext
  refine wpAny_bind (wpAny_attempt (wpAny_callSpecial?_slot (name := Str.ofString "__next__") x.typeIs SiF.slot_si_next (wpAny_call_entry SiF.slot_si_next x.typeIs SiF.entry_si_next ?_ (SiF.args_si_next _))))
  unfold Builtin.«set_iterator.__next__»
  refine wpAny_bind (m := slotArgs "__next__" 0 ⟨[.ref I], []⟩) (wpAny_pure ?_)
  refine wpAny_bind (wpAny_fieldsOf ho hd ?_)
  dsimp only
  refine wpAny_bind (wpAny_setEntries_of hoS hdS hf ?_)
  rw [if_neg (by simp)]
  have step2 : ∀ (nx : Nat) (v : Value), v = e.2 → (∀ h', (∀ T o, T ≠ I → s.heap.get? T = some o → h'.get? T = some o) → Way w h' T0 S es ep t fs (i + 1) (.int nx 0)) →
      wpAny (model prog w) A.in1 (do setField (.ref I) 0 (rawInt nx); setField (.ref I) 1 (rawInt ((i : Int) + 1)); ret v) (fun fin s' => ∃ v, fin = Fin.done (Flow.ret v) ∧ wpAny (model prog w) A (pure (some v)) Q E s')
        (fun e s' => wpAny (model prog w) A (do let __do_lift ← isInstance e (Value.type "StopIteration"); if __do_lift = true then pure none else throw e) Q E s') s := by
    intro nx v hv hW
    subst hv
    refine wpAny_bind (wpAny_setField ho hd (by simp) ?_)
    have g1 := Heap.get?_update_self (Obj.mapFields (·.setIfInBounds 0 (rawInt nx))) ho (Obj.isFreed_of_fields (Obj.data_mapFields hd _))
    refine wpAny_bind (wpAny_setField g1 (Obj.data_mapFields hd _) (by simp) ?_)
    have g2 := Heap.get?_update_self (Obj.mapFields (·.setIfInBounds 1 (rawInt ((i : Int) + 1)))) g1 (Obj.isFreed_of_fields (Obj.data_mapFields (Obj.data_mapFields hd _) _))
    refine wpAny_pure ⟨_, rfl, wpAny_pure (hQ _ ((Heap.SameBut.update _ I _).trans (Heap.SameBut.update _ I _)) ⟨_, _, g2, ?_, ?_, hW _ fun T o hT e => ?_⟩)⟩
    · exact ((Obj.cls_mapFields ..).trans (Obj.cls_mapFields ..)).trans hc
    · rw [Obj.data_mapFields (Obj.data_mapFields hd _)]
      simp [rawInt]
    · exact (Heap.get?_update_other _ _ (Ne.symm hT)).trans ((Heap.get?_update_other _ _ (Ne.symm hT)).trans e)
  cases W with
  | text hw hf' =>
    dsimp only
    refine wpAny_bind (setNext_text (i := i) (ep := ep) y hw ?_)
    have : (pickOrder (w.params.setOrder S ep) es)[i]? = some e := by rw [← Array.getElem?_toList, ← hf']; exact hi
    rw [this]
    exact step2 0 e.2 rfl fun h' _ => .text hw hf'
  | table hw hd' hf' =>
    dsimp only
    refine wpAny_bind (setNext_table (i := i) (ep := ep) y hw hd' (by omega) ?_)
    have hsz : t.place.size = es.size := by
      simp only [SetTable.fits, Bool.and_eq_true, beq_iff_eq] at hf
      exact hf.1
    have e1 : es[i]? = some e := by rw [← Array.getElem?_toList, ← hf']; exact hi
    have e2 : t.place[i]? = some (t.place[i]'(by omega)) := by simp [show i < t.place.size by omega]
    rw [e1, e2]
    refine step2 _ e.2 rfl fun h' _ => ?_
    have : t.place[i]'(by omega) + 1 = slotAt t (i + 1) := by unfold slotAt; rw [if_neg (by omega)]; simp [Array.getD, show i < t.place.size by omega]
    rw [this]
    exact .table hw hd' hf'
  | drawn hw pl oT nT hoT hdT hlT hfT =>
    dsimp only
    refine wpAny_bind (wpAny_seqItems hoT hdT ?_)
    have hip : i < pl.length := by omega
    have e1 : pl[i]? = some (pl[i]'hip) := by simp
    have e2 : (pl.map fun k => Value.int (k : Nat) 0).toArray[(i : Int).toNat]? = some (.int ((pl[i]'hip : Nat) : Int) 0) := by simp [hip]
    dsimp only
    rw [e2]
    dsimp only
    have e3 : es[pl[i]'hip]? = some e := by rw [hfT i _ e1]; exact hi
    refine wpAny_bind ?_
    unfold setNextDrawn
    refine wpAny_bind (wpAny_setState_of hoS hdS hf ?_)
    dsimp only
    rw [if_neg (by simp), Int.toNat_natCast, e3]
    refine wpAny_pure (wpAny_bind (wpAny_setField ho hd (by simp) ?_))
    have g1 := Heap.get?_update_self (Obj.mapFields (·.setIfInBounds 1 (rawInt ((i : Int) + 1)))) ho (Obj.isFreed_of_fields (Obj.data_mapFields hd _))
    have hTI : T0 ≠ I := fun z => by subst z; rw [ho] at hoT; cases hoT; rw [hd] at hdT; cases hdT
    refine wpAny_pure ⟨_, rfl, wpAny_pure (hQ _ (Heap.SameBut.update _ I _) ⟨_, _, g1, (Obj.cls_mapFields ..).trans hc, ?_, .drawn hw pl oT nT ((Heap.get?_update_other _ _ (Ne.symm hTI)).trans hoT) hdT hlT hfT⟩)⟩
    rw [Obj.data_mapFields hd]
    simp [rawInt]
theorem stopW {Q : Option Value → Shared → Prop} (hh : A.handled = none) (hQ : ∀ h', Heap.ExtBut I s.heap h' → Q none { s with heap := h' }) (k : Sem Unit) (hk : ∀ (Q' : Unit → Shared → Prop) (E' : Value → Shared → Prop), (∀ h', Heap.SameBut I s.heap h' → Q' () { s with heap := h' }) → wpAny (model prog w) A.in1 k Q' E' s) :
    wpAny (model prog w) A.in1 (k >>= fun _ => newExc (.type "StopIteration") [] >>= fun e => raiseNew (α := Fin) e) (fun fin s' => ∃ v, fin = Fin.done (Flow.ret v) ∧ wpAny (model prog w) A (pure (some v)) Q E s')
      (fun e s' => wpAny (model prog w) A (do let __do_lift ← isInstance e (Value.type "StopIteration"); if __do_lift = true then pure none else throw e) Q E s') s := by
  refine wpAny_bind (hk _ _ fun h' hs => ?_)
  refine wpAny_bind ?_
  simp only [newExc, newTuple]
  refine wpAny_bind (wpAny_newObj_type ?_ (by size_fits))
  refine wpAny_bind (m := firstArgMember _ _) (wpAny_of_eq (a := Value.none) (by first | rfl | (simp only [firstArgMember]; rfl)) ?_)
  refine wpAny_newObj_type ?_ (by size_fits)
  simp only [raiseNew]
  refine wpAny_bind (wpAny_handled ?_)
  rw [show A.in1.handled = none from hh]
  refine wpAny_bind (wpAny_pure (wpAny_throw ?_))
  refine wpAny_bind (wpAny_isInstance (T := "StopIteration") (b := true) ⟨_, Heap.get?_push_size _ rfl, rfl⟩ isSubtype_stop ?_)
  exact wpAny_pure (hQ _ ((hs.extBut.push _).push _))
theorem next_end {Q : Option Value → Shared → Prop} (hh : A.handled = none) (x : Sit w s.heap T0 I S es ep t fs es.size) (y : SetAt w s.heap S es ep t) (hl : fs.length = es.size)
    (hQ : ∀ h', Heap.ExtBut I s.heap h' → Q none { s with heap := h' }) : wpAny (model prog w) A (pyNext (.ref I)) Q E s := by
  obtain ⟨o, first, ho, hc, hd, W⟩ := id x
  obtain ⟨oS, hoS, hcS, hdS, hf, T⟩ := id y
  unfold pyNext
  refine wpAny_bind (wpAny_attempt (wpAny_callSpecial?_slot (name := Str.ofString "__next__") x.typeIs SiF.slot_si_next (wpAny_call_entry SiF.slot_si_next x.typeIs SiF.entry_si_next ?_ (SiF.args_si_next _))))
  unfold Builtin.«set_iterator.__next__»
  refine wpAny_bind (m := slotArgs "__next__" 0 ⟨[.ref I], []⟩) (wpAny_pure ?_)
  refine wpAny_bind (wpAny_fieldsOf ho hd ?_)
  dsimp only
  refine wpAny_bind (wpAny_setEntries_of hoS hdS hf ?_)
  rw [if_neg (by simp)]
  have one : ∀ (Q' : Unit → Shared → Prop) (E' : Value → Shared → Prop), (∀ h', Heap.SameBut I s.heap h' → Q' () { s with heap := h' }) → wpAny (model prog w) A.in1 (setField (.ref I) 2 .none) Q' E' s := fun Q' E' q => wpAny_setField ho hd (by simp) (q _ (Heap.SameBut.update ..))
  cases W with
  | text hw hf' =>
    dsimp only
    refine wpAny_bind (setNext_text (i := es.size) (ep := ep) y hw ?_)
    have : (pickOrder (w.params.setOrder S ep) es)[es.size]? = none := by rw [← Array.getElem?_toList, ← hf']; exact List.getElem?_eq_none (by omega)
    rw [this]
    exact stopW hh hQ _ one
  | table hw hd' hf' =>
    dsimp only
    refine wpAny_bind (setNext_table (i := es.size) (ep := ep) y hw hd' (Nat.le_refl _) ?_)
    rw [show es[es.size]? = none by simp]
    exact stopW hh hQ _ one
  | drawn hw pl oT nT hoT hdT hlT hfT =>
    dsimp only
    refine wpAny_bind (wpAny_seqItems hoT hdT ?_)
    have e2 : (pl.map fun k => Value.int (k : Nat) 0).toArray[((es.size : Nat) : Int).toNat]? = none := by simp; omega
    dsimp only
    rw [e2]
    dsimp only
    have two := stopW (prog := prog) (w := w) (A := A) (E := E) (s := s) (I := I) (Q := Q) hh hQ (setField (.ref I) 0 (rawInt 0) >>= fun _ => setField (.ref I) 2 .none) fun Q' E' q => by
      refine wpAny_bind (wpAny_setField ho hd (by simp) ?_)
      have g1 := Heap.get?_update_self (Obj.mapFields (·.setIfInBounds 0 (rawInt 0))) ho (Obj.isFreed_of_fields (Obj.data_mapFields hd _))
      exact wpAny_setField g1 (Obj.data_mapFields hd _) (by simp) (q _ ((Heap.SameBut.update _ I _).trans (Heap.SameBut.update _ I _)))
    rw [bind_assoc] at two
    exact two
theorem iter_self {Q : Value → Shared → Prop} (x : Sit w s.heap T0 I S es ep t fs i) (h : Q (.ref I) s) : wpAny (model prog w) A (pyIter (.ref I)) Q E s := by
  refine wpAny_pyIter_slot x.typeIs SiF.slot_si_iter (wpAny_call_entry SiF.slot_si_iter x.typeIs SiF.entry_si_iter ?_ (SiF.args_si_iter _))
  show wpAny _ _ (ret (.ref I)) _ _ s
  exact wpAny_pure ⟨_, rfl, "set_iterator", _, x.typeIs, SiF.slot_si_next.lookup, h⟩
theorem Sit.keep {h h' : Heap} (x : Sit w h T0 I S es ep t fs i) (k : ∀ b, b = I ∨ b = T0 → ∀ o, h.get? b = some o → h'.get? b = some o) : Sit w h' T0 I S es ep t fs i := by
  obtain ⟨o, first, ho, hc, hd, W⟩ := x
  refine ⟨o, first, k I (.inl rfl) _ ho, hc, hd, ?_⟩
  cases W with
  | text hw hf => exact .text hw hf
  | table hw hp hf => exact .table hw hp hf
  | drawn hw pl oT n hoT hdT hl hf => exact .drawn hw pl oT n (k T0 (.inr rfl) _ hoT) hdT hl hf
theorem walkX (hh : A.handled = none) (T0 I S : Addr) (hne : S ≠ I) (es : Array (Int × Value)) (ep : Nat) (t : SetTable) (fs : List (Int × Value)) (hl : fs.length = es.size) :
    Walks prog w A I [I, S, T0] [I] es.size (fun i v => ∃ e, fs[i]? = some e ∧ e.2 = v) (fun i h => Sit w h T0 I S es ep t fs i ∧ SetAt w h S es ep t) where
  sub := fun b hb => by simp at hb; simp [hb]
  frame := fun _ _ _ st hk => ⟨st.1.keep fun b hb o e => hk b (by rcases hb with rfl | rfl <;> simp) o e, st.2.keep fun o e => hk S (by simp) o e⟩
  item := fun i s Q E hi st hQ => by
    have hi' : i < fs.length := by omega
    refine next_item (e := fs[i]) st.1 st.2 hl (by simp) fun h' hs' x' => ?_
    exact hQ fs[i].2 h' s.toks ⟨fs[i], by simp, rfl⟩ ⟨x', st.2.keep fun o e => hs'.extBut _ _ hne e⟩ fun b o hb e => hs'.extBut b o (fun h => hb (by simp [h])) e
  done := fun s Q E st hQ => next_end hh st.1 st.2 hl fun h' he' => hQ h' s.toks fun b o hb e => he' b o (fun h => hb (by simp [h])) e
  self := fun _ _ _ _ st hQ => iter_self st.1 hQ
theorem iterX {Q : Value → Shared → Prop} (y : SetAt w s.heap S es ep t) (hz : es.size ≤ sizeLine)
    (hQ : ∀ h' d I T0 fs, (∀ b o, s.heap.get? b = some o → h'.get? b = some o) → s.heap.objs.size ≤ I → s.heap.objs.size ≤ T0 → h'.objs.size = I + 1 → fs.Perm es.toList → Sit w h' T0 I S es ep t fs 0 → Q (.ref I) { s with heap := h', drawn := d }) : wpAny (model prog w) A (pyIter (.ref S)) Q E s := by
  obtain ⟨oS, hoS, hcS, hdS, hf, T⟩ := id y
  have hT : s.TypeIs (.ref S) "set" := ⟨oS, hoS, hcS⟩
  refine wpAny_pyIter_slot hT F.slot_set_iter (wpAny_call_entry F.slot_set_iter hT SiF.entry_set_iter ?_ (F.args_set_iter_1 _))
  unfold Builtin.«frozenset.__iter__»
  refine wpAny_bind (m := Builtin.Frozenset.slot0 "__iter__" ⟨[.ref S], []⟩) (wpAny_pure ?_)
  refine wpAny_bind (m := Builtin.Frozenset.sizeOf S) ?_
  unfold Builtin.Frozenset.sizeOf
  refine wpAny_bind (wpAny_setEntries_of hoS hdS hf (wpAny_pure ?_))
  refine wpAny_bind ?_
  unfold setDrawn
  refine wpAny_bind (wpAny_setState_of hoS hdS hf ?_)
  dsimp only
  have fin : ∀ (first : Value) (h : Heap) (d : Drawn) (fs : List (Int × Value)) (T0 : Addr), (∀ b o, s.heap.get? b = some o → h.get? b = some o) → s.heap.objs.size ≤ h.objs.size → s.heap.objs.size ≤ T0 → fs.Perm es.toList → (∀ h', (∀ b o, h.get? b = some o → h'.get? b = some o) → Way w h' T0 S es ep t fs 0 first) →
      wpAny (model prog w) A.in1 (setEpoch S >>= fun e => newFields "set_iterator" [first, rawInt 0, .ref S, rawInt (es.size : Nat), rawInt e] >>= fun v => ret v)
        (fun fin s' => ∃ r, fin = Fin.done (Flow.ret r) ∧ ∃ T' r_1, s'.TypeIs r T' ∧ typeLookup (.type T') "__next__" = pure (some r_1) ∧ Q r s') E { s with heap := h, drawn := d } := by
    intro first h d fs T0 hk h1 h2 hp hW
    refine wpAny_bind (wpAny_setEpoch_of (hk _ _ hoS) hdS hf ?_)
    refine wpAny_bind (wpAny_newObj_type ?_ (by size_fits))
    refine wpAny_pure ⟨_, rfl, "set_iterator", _, ⟨_, Heap.get?_push_size _ rfl, rfl⟩, SiF.slot_si_next.lookup, ?_⟩
    have kp : ∀ b o, h.get? b = some o → (h.push { cls := .type "set_iterator", data := .fields #[first, rawInt 0, .ref S, rawInt (es.size : Nat), rawInt (ep : Nat)] }).get? b = some o := fun b o e => Heap.get?_push_of_some _ e
    exact hQ _ d h.objs.size T0 fs (fun b o e => kp b o (hk b o e)) h1 h2 (Heap.size_push _ _) hp ⟨_, first, Heap.get?_push_size _ rfl, rfl, rfl, hW _ kp⟩
  cases hw : w.params.followText "set-order" with
  | true =>
    refine wpAny_bind (byText_of hw (wpAny_pure ?_))
    show wpAny _ _ (if (!true && (!t.plain && decide (es.size > 1))) = true then _ else _) _ _ _
    rw [if_neg (by simp)]
    refine wpAny_bind (wpAny_pure ?_)
    exact fin _ s.heap s.drawn _ s.heap.objs.size (fun _ _ e => e) (Nat.le_refl _) (Nat.le_refl _) (pick_perm (w.params.setOrder S ep) es) fun h' _ => .text hw rfl
  | false =>
    refine wpAny_bind (byText_of hw (wpAny_pure ?_))
    show wpAny _ _ (if (!false && (!t.plain && decide (es.size > 1))) = true then _ else _) _ _ _
    cases hpl : (!t.plain && decide (es.size > 1)) with
    | false =>
      rw [if_neg (by simp)]
      refine wpAny_bind (wpAny_pure ?_)
      exact fin _ s.heap s.drawn es.toList s.heap.objs.size (fun _ _ e => e) (Nat.le_refl _) (Nat.le_refl _) .rfl fun h' _ => .table hw hpl rfl
    | true =>
      rw [if_pos (by simp)]
      refine wpAny_bind (drawW es.size (List.range es.size) s _ (by simp) fun pl d hp => ?_)
      refine wpAny_bind (wpAny_newTuple ?_ (by rw [List.length_map, hp.length_eq, List.length_range]; exact hz))
      have hin : ∀ p ∈ pl, p < es.size := fun p hpm => List.mem_range.mp (hp.mem_iff.mp hpm)
      have efs : ∃ fs : List (Int × Value), fs = pl.filterMap (fun p => es[p]?) := ⟨_, rfl⟩
      obtain ⟨fs, efs⟩ := efs
      have hfs : ∀ (l : List Nat), (∀ p ∈ l, p < es.size) → (l.filterMap fun p => es[p]?).length = l.length ∧ ∀ (k : Nat) p, l[k]? = some p → es[p]? = (l.filterMap fun p => es[p]?)[k]? := by
        intro l
        induction l with
        | nil => intro _; exact ⟨rfl, fun k p h => by simp at h⟩
        | cons a l ih =>
          intro hl
          obtain ⟨i1, i2⟩ := ih fun p hp => hl p (List.mem_cons_of_mem _ hp)
          have ha := hl a (List.mem_cons_self ..)
          have ea : es[a]? = some es[a] := by simp [ha]
          rw [List.filterMap_cons_some ea]
          refine ⟨by simp [i1], fun k p h => ?_⟩
          cases k with
          | zero => simp at h; subst h; simp [ha]
          | succ k => simpa using i2 k p (by simpa using h)
      obtain ⟨l1, l2⟩ := hfs pl hin
      refine fin _ _ d fs s.heap.objs.size (fun b o e => Heap.get?_push_of_some _ e) (by rw [Heap.size_push]; exact Nat.le_succ _) (Nat.le_refl _) ?_ fun h' k => ?_
      · rw [efs]
        exact (hp.filterMap _).trans (by rw [filterMap_getElem?_range])
      · exact .drawn hw pl _ 0 (k _ _ (Heap.get?_push_size _ rfl)) rfl (by rw [efs, l1]) (fun k p h => by rw [efs]; exact l2 k p h)
end
end L2
set_option Elab.async false
set_option linter.all false
set_option maxRecDepth 100000
set_option maxHeartbeats 800000
namespace L2
open PySem PySem.Spec PyProof.Rows
section
variable {prog : Program} {w : World} {A : Around} {E : Value → Shared → Prop} {s : Shared} {S : Addr} {es : Array (Int × Value)} {ep : Nat} {t : SetTable}
theorem hintX {Q : Bool → Shared → Prop} (hT : s.TypeIs (.ref S) "set") (h : Q false s) : wpAny (model prog w) A (Builtin.List.listLengthHint (.ref S)) Q E s := by
  unfold Builtin.List.listLengthHint
  refine wpAny_bind (wpAny_specialOf hT PySem.F.slot_set_len.lookup ?_)
  generalize hid : ("set.__len__" : String) = id0
  wp_delta
  rw [show splitId id0 = some ("set", "__len__") from by subst hid; decide +kernel]
  subst hid
  refine wpAny_bind (wpAny_isInstance (T := "set") (b := true) hT sub_set_self ?_)
  refine wpAny_ite_split (fun z => absurd z (by decide)) (fun _ => ?_)
  refine wpAny_ite_split (fun _ => ?_) (fun z => absurd (by decide +kernel) z)
  exact wpAny_bind (wpAny_typeOf hT (wpAny_pure h))
theorem collectX {Q : List Value → Shared → Prop} (hh : A.handled = none) (y : SetAt w s.heap S es ep t) (hz : es.size ≤ sizeLine)
    (hQ : ∀ h' tk d (acc : List Value) (fs : List (Int × Value)), (∀ b o, s.heap.get? b = some o → h'.get? b = some o) → s.heap.objs.size ≤ h'.objs.size → fs.Perm es.toList → acc = fs.map (·.2) → Q acc { s with heap := h', toks := tk, drawn := d }) :
    wpAny (model prog w) A (collect (.ref S)) Q E s := by
  obtain ⟨oS, hoS, hcS, hdS, hf, T⟩ := id y
  unfold collect
  refine wpAny_bind (wpAny_runValue (codeAny_builtin PySem.F.entry_proto_collect ?_))
  rw [Around.under_plainId PySem.F.plain_proto_collect _]
  refine wpAny_bind (m := newList []) (wpAny_newObj_type ?_)
  refine wpAny_pure ⟨plainId_quiet PySem.F.plain_list_iadd _, codeAny_builtin PySem.F.entry_list_iadd ?_⟩
  rw [Around.under_plainId PySem.F.plain_list_iadd _]
  show wpAny _ A.in1 (Builtin.List.listExtendWith (.ref s.heap.objs.size) (.ref S) (.ref s.heap.objs.size)) _ _ { s with heap := s.heap.push { cls := .type "list", data := .seq ([] : List Value).toArray } }
  have y1 : SetAt w (s.heap.push { cls := .type "list", data := .seq ([] : List Value).toArray }) S es ep t := y.keep fun o e => Heap.get?_push_of_some _ e
  have hne : s.heap.objs.size ≠ S := fun z => by rw [← z] at hoS; exact absurd (Heap.lt_size hoS) (Nat.lt_irrefl _)
  have hL : (s.heap.push { cls := .type "list", data := .seq ([] : List Value).toArray }).get? s.heap.objs.size = some { cls := .type "list", data := .seq #[] } := Heap.get?_push_size _ rfl
  have hz1 : (s.heap.push { cls := .type "list", data := .seq ([] : List Value).toArray }).objs.size = s.heap.objs.size + 1 := Heap.size_push _ _
  unfold Builtin.List.listExtendWith
  refine wpAny_bind (wpAny_typeOf (T := "set") ⟨oS, Heap.get?_push_of_some _ hoS, hcS⟩ ?_)
  have b1 : Builtin.List.listSameRef (.ref s.heap.objs.size) (.ref S) = false := by simp [Builtin.List.listSameRef, hne]
  have b2 : (Value.type "set" == Value.type "list") = false := by decide
  have b3 : (Value.type "set" == Value.type "tuple") = false := by decide
  simp only [b1, b2, b3, Bool.or_false, Bool.false_eq_true, if_false]
  refine wpAny_bind (iterX (s := { s with heap := s.heap.push { cls := .type "list", data := .seq ([] : List Value).toArray } }) y1 hz fun h2 d I T0 fs k2 hI hT0 hz2 hp x2 => ?_)
  have y2 : SetAt w h2 S es ep t := y1.keep fun o e => k2 _ _ e
  refine wpAny_bind (wpAny_holding (hintX (s := { s with heap := h2, drawn := d }) ⟨oS, k2 _ _ (Heap.get?_push_of_some _ hoS), hcS⟩ ?_))
  have hL2 := k2 _ _ hL
  have LI : s.heap.objs.size ≠ I := by rw [hz1] at hI; exact Nat.ne_of_lt hI
  have LT : s.heap.objs.size ≠ T0 := by rw [hz1] at hT0; exact Nat.ne_of_lt hT0
  have SI : S ≠ I := fun z => by
    have h1 := Heap.lt_size hoS
    rw [hz1, ← z] at hI
    exact absurd (Nat.lt_of_succ_le hI) (Nat.not_lt_of_gt h1)
  have nf : s.heap.objs.size ∉ [I, S, T0] := by
    simp only [List.mem_cons, List.not_mem_nil, or_false, not_or]
    exact ⟨LI, hne, LT⟩
  have hlen : fs.length = es.size := by rw [hp.length_eq, Array.length_toList]
  have W := (walkX (prog := prog) (w := w) (A := A.in1) hh T0 I S SI es ep t fs hlen).toS
  have key : ∀ (h : Heap) (c tk : Nat), Sit w h T0 I S es ep t fs 0 → SetAt w h S es ep t → (∀ b o, b ≠ s.heap.objs.size → h2.get? b = some o → h.get? b = some o) → h.get? s.heap.objs.size = some { cls := .type "list", dict := none, data := .seq #[] c, slots := #[] } → s.heap.objs.size ≤ h.objs.size →
      codeAny (model prog w) A (.builtin "list.extend.loop" ⟨[.ref s.heap.objs.size, .ref I, .ref s.heap.objs.size], []⟩) (wants (fun v s' => ∃ h' tk' acc c', v = .ref s.heap.objs.size ∧ s' = { s with heap := h', toks := tk', drawn := d } ∧ (∀ b o, s.heap.get? b = some o → h'.get? b = some o) ∧ s.heap.objs.size ≤ h'.objs.size ∧ h'.get? s.heap.objs.size = some { cls := .type "list", dict := none, data := .seq acc c', slots := #[] } ∧ ItemsOf (fun i v => ∃ e, fs[i]? = some e ∧ e.2 = v) acc es.size) E) { s with heap := h, toks := tk, drawn := d } := by
    intro h c tk x3 y3 k3 hL3 hz3
    refine codeAny_extend_loopS W hz s.heap.objs.size nf (.ref s.heap.objs.size) es.size 0 _ #[] c rfl (Nat.zero_le _) ⟨x3, y3⟩ hL3 (ItemsOf.nil _) fun s' acc c' hm hS' hacc => ?_
    rw [Moved.eq_with hm]
    refine ⟨s'.heap, s'.toks, acc, c', rfl, rfl, fun b o e => hm.heap b o (fun z => ?_) (k3 b o (Nat.ne_of_lt (Heap.lt_size e)) (k2 _ _ (Heap.get?_push_of_some _ e))), Nat.le_of_lt (Heap.lt_size hS'), hS', hacc⟩
    rcases List.mem_cons.mp z with z | z
    · exact absurd z (Nat.ne_of_lt (Heap.lt_size e))
    · have z' := List.mem_singleton.mp z
      rw [hz1] at hI
      have := Heap.lt_size e
      rw [z'] at this
      exact absurd this (Nat.not_lt_of_gt (Nat.lt_of_succ_le hI))
  have fin : ∀ r s', wants (fun v s' => ∃ h' tk' acc c', v = .ref s.heap.objs.size ∧ s' = { s with heap := h', toks := tk', drawn := d } ∧ (∀ b o, s.heap.get? b = some o → h'.get? b = some o) ∧ s.heap.objs.size ≤ h'.objs.size ∧ h'.get? s.heap.objs.size = some { cls := .type "list", dict := none, data := .seq acc c', slots := #[] } ∧ ItemsOf (fun i v => ∃ e, fs[i]? = some e ∧ e.2 = v) acc es.size) E r s' →
      wants (fun v s' => wpAny (model prog w) A (match v with | .ref a => load a >>= fun o => (match o.data with | .seq xs _ => pure xs.toList | _ => unsupported "internal:collect") | _ => unsupported "internal:collect") Q E s') E r s' := by
    intro r s' hr
    cases r with
    | error e => exact hr
    | ok fl =>
      cases fl with
      | ret v =>
        obtain ⟨h', tk', acc, c', rfl, rfl, h3, h4, h5, h6⟩ := hr
        refine wpAny_bind (wpAny_load (s := { s with heap := h', toks := tk', drawn := d }) h5 (wpAny_pure (hQ h' tk' d _ fs h3 h4 hp ?_)))
        refine List.ext_getElem? fun k => ?_
        rw [List.getElem?_map, Array.getElem?_toList]
        by_cases hk : k < es.size
        · have ha : acc[k]? = some (acc[k]'(by rw [h6.1]; exact hk)) := by simp [h6.1, hk]
          obtain ⟨e, he, ev⟩ := h6.2 k _ ha
          rw [ha, he, ← ev]; rfl
        · rw [Array.getElem?_eq_none (by rw [h6.1]; omega), List.getElem?_eq_none (by omega)]; rfl
      | _ => exact hr.elim
  refine wpAny_ite_split (fun _ => ?_) (fun _ => wpAny_pure ⟨plainId_quiet PySem.F.plain_extend_loop _, codeAny_mono (key _ _ _ x2 y2 (fun _ _ _ e => e) hL2 (Nat.le_of_lt (Heap.lt_size hL2))) fin⟩)
  refine wpAny_bind (wpAny_rule (wpAny_bind ?_))
  show wpAny _ _ (updateSeq s.heap.objs.size (·.push .none) >>= fun _ => updateSeq s.heap.objs.size (·.pop)) _ _ _
  refine wpAny_bind (wpAny_updateSeq hL2 rfl ?_)
  have u1 := Heap.get?_update_self (Obj.mapSeq (·.push Value.none)) hL2 rfl
  refine wpAny_updateSeq (hz := by seq_fits) u1 rfl ?_
  have u2 := Heap.get?_update_self (Obj.mapSeq (·.pop)) u1 rfl
  have oth : ∀ b o, b ≠ s.heap.objs.size → h2.get? b = some o → ((h2.update s.heap.objs.size (Obj.mapSeq (·.push Value.none))).update s.heap.objs.size (Obj.mapSeq (·.pop))).get? b = some o := fun b o hb e => (Heap.get?_update_other _ _ (Ne.symm hb)).trans ((Heap.get?_update_other _ _ (Ne.symm hb)).trans e)
  refine wpAny_pure ⟨plainId_quiet PySem.F.plain_extend_loop _, codeAny_mono (key _ _ _ (x2.keep fun b hb o e => oth b o (by rcases hb with rfl | rfl; exact LI.symm; exact LT.symm) e) (y2.keep fun o e => oth _ o hne.symm e) oth u2 ?_) fin⟩
  rw [Heap.size_update, Heap.size_update]
  exact Nat.le_of_lt (Heap.lt_size hL2)
end
theorem _root_.L2.Inv.dr {X : Cx} {pins : List (Addr × Obj)} {σ : St} {H : Hp} {s : Shared} (I : Inv X pins σ H s) (d : Drawn) : Inv X pins σ H { s with drawn := d } :=
  ⟨I.ok, I.os, I.bare, I.base, I.loc, I.cell, I.free, I.freeC, I.pin, I.hok, I.len⟩
section
variable {prog : Program} {w : World} {A : Around} {E : Value → Shared → Prop} {s : Shared}
theorem sortedX {S : Addr} {L : List Int} {Q : Value → Shared → Prop} (hh : A.handled = none) (x : SetX prog w s.heap S L) (h64 : L.length < 64)
    (h : ∀ (h' : Heap) (tk : Nat) (d : Drawn) (l : Addr) (out : Array Value) (e : Nat), (∀ b o, s.heap.get? b = some o → h'.get? b = some o) → s.heap.objs.size ≤ l → h'.get? l = some (seqObj "list" out e) → IntsAre out.toList (srt L) → Q (.ref l) { s with heap := h', toks := tk, drawn := d }) :
    wpAny (model prog w) A (call (.builtin "sorted") [.ref S]) Q E s := by
  obtain ⟨o, es, ep, t, ho, hx, hd, hel, hb, hf, hT, hp⟩ := x
  refine Calls.call_function_entry kind_sorted plain_sorted entry_sorted (args_sorted1 _) ?_
  unfold Builtin.«sorted»
  refine wpAny_bind (m := checkCount "sorted" 1 1 _) (wpAny_pure ?_)
  refine wpAny_bind (collectX (A := A.in1) hh ⟨o, ho, hx.1, hd, hf, hT⟩ (fits_of_scanBound hb) fun h2 tk d acc fs k2 hz2 hpf hacc => ?_)
  have hints : ∀ v ∈ acc, ∃ n tt, v = Value.int n tt := by
    intro v hv
    rw [hacc] at hv
    obtain ⟨e, he, rfl⟩ := List.mem_map.mp hv
    obtain ⟨⟨k, hk, _⟩, _⟩ := hel e (hpf.mem_iff.mp he)
    obtain ⟨tt, e2⟩ := Value.isInt_shape (k := k) (v := e.2) hk
    exact ⟨k, tt, e2⟩
  have hI : IntsAre acc (acc.map numOf) := intsAre_map acc hints
  have hpL : (acc.map numOf).Perm L := by
    rw [hacc, List.map_map]
    exact (hpf.map _).trans hp
  have hl64 : acc.length < 64 := by have := hpL.length_eq; rw [List.length_map] at this; omega
  refine wpAny_bind (wpAny_newList ?_ (by rw [sizeLine_eq]; omega))
  have hoL : (h2.push (seqObj "list" acc.toArray 0)).get? h2.objs.size = some (seqObj "list" acc.toArray 0) := Heap.get?_push_size _ rfl
  refine wpAny_bind (wpAny_holding (wpAny_call_entry (s := { s with heap := h2.push (seqObj "list" acc.toArray 0), toks := tk, drawn := d }) slot_list_sort ⟨_, hoL, rfl⟩ entry_list_sort (list_sort_tree hoL hI hl64 fun out ns' a1 a2 a3 => ⟨_, rfl, ?_⟩) (args_list_sort _)))
  have en : ns' = srt L := srt_eq (a2.trans hpL) a3
  subst en
  obtain ⟨e, he⟩ := sortedHeap_at (vs := acc) (out := out) hoL
  refine wpAny_pure ⟨_, rfl, h _ tk d h2.objs.size out e (fun b o eb => ?_) hz2 he a1⟩
  have hlt := Heap.lt_size (k2 b o eb)
  rw [sortedHeap_old (Nat.ne_of_lt hlt) (by rw [Heap.size_push]; exact Nat.lt_succ_of_lt hlt)]
  exact Heap.get?_push_of_some _ (k2 b o eb)
end
section
variable {X : Cx}
theorem b_sortedU : bootBuiltins "sorted" = some (.builtin "sorted") := by decide +kernel
def once (ns : List Int) : List Int := firstMet (fun i => ns.getD i 0) ns.length
end
end L2
set_option Elab.async false
set_option linter.all false
set_option maxRecDepth 100000
set_option maxHeartbeats 4000000
namespace L2
open PySem PySem.Spec PyProof.Rows
section
variable {prog : Program} {w : World} {A : Around} {E : Value → Shared → Prop} {s : Shared}
set_option maxHeartbeats 8000000 in
theorem callXT {l : Addr} {items : Array Value} {ns : List Int} {Q : Value → Shared → Prop} (hh : A.handled = none) (hl : s.heap.IsTuple l items) (hi : IntsAre items.toList ns) (hb : items.size + 1 < scanBound)
    (h : ∀ (h' : Heap) (tk : Nat), SetX prog w h' s.heap.objs.size (firstMet (fun i => ns.getD i 0) items.size) → (∀ b o, b < s.heap.objs.size → s.heap.get? b = some o → h'.get? b = some o) → Q (.ref s.heap.objs.size) { s with heap := h', toks := tk }) :
    wpAny (model prog w) A (call (.type "set") [.ref l]) Q E s := by
  obtain ⟨c, tl, hmro⟩ := F.called_set.mro
  have made := F.called_set.made
  have sub := F.called_set.sub
  have u1 := F.called_set.notType
  have u2 := F.called_set.canCreate
  have u3 := F.typeCall_set_1 (.ref l)
  refine wpAny_call (codeAny_of_tree ?_)
  show wpAny _ _ (callAny (.type "set") _) _ _ _
  refine wpAny_pure ⟨Code.quiet_builtin _ (by decide +kernel), codeAny_builtin F.entry_type_call ?_⟩
  rw [Around.under_plain (weight_type_call_type "set" [.ref l] []) rfl]
  repeat (any_goals (first | assumption | wp_step))
  refine codeAny_mono (newX (.ref l) (E := E) (Q₁ := fun obj s₁ => obj = .ref s.heap.objs.size ∧ s₁ = { s with heap := s.heap.push (set0 w) }) ⟨rfl, rfl⟩) fun r s₁ hr => ?_
  cases r with
  | error e => exact hr
  | ok fl =>
    cases fl with
    | ret obj =>
      obtain ⟨rfl, rfl⟩ := hr
      have gS : (s.heap.push (set0 w)).get? s.heap.objs.size = some (set0 w) := Heap.get?_push_size _ rfl
      have hT : Shared.TypeIs { s with heap := s.heap.push (set0 w) } (.ref s.heap.objs.size) "set" := ⟨_, gS, rfl⟩
      have u4 := F.called_set.init.lookup
      have u5 := F.called_set.init.bind (.ref s.heap.objs.size)
      repeat (any_goals (first | assumption | wp_step))
      refine codeAny_mono (codeAny_call_builtin (R := wants (fun r s₂ => r = .none ∧ ∃ h' tk, s₂ = { s with heap := h', toks := tk } ∧ SetX prog w h' s.heap.objs.size (firstMet (fun i => ns.getD i 0) items.size) ∧
          (∀ b o, b < s.heap.objs.size → s.heap.get? b = some o → h'.get? b = some o)) E) F.called_set.init.plain F.entry_set_init (check_set_init_1 hT ?_)) fun r₂ s₂ hr₂ => ?_
      · obtain ⟨⟨cl, di, da, sl⟩, ol, cl', nl, da'⟩ := hl
        simp only at cl' da'
        subst cl' da'
        have hol : (s.heap.push (set0 w)).get? l = some { cls := .type "tuple", dict := di, data := .seq items nl, slots := sl } := Heap.get?_push_of_some _ ol
        have v1 := F.sub_tuple_set
        have v2 := F.sub_tuple_frozenset
        have v3 : (Value.type "tuple" == Value.type "dict") = false := by decide
        have hl1 : (s.heap.push (set0 w)).IsTuple l items := ⟨_, hol, rfl, nl, rfl⟩
        unfold Builtin.«set.__init__» noKeywords Builtin.Frozenset.updateFrom
        generalize hPI : pyIter = PI
        wp_walk
        subst hPI
        refine wpAny_pyIter_tuple hl1 (wpAny_bind (wpAny_runValue ?_))
        have lS : l < s.heap.objs.size := Heap.lt_size ol
        have z1 : (s.heap.push (set0 w)).objs.size = s.heap.objs.size + 1 := Heap.size_push _ _
        have lI : l ≠ (s.heap.push (set0 w)).objs.size := by rw [z1]; exact Nat.ne_of_lt (Nat.lt_succ_of_lt lS)
        have hSf : s.heap.objs.size ∉ [(s.heap.push (set0 w)).objs.size, l] := by
          rw [z1]
          intro z
          rcases List.mem_cons.mp z with z | z
          · exact absurd z (Nat.ne_of_lt (Nat.lt_succ_self _))
          · exact absurd (List.mem_singleton.mp z) (Nat.ne_of_gt lS)
        have hval : ∀ (i : Nat) (v : Value), items[i]? = some v → ∃ t, v = .int ((fun i => ns.getD i 0) i) t := fun i v hv => IntsAre.int_at hi i v (by rw [Array.getElem?_toList]; exact hv)
        refine updX ((Walks.tuple (by simp [hh]) _ l lI items).toS) s.heap.objs.size hSf (fun i => ns.getD i 0) hval hb items.size 0 _ (Nat.zero_add _)
          ⟨⟨_, Heap.get?_push_size _ rfl, rfl, rfl⟩, hl1.push _⟩ ((freshX s.heap).keep fun o e => Heap.get?_push_of_some _ e) fun s' hm X' => ?_
        obtain ⟨h', g', d', tk', os'⟩ := s'
        obtain rfl : g' = s.gens := hm.gens
        obtain rfl : d' = s.drawn := hm.drawn
        obtain rfl : os' = s.os := hm.os
        refine wpAny_pure (wpAny_pure ⟨rfl, h', tk', rfl, X', fun b o hb e => hm.heap b o (fun z => ?_) (Heap.get?_push_of_some _ (Heap.get?_push_of_some _ e))⟩)
        rcases List.mem_cons.mp z with z | z
        · exact absurd z (Nat.ne_of_lt hb)
        · have z' := List.mem_singleton.mp z
          rw [z1] at z'
          exact absurd z' (Nat.ne_of_lt (Nat.lt_succ_of_lt hb))
      · cases r₂ with
        | error e => exact hr₂
        | ok fl₂ =>
          cases fl₂ with
          | ret r =>
            obtain ⟨rfl, h', tk, rfl, X', hk'⟩ := hr₂
            repeat (any_goals (first | assumption | wp_step))
            exact h _ _ X' hk'
          | _ => exact hr₂.elim
    | _ => exact hr.elim
theorem SetX.kind {h : Heap} {a : Addr} {L : List Int} (x : SetX prog w h a L) : h.SetOf (intKind prog w) a (fun k => decide (k ∈ L)) L.length := by
  obtain ⟨o, es, ep, t, ho, hx, hd, hel, hb, hf, hT, hp⟩ := x
  refine ⟨o, es, ep, t, ho, hx, hd, hel, fun k => ?_, hb, hf, by rw [← hp.length_eq]; simp⟩
  rw [decide_eq_true_eq, ← hp.mem_iff, List.mem_map]
  constructor
  · rintro ⟨e, he, rfl⟩
    obtain ⟨⟨k, hk, _⟩, _⟩ := hel e he
    exact ⟨e, he, by rw [int_num hk]; exact hk⟩
  · rintro ⟨e, he, hk⟩
    exact ⟨e, he, int_num hk⟩
end
section
variable {X : Cx}
def once' (ns : List Int) : List Int := firstMet (fun i => ns.getD i 0) ns.length
theorem once_mem (ns : List Int) (k : Int) : k ∈ once' ns ↔ k ∈ ns := by
  have e := firstMet_any (fun i => ns.getD i 0) ns.length k
  have e2 : (List.range ns.length).map (fun i => ns.getD i 0) = ns := by
    apply List.ext_getElem
    · simp
    · intro i h1 h2
      simp [List.getElem?_eq_getElem h2]
  rw [e2] at e
  have h1 : (once' ns).any (· == k) = true ↔ k ∈ once' ns := by simp
  have h2 : ns.any (· == k) = true ↔ k ∈ ns := by simp
  rw [← h1, ← h2]
  unfold once'
  rw [e]
theorem call_setI (hc : X.calm = true) : CallR X (.type "set") (fun xs H Q => ∃ p ns, xs = [.ref p] ∧ (SqL X.K H p (ns.map V.int) ∨ SqT X.K H p (ns.map V.int)) ∧ ns.length ≤ 900 ∧ ∀ l, H l = none → Q (.ref l) (upd H l (.set (fun k => decide (k ∈ ns)) (once' ns).length))) := by
  intro pins s σ H xs us Q I r h
  obtain ⟨p, ns, rfl, hq, h9, q⟩ := h
  obtain ⟨u, rfl, rx⟩ := vals1 r
  cases rx
  have fin : ∀ (its : List Value), Vals (ns.map V.int) its → ∀ (h' : Heap) (tk : Nat), SetX X.prog X.w h' s.heap.objs.size (firstMet (fun i => ns.getD i 0) its.toArray.size) → (∀ b o, b < s.heap.objs.size → s.heap.get? b = some o → h'.get? b = some o) → EP X pins σ Q (.ref s.heap.objs.size) { s with heap := h', toks := tk } := by
    intro its r' h' tk hX hk
    have hlen := r'.length
    rw [List.length_map] at hlen
    have hX : SetX X.prog X.w h' s.heap.objs.size (once' ns) := by
      have e : its.toArray.size = ns.length := by rw [List.size_toArray, hlen]
      rw [e] at hX
      exact hX
    have k1 : ∀ b o, s.heap.get? b = some o → h'.get? b = some o := fun b o e => hk b o (Heap.lt_size e) e
    have so : ObjOk X.prog X.w (upd H s.heap.objs.size (.set (fun k => decide (k ∈ ns)) (once' ns).length)) h' s.heap.objs.size (.set (fun k => decide (k ∈ ns)) (once' ns).length) := by
      have := hX.kind
      rw [show (fun k => decide (k ∈ once' ns)) = fun k => decide (k ∈ ns) from funext fun k => by rw [decide_eq_decide]; exact once_mem ns k] at this
      exact this
    exact ⟨.ref s.heap.objs.size, _, I.laid (t' := tk) k1 (Nat.le_refl _) so, rfl, q _ (I.hok.fresh (Nat.le_refl _))⟩
  rcases hq with hq | hq
  · obtain ⟨its, r', pl, hz⟩ := I.list hq
    have hlen := r'.length
    rw [List.length_map] at hlen
    exact callX (items := its.toArray) (ns := ns) (I.ok.hd hc) pl.isList (by simpa using vals_intsAre r') (by simp only [List.size_toArray]; show its.length + 1 < 4096; omega) (fin its r')
  · obtain ⟨its, r', pl, hz⟩ := I.tuple hq
    have hlen := r'.length
    rw [List.length_map] at hlen
    exact callXT (items := its.toArray) (ns := ns) (I.ok.hd hc) pl (by simpa using vals_intsAre r') (by simp only [List.size_toArray]; show its.length + 1 < 4096; omega) (fin its r')
theorem op_inSet : OpR X (compareOp .In) (fun x y H Q => ∃ (k : Int) (p : Addr) (S : Int → Bool) (n : Nat), x = .int k ∧ y = .ref p ∧ H p = some (.set S n) ∧ Q (.bl (S k)) H) := by
  intro pins s σ H x y v u Q I rx ry h
  obtain ⟨k, p, S, n, rfl, rfl, hp, q⟩ := h
  obtain ⟨t, rfl⟩ := rx
  cases ry
  have hS : s.heap.SetOf (intKind X.prog X.w) p S n := I.hok p _ hp
  exact wpAny_inSet_of (k := k) (intKind_is _ _ _ _) rfl hS ⟨.bl _, H, I.tok _, rfl, q⟩
end
end L2
set_option Elab.async false
set_option linter.all false
set_option maxRecDepth 100000
set_option maxHeartbeats 4000000
namespace L2
open PySem PySem.Spec PyProof.Rows
section
variable {X : Cx}
def tSortSetT (K : PySem.W.Frag) (te : TE) : TE := fun σ H Q => te σ H fun x H1 => ∃ (p : Addr) (ns : List Int), x = .ref p ∧ SqT K H1 p (ns.map V.int) ∧ ns.length < 64 ∧ ∀ l, H1 l = none → Q (.ref l) (upd H1 l (.lst ((srt (once ns)).map V.int)))
theorem pe_sortsetT {e : Expr} {te : TE} {p1 p2 pos1 pos2 : Pos} (hc : X.calm = true) (hl : Gl X "sorted") (hml : X.mg "sorted" = none) (hs : Gl X "set") (hms : X.mg "set" = none) (he : PE X e te)
    (h1 : starEach [e] X.env = (false, eval e X.env) :: starEach [] X.env := by rfl)
    (h2 : starEach [.Call (.Name "set" p2) [e] [] pos2] X.env = (false, eval (.Call (.Name "set" p2) [e] [] pos2) X.env) :: starEach [] X.env := by rfl)
    (h3 : (backTo pos1 (starEach [] X.env)).any (·.1) = false := by rfl) (h4 : (backTo pos2 (starEach [] X.env)).any (·.1) = false := by rfl) :
    PE X (.Call (.Name "sorted" p1) [.Call (.Name "set" p2) [e] [] pos2] [] pos1) (tSortSetT X.K te) := by
  intro pins s σ H Q I h
  refine wpAny_Call_Name_kw (ld_blt I hl hml b_sortedU ?_ (by decide) (by decide))
  refine PyProof.Rows.callWith_builtin1 ?_ h2 h3
  rw [h2]
  show wpAny _ _ (spliced ((false, eval (.Call (.Name "set" p2) [e] [] pos2) X.env) :: backTo pos1 (starEach [] X.env))) _ _ s
  refine Calls.spliced_cons ?_
  refine wpAny_Call_Name_kw (ld_blt I hs hms b_set ?_ (by decide) (by decide))
  refine PyProof.Rows.callWith_type1 ?_ h1 h4
  rw [h1]
  show wpAny _ _ (spliced ((false, eval e X.env) :: backTo pos2 (starEach [] X.env))) _ _ s
  refine Calls.spliced_cons (thn (he pins s σ H _ I h) fun u s1 ⟨x, H1, I1, rx, p, ns, ex, hq, hb, q1⟩ => Calls.spliced_nil ?_)
  subst ex
  cases rx
  obtain ⟨its, r', pl, hz⟩ := I1.tuple hq
  have hlen := r'.length
  rw [List.length_map] at hlen
  refine callXT (items := its.toArray) (ns := ns) (I1.ok.hd hc) pl (by simpa using vals_intsAre r') (by simp only [List.size_toArray]; show its.length + 1 < 4096; omega) fun h' tk hX hk => ?_
  refine Calls.spliced_nil ?_
  have k1 : ∀ b o, s1.heap.get? b = some o → h'.get? b = some o := fun b o e => hk b o (Heap.lt_size e) e
  have I2 : Inv X pins σ H1 { s1 with heap := h', toks := tk } := I1.kept k1
  have hX : SetX X.prog X.w h' s1.heap.objs.size (once ns) := by
    have e : its.toArray.size = ns.length := by rw [List.size_toArray, hlen]
    rw [e] at hX
    exact hX
  have hl64 : (once ns).length < 64 := Nat.lt_of_le_of_lt (firstMet_length_le _ _) hb
  refine sortedX (s := { s1 with heap := h', toks := tk }) (I1.ok.hd hc) hX hl64 fun h3 tk3 d l out e k3 hz3 hl3 ho3 => ?_
  have J := (I2.dr d).laid (h' := h3) (a := l) (o := .lst ((srt (once ns)).map V.int)) (t' := tk3) k3 hz3 (show ObjOk X.prog X.w _ _ _ (.lst ((srt (once ns)).map V.int)) from ⟨?_, out.toList, e, ints_vals ho3, by simpa using hl3⟩)
  · exact ⟨.ref l, _, J, rfl, q1 l ((I2.dr d).hok.fresh hz3)⟩
  · rw [List.length_map, (srt_perm _).length_eq]
    exact Nat.le_of_lt (small1000 (by omega))
end
end L2
set_option Elab.async false
set_option linter.all false
set_option maxRecDepth 100000
set_option maxHeartbeats 1500000
namespace Hue
open PySem L2
def WebE (H : Hp) (w : Addr) (m : Int) (es : List (Int × Int)) : Prop := ∃ (ta : Addr) (ts : List V), H w = some (.tup [.int m, .ref ta]) ∧ H ta = some (.tup ts) ∧ ts.length = es.length ∧
  (∀ (k : Nat) v, ts[k]? = some v → ∃ q e, v = .ref q ∧ es[k]? = some e ∧ H q = some (.tup [.int e.1, .int e.2])) ∧ (∀ e ∈ es, 0 ≤ e.1 ∧ e.1 < e.2 ∧ e.2 < m) ∧ es.length ≤ 63 ∧ 0 ≤ m ∧ m ≤ 12
theorem WebE.mono {H H' : Hp} {w : Addr} {m : Int} {es : List (Int × Int)} (h : WebE H w m es) (k : KeepT H H') : WebE H' w m es :=
  let ⟨ta, ts, a, b, c, d, r⟩ := h
  ⟨ta, ts, k _ _ a, k _ _ b, c, fun i v hv => let ⟨q, e, e1, e2, e3⟩ := d i v hv; ⟨q, e, e1, e2, k _ _ e3⟩, r⟩
theorem ties_pure {H : Hp} {m : Int} : ∀ (ts : List V), Ties H m ts → ∃ es : List (Int × Int), ts.length = es.length ∧ (∀ (k : Nat) v, ts[k]? = some v → ∃ q e, v = .ref q ∧ es[k]? = some e ∧ H q = some (.tup [.int e.1, .int e.2])) ∧ (∀ e ∈ es, 0 ≤ e.1 ∧ e.1 < e.2 ∧ e.2 < m)
  | [], _ => ⟨[], rfl, fun k v h => by simp at h, fun _ h => nomatch h⟩
  | v :: ts, h => by
    obtain ⟨es, h1, h2, h3⟩ := ties_pure ts (fun u hu => h u (List.mem_cons_of_mem _ hu))
    obtain ⟨q, i, j, e1, e2, e3⟩ := h v (List.mem_cons_self ..)
    refine ⟨(i, j) :: es, by simp [h1], fun k u hu => ?_, fun e he => ?_⟩
    · cases k with
      | zero =>
        simp at hu
        subst hu
        exact ⟨q, (i, j), e1, rfl, e2⟩
      | succ k => exact h2 k u (by simpa using hu)
    · rcases List.mem_cons.mp he with rfl | he
      · exact e3
      · exact h3 e he
theorem WebAt.pure {H : Hp} {w : Addr} {m : Int} {ts : List V} (h : WebAt H w m ts) : ∃ es, WebE H w m es ∧ es.length = ts.length := by
  obtain ⟨ta, a, b, c, d, r⟩ := h
  obtain ⟨es, h1, h2, h3⟩ := ties_pure ts c
  exact ⟨es, ⟨ta, ts, a, b, h1, h2, h3, by omega, r⟩, h1.symm⟩
theorem sameKT {H H' : Hp} (s : Same H H') : KeepT H H' := fun b xs h => s b _ h
def atE (p : Int) (e : Int × Int) : Bool := e.1 == p || e.2 == p
theorem inV_pair (p : Int) (e : Int × Int) : inV (.int p) [.int e.1, .int e.2] = atE p e := by simp [inV, eqV, atE]
def SeqA (H : Hp) (a : Addr) (row : List V) : Prop := H a = some (.lst row) ∨ H a = some (.tup row)
theorem SeqA.same {H H' : Hp} {a : Addr} {row : List V} (h : SeqA H a row) (s : Same H H') : SeqA H' a row := h.imp (s _ _) (s _ _)
end Hue
set_option Elab.async false
set_option linter.all false
set_option maxRecDepth 100000
set_option maxHeartbeats 4000000
namespace L2
open PySem PySem.Spec PyProof.Rows
theorem Vals.rev : ∀ {xs : List V} {us : List Value}, Vals xs us → Vals xs.reverse us.reverse
  | _, _, .nil => .nil
  | _, _, .cons r rr => by
    rw [List.reverse_cons, List.reverse_cons]
    exact (Vals.rev rr).append (.cons r .nil)
theorem fm_map {α β : Type} {f : α → Option β} {g : α → β} : ∀ {l : List α}, (∀ m ∈ l, f m = some (g m)) → l.filterMap f = l.map g
  | [], _ => rfl
  | x :: l, h => by rw [List.filterMap_cons_some (h x (List.mem_cons_self ..)), List.map_cons, fm_map fun m hm => h m (List.mem_cons_of_mem _ hm)]
theorem rev_pick (xs : Array Value) : ((List.range xs.size).filterMap fun (m : Nat) => xs[((xs.size : Int) - 1 + (m : Int) * (-1)).toNat]?).toArray = xs.toList.reverse.toArray := by
  congr 1
  have e : ∀ m ∈ List.range xs.size, xs[((xs.size : Int) - 1 + (m : Int) * (-1)).toNat]? = some (xs.toList.reverse.getD m .none) := fun m hm => by
    have hm := List.mem_range.mp hm
    have : ((xs.size : Int) - 1 + (m : Int) * (-1)).toNat = xs.size - 1 - m := by omega
    rw [this, Array.getElem?_eq_getElem (by omega), List.getD_eq_getElem?_getD, List.getElem?_reverse (by simpa using hm)]
    rw [Array.getElem?_toList, Array.length_toList, Array.getElem?_eq_getElem (by omega)]
    rfl
  rw [fm_map e]
  apply List.ext_getElem
  · simp
  · intro i h1 h2
    simp only [List.getElem_map, List.getElem_range]
    rw [List.getD_eq_getElem?_getD, List.getElem?_eq_getElem h2]
    rfl
section
variable {prog : Program} {w : World} {A : Around} {E : Value → Shared → Prop} {s : Shared}
theorem applied_rev {sl : Addr} {vk : Value} {n : Nat} {Q : Int × Int × Nat → Shared → Prop} (hs : s.heap.IsSliceOf sl .none .none vk) (pk : IsPart vk (some (-1)))
    (h : Q ((n : Int) - 1, -1, n) s) : wpAny (model prog w) A (Builtin.Slice.sliceApplied (.ref sl) (pure (n : Int))) Q E s := by
  obtain ⟨os, hos, hcs, hds⟩ := id hs
  unfold Builtin.Slice.sliceApplied Builtin.Slice.sliceFields
  refine wpAny_bind (wpAny_bind (wpAny_field hos hds (x := .none) rfl (wpAny_bind (wpAny_field hos hds (x := .none) rfl (wpAny_bind (wpAny_field hos hds (x := vk) rfl (wpAny_pure ?_)))))))
  refine wpAny_bind (HT.slicePart_ pk ?_)
  show wpAny _ _ (if ((-1 : Int) == 0) = true then _ else _) _ _ s
  rw [if_neg (by decide)]
  refine wpAny_bind (HT.slicePart_ .none (wpAny_bind (HT.slicePart_ .none (wpAny_bind (wpAny_pure ?_)))))
  show wpAny _ _ (match Builtin.Slice.sliceAdjust none none (-1) (n : Int) with | (lo, hi) => pure (lo, (-1 : Int), Builtin.Slice.slicePlaces lo hi (-1))) _ _ s
  have e1 : Builtin.Slice.sliceAdjust none none (-1) (n : Int) = ((n : Int) - 1, -1) := by
    unfold Builtin.Slice.sliceAdjust
    simp
  have e2 : Builtin.Slice.slicePlaces ((n : Int) - 1) (-1) (-1) = n := by
    unfold Builtin.Slice.slicePlaces
    rw [if_neg (by decide)]
    by_cases z : n = 0
    · subst z; rfl
    · rw [if_pos (by omega), show ((n : Int) - 1 - -1 - 1) / (- -1) + 1 = (n : Int) by rw [show (- -1 : Int) = 1 from rfl, Int.ediv_one]; omega]
      simp
  rw [e1]
  show wpAny _ _ (pure ((n : Int) - 1, (-1 : Int), Builtin.Slice.slicePlaces ((n : Int) - 1) (-1) (-1))) _ _ s
  rw [e2]
  exact wpAny_pure h
theorem getItem_rev {t sl : Addr} {items : Array Value} {vk : Value} {Q : Value → Shared → Prop} (ht : IsTup s.heap t items) (hs : s.heap.IsSliceOf sl .none .none vk) (pk : IsPart vk (some (-1)))
    (h : Q (.ref s.heap.objs.size) { s with heap := s.heap.push { cls := .type "tuple", data := .seq items.toList.reverse.toArray } }) (hsz : items.size ≤ sizeLine) : wpAny (model prog w) A (getItem (.ref t) (.ref sl)) Q E s := by
  have htake : sizeOk (.seq items.toList.reverse.toArray) := by
    show items.toList.reverse.toArray.size ≤ sizeLine
    simpa using hsz
  obtain ⟨os, hos, hcs, hds⟩ := id hs
  have hTs : s.TypeIs (.ref sl) "slice" := ⟨os, hos, hcs⟩
  unfold getItem
  try with_reducible refine wpAny_holding ?_
  first | refine wpAny_bind (wpAny_pure ?_) | skip
  refine wpAny_bind (wpAny_sequenceKey ht.typeIs (by decide) ?_)
  refine wpAny_bind (wpAny_callSpecial?_slot (name := Str.ofString "__getitem__") ht.typeIs PyProof.Rows.slot_tuple_getitem
    (wpAny_call_entry PyProof.Rows.slot_tuple_getitem ht.typeIs entry_tuple_getitem ?_ (args_tuple_getitem _ _)))
  show wpAny _ _ (Builtin.Tuple.tupleItemsOf (.ref t) >>= _) _ _ s
  refine wpAny_bind (tupleItemsOf_ ht ?_)
  refine wpAny_bind (wpAny_typeOf hTs ?_)
  rw [if_pos (by decide)]
  refine wpAny_bind (applied_rev hs pk ?_)
  have hno : ¬ (((items.size : Int) - 1 == 0 && (-1 : Int) == 1 && items.size == items.size) = true) := by
    intro q
    rw [Bool.and_eq_true, Bool.and_eq_true] at q
    exact absurd q.1.2 (by decide)
  show wpAny _ _ (if ((items.size : Int) - 1 == 0 && (-1 : Int) == 1 && items.size == items.size) = true then _ else _) _ _ s
  rw [if_neg hno, rev_pick]
  first
    | exact wpAny_bind (m := Builtin.Tuple.tupleExact _) (wpAny_newObj_type (wpAny_pure ⟨_, rfl, wpAny_pure h⟩) htake)
    | exact wpAny_bind (m := Builtin.Tuple.tupleExact _) (wpAny_newObj_type (wpAny_bind (wpAny_pure (wpAny_pure ⟨_, rfl, wpAny_pure h⟩))) htake)
    | exact wpAny_bind (wpAny_bind (m := Builtin.Tuple.tupleExact _) (wpAny_newObj_type (wpAny_pure (wpAny_pure ⟨_, rfl, wpAny_pure h⟩)) htake))
    | exact wpAny_bind (wpAny_bind (m := Builtin.Tuple.tupleExact _) (wpAny_newObj_type (wpAny_pure ⟨_, rfl, wpAny_pure h⟩) htake))
end
section
variable {X : Cx} {e st : Expr} {te : TE} {tp : TO} {pos p2 : Pos}
def tRevT (K : PySem.W.Frag) (te : TE) (tp : TO) : TE := fun σ H Q => te σ H fun x H1 => tp σ H1 fun u H2 => u = some (-1) ∧ ∃ a xs, x = .ref a ∧ SqT K H2 a xs ∧ ∀ p, H2 p = none → Q (.ref p) (upd H2 p (.tup xs.reverse))
theorem pe_revT (he : PE X e te) (hp : PO X (some st) tp) : PE X (.Subscript e (.Slice none none (some st) p2) pos) (tRevT X.K te tp) := by
  intro pins s σ H Q I h
  refine Subscript_ (thn (he pins s σ H _ I h) fun v s1 ⟨x, H1, I1, r1, q1⟩ => ?_)
  refine wpAny_Slice ?_
  rw [evalPart_none]
  refine wpAny_pure (wpAny_pure ?_)
  refine thn (hp pins s1 σ H1 _ I1 q1) fun vu s3 ⟨u, H3, I3, pu, q3⟩ => ?_
  obtain ⟨rfl, a, xs, rfl, hx, q⟩ := q3
  cases r1
  have I4 : Inv X pins σ H3 { s3 with heap := s3.heap.push { cls := .type "slice", data := .fields #[.none, .none, vu] } } := I3.kept (t' := s3.toks) fun b ob q => Heap.get?_push_of_some _ q
  show wpAny (model X.prog X.w) X.A (subscriptTail e (.Slice none none (some st) p2) (.ref a) (.ref s3.heap.objs.size)) (EP X pins σ Q) X.xe { s3 with heap := s3.heap.push { cls := .type "slice", data := .fields #[.none, .none, vu] } }
  obtain ⟨its, r, ht, hz⟩ := I4.tuple hx
  have hlen := r.length
  refine tail_any (ops := [.ref a, .ref s3.heap.objs.size]) ht.typeIs PyProof.Rows.slot_tuple_getitem.lookup ?_ (by with_unfolding_all rfl)
  refine getItem_rev ht (Heap.IsSliceOf.new ..) pu ?_ (by rw [List.size_toArray] <;> omega)
  refine ⟨.ref _, _, I4.laid (t' := s3.toks) (o := .tup xs.reverse) (fun b ob q => Heap.get?_push_of_some _ q) (Nat.le_refl _) ?_, rfl, q _ (I4.hok.fresh (Nat.le_refl _))⟩
  exact ⟨by rw [List.length_reverse]; exact hz, its.reverse, r.rev, IsTup.new _ _⟩
end
end L2
set_option Elab.async false
set_option linter.all false
set_option maxRecDepth 100000
set_option maxHeartbeats 4000000
namespace L2
open PySem PySem.Spec PyProof.Rows
structure Sz (k b : Nat) (d : PyData) : Prop where
  dp : d.depth ≤ k
  bk : d.bulk ≤ b
  sh : d.showable = true
  lf : d.leavesShort 100 = true
theorem Sz.mono {k b k' b' : Nat} {d : PyData} (h : Sz k b d) (hk : k ≤ k') (hb : b ≤ b') : Sz k' b' d := ⟨Nat.le_trans h.dp hk, Nat.le_trans h.bk hb, h.sh, h.lf⟩
structure SzA (k b n : Nat) (ds : List PyData) : Prop where
  dp : PyData.depthAll ds ≤ k
  bk : PyData.bulkAll ds ≤ n * (b + 1)
  sh : PyData.showableAll ds = true
  lf : PyData.leavesShortAll 100 ds = true
theorem SzA.nil {k b : Nat} : SzA k b 0 [] := ⟨by simp [PyData.depthAll], by simp [PyData.bulkAll], by simp [PyData.showableAll], by simp [PyData.leavesShortAll]⟩
theorem SzA.cons {k b n : Nat} {d : PyData} {ds : List PyData} (h : Sz k b d) (h' : SzA k b n ds) : SzA k b (n + 1) (d :: ds) := by
  refine ⟨?_, ?_, ?_, ?_⟩
  · simp only [PyData.depthAll]; have := h.dp; have := h'.dp; omega
  · simp only [PyData.bulkAll]
    have := h.bk
    have := h'.bk
    rw [Nat.succ_mul]
    omega
  · simp only [PyData.showableAll, h.sh, h'.sh]; rfl
  · simp only [PyData.leavesShortAll, h.lf, h'.lf]; rfl
theorem SzA.list {k b n : Nat} {ds : List PyData} (h : SzA k b n ds) : Sz (k + 1) (n * (b + 1)) (.list ds) := ⟨by simp only [PyData.depth]; have := h.dp; omega, by simp only [PyData.bulk]; exact h.bk, by simp only [PyData.showable]; exact h.sh, by simp only [PyData.leavesShort]; exact h.lf⟩
theorem SzA.tuple {k b n : Nat} {ds : List PyData} (h : SzA k b n ds) : Sz (k + 1) (n * (b + 1)) (.tuple ds) := ⟨by simp only [PyData.depth]; have := h.dp; omega, by simp only [PyData.bulk]; exact h.bk, by simp only [PyData.showable]; exact h.sh, by simp only [PyData.leavesShort]; exact h.lf⟩
def DN (k b : Nat) (H : Hp) (x : V) : Prop := ∃ d, Dat H x d ∧ Sz k b d
theorem DN.mono {k b k' b' : Nat} {H H' : Hp} {x : V} (h : DN k b H x) (s : ∀ c o, H c = some o → H' c = some o) (hk : k ≤ k') (hb : b ≤ b') : DN k' b' H' x := let ⟨d, a, z⟩ := h; ⟨d, Dat.mono s x d a, z.mono hk hb⟩
theorem DN.all {k b : Nat} {H : Hp} : ∀ {xs : List V}, (∀ x ∈ xs, DN k b H x) → ∃ ds, DatAll H xs ds ∧ SzA k b xs.length ds
  | [], _ => ⟨[], by unfold DatAll; trivial, .nil⟩
  | x :: xs, h => by
    obtain ⟨d, hd, hz⟩ := h x (List.mem_cons_self ..)
    obtain ⟨ds, hs, hzs⟩ := DN.all (xs := xs) fun y hy => h y (List.mem_cons_of_mem _ hy)
    exact ⟨d :: ds, by unfold DatAll; exact ⟨hd, hs⟩, .cons hz hzs⟩
theorem DN.non {k b : Nat} {H : Hp} : DN k b H .non := ⟨.none, by unfold Dat; rfl, by simp [PyData.depth], by simp [PyData.bulk], by simp [PyData.showable], by simp [PyData.leavesShort]⟩
theorem DN.bl {k b : Nat} {H : Hp} (c : Bool) : DN k b H (.bl c) := ⟨.bool c, by unfold Dat; rfl, by simp [PyData.depth], by simp [PyData.bulk], by simp [PyData.showable], by simp [PyData.leavesShort]⟩
theorem DN.int {k b : Nat} {H : Hp} {i : Int} (h : i.natAbs.log2 < 90) : DN k b H (.int i) := ⟨.int i, by unfold Dat; rfl, by simp [PyData.depth], by simp [PyData.bulk], by simp only [PyData.showable, decide_eq_true_eq]; omega, by
  have := int_text_length_le (a := i) (k := 90) (by decide) h
  simp only [PyData.leavesShort, PyData.shown]
  refine decide_eq_true ?_
  show (Str.ofString (toString i)).length ≤ 100
  rw [PySem.ofString_length]
  omega⟩
theorem DN.str {k b : Nat} {H : Hp} {x : Str} (h : x.cps.size ≤ b) (hc : (x.cps.toList.all fun c => decide (c < 16 ^ 8)) = true) : DN k b H (.str x) := ⟨.str x, by unfold Dat; rfl, by simp [PyData.depth], by simp only [PyData.bulk]; exact h, by simp [PyData.showable], by simp only [PyData.leavesShort]; exact hc⟩
theorem DN.tup {k b n : Nat} {H : Hp} {p : Addr} {xs : List V} (hp : H p = some (.tup xs)) (h : ∀ x ∈ xs, DN k b H x) (hn : xs.length ≤ n) : DN (k + 1) (n * (b + 1)) H (.ref p) := by
  obtain ⟨ds, hd, hz⟩ := DN.all h
  exact ⟨.tuple ds, by unfold Dat; exact ⟨p, xs, rfl, hp, hd⟩, hz.tuple.mono (Nat.le_refl _) (Nat.mul_le_mul_right _ hn)⟩
theorem DN.lst {k b n : Nat} {H : Hp} {p : Addr} {xs : List V} (hp : H p = some (.lst xs)) (h : ∀ x ∈ xs, DN k b H x) (hn : xs.length ≤ n) : DN (k + 1) (n * (b + 1)) H (.ref p) := by
  obtain ⟨ds, hd, hz⟩ := DN.all h
  exact ⟨.list ds, by unfold Dat; exact ⟨p, xs, rfl, hp, hd⟩, hz.list.mono (Nat.le_refl _) (Nat.mul_le_mul_right _ hn)⟩
def hid (o : Option Addr) (H : Hp) : Hp := fun b => if o = some b then none else H b
def Live (o : Option Addr) (H : Hp) : Prop := ∀ t, o = some t → ∃ u, H t = some u
theorem hid_at {o : Option Addr} {H : Hp} {p : Addr} {u : HO} (n : o ≠ some p) (h : H p = some u) : hid o H p = some u := by unfold hid; rw [if_neg n]; exact h
theorem hid_le {o : Option Addr} {H : Hp} : ∀ b u, hid o H b = some u → H b = some u := fun b u h => by
  unfold hid at h
  split at h
  · cases h
  · exact h
theorem hid_same {o : Option Addr} {H H' : Hp} (s : Same H H') : ∀ b u, hid o H b = some u → hid o H' b = some u := fun b u h => by
  unfold hid at h ⊢
  split at h
  · cases h
  · rename_i n; rw [if_neg n]; exact s b u h
theorem Live.ne {o : Option Addr} {H : Hp} {p : Addr} (l : Live o H) (n : H p = none) : o ≠ some p := fun e => by
  obtain ⟨u, h⟩ := l p e
  rw [n] at h; cases h
theorem Live.same {o : Option Addr} {H H' : Hp} (l : Live o H) (s : Same H H') : Live o H' := fun t e => let ⟨u, h⟩ := l t e; ⟨u, s t u h⟩
theorem same_up {H : Hp} {p : Addr} {u : HO} (n : H p = none) : Same H (upd H p u) := fun b o e => by rw [upd_ne (ne_of_none e n)]; exact e
section
variable {X : Cx} {o : Option Addr} {C : St → Hp → Prop} {k b n : Nat} {e : Expr} {es : List Expr} {pos : Pos}
end
end L2
set_option Elab.async false
set_option linter.all false
set_option maxRecDepth 100000
set_option maxHeartbeats 2000000
namespace Hue
open PySem L2
abbrev sNum : Stmt := top 1
abbrev sListed : Stmt := top 2
abbrev sPair : Stmt := top 3
abbrev sRising : Stmt := top 4
abbrev sHasP : Stmt := top 9
abbrev sLNum : Stmt := top 28
def natV (n : Nat) : V := .int (n : Int)
def kdD : PyData → String
  | .none => "NoneType"
  | .bool _ => "bool"
  | .int _ => "int"
  | .str _ => "str"
  | .list _ => "list"
  | .tuple _ => "tuple"
  | .dict _ => "dict"
theorem Dat.ty {K : PySem.W.Frag} {H : Hp} : ∀ {x : V} {d : PyData}, Dat H x d → TyOf K H x (.type (kdD d))
  | _, .none, h => by unfold Dat at h; subst h; exact .non
  | _, .bool b, h => by unfold Dat at h; subst h; exact .bl b
  | _, .int i, h => by unfold Dat at h; subst h; exact .int i
  | _, .str x, h => by unfold Dat at h; subst h; exact .str x
  | _, .list _, h => by unfold Dat at h; obtain ⟨a, xs, rfl, h1, _⟩ := h; exact .lst h1
  | _, .tuple _, h => by unfold Dat at h; obtain ⟨a, xs, rfl, h1, _⟩ := h; exact .tup h1
  | _, .dict _, h => by unfold Dat at h; exact h.elim
def isTupD : PyData → Bool
  | .tuple _ => true
  | _ => false
def isIntD : PyData → Bool
  | .int _ | .bool _ => true
  | _ => false
def isBlD : PyData → Bool
  | .bool _ => true
  | _ => false
def numD : PyData → Bool
  | .int _ => true
  | _ => false
theorem kt_tup {K : PySem.W.Frag} {d : PyData} {H : Hp} {x : V} (h : Dat H x d) : PySem.W.kitOne K (.type (kdD d)) (.type "tuple") = some (isTupD d) := by
  rw [kit_n]
  cases d with
  | dict _ => unfold Dat at h; exact h.elim
  | _ => simp only [kdD, isTupD]; decide +kernel
theorem kt_int {K : PySem.W.Frag} {d : PyData} {H : Hp} {x : V} (h : Dat H x d) : PySem.W.kitOne K (.type (kdD d)) (.type "int") = some (isIntD d) := by
  rw [kit_n]
  cases d with
  | dict _ => unfold Dat at h; exact h.elim
  | _ => simp only [kdD, isIntD]; decide +kernel
theorem kt_bl {K : PySem.W.Frag} {d : PyData} {H : Hp} {x : V} (h : Dat H x d) : PySem.W.kitOne K (.type (kdD d)) (.type "bool") = some (isBlD d) := by
  rw [kit_n]
  cases d with
  | dict _ => unfold Dat at h; exact h.elim
  | _ => simp only [kdD, isBlD]; decide +kernel
theorem num_eq (d : PyData) : (isIntD d && !isBlD d) = numD d := by cases d <;> rfl
theorem dat_tup {H : Hp} {x : V} {d : PyData} (h : Dat H x d) (e : isTupD d = true) : ∃ ds a xs, d = .tuple ds ∧ x = .ref a ∧ H a = some (.tup xs) ∧ DatAll H xs ds := by
  cases d with
  | tuple ds => unfold Dat at h; obtain ⟨a, xs, e1, h1, h2⟩ := h; exact ⟨ds, a, xs, rfl, e1, h1, h2⟩
  | _ => cases e
theorem dat_int {H : Hp} {x : V} {d : PyData} (h : Dat H x d) (e : numD d = true) : ∃ i, d = .int i ∧ x = .int i := by
  cases d with
  | int i => unfold Dat at h; exact ⟨i, rfl, h⟩
  | _ => cases e
def spNum : Sp := fun vs H Q _ => ∃ x d, vs = [x] ∧ Dat H x d ∧ Q (.bl (numD d)) H
def seqD : PyData → Bool
  | .list _ | .tuple _ => true
  | _ => false
theorem kt_seq {K : PySem.W.Frag} {d : PyData} {H : Hp} {x : V} (h : Dat H x d) : PySem.W.kitAny K (.type (kdD d)) (["list", "tuple"].map Value.type) = some (seqD d) := by
  cases d with
  | dict _ => unfold Dat at h; exact h.elim
  | list _ => exact any_lst
  | tuple _ =>
    show (match PySem.W.kitOne K (.type "tuple") (.type "list") with | some true => some true | some false => (match PySem.W.kitOne K (.type "tuple") (.type "tuple") with | some true => some true | some false => some false | none => none) | none => none) = some true
    rw [kit_n, kt_tl]
    show (match PySem.W.kitOne K (.type "tuple") (.type "tuple") with | some true => some true | some false => some false | none => none) = some true
    rw [kit_n, kt_tt]
  | none => exact any_two_f kt_nl kt_nt
  | bool _ => exact any_two_f (show ktn "bool" "list" = some false by decide +kernel) (show ktn "bool" "tuple" = some false by decide +kernel)
  | int _ => exact any_two_f kt_il kt_it
  | str _ => exact any_two_f (show ktn "str" "list" = some false by decide +kernel) (show ktn "str" "tuple" = some false by decide +kernel)
def spListed : Sp := fun vs H Q _ => ∃ x d, vs = [x] ∧ Dat H x d ∧ ∀ H', Same H H' → Q (.bl (seqD d)) H'
def spNumI : Sp := fun vs H Q _ => ∃ n : Int, vs = [.int n] ∧ Q (.bl true) H
def InP (m p : Int) : Prop := 0 ≤ p ∧ p < m
instance (m p : Int) : Decidable (InP m p) := inferInstanceAs (Decidable (_ ∧ _))
def spHasP : Sp := fun vs H Q _ => ∃ (w : Addr) (m : Int) (es : List (Int × Int)) (p : Int), vs = [.ref w, .int p] ∧ WebE H w m es ∧ Q (.bl (decide (InP m p))) H
def spPairT : Sp := fun vs H Q _ => ∃ (p : Addr) (x y : V), vs = [.ref p] ∧ H p = some (.tup [x, y]) ∧ Q (.bl true) H
def Rise (xs : List V) : Prop := ∃ ps : List Int, xs = ps.map V.int ∧ ps.Pairwise (· < ·)
def spRising : Sp := fun vs H Q _ => ∃ (a : Addr) (xs : List V) (ds : List PyData), vs = [.ref a] ∧ H a = some (.tup xs) ∧ DatAll H xs ds ∧ xs.length ≤ 100 ∧ ∀ b H', Same H H' → (b = true ↔ Rise xs) → Q (.bl b) H'
theorem dat_num {H : Hp} {n : Int} : ∀ {d : PyData}, Dat H (.int n) d → d = .int n
  | .none, h => by unfold Dat at h; cases h
  | .bool _, h => by unfold Dat at h; cases h
  | .int i, h => by unfold Dat at h; injection h with h; rw [h]
  | .str _, h => by unfold Dat at h; cases h
  | .list _, h => by unfold Dat at h; obtain ⟨_, _, z, _⟩ := h; cases z
  | .tuple _, h => by unfold Dat at h; obtain ⟨_, _, z, _⟩ := h; cases z
  | .dict _, h => by unfold Dat at h; exact h.elim
theorem datAll_nums {H : Hp} : ∀ {ps : List Int} {ds : List PyData}, DatAll H (ps.map V.int) ds → ds = ps.map PyData.int
  | [], [], _ => rfl
  | p :: ps, d :: ds, h => by
    rw [List.map_cons] at h
    unfold DatAll at h
    rw [dat_num h.1, datAll_nums h.2]; rfl
  | [], _ :: _, h => by rw [List.map_nil] at h; unfold DatAll at h; exact h.elim
  | _ :: _, [], h => by rw [List.map_cons] at h; unfold DatAll at h; exact h.elim
theorem datAll_ints {H : Hp} : ∀ {xs : List V} {ds : List PyData}, DatAll H xs ds → ds.all numD = true → ∃ ps : List Int, xs = ps.map V.int ∧ ds = ps.map PyData.int
  | [], [], _, _ => ⟨[], rfl, rfl⟩
  | x :: xs, d :: ds, h, a => by
    unfold DatAll at h
    rw [List.all_cons, Bool.and_eq_true] at a
    obtain ⟨i, e1, e2⟩ := dat_int h.1 a.1
    obtain ⟨ps, h1, h2⟩ := datAll_ints h.2 a.2
    exact ⟨i :: ps, by rw [e2, h1]; rfl, by rw [e1, h2]; rfl⟩
  | [], _ :: _, h, _ => by unfold DatAll at h; exact h.elim
  | _ :: _, [], h, _ => by unfold DatAll at h; exact h.elim
theorem rise_iff {ps : List Int} : ps.Pairwise (· < ·) ↔ ∀ i, i + 1 < ps.length → ps.getD i 0 < ps.getD (i + 1) 0 := by
  induction ps with
  | nil => simp
  | cons p ps ih =>
    rw [List.pairwise_cons, ih]
    constructor
    · rintro ⟨h1, h2⟩ i hi
      cases i with
      | zero =>
        cases ps with
        | nil => simp at hi
        | cons q ps => exact h1 q (List.mem_cons_self ..)
      | succ i => exact h2 i (by simpa using hi)
    · intro h
      have h2 : ∀ i, i + 1 < ps.length → ps.getD i 0 < ps.getD (i + 1) 0 := fun i hi => h (i + 1) (by simpa using hi)
      refine ⟨fun q hq => ?_, h2⟩
      have hp := ih.mpr h2
      cases ps with
      | nil => cases hq
      | cons r ps =>
        have h0 : p < r := h 0 (by simp)
        rcases List.mem_cons.mp hq with rfl | hq
        · exact h0
        · exact Int.lt_trans h0 ((List.pairwise_cons.mp hp).1 q hq)
theorem nd_it : ((["item"] : List Str) ++ ([] : List Str)).Nodup := by decide +kernel
theorem nd_at : ((["at"] : List Str) ++ (["thing"] : List Str)).Nodup := by decide +kernel
section
variable {P : Program} {w : World} {K : PySem.W.Frag} {mg : Str → Option Value} {base : Heap}
theorem scNum : FnScope ["thing"] ["thing"] (defScope sNum) := ⟨rfl, rfl, rfl, by decide +kernel, rfl, by decide +kernel, by decide +kernel⟩
theorem ok_num {f : Addr} {fd : FuncData} (F : Fun K "is_number" "is_number" sNum f fd) (T : Txt K mg) : FnOk P w K mg base CX0 1 f fd ["thing"] spNum := by
  refine F.ok scNum (fun vs H Q E h => ?_) (fun cdv A outer s H vs Q E hr h => ?_)
  · obtain ⟨_, _, rfl, _⟩ := h; rfl
  · obtain ⟨x, d, rfl, hd, q⟩ := h
    refine ⟨_, pss_one (ps_ret (pe_and (pe_callB call_isi1 (by rfl) T.isi b_isi (pa_cons (pv 0) (pa_cons (pe_bltn (v := .ty "int") (by rfl) T.int b_int rfl) pa_nil)))
      (pe_one (pe_not (pe_callB call_isi1 (by rfl) T.isi b_isi (pa_cons (pv 0) (pa_cons (pe_bltn (v := .ty "bool") (by rfl) T.bool b_bool rfl) pa_nil))))))), ?_⟩
    have e := num_eq d
    refine ⟨_, rfl, _, "int", _, _, rfl, Dat.ty hd, kt_int hd, _, rfl, ite2 (fun z => ?_) (fun z => ?_)⟩
    · refine ⟨_, rfl, _, "bool", _, _, rfl, Dat.ty hd, kt_bl hd, _, rfl, ?_⟩
      rw [z, Bool.true_and] at e
      show Q (.bl (!isBlD d)) H
      rw [e]; exact q
    · rw [show isIntD d = false by simpa using z, Bool.false_and] at e
      show Q (.bl false) H
      rw [e]; exact q
theorem scLNum : FnScope ["_law_thing"] ["_law_thing"] (defScope sLNum) := ⟨rfl, rfl, rfl, by decide +kernel, rfl, by decide +kernel, by decide +kernel⟩
theorem ok_lnum {f : Addr} {fd : FuncData} (F : Fun K "_law_is_number" "_law_is_number" sLNum f fd) (T : Txt K mg) : FnOk P w K mg base CX0 1 f fd ["_law_thing"] spNum := by
  refine F.ok scLNum (fun vs H Q E h => ?_) (fun cdv A outer s H vs Q E hr h => ?_)
  · obtain ⟨_, _, rfl, _⟩ := h; rfl
  · obtain ⟨x, d, rfl, hd, q⟩ := h
    refine ⟨_, pss_one (ps_ret (pe_and (pe_callB call_isi1 (by rfl) T.isi b_isi (pa_cons (pv 0) (pa_cons (pe_bltn (v := .ty "int") (by rfl) T.int b_int rfl) pa_nil)))
      (pe_one (pe_not (pe_callB call_isi1 (by rfl) T.isi b_isi (pa_cons (pv 0) (pa_cons (pe_bltn (v := .ty "bool") (by rfl) T.bool b_bool rfl) pa_nil))))))), ?_⟩
    have e := num_eq d
    refine ⟨_, rfl, _, "int", _, _, rfl, Dat.ty hd, kt_int hd, _, rfl, ite2 (fun z => ?_) (fun z => ?_)⟩
    · refine ⟨_, rfl, _, "bool", _, _, rfl, Dat.ty hd, kt_bl hd, _, rfl, ?_⟩
      rw [z, Bool.true_and] at e
      show Q (.bl (!isBlD d)) H
      rw [e]; exact q
    · rw [show isIntD d = false by simpa using z, Bool.false_and] at e
      show Q (.bl false) H
      rw [e]; exact q
theorem scListed : FnScope ["thing"] ["thing"] (defScope sListed) := ⟨rfl, rfl, rfl, by decide +kernel, rfl, by decide +kernel, by decide +kernel⟩
theorem ok_listed {f : Addr} {fd : FuncData} (F : Fun K "is_listed" "is_listed" sListed f fd) (T : Txt K mg) : FnOk P w K mg base CX0 1 f fd ["thing"] spListed := by
  refine F.ok scListed (fun vs H Q E h => ?_) (fun cdv A outer s H vs Q E hr h => ?_)
  · obtain ⟨_, _, rfl, _⟩ := h; rfl
  · obtain ⟨x, d, rfl, hd, q⟩ := h
    refine ⟨_, pss_one (ps_ret (pe_callB call_isiT (by rfl) T.isi b_isi (pa_cons (pv 0) (pa_cons (pe_tup (pa_cons (pe_bltn (v := .ty "list") (by rfl) T.list b_list rfl) (pa_cons (pe_bltn (v := .ty "tuple") (by rfl) T.tuple b_tuple rfl) pa_nil))) pa_nil)))), ?_⟩
    exact ⟨_, rfl, by show 2 ≤ sizeLine; decide, fun p hp => ⟨_, p, ["list", "tuple"], _, _, rfl, upd_same, Dat.ty (Dat.mono (same_new (Same.refl _) hp) x d hd), kt_seq hd, q _ (same_new (Same.refl _) hp)⟩⟩
theorem ok_numI {f : Addr} {fd : FuncData} (F : Fun K "is_number" "is_number" sNum f fd) (T : Txt K mg) : FnOk P w K mg base CX0 1 f fd ["thing"] spNumI := by
  refine F.ok scNum (fun vs H Q E h => ?_) (fun cdv A outer s H vs Q E hr h => ?_)
  · obtain ⟨_, rfl, _⟩ := h; rfl
  · obtain ⟨n, rfl, q⟩ := h
    refine ⟨_, pss_one (ps_ret (pe_and (pe_callB call_isi1 (by rfl) T.isi b_isi (pa_cons (pv 0) (pa_cons (pe_bltn (v := .ty "int") (by rfl) T.int b_int rfl) pa_nil)))
      (pe_one (pe_not (pe_callB call_isi1 (by rfl) T.isi b_isi (pa_cons (pv 0) (pa_cons (pe_bltn (v := .ty "bool") (by rfl) T.bool b_bool rfl) pa_nil))))))), ?_⟩
    exact ⟨_, rfl, _, "int", _, _, rfl, .int n, (kit_n _ _).trans kt_ii, _, rfl, iteT ⟨_, rfl, _, "bool", _, _, rfl, .int n, (kit_n _ _).trans kt_ib, _, rfl, q⟩⟩
theorem scHasP : FnScope ["web", "place"] ["web", "place"] (defScope sHasP) := ⟨rfl, rfl, rfl, by decide +kernel, rfl, by decide +kernel, by decide +kernel⟩
theorem ok_hasP {f : Addr} {fd : FuncData} (F : Fun K "has_place" "has_place" sHasP f fd) (CN : Callee P w K mg base 1 "is_number" ["thing"] spNumI) : FnOk P w K mg base CX0 2 f fd ["web", "place"] spHasP := by
  refine F.ok scHasP (fun vs H Q E h => ?_) (fun cdv A outer s H vs Q E hr h => ?_)
  · obtain ⟨_, _, _, _, rfl, _⟩ := h; rfl
  · obtain ⟨w0, m, es, p, rfl, ⟨ta, ts, hw, ht, _⟩, q⟩ := h
    refine ⟨_, pss_one (ps_ret (pe_and (pe_def CN hr (by rfl) (pa_cons (pv 1) pa_nil)) (pe_one (pe_chain op_le op_lt pe_int (pv 1) (pe_ix ix_tup (pv 0) pe_int (fun _ _ => rfl)))))), ?_⟩
    refine ⟨_, rfl, p, rfl, _, rfl, iteT ⟨_, rfl, _, _, rfl, rfl, _, rfl, ite2 (fun z => ⟨_, rfl, w0, _, _, _, rfl, rfl, SqT.of hw, (rfl : atI [V.int m, V.ref ta] 0 = some (.int m)), _, _, rfl, rfl, ?_⟩) (fun z => ?_)⟩⟩
    · have z' : 0 ≤ p := by simpa using z
      show Q (.bl (decide (p < m))) H
      rw [show decide (p < m) = decide (InP m p) by unfold InP; simp [z']]
      exact q
    · have z' : ¬ 0 ≤ p := by simpa using z
      rw [show decide (InP m p) = false by unfold InP; simp [z']] at q
      simpa [z'] using q
theorem scPair : FnScope ["thing"] ["thing"] (defScope sPair) := ⟨rfl, rfl, rfl, by decide +kernel, rfl, by decide +kernel, by decide +kernel⟩
theorem ok_pairT {f : Addr} {fd : FuncData} (F : Fun K "is_pair" "is_pair" sPair f fd) (T : Txt K mg) : FnOk P w K mg base CX0 1 f fd ["thing"] spPairT := by
  refine F.ok scPair (fun vs H Q E h => ?_) (fun cdv A outer s H vs Q E hr h => ?_)
  · obtain ⟨_, _, _, rfl, _⟩ := h; rfl
  · obtain ⟨p, x, y, rfl, hp, q⟩ := h
    refine ⟨_, pss_one (ps_ret (pe_and (pe_callB call_isi1 (by rfl) T.isi b_isi (pa_cons (pv 0) (pa_cons (pe_bltn (v := .ty "tuple") (by rfl) T.tuple b_tuple rfl) pa_nil))) (pe_one (pe_cmpR op_eq (pe_callB call_len_seq (by rfl) T.len b_len (pa_cons (pv 0) pa_nil)) pe_int (nomark _))))), ?_⟩
    exact ⟨_, rfl, _, "tuple", _, _, rfl, .tup hp, (kit_n _ _).trans kt_tt, _, rfl, iteT ⟨_, rfl, p, _, rfl, .inr (SqT.of hp), rfl, bl_t rfl q⟩⟩
theorem scRising : FnScope ["thing"] ["thing"] (defScope sRising) := ⟨rfl, rfl, rfl, by decide +kernel, rfl, by decide +kernel, by decide +kernel⟩
theorem ok_rising {f : Addr} {fd : FuncData} (F : Fun K "is_rising" "is_rising" sRising f fd) (T : Txt K mg) (CL : Callee P w K mg base 1 "is_listed" ["thing"] spListed) (CN : Callee P w K mg base 1 "is_number" ["thing"] spNum) : FnOk P w K mg base CX0 2 f fd ["thing"] spRising := by
  refine F.ok scRising (fun vs H Q E h => ?_) (fun cdv A outer s H vs Q E hr h => ?_)
  · obtain ⟨_, _, _, rfl, _⟩ := h; rfl
  · obtain ⟨a, xs, ds, rfl, ha, hD, h100, q⟩ := h
    refine ⟨_, pss_cons (ps_if (pw_or (pt_not (pt_val (pe_def CL hr (by rfl) (pa_cons (pv 0) pa_nil)))) (pw_or1 (pt_not (pt_val (pe_callB (call_allB rfl) (by rfl) T.all b_all (pa_cons (pe_comp ["item"] [] [] (pi_tup (pv 0)) (fun _ _ _ _ _ => pg_name (i := 0) nd_it rfl (Or.inl rfl)) (fun _ _ _ _ _ => pifs_nil) (fun _ _ _ _ _ => pe_def CN hr (by rfl) (pa_cons (pv 0) pa_nil))) pa_nil)))))).pt (pss_one (ps_ret pe_bl)) pss_nil)
      (pss_one (ps_ret (pe_callB (call_allB rfl) (by rfl) T.all b_all (pa_cons (pe_comp ["at"] ["thing"] [0] (pi_range1 (by rfl) T.range (pa_cons (pe_op op_sub (pe_callB call_len_seq (by rfl) T.len b_len (pa_cons (pv 0) pa_nil)) pe_int) pa_nil)) (fun _ _ _ _ _ => pg_name (i := 0) nd_at rfl (Or.inl rfl)) (fun _ _ _ _ _ => pifs_nil)
        (fun _ _ _ _ _ => pe_cmpR op_lt (pe_ix (ix_tupK (K := K) rfl) (pv 1) (pv 0) (fun _ _ => rfl)) (pe_ix (ix_tupK (K := K) rfl) (pv 1) (pe_op op_add (pv 0) pe_int) (fun _ _ => rfl)) (nomark _))) pa_nil)))), ?_⟩
    have hda : Dat H (.ref a) (.tuple ds) := by unfold Dat; exact ⟨a, xs, rfl, ha, hD⟩
    have hdl := hD.length
    refine ⟨_, rfl, .ref a, .tuple ds, rfl, hda, fun H1 s1 => ⟨_, rfl, iteF ?_⟩⟩
    refine ⟨_, rfl, a, rfl, ⟨_, SqT.of (s1 _ _ ha)⟩, fun D hD' => comp_tup (K := K) (a := a) (xs := xs) (fun i ys H2 => Same H1 H2 ∧ H2 D = some (.lst ys) ∧ ys = ((ds.take i).map numD).map V.bl) ⟨same_new (Same.refl _) hD', upd_same, rfl⟩ (fun i ys H2 _ h => SqT.of (h.1 _ _ (s1 _ _ ha))) ?_ ?_⟩
    · rintro i y ys H2 hy ⟨s2, d2, rfl⟩
      obtain ⟨dt, hdt, hyd⟩ := hD.get hy
      have hi : i < ds.length := (List.getElem?_eq_some_iff.mp hdt).1
      refine compT (i := 0) ⟨_, rfl, y, dt, rfl, Dat.mono (s1.trans s2) y dt hyd, d2, small1000 (by simp only [List.length_map, List.length_take]; omega), same_own s2 hD', upd_same, ?_⟩
      rw [List.take_add_one, hdt]; simp
    · rintro ys H2 ⟨s2, d2, rfl⟩
      rw [hdl, List.take_length] at d2
      refine ⟨D, ds.map numD, rfl, SqL.of d2, ?_⟩
      rw [List.all_map]
      cases ea : ds.all (id ∘ numD) with
      | false =>
        refine ⟨_, rfl, iteT (q false _ (s1.trans s2) ⟨(fun z => by cases z), fun z => ?_⟩)⟩
        obtain ⟨ps, e, _⟩ := z
        rw [e] at hD
        rw [datAll_nums hD] at ea
        have : (ps.map PyData.int).all (id ∘ numD) = true := by rw [List.all_map, List.all_eq_true]; intro _ _; rfl
        rw [this] at ea; cases ea
      | true =>
        refine ⟨_, rfl, iteF ?_⟩
        obtain ⟨ps, e1, e2⟩ := datAll_ints hD ea
        subst e1
        have s02 := s1.trans s2
        have hps : (ps.map V.int).length = ps.length := List.length_map ..
        refine ⟨_, rfl, a, _, rfl, .inr (SqT.of (s02 _ _ ha)), _, _, rfl, rfl, _, rfl, by omega, by omega, fun G hG => ?_⟩
        rw [hps]
        refine comp_range (lo := 0) (n := ((ps.length : Int) - 1).toNat) (fun k ys H3 => Same H2 H3 ∧ H3 G = some (.lst ys) ∧ ys = ((List.range k).map fun i => decide (ps.getD i 0 < ps.getD (i + 1) 0)).map V.bl) ⟨same_new (Same.refl _) hG, upd_same, rfl⟩ ?_ ?_
        · rintro k ys H3 hk ⟨s3, d3, rfl⟩
          have hk' : k + 1 < ps.length := by omega
          have a1 : atI (ps.map V.int) (0 + (k : Int)) = some (.int (ps.getD k 0)) := by
            rw [Int.zero_add]
            exact atI_nat (by rw [List.getElem?_map, List.getD_eq_getElem?_getD, List.getElem?_eq_getElem (by omega)]; rfl)
          have a2 : atI (ps.map V.int) (0 + (k : Int) + 1) = some (.int (ps.getD (k + 1) 0)) := by
            rw [show (0 : Int) + (k : Int) + 1 = ((k + 1 : Nat) : Int) by omega]
            exact atI_nat (by rw [List.getElem?_map, List.getD_eq_getElem?_getD, List.getElem?_eq_getElem hk']; rfl)
          refine compT (i := 0) ⟨_, rfl, _, rfl, a, _, _, _, rfl, rfl, SqT.of (s3 _ _ (s02 _ _ ha)), a1, _, rfl, _, rfl, _, _, rfl, rfl, a, _, _, _, rfl, rfl, SqT.of (s3 _ _ (s02 _ _ ha)), a2, _, _, rfl, rfl, d3, small1000 (by simp; omega), same_own s3 hG, upd_same, ?_⟩
          rw [List.range_succ, List.map_append, List.map_append]; rfl
        · rintro ys H3 ⟨s3, d3, rfl⟩
          refine ⟨G, _, rfl, SqL.of d3, q _ _ (s02.trans s3) ?_⟩
          rw [List.all_map, List.all_eq_true]
          constructor
          · intro h
            refine ⟨ps, rfl, rise_iff.mpr fun i hi => ?_⟩
            have := h i (List.mem_range.mpr (by omega))
            simpa using this
          · rintro ⟨qs, e, hr⟩ i hi
            have eq : ps = qs := by
              have := congrArg (List.map fun v => match v with | V.int n => n | _ => 0) e
              simpa [List.map_map, Function.comp_def] using this
            rw [← eq] at hr
            have hi' := List.mem_range.mp hi
            have := rise_iff.mp hr i (by omega)
            simpa using this
end
end Hue
set_option Elab.async false
set_option linter.all false
set_option maxRecDepth 100000
set_option maxHeartbeats 2000000
namespace Hue
open PySem L2
abbrev sChkP : Stmt := top 11
abbrev sTiesAt : Stmt := top 12
abbrev sCountAt : Stmt := top 13
abbrev sWithin : Stmt := top 14
abbrev sFullP : Stmt := top 19
abbrev sFullS : Stmt := top 20
abbrev sShows : Stmt := top 22
def tiesL (es : List (Int × Int)) (p : Int) : Nat → List Nat
  | 0 => []
  | n + 1 => tiesL es p n ++ (match es[n]? with | some e => if atE p e = true then [n] else [] | none => [])
theorem tiesL_len (es : List (Int × Int)) (p : Int) : ∀ n, (tiesL es p n).length ≤ n
  | 0 => Nat.le_refl _
  | n + 1 => by
    have := tiesL_len es p n
    rw [tiesL, List.length_append]
    split
    · split <;> simp <;> omega
    · simp; omega
def inB (ps : List Int) (e : Int × Int) : Bool := decide (e.1 ∈ ps) && decide (e.2 ∈ ps)
def witL (es : List (Int × Int)) (ps : List Int) : Nat → List Nat
  | 0 => []
  | n + 1 => witL es ps n ++ (match es[n]? with | some e => if inB ps e = true then [n] else [] | none => [])
theorem witL_len (es : List (Int × Int)) (ps : List Int) : ∀ n, (witL es ps n).length ≤ n
  | 0 => Nat.le_refl _
  | n + 1 => by
    have := witL_len es ps n
    rw [witL, List.length_append]
    split
    · split <;> simp <;> omega
    · simp; omega
def spWithin : Sp := fun vs H Q _ => ∃ (w b : Addr) (m : Int) (es : List (Int × Int)) (ps : List Int), vs = [.ref w, .ref b] ∧ WebE H w m es ∧ SeqA H b (ps.map V.int) ∧ ps.length ≤ 63 ∧ ∀ l H', H l = none → Same H H' → H' l = some (.lst ((witL es ps es.length).map natV)) → Q (.ref l) H'
theorem int_at {ts : List Int} {i : Nat} {x : V} (hx : (ts.map V.int)[i]? = some x) : ∃ t, ts[i]? = some t ∧ V.int t = x := by
  rw [List.getElem?_map] at hx
  cases e : ts[i]? with
  | none => rw [e] at hx; cases hx
  | some t => rw [e] at hx; exact ⟨t, rfl, by simpa using hx⟩
theorem SeqA.or {K : PySem.W.Frag} {H : Hp} {a : Addr} {row : List V} (h : SeqA H a row) : SqL K H a row ∨ SqT K H a row := h.imp SqL.of SqT.of
theorem nd_tep : ((["tie", "ends"] : List Str) ++ (["place"] : List Str)).Nodup := by decide +kernel
theorem nd_wi : ((["tie", "one", "other"] : List Str) ++ (["among"] : List Str)).Nodup := by decide +kernel
theorem nd_plw : ((["place"] : List Str) ++ (["web"] : List Str)).Nodup := by decide +kernel
def spChkP : Sp := fun vs H Q _ => ∃ (w : Addr) (m : Int) (es : List (Int × Int)) (p : Int), vs = [.ref w, .int p] ∧ WebE H w m es ∧ InP m p ∧ Q .non H
def spTiesAt : Sp := fun vs H Q _ => ∃ (w : Addr) (m : Int) (es : List (Int × Int)) (p : Int), vs = [.ref w, .int p] ∧ WebE H w m es ∧ InP m p ∧ ∀ l H', H l = none → Same H H' → H' l = some (.lst ((tiesL es p es.length).map natV)) → Q (.ref l) H'
def cntI (es : List (Int × Int)) (p : Int) : Int := ((tiesL es p es.length).length : Nat)
def spCountAt : Sp := fun vs H Q _ => ∃ (w : Addr) (m : Int) (es : List (Int × Int)) (p : Int), vs = [.ref w, .int p] ∧ WebE H w m es ∧ InP m p ∧ ∀ H', Same H H' → Q (.int (cntI es p)) H'
def spFullP : Sp := fun vs H Q _ => ∃ (w : Addr) (m : Int) (es : List (Int × Int)) (h p : Int), vs = [.ref w, .int h, .int p] ∧ WebE H w m es ∧ ∀ H', Same H H' → Q (.bl (decide (InP m p ∧ h < cntI es p))) H'
def SetR (m : Int) (es : List (Int × Int)) (h : Int) (d : PyData) : Prop := ∃ ps : List Int, d = .tuple (ps.map PyData.int) ∧ ps.Pairwise (· < ·) ∧ (∀ p ∈ ps, InP m p) ∧ 3 ≤ ps.length ∧ ps.length % 2 = 1 ∧ h * ((ps.length : Int) / 2) < ((witL es ps es.length).length : Nat)
def SmallD (d : PyData) : Prop := ∀ ds, d = .tuple ds → ds.length ≤ 40
def spFullS : Sp := fun vs H Q _ => ∃ (w : Addr) (m : Int) (es : List (Int × Int)) (h : Int) (x : V) (d : PyData), vs = [.ref w, .int h, x] ∧ WebE H w m es ∧ Dat H x d ∧ SmallD d ∧ 0 ≤ h ∧ h ≤ 1000 ∧ ∀ b H', Same H H' → (b = true ↔ SetR m es h d) → Q (.bl b) H'
theorem mapD_inj {ps qs : List Int} (e : ps.map PyData.int = qs.map PyData.int) : ps = qs := by
  have := congrArg (List.map fun v => match v with | PyData.int n => n | _ => 0) e
  simpa [List.map_map, Function.comp_def] using this
theorem setR_ints {m h : Int} {es : List (Int × Int)} {ps : List Int} : SetR m es h (.tuple (ps.map PyData.int)) ↔ (ps.Pairwise (· < ·) ∧ (∀ p ∈ ps, InP m p) ∧ 3 ≤ ps.length ∧ ps.length % 2 = 1 ∧ h * ((ps.length : Int) / 2) < ((witL es ps es.length).length : Nat)) := by
  constructor
  · rintro ⟨qs, e, r⟩
    injection e with e
    rw [mapD_inj e]; exact r
  · intro r; exact ⟨ps, rfl, r⟩
theorem datAll_vints {H : Hp} : ∀ {xs : List V} {ps : List Int}, DatAll H xs (ps.map PyData.int) → xs = ps.map V.int
  | [], [], _ => rfl
  | x :: xs, p :: ps, h => by
    rw [List.map_cons] at h
    unfold DatAll at h
    have h1 := h.1
    unfold Dat at h1
    rw [h1, datAll_vints h.2]; rfl
  | [], _ :: _, h => by rw [List.map_cons] at h; unfold DatAll at h; exact h.elim
  | _ :: _, [], h => by rw [List.map_nil] at h; unfold DatAll at h; exact h.elim
section
variable {P : Program} {w : World} {K : PySem.W.Frag} {mg : Str → Option Value} {base : Heap}
theorem scChkP : FnScope ["web", "place"] ["web", "place"] (defScope sChkP) := ⟨rfl, rfl, rfl, by decide +kernel, rfl, by decide +kernel, by decide +kernel⟩
theorem ok_chkP {f : Addr} {fd : FuncData} (F : Fun K "check_place" "check_place" sChkP f fd) (CN : Callee P w K mg base 2 "has_place" ["web", "place"] spHasP) : FnOk P w K mg base CX0 3 f fd ["web", "place"] spChkP := by
  refine F.ok scChkP (fun vs H Q E h => ?_) (fun cdv A outer s H vs Q E hr h => ?_)
  · obtain ⟨_, _, _, _, rfl, _⟩ := h; rfl
  · obtain ⟨w0, m, es, p, rfl, W, z, q⟩ := h
    refine ⟨_, pss_one (ps_if (pt_not (pt_val (pe_def CN hr (by rfl) (pa_cons (pv 0) (pa_cons (pv 1) pa_nil))))) pss_no pss_nil), ?_⟩
    refine ⟨_, rfl, _, rfl, w0, m, es, p, rfl, W, _, rfl, ?_⟩
    rw [decide_eq_true z]; exact iteF q
theorem scTiesAt : FnScope ["web", "place"] ["web", "place"] (defScope sTiesAt) := ⟨rfl, rfl, rfl, by decide +kernel, rfl, by decide +kernel, by decide +kernel⟩
theorem ok_tiesAt {f : Addr} {fd : FuncData} (F : Fun K "ties_at" "ties_at" sTiesAt f fd) (T : Txt K mg) (CC : Callee P w K mg base 3 "check_place" ["web", "place"] spChkP) : FnOk P w K mg base CX0 4 f fd ["web", "place"] spTiesAt := by
  refine F.ok scTiesAt (fun vs H Q E h => ?_) (fun cdv A outer s H vs Q E hr h => ?_)
  · obtain ⟨_, _, _, _, rfl, _⟩ := h; rfl
  · obtain ⟨w0, m, es, p, rfl, W, h0, q⟩ := h
    refine ⟨_, pss_cons (ps_expr (pe_def CC hr (by rfl) (pa_cons (pv 0) (pa_cons (pv 1) pa_nil))))
      (pss_one (ps_ret (pe_comp ["tie", "ends"] ["place"] [1] (pi_enum (by rfl) T.enum (pa_cons (pe_ix ix_tup (pv 0) pe_int (fun _ _ => rfl)) pa_nil)) (fun _ _ _ _ _ => pg_tupK (K := K) (n := 2) rfl rfl (pgs_cons (pg_name (i := 0) nd_tep rfl (Or.inl rfl)) (pgs_cons (pg_name (i := 1) nd_tep rfl (Or.inl rfl)) pgs_nil)))
        (fun _ _ _ _ _ => pifs_one (pt_cmpR (op_inK (K := K) rfl) (pv 2) (pv 1) (by with_unfolding_all rfl))) (fun _ _ _ _ _ => pv 0)))), ?_⟩
    refine ⟨_, rfl, _, rfl, w0, m, es, p, rfl, W, h0, ?_⟩
    obtain ⟨ta, ts, hw, ht, htl, he, hb, h63, hm⟩ := W
    refine ⟨_, rfl, w0, _, _, _, rfl, rfl, SqT.of hw, (rfl : atI [V.int m, V.ref ta] 1 = some (.ref ta)), ta, rfl, .inr ⟨⟨_, SqT.of ht⟩, fun D hD => ?_⟩⟩
    refine comp_enumT (K := K) (a := ta) (xs := ts) (fun i ys H2 => Same H H2 ∧ H2 D = some (.lst ys) ∧ ys = (tiesL es p i).map natV) ⟨same_new (Same.refl _) hD, upd_same, rfl⟩ (fun i ys H2 _ h => SqT.of (h.1 _ _ ht)) ?_ ?_
    · rintro i x ys H2 pp hx ⟨s2, d2, rfl⟩ hpp
      obtain ⟨qv, e, rfl, ee, hq⟩ := he i x hx
      have hi : i < ts.length := (List.getElem?_eq_some_iff.mp hx).1
      have s3 := same_new (o := .tup [.int (i : Int), .ref qv]) s2 hpp
      have e1 : tiesL es p (i + 1) = tiesL es p i ++ (if atE p e = true then [i] else []) := by rw [tiesL, ee]
      have fl : ((tiesL es p i).map natV).length < sizeLine := small1000 (by rw [List.length_map]; have := tiesL_len es p i; omega)
      refine ⟨pp, _, rfl, SqT.of upd_same, rfl, _, _, rfl, _, _, rfl, rfl, ?_⟩
      refine ⟨_, rfl, _, rfl, qv, _, rfl, .inr (SqT.of (s3 _ _ hq)), rfl, rfl, _, rfl, ?_⟩
      show if inV (.int p) [.int e.1, .int e.2] = true then _ else _
      rw [inV_pair]
      refine ite2 (fun z => ⟨_, rfl, keepN d2 hpp, fl, same_own s3 hD, upd_same, ?_⟩) (fun z => ⟨s3, keepN d2 hpp, ?_⟩)
      · rw [e1, if_pos z, List.map_append]; rfl
      · rw [e1, if_neg z, List.append_nil]
    · rintro ys H2 ⟨s2, d2, rfl⟩
      rw [htl] at d2
      exact q D H2 hD s2 d2
theorem scCountAt : FnScope ["web", "place"] ["web", "place"] (defScope sCountAt) := ⟨rfl, rfl, rfl, by decide +kernel, rfl, by decide +kernel, by decide +kernel⟩
theorem ok_countAt {f : Addr} {fd : FuncData} (F : Fun K "count_at" "count_at" sCountAt f fd) (T : Txt K mg) (CC : Callee P w K mg base 4 "ties_at" ["web", "place"] spTiesAt) : FnOk P w K mg base CX0 5 f fd ["web", "place"] spCountAt := by
  refine F.ok scCountAt (fun vs H Q E h => ?_) (fun cdv A outer s H vs Q E hr h => ?_)
  · obtain ⟨_, _, _, _, rfl, _⟩ := h; rfl
  · obtain ⟨w0, m, es, p, rfl, W, h0, q⟩ := h
    refine ⟨_, pss_one (ps_ret (pe_callB call_len_seq (by rfl) T.len b_len (pa_cons (pe_def CC hr (by rfl) (pa_cons (pv 0) (pa_cons (pv 1) pa_nil))) pa_nil))), ?_⟩
    refine ⟨_, rfl, _, rfl, w0, m, es, p, rfl, W, h0, fun l H' hl s hl' => ⟨l, _, rfl, .inl (SqL.of hl'), ?_⟩⟩
    rw [List.length_map]
    exact q H' s
theorem scWithin : FnScope ["web", "places", "among"] ["web", "places"] (defScope sWithin) := ⟨rfl, rfl, rfl, by decide +kernel, rfl, by decide +kernel, by decide +kernel⟩
theorem ok_within {f : Addr} {fd : FuncData} (F : Fun K "within" "within" sWithin f fd) (T : Txt K mg) (zs : mg "set" = none) : FnOk P w K mg base CX0 1 f fd ["web", "places"] spWithin := by
  refine F.ok scWithin (fun vs H Q E h => ?_) (fun cdv A outer s H vs Q E hr h => ?_)
  · obtain ⟨_, _, _, _, _, rfl, _⟩ := h; rfl
  · obtain ⟨w0, b, m, es, ps, rfl, W, hb, h63, q⟩ := h
    refine ⟨_, pss_cons (ps_set (i := 2) scWithin.nd rfl (Or.inr rfl) (pe_callTy (call_setI rfl) (by rfl) zs b_set (pa_cons (pv 1) pa_nil)))
      (pss_one (ps_ret (pe_comp ["tie", "one", "other"] ["among"] [2] (pi_enum (by rfl) T.enum (pa_cons (pe_ix ix_tup (pv 0) pe_int (fun _ _ => rfl)) pa_nil)) (fun _ _ _ _ _ => pg_tupK (K := K) (n := 2) rfl rfl (pgs_cons (pg_name (i := 0) nd_wi rfl (Or.inl rfl)) (pgs_cons (pg_tupK (K := K) (n := 2) rfl rfl (pgs_cons (pg_name (i := 1) nd_wi rfl (Or.inl rfl)) (pgs_cons (pg_name (i := 2) nd_wi rfl (Or.inl rfl)) pgs_nil))) pgs_nil)))
        (fun _ _ _ _ _ => pifs_one (pw_and (pt_cmpR op_inSet (pv 1) (pv 3) (by with_unfolding_all rfl)) (pw_and1 (pt_cmpR op_inSet (pv 2) (pv 3) (by with_unfolding_all rfl)))).pt) (fun _ _ _ _ _ => pv 0)))), ?_⟩
    obtain ⟨ta, us, hw, ht0, htl, he, hbd, h61, hm0, hm12⟩ := id W
    refine ⟨_, rfl, b, ps, rfl, hb.or, by omega, fun G hG => ?_⟩
    have s1 : Same H (upd H G (.set (fun k => decide (k ∈ ps)) (once' ps).length)) := same_new (Same.refl _) hG
    have g1 : (upd H G (.set (fun k => decide (k ∈ ps)) (once' ps).length)) G = some (.set (fun k => decide (k ∈ ps)) (once' ps).length) := upd_same
    generalize (upd H G (.set (fun k => decide (k ∈ ps)) (once' ps).length)) = H1 at s1 g1
    refine ⟨_, rfl, w0, _, _, _, rfl, rfl, SqT.of (s1 _ _ hw), (rfl : atI [V.int m, V.ref ta] 1 = some (.ref ta)), ta, rfl, .inr ⟨⟨_, SqT.of (s1 _ _ ht0)⟩, fun D hD => ?_⟩⟩
    refine comp_enumT (K := K) (a := ta) (xs := us) (fun i ys H2 => Same H1 H2 ∧ H2 D = some (.lst ys) ∧ ys = (witL es ps i).map natV) ⟨same_new (Same.refl _) hD, upd_same, rfl⟩ (fun i ys H2 _ h => SqT.of (h.1 _ _ (s1 _ _ ht0))) ?_ ?_
    · rintro i x ys H2 pp hx ⟨s2, d2, rfl⟩ hpp
      obtain ⟨qv, e, rfl, ee, hq⟩ := he i x hx
      have hi : i < us.length := (List.getElem?_eq_some_iff.mp hx).1
      have s3 := same_new (o := .tup [.int (i : Int), .ref qv]) s2 hpp
      have e1 : witL es ps (i + 1) = witL es ps i ++ (if inB ps e = true then [i] else []) := by rw [witL, ee]
      have fl : ((witL es ps i).map natV).length < sizeLine := small1000 (by rw [List.length_map]; have := witL_len es ps i; omega)
      refine ⟨pp, _, rfl, SqT.of upd_same, rfl, _, _, rfl, _, _, rfl, qv, _, rfl, SqT.of (s3 _ _ (s1 _ _ hq)), rfl, _, _, rfl, _, _, rfl, rfl, rfl, ?_⟩
      have no : inB ps e = false → Same H1 (upd H2 pp (.tup [.int (i : Int), .ref qv])) ∧ (upd H2 pp (.tup [.int (i : Int), .ref qv])) D = some (.lst ((witL es ps i).map natV)) ∧ (witL es ps i).map natV = (witL es ps (i + 1)).map natV := fun z => ⟨s3, keepN d2 hpp, by rw [e1, z]; simp⟩
      refine ⟨_, rfl, _, rfl, e.1, G, _, _, rfl, rfl, s3 _ _ g1, _, rfl, ?_⟩
      by_cases z1 : e.1 ∈ ps
      · refine iteD z1 ⟨_, rfl, _, rfl, e.2, G, _, _, rfl, rfl, s3 _ _ g1, _, rfl, ?_⟩
        by_cases z2 : e.2 ∈ ps
        · refine iteD z2 ⟨_, rfl, keepN d2 hpp, fl, same_own s3 hD, upd_same, ?_⟩
          rw [e1, if_pos (by unfold inB; simp [z1, z2]), List.map_append]; rfl
        · exact iteND z2 (no (by unfold inB; simp [z2]))
      · exact iteND z1 (iteF (no (by unfold inB; simp [z1])))
    · rintro ys H2 ⟨s2, d2, rfl⟩
      rw [htl] at d2
      exact q D H2 (s1.free hD) (s1.trans s2) d2
theorem scFullP : FnScope ["web", "hues", "place"] ["web", "hues", "place"] (defScope sFullP) := ⟨rfl, rfl, rfl, by decide +kernel, rfl, by decide +kernel, by decide +kernel⟩
theorem ok_fullP {f : Addr} {fd : FuncData} (F : Fun K "is_full_place" "is_full_place" sFullP f fd) (CP : Callee P w K mg base 2 "has_place" ["web", "place"] spHasP) (CC : Callee P w K mg base 5 "count_at" ["web", "place"] spCountAt) : FnOk P w K mg base CX0 6 f fd ["web", "hues", "place"] spFullP := by
  refine F.ok scFullP (fun vs H Q E h => ?_) (fun cdv A outer s H vs Q E hr h => ?_)
  · obtain ⟨_, _, _, _, _, rfl, _⟩ := h; rfl
  · obtain ⟨w0, m, es, h, p, rfl, W, q⟩ := h
    have hr2 : Room 2 _ := hr.mono (by decide)
    refine ⟨_, pss_one (ps_ret (pe_and (pe_def CP hr2 (by rfl) (pa_cons (pv 0) (pa_cons (pv 2) pa_nil))) (pe_one (pe_cmpR op_gt (pe_def CC hr (by rfl) (pa_cons (pv 0) (pa_cons (pv 2) pa_nil))) (pv 1) (nomark _))))), ?_⟩
    refine ⟨_, rfl, _, rfl, w0, m, es, p, rfl, W, _, rfl, ?_⟩
    by_cases z : InP m p
    · refine iteD z ⟨_, rfl, _, rfl, w0, m, es, p, rfl, W, z, fun H' s => ⟨_, rfl, _, _, rfl, rfl, ?_⟩⟩
      have := q H' s
      rwa [show decide (InP m p ∧ h < cntI es p) = decide (h < cntI es p) by simp [z]] at this
    · have := q H (Same.refl _)
      rw [show decide (InP m p ∧ h < cntI es p) = false by simp [z]] at this
      exact iteND z this
theorem scFullS : FnScope ["web", "hues", "places"] ["web", "hues", "places"] (defScope sFullS) := ⟨rfl, rfl, rfl, by decide +kernel, rfl, by decide +kernel, by decide +kernel⟩
theorem ok_fullS {f : Addr} {fd : FuncData} (F : Fun K "is_full_set" "is_full_set" sFullS f fd) (T : Txt K mg) (CR : Callee P w K mg base 2 "is_rising" ["thing"] spRising) (CP : Callee P w K mg base 2 "has_place" ["web", "place"] spHasP) (CW : Callee P w K mg base 1 "within" ["web", "places"] spWithin) : FnOk P w K mg base CX0 3 f fd ["web", "hues", "places"] spFullS := by
  refine F.ok scFullS (fun vs H Q E h => ?_) (fun cdv A outer s H vs Q E hr h => ?_)
  · obtain ⟨_, _, _, _, _, _, rfl, _⟩ := h; rfl
  · obtain ⟨w0, m, es, h, x, d, rfl, W, hd, hsm, hh0, hh1, q⟩ := h
    have hr1 : Room 1 _ := hr.mono (by decide)
    refine ⟨_, pss_cons (ps_if (pw_or (pt_not (pt_val (pe_callB call_isi1 (by rfl) T.isi b_isi (pa_cons (pv 2) (pa_cons (pe_bltn (v := .ty "tuple") (by rfl) T.tuple b_tuple rfl) pa_nil))))) (pw_or (pt_not (pt_val (pe_def CR hr (by rfl) (pa_cons (pv 2) pa_nil))))
        (pw_or1 (pt_not (pt_val (pe_callB (call_allB rfl) (by rfl) T.all b_all (pa_cons (pe_comp ["place"] ["web"] [0] (pi_tup (pv 2)) (fun _ _ _ _ _ => pg_name (i := 0) nd_plw rfl (Or.inl rfl)) (fun _ _ _ _ _ => pifs_nil) (fun _ _ _ _ _ => pe_def CP hr (by rfl) (pa_cons (pv 1) (pa_cons (pv 0) pa_nil)))) pa_nil))))))).pt (pss_one (ps_ret pe_bl)) pss_nil)
      (pss_cons (ps_if (pw_or (pt_cmpR op_lt (pe_callB call_len_seq (by rfl) T.len b_len (pa_cons (pv 2) pa_nil)) pe_int (nomark _)) (pw_or1 (pt_cmpR op_eq (pe_op op_mod (pe_callB call_len_seq (by rfl) T.len b_len (pa_cons (pv 2) pa_nil)) pe_int) pe_int (nomark _)))).pt (pss_one (ps_ret pe_bl)) pss_nil)
      (pss_one (ps_ret (pe_cmpR op_gt (pe_callB call_len_seq (by rfl) T.len b_len (pa_cons (pe_def CW hr1 (by rfl) (pa_cons (pv 0) (pa_cons (pv 2) pa_nil))) pa_nil)) (pe_op op_mul (pv 1) (pe_op op_fdiv (pe_callB call_len_seq (by rfl) T.len b_len (pa_cons (pv 2) pa_nil)) pe_int)) (nomark _))))), ?_⟩
    refine ⟨_, rfl, _, "tuple", _, _, rfl, Dat.ty hd, kt_tup hd, _, rfl, ?_⟩
    cases et : isTupD d with
    | false =>
      refine iteT (q false _ (Same.refl _) ⟨(fun z => by cases z), fun z => ?_⟩)
      obtain ⟨ps, rfl, _⟩ := z
      cases et
    | true =>
      obtain ⟨ds, a, xs, rfl, rfl, ha, hD⟩ := dat_tup hd et
      have h40 := hsm ds rfl
      have hdl := hD.length
      refine iteF ⟨_, rfl, a, xs, ds, rfl, ha, hD, by omega, fun b H1 s1 hb => ?_⟩
      cases b with
      | false =>
        refine ⟨_, rfl, iteT (q false _ s1 ⟨(fun z => by cases z), fun z => ?_⟩)⟩
        obtain ⟨ps, e, r, _⟩ := z
        injection e with e
        rw [e] at hD
        exact hb.mpr ⟨ps, datAll_vints hD, r⟩
      | true =>
        obtain ⟨ps, e, hri⟩ := hb.mp rfl
        subst e
        have e := datAll_nums hD
        subst e
        rw [setR_ints] at q
        have h40' : ps.length ≤ 40 := by simpa using h40
        refine ⟨_, rfl, iteF ?_⟩
        refine ⟨_, rfl, a, rfl, ⟨_, SqT.of (s1 _ _ ha)⟩, fun D hD' => comp_tup (K := K) (a := a) (xs := ps.map V.int) (fun i ys H2 => Same H1 H2 ∧ H2 D = some (.lst ys) ∧ ys = ((ps.take i).map fun p => decide (InP m p)).map V.bl) ⟨same_new (Same.refl _) hD', upd_same, rfl⟩ (fun i ys H2 _ h => SqT.of (h.1 _ _ (s1 _ _ ha))) ?_ ?_⟩
        · rintro i y ys H2 hy ⟨s2, d2, rfl⟩
          obtain ⟨p, hp, rfl⟩ := int_at hy
          have hi : i < ps.length := (List.getElem?_eq_some_iff.mp hp).1
          refine compT (i := 0) ⟨_, rfl, _, rfl, w0, m, es, p, rfl, W.mono (sameKT (s1.trans s2)), d2, small1000 (by simp only [List.length_map, List.length_take]; omega), same_own s2 hD', upd_same, ?_⟩
          rw [List.take_add_one, hp]; simp
        · rintro ys H2 ⟨s2, d2, rfl⟩
          rw [List.length_map, List.take_length] at d2
          refine ⟨D, _, rfl, SqL.of d2, _, rfl, ?_⟩
          have s02 := s1.trans s2
          cases ea : (ps.map fun p => decide (InP m p)).all id with
          | false =>
            refine iteT (q false _ s02 ⟨(fun z => by cases z), fun z => ?_⟩)
            have : (ps.map fun p => decide (InP m p)).all id = true := by
              rw [List.all_map, List.all_eq_true]; intro p hp; exact decide_eq_true (z.2.1 p hp)
            rw [this] at ea; cases ea
          | true =>
            have hin : ∀ p ∈ ps, InP m p := by
              rw [List.all_map, List.all_eq_true] at ea
              exact fun p hp => of_decide_eq_true (ea p hp)
            refine iteF ?_
            have haq := s02 _ _ ha
            refine ⟨_, rfl, a, _, rfl, .inr (SqT.of haq), _, _, rfl, rfl, ?_⟩
            rw [List.length_map]
            by_cases z3 : (ps.length : Int) < 3
            · refine ⟨_, rfl, iteD z3 (iteT (q false _ s02 ⟨(fun z => by cases z), fun z => ?_⟩))⟩
              have := z.2.2.1; omega
            · refine ⟨_, rfl, iteND z3 ⟨_, rfl, a, _, rfl, (.inr (SqT.of haq)), _, _, rfl, rfl, (show (0 : Int) < 2 by decide), rfl, _, rfl, ?_⟩⟩
              rw [List.length_map]
              by_cases z4 : (ps.length : Int) % 2 = 0
              · refine iteD (show V.int ((ps.length : Int) % 2) = V.int 0 by rw [z4]) (q false _ s02 ⟨(fun z => by cases z), fun z => ?_⟩)
                have := z.2.2.2.1; omega
              · refine iteND (fun z => z4 (by injection z)) ?_
                refine ⟨_, rfl, _, rfl, w0, a, m, es, ps, rfl, W.mono (sameKT s02), .inr haq, by omega, fun l H3 hl s3 hl3 => ?_⟩
                refine ⟨l, _, rfl, .inl (SqL.of hl3), _, rfl, _, rfl, a, _, rfl, .inr (SqT.of (s3 _ _ haq)), _, _, rfl, rfl, ⟨by decide, by decide⟩, _, _, rfl, rfl, .inl ⟨by omega, by omega⟩, _, _, rfl, rfl, q _ _ (s02.trans s3) ?_⟩
                rw [List.length_map, List.length_map, decide_eq_true_eq]
                exact ⟨fun z => ⟨hri, hin, by omega, by omega, z⟩, fun z => z.2.2.2.2⟩
end
end Hue
set_option Elab.async false
set_option linter.all false
set_option maxRecDepth 100000
set_option maxHeartbeats 2000000
namespace Hue
open PySem L2 PyProof.Rows
abbrev sLCount : Stmt := top 29
abbrev sLSet : Stmt := top 30
abbrev sTruth : Stmt := top 31
abbrev sDue : Stmt := top 36
theorem once_nodup (ns : List Int) : (once ns).Nodup := by
  have : ∀ (f : Nat → Int) k, (firstMet f k).Nodup := by
    intro f k
    induction k with
    | zero => exact List.nodup_nil
    | succ k ih =>
      rw [firstMet_succ]
      unfold step_dedup
      split
      · exact ih
      · rename_i q
        refine List.nodup_append.mpr ⟨ih, by simp, fun x hx y hy e => q ?_⟩
        have hy' : y = f k := by simpa using hy
        exact List.any_eq_true.mpr ⟨x, hx, by rw [e, hy']; simp⟩
  exact this _ _
theorem met_take {ns : List Int} (hn : ns.Nodup) : ∀ k, k ≤ ns.length → firstMet (fun i => ns.getD i 0) k = ns.take k
  | 0, _ => rfl
  | k + 1, hk => by
    rw [firstMet_succ, met_take hn k (by omega)]
    have g : ns.getD k 0 = ns[k]'(by omega) := by simp [List.getD, show k < ns.length by omega]
    rw [List.take_add_one, show ns[k]? = some (ns[k]'(by omega)) by simp, Option.toList_some]
    unfold step_dedup
    rw [g, if_neg]
    intro h
    obtain ⟨x, hx, e⟩ := List.any_eq_true.mp h
    obtain ⟨j, hj, e2⟩ := List.mem_iff_getElem.mp hx
    have hjk : j < k := by simp at hj; omega
    have : ns[j]'(by omega) = ns[k]'(by omega) := by
      have : (ns.take k)[j]'hj = ns[j]'(by omega) := by simp
      rw [← this, e2]; simpa using e
    have hw := List.pairwise_iff_getElem.mp hn j k (by omega) (by omega) hjk
    exact hw this
theorem inV_ints (k : Int) (ns : List Int) : inV (.int k) (ns.map V.int) = decide (k ∈ ns) := by
  unfold inV
  rw [Bool.eq_iff_iff, List.any_eq_true, decide_eq_true_eq]
  constructor
  · rintro ⟨y, hy, e⟩
    obtain ⟨n, hn, rfl⟩ := List.mem_map.mp hy
    have : n = k := by simpa [eqV] using e
    rw [← this]; exact hn
  · intro h
    exact ⟨.int k, List.mem_map.mpr ⟨k, h, rfl⟩, by simp [eqV]⟩
theorem eqV_int (a b : Int) : eqV (.int a) (.int b) = decide (a = b) := by
  rw [Bool.eq_iff_iff]; simp [eqV]
theorem eqVs_iff : ∀ (as bs : List Int), eqVs (as.map V.int) (bs.map V.int) = true ↔ as = bs
  | [], [] => by simp [eqVs]
  | [], b :: bs => by simp [eqVs]
  | a :: as, [] => by simp [eqVs]
  | a :: as, b :: bs => by
    have ih := eqVs_iff as bs
    unfold eqVs at ih ⊢
    rw [Bool.and_eq_true] at ih ⊢
    simp only [List.map_cons, List.zip_cons_cons, List.all_cons, Bool.and_eq_true, List.length_cons, eqV_int, decide_eq_true_eq] at ih ⊢
    constructor
    · rintro ⟨h1, h2, h3⟩
      rw [h2, ih.mp ⟨by simpa using h1, h3⟩]
    · intro e
      injection e with e1 e2
      have := ih.mpr e2
      exact ⟨by simpa using this.1, e1, this.2⟩
theorem sort_rise (ps : List Int) : ps = srt (once ps) ↔ ps.Pairwise (· < ·) := by
  constructor
  · intro e
    have h1 : (srt (once ps)).Nodup := (srt_perm _).nodup_iff.mpr (once_nodup ps)
    have h2 := srt_le (once ps)
    rw [← e] at h1 h2
    exact (List.pairwise_and_iff.mpr ⟨h2, h1⟩).imp fun h => by omega
  · intro h
    have hn : ps.Nodup := h.imp fun h => by omega
    have e : once ps = ps := by unfold once; rw [met_take hn _ (Nat.le_refl _), List.take_length]
    rw [e]
    exact srt_eq (List.Perm.refl _) (h.imp fun h => by omega)
theorem flat_ints (ps : List Int) : (ps.map V.int).all flatV = true := by
  rw [List.all_map, List.all_eq_true]; intro _ _; rfl
def okD (m : Int) : PyData → Bool
  | .int p => decide (InP m p)
  | _ => false
theorem ok_ints {m : Int} : ∀ {ds : List PyData}, ds.all (okD m) = true → ∃ ps : List Int, ds = ps.map PyData.int ∧ ∀ p ∈ ps, InP m p
  | [], _ => ⟨[], rfl, fun _ h => nomatch h⟩
  | d :: ds, h => by
    rw [List.all_cons, Bool.and_eq_true] at h
    obtain ⟨ps, e, hp⟩ := ok_ints h.2
    cases d with
    | int p => exact ⟨p :: ps, by rw [e]; rfl, fun q hq => by
        rcases List.mem_cons.mp hq with rfl | hq
        · exact of_decide_eq_true h.1
        · exact hp q hq⟩
    | _ => exact absurd h.1 (by simp [okD])
theorem all_okD {m : Int} {ps : List Int} (h : ∀ p ∈ ps, InP m p) : (ps.map PyData.int).all (okD m) = true := by
  rw [List.all_map, List.all_eq_true]; intro p hp; exact decide_eq_true (h p hp)
def spLCount : Sp := fun vs H Q _ => ∃ (w : Addr) (m : Int) (es : List (Int × Int)) (p : Int), vs = [.ref w, .int p] ∧ WebE H w m es ∧ ∀ H', Same H H' → Q (.int (cntI es p)) H'
def spTruth : Sp := fun vs H Q _ => ∃ a b : Bool, vs = [.bl a, .bl b] ∧ Q (.bl (a == b)) H
def PapR (H : Hp) (m : Int) (es : List (Int × Int)) (h : Int) (p : Addr) (R : Bool → Prop) : Prop :=
  (∃ q : Int, H p = some (.tup [.str "place", .int q]) ∧ ∀ b : Bool, R b ↔ (b = true ↔ InP m q ∧ h < cntI es q)) ∨
  (∃ (x : V) (d : PyData), H p = some (.tup [.str "set", x]) ∧ Dat H x d ∧ SmallD d ∧ ∀ b : Bool, R b ↔ (b = true ↔ SetR m es h d))
def spShows : Sp := fun vs H Q _ => ∃ (w p : Addr) (m : Int) (es : List (Int × Int)) (h : Int) (R : Bool → Prop), vs = [.ref w, .int h, .ref p] ∧ WebE H w m es ∧ PapR H m es h p R ∧ 0 ≤ h ∧ h ≤ 1000 ∧ ∀ b H', Same H H' → R b → Q (.bl b) H'
theorem PapR.one {H : Hp} {m : Int} {es : List (Int × Int)} {h : Int} {p : Addr} {R : Bool → Prop} (r : PapR H m es h p R) {a b : Bool} (ha : R a) (hb : R b) : a = b := by
  rcases r with ⟨q, _, e⟩ | ⟨x, d, _, _, _, e⟩
  · have h1 := (e a).mp ha; have h2 := (e b).mp hb
    exact Bool.eq_iff_iff.mpr (h1.trans h2.symm)
  · have h1 := (e a).mp ha; have h2 := (e b).mp hb
    exact Bool.eq_iff_iff.mpr (h1.trans h2.symm)
theorem PapR.same {H H' : Hp} {m : Int} {es : List (Int × Int)} {h : Int} {p : Addr} {R : Bool → Prop} (r : PapR H m es h p R) (s : Same H H') : PapR H' m es h p R :=
  r.imp (fun ⟨q, a, b⟩ => ⟨q, s _ _ a, b⟩) (fun ⟨x, d, a, b, c⟩ => ⟨x, d, s _ _ a, Dat.mono s _ _ b, c⟩)
theorem kt_bb : ktn "bool" "bool" = some true := by decide +kernel
theorem nd_pap : ((["_law_pair"] : List Str) ++ (["_law_place"] : List Str)).Nodup := by decide +kernel
theorem nd_pah : ((["_law_pair"] : List Str) ++ (["_law_places_here"] : List Str)).Nodup := by decide +kernel
theorem nd_plw2 : ((["_law_place"] : List Str) ++ (["_law_web_here"] : List Str)).Nodup := by decide +kernel
section
variable {P : Program} {w : World} {K : PySem.W.Frag} {mg : Str → Option Value} {base : Heap}
theorem scShows : FnScope ["web", "hues", "paper", "word", "thing"] ["web", "hues", "paper"] (defScope sShows) := ⟨rfl, rfl, rfl, by decide +kernel, rfl, by decide +kernel, by decide +kernel⟩
theorem ok_shows {f : Addr} {fd : FuncData} (F : Fun K "shows_fewer" "shows_fewer" sShows f fd) (CI : Callee P w K mg base 1 "is_pair" ["thing"] spPairT) (CP : Callee P w K mg base 6 "is_full_place" ["web", "hues", "place"] spFullP) (CS : Callee P w K mg base 3 "is_full_set" ["web", "hues", "places"] spFullS) : FnOk P w K mg base CX0 7 f fd ["web", "hues", "paper"] spShows := by
  refine F.ok scShows (fun vs H Q E h => ?_) (fun cdv A outer s H vs Q E hr h => ?_)
  · obtain ⟨_, _, _, _, _, _, rfl, _⟩ := h; rfl
  · obtain ⟨w0, p, m, es, h, R, rfl, W, PR, hh0, hh1, q⟩ := h
    have hr1 : Room 1 _ := hr.mono (by decide)
    have hr3 : Room 3 _ := hr.mono (by decide)
    refine ⟨_, pss_cons (ps_if (pt_not (pt_val (pe_def CI hr1 (by rfl) (pa_cons (pv 2) pa_nil)))) pss_no pss_nil)
      (pss_cons (ps_asg (pv 2) (pg_tup (n := 2) rfl (pgs_cons (pg_name (i := 3) scShows.nd rfl (Or.inl rfl)) (pgs_cons (pg_name (i := 4) scShows.nd rfl (Or.inl rfl)) pgs_nil))))
      (pss_cons (ps_if (pt_cmpR op_eq (pv 3) pe_str (nomark _)) (pss_one (ps_ret (pe_def CP hr (by rfl) (pa_cons (pv 0) (pa_cons (pv 1) (pa_cons (pv 4) pa_nil)))))) pss_nil)
      (pss_cons (ps_if (pt_cmpR op_eq (pv 3) pe_str (nomark _)) (pss_one (ps_ret (pe_def CS hr3 (by rfl) (pa_cons (pv 0) (pa_cons (pv 1) (pa_cons (pv 4) pa_nil)))))) pss_nil) pss_no))), ?_⟩
    rcases PR with ⟨pl, hp, e⟩ | ⟨x, d, hp, hd, hs, e⟩
    · refine ⟨_, rfl, p, _, _, rfl, hp, _, rfl, iteF ?_⟩
      refine ⟨_, rfl, p, _, rfl, SqT.of hp, rfl, _, _, rfl, _, _, rfl, rfl, ?_⟩
      refine ⟨_, rfl, rfl, _, rfl, iteD rfl ?_⟩
      refine ⟨_, rfl, _, rfl, _, rfl, w0, m, es, h, pl, rfl, W, fun H' s => q _ H' s ((e _).mpr ?_)⟩
      rw [decide_eq_true_eq]
    · refine ⟨_, rfl, p, _, _, rfl, hp, _, rfl, iteF ?_⟩
      refine ⟨_, rfl, p, _, rfl, SqT.of hp, rfl, _, _, rfl, _, _, rfl, rfl, ?_⟩
      refine ⟨_, rfl, rfl, _, rfl, iteND (by decide) ?_⟩
      refine ⟨_, rfl, rfl, _, rfl, iteD rfl ?_⟩
      exact ⟨_, rfl, _, rfl, _, rfl, w0, m, es, h, x, d, rfl, W, hd, hs, hh0, hh1, fun b H' s hb => q _ H' s ((e _).mpr hb)⟩
theorem scLCount : FnScope ["_law_web_here", "_law_place"] ["_law_web_here", "_law_place"] (defScope sLCount) := ⟨rfl, rfl, rfl, by decide +kernel, rfl, by decide +kernel, by decide +kernel⟩
theorem ok_lcount {f : Addr} {fd : FuncData} (F : Fun K "_law_count" "_law_count" sLCount f fd) (T : Txt K mg) : FnOk P w K mg base CX0 1 f fd ["_law_web_here", "_law_place"] spLCount := by
  refine F.ok scLCount (fun vs H Q E h => ?_) (fun cdv A outer s H vs Q E hr h => ?_)
  · obtain ⟨_, _, _, _, rfl, _⟩ := h; rfl
  · obtain ⟨w0, m, es, p, rfl, W, q⟩ := h
    refine ⟨_, pss_one (ps_ret (pe_callB call_len_seq (by rfl) T.len b_len (pa_cons (pe_comp ["_law_pair"] ["_law_place"] [1] (pi_tup (pe_ix ix_tup (pv 0) pe_int (fun _ _ => rfl))) (fun _ _ _ _ _ => pg_name (i := 0) nd_pap rfl (Or.inl rfl))
        (fun _ _ _ _ _ => pifs_one (pt_cmpR (op_inK (K := K) rfl) (pv 1) (pv 0) (by with_unfolding_all rfl))) (fun _ _ _ _ _ => pv 0)) pa_nil))), ?_⟩
    obtain ⟨ta, ts, hw, ht, htl, he, hb, h63, hm⟩ := W
    refine ⟨_, rfl, w0, _, _, _, rfl, rfl, SqT.of hw, (rfl : atI [V.int m, V.ref ta] 1 = some (.ref ta)), ta, rfl, ⟨_, SqT.of ht⟩, fun D hD => ?_⟩
    refine comp_tup (K := K) (a := ta) (xs := ts) (fun i ys H2 => Same H H2 ∧ H2 D = some (.lst ys) ∧ ys.length = (tiesL es p i).length) ⟨same_new (Same.refl _) hD, upd_same, rfl⟩ (fun i ys H2 _ h => SqT.of (h.1 _ _ ht)) ?_ ?_
    · rintro i x ys H2 hx ⟨s2, d2, hl⟩
      obtain ⟨qv, e, rfl, ee, hq⟩ := he i x hx
      have hi : i < ts.length := (List.getElem?_eq_some_iff.mp hx).1
      have e1 : tiesL es p (i + 1) = tiesL es p i ++ (if atE p e = true then [i] else []) := by rw [tiesL, ee]
      have fl : ys.length < sizeLine := small1000 (by have := tiesL_len es p i; omega)
      refine ⟨_, rfl, _, rfl, qv, _, rfl, .inr (SqT.of (s2 _ _ hq)), rfl, rfl, _, rfl, ?_⟩
      show if inV (.int p) [.int e.1, .int e.2] = true then _ else _
      rw [inV_pair]
      refine ite2 (fun z => ⟨_, rfl, d2, fl, same_own s2 hD, upd_same, ?_⟩) (fun z => ⟨s2, d2, ?_⟩)
      · rw [e1, if_pos z, List.length_append, List.length_append, hl]; rfl
      · rw [e1, if_neg z, List.append_nil]; exact hl
    · rintro ys H2 ⟨s2, d2, hl⟩
      rw [htl] at hl
      refine ⟨D, _, rfl, .inl (SqL.of d2), ?_⟩
      rw [hl]
      exact q H2 s2
theorem scTruth : FnScope ["_law_found", "_law_due_here"] ["_law_found", "_law_due_here"] (defScope sTruth) := ⟨rfl, rfl, rfl, by decide +kernel, rfl, by decide +kernel, by decide +kernel⟩
theorem ok_truth {f : Addr} {fd : FuncData} (F : Fun K "_law_truth" "_law_truth" sTruth f fd) (T : Txt K mg) : FnOk P w K mg base CX0 1 f fd ["_law_found", "_law_due_here"] spTruth := by
  refine F.ok scTruth (fun vs H Q E h => ?_) (fun cdv A outer s H vs Q E hr h => ?_)
  · obtain ⟨_, _, rfl, _⟩ := h; rfl
  · obtain ⟨a, b, rfl, q⟩ := h
    refine ⟨_, pss_one (ps_ret (pe_and (pe_callB call_isi1 (by rfl) T.isi b_isi (pa_cons (pv 0) (pa_cons (pe_bltn (v := .ty "bool") (by rfl) T.bool b_bool rfl) pa_nil))) (pe_one (pe_cmpR op_eq (pv 0) (pv 1) (nomark _))))), ?_⟩
    refine ⟨_, rfl, _, "bool", _, _, rfl, .bl a, (kit_n _ _).trans kt_bb, _, rfl, iteT ⟨_, rfl, _, rfl, rfl, ?_⟩⟩
    rw [show decide (V.bl a = V.bl b) = (a == b) by cases a <;> cases b <;> decide]
    exact q
theorem scLSet : FnScope ["_law_web_here", "_law_hues", "_law_places_here", "_law_inside"] ["_law_web_here", "_law_hues", "_law_places_here"] (defScope sLSet) := ⟨rfl, rfl, rfl, by decide +kernel, rfl, by decide +kernel, by decide +kernel⟩
theorem ok_lset {f : Addr} {fd : FuncData} (F : Fun K "_law_set_right" "_law_set_right" sLSet f fd) (T : Txt K mg) (zs : mg "sorted" = none) (zt : mg "set" = none) (CN : Callee P w K mg base 1 "_law_is_number" ["_law_thing"] spNum) : FnOk P w K mg base CX0 2 f fd ["_law_web_here", "_law_hues", "_law_places_here"] spFullS := by
  refine F.ok scLSet (fun vs H Q E h => ?_) (fun cdv A outer s H vs Q E hr h => ?_)
  · obtain ⟨_, _, _, _, _, _, rfl, _⟩ := h; rfl
  · obtain ⟨w0, m, es, h, x, d, rfl, W, hd, hsm, hh0, hh1, q⟩ := h
    refine ⟨_, pss_cons (ps_if (pw_or (pt_not (pt_val (pe_callB call_isi1 (by rfl) T.isi b_isi (pa_cons (pv 2) (pa_cons (pe_bltn (v := .ty "tuple") (by rfl) T.tuple b_tuple rfl) pa_nil))))) (pw_or (pt_cmpR op_lt (pe_callB call_len_seq (by rfl) T.len b_len (pa_cons (pv 2) pa_nil)) pe_int (nomark _)) (pw_or1 (pt_cmpR op_eq (pe_op op_mod (pe_callB call_len_seq (by rfl) T.len b_len (pa_cons (pv 2) pa_nil)) pe_int) pe_int (nomark _))))).pt (pss_one (ps_ret pe_bl)) pss_nil)
      (pss_cons (ps_if (pt_not (pt_val (pe_callB (call_allB rfl) (by rfl) T.all b_all (pa_cons (pe_comp ["_law_place"] ["_law_web_here"] [0] (pi_tup (pv 2)) (fun _ _ _ _ _ => pg_name (i := 0) nd_plw2 rfl (Or.inl rfl)) (fun _ _ _ _ _ => pifs_nil) (fun _ _ _ _ _ => pe_and (pe_def CN hr (by rfl) (pa_cons (pv 0) pa_nil)) (pe_one (pe_chain op_le op_lt pe_int (pv 0) (pe_ix (ix_tupK (K := K) rfl) (pv 1) pe_int (fun _ _ => rfl)))))) pa_nil)))) (pss_one (ps_ret pe_bl)) pss_nil)
      (pss_cons (ps_if (pt_cmpR (op_neL hr.units0) (pe_callTy call_list_of (by rfl) T.list b_list (pa_cons (pv 2) pa_nil)) (pe_sortsetT rfl (by rfl) zs (by rfl) zt (pv 2)) (nomark _)) (pss_one (ps_ret pe_bl)) pss_nil)
      (pss_cons (ps_setComp (i := 3) ["_law_pair"] ["_law_places_here"] [2] scLSet.nd rfl rfl (pi_tup (pe_ix ix_tup (pv 0) pe_int (fun _ _ => rfl))) (fun _ _ _ _ _ => pg_name (i := 0) nd_pah rfl (Or.inl rfl))
        (fun _ _ _ _ _ => pifs_one (pw_and (pt_cmpR (op_inK (K := K) rfl) (pe_ix (ix_tupK (K := K) rfl) (pv 0) pe_int (fun _ _ => rfl)) (pv 1) (by with_unfolding_all rfl)) (pw_and1 (pt_cmpR (op_inK (K := K) rfl) (pe_ix (ix_tupK (K := K) rfl) (pv 0) pe_int (fun _ _ => rfl)) (pv 1) (by with_unfolding_all rfl)))).pt) (fun _ _ _ _ _ => pv 0))
      (pss_one (ps_ret (pe_cmpR op_gt (pe_callB call_len_seq (by rfl) T.len b_len (pa_cons (pv 3) pa_nil)) (pe_op op_mul (pv 1) (pe_op op_fdiv (pe_op op_sub (pe_callB call_len_seq (by rfl) T.len b_len (pa_cons (pv 2) pa_nil)) pe_int) pe_int)) (nomark _))))))), ?_⟩
    refine ⟨_, rfl, _, "tuple", _, _, rfl, Dat.ty hd, kt_tup hd, _, rfl, ?_⟩
    cases et : isTupD d with
    | false =>
      refine iteT (q false _ (Same.refl _) ⟨(fun z => by cases z), fun z => ?_⟩)
      obtain ⟨ps, rfl, _⟩ := z
      cases et
    | true =>
      obtain ⟨ds, a, xs, rfl, rfl, ha, hD⟩ := dat_tup hd et
      have h40 := hsm ds rfl
      have hdl := hD.length
      refine iteF ⟨_, rfl, a, xs, rfl, .inr (SqT.of ha), _, _, rfl, rfl, _, rfl, ?_⟩
      have long : ∀ ps : List Int, ds = ps.map PyData.int → ps.length = xs.length := fun ps e => by rw [hdl, e, List.length_map]
      by_cases z3 : (xs.length : Int) < 3
      · refine iteD z3 (iteT (q false _ (Same.refl _) ⟨(fun z => by cases z), fun z => ?_⟩))
        obtain ⟨ps, e, _, _, z, _⟩ := z
        injection e with e
        have := long ps e; omega
      · refine iteND z3 ⟨_, rfl, a, _, rfl, (.inr (SqT.of ha)), _, _, rfl, rfl, (show (0 : Int) < 2 by decide), rfl, _, rfl, ?_⟩
        by_cases z4 : (xs.length : Int) % 2 = 0
        · refine iteD (show V.int ((xs.length : Int) % 2) = V.int 0 by rw [z4]) (q false _ (Same.refl _) ⟨(fun z => by cases z), fun z => ?_⟩)
          obtain ⟨ps, e, _, _, _, z, _⟩ := z
          injection e with e
          have := long ps e; omega
        · refine iteND (fun z => z4 (by injection z)) ?_
          obtain ⟨ta, ts, hw, ht, htl, he, hb, h63, hm⟩ := id W
          refine ⟨_, rfl, a, rfl, ⟨_, SqT.of ha⟩, fun D hD' => comp_tup (K := K) (a := a) (xs := xs) (fun i ys H2 => Same H H2 ∧ H2 D = some (.lst ys) ∧ ys = ((ds.take i).map (okD m)).map V.bl) ⟨same_new (Same.refl _) hD', upd_same, rfl⟩ (fun i ys H2 _ h => SqT.of (h.1 _ _ ha)) ?_ ?_⟩
          · rintro i y ys H2 hy ⟨s2, d2, rfl⟩
            obtain ⟨dt, hdt, hyd⟩ := hD.get hy
            have hi : i < ds.length := (List.getElem?_eq_some_iff.mp hdt).1
            have fin : ∀ b : Bool, b = okD m dt → H2 D = some (.lst (((ds.take i).map (okD m)).map V.bl)) ∧ (((ds.take i).map (okD m)).map V.bl).length < sizeLine ∧ (Same H (upd H2 D (.lst (((ds.take i).map (okD m)).map V.bl ++ [V.bl b]))) ∧ (upd H2 D (.lst (((ds.take i).map (okD m)).map V.bl ++ [V.bl b]))) D = some (.lst (((ds.take i).map (okD m)).map V.bl ++ [V.bl b])) ∧ ((ds.take i).map (okD m)).map V.bl ++ [V.bl b] = ((ds.take (i + 1)).map (okD m)).map V.bl) := fun b e =>
              ⟨d2, small1000 (by simp only [List.length_map, List.length_take]; omega), same_own s2 hD', upd_same, by rw [List.take_add_one, hdt, e]; simp⟩
            refine compT (i := 0) ⟨_, rfl, y, dt, rfl, Dat.mono s2 y dt hyd, _, rfl, ?_⟩
            cases en : numD dt with
            | false => exact iteF (fin false (by cases dt <;> first | rfl | cases en))
            | true =>
              obtain ⟨i', e1, e2⟩ := dat_int hyd en
              subst e1 e2
              refine iteT ⟨_, rfl, _, _, rfl, rfl, _, rfl, ?_⟩
              by_cases z0 : 0 ≤ i'
              · refine iteD z0 ⟨_, rfl, w0, _, _, _, rfl, rfl, SqT.of (s2 _ _ hw), (rfl : atI [V.int m, V.ref ta] 0 = some (.int m)), _, _, rfl, rfl, fin _ ?_⟩
                show _ = decide (InP m i')
                unfold InP; simp [z0]
              · refine iteND z0 ?_
                exact fin false (by show _ = decide (InP m i'); unfold InP; simp [z0])
          · rintro ys H2 ⟨s2, d2, rfl⟩
            rw [hdl, List.take_length] at d2
            refine ⟨D, _, rfl, SqL.of d2, _, rfl, ?_⟩
            rw [List.all_map]
            cases ea : ds.all (id ∘ okD m) with
            | false =>
              refine iteT (q false _ s2 ⟨(fun z => by cases z), fun z => ?_⟩)
              obtain ⟨ps, e, _, z, _⟩ := z
              injection e with e
              have := all_okD z
              rw [← e] at this
              exact absurd (ea.symm.trans this) (by decide)
            | true =>
              obtain ⟨ps, e, hin⟩ := ok_ints (m := m) ea
              subst e
              have e := datAll_vints hD
              subst e
              rw [setR_ints] at q
              have hlen : (ps.map V.int).length = ps.length := List.length_map ..
              rw [hlen] at z3 z4
              have h40' : ps.length ≤ 40 := by simpa using h40
              refine iteF ?_
              refine ⟨_, rfl, a, _, rfl, .inr (SqT.of (s2 _ _ ha)), fun L hL => ?_⟩
              have s3 := same_new (o := .lst (ps.map V.int)) s2 hL
              have gL : (upd H2 L (.lst (ps.map V.int))) L = some (.lst (ps.map V.int)) := upd_same
              generalize (upd H2 L (.lst (ps.map V.int))) = H3 at s3 gL
              refine ⟨_, rfl, a, ps, rfl, SqT.of (s3 _ _ ha), by omega, fun M hM => ?_⟩
              have s4 := same_new (o := .lst ((srt (once ps)).map V.int)) s3 hM
              have gL4 := keepN (u := .lst ((srt (once ps)).map V.int)) gL hM
              have gM : (upd H3 M (.lst ((srt (once ps)).map V.int))) M = some (.lst ((srt (once ps)).map V.int)) := upd_same
              generalize (upd H3 M (.lst ((srt (once ps)).map V.int))) = H4 at s4 gL4 gM
              refine ⟨L, M, _, _, rfl, rfl, SqL.of gL4, SqL.of gM, .inl ⟨flat_ints _, flat_ints _⟩, _, rfl, ?_⟩
              cases eq : eqVs (ps.map V.int) ((srt (once ps)).map V.int) with
              | false =>
                refine iteT (q false _ s4 ⟨(fun z => by cases z), fun z => ?_⟩)
                have := (eqVs_iff ps (srt (once ps))).mpr ((sort_rise ps).mpr z.1)
                rw [this] at eq; cases eq
              | true =>
                have hri := (sort_rise ps).mp ((eqVs_iff _ _).mp eq)
                refine iteF ?_
                refine ⟨_, rfl, w0, _, _, _, rfl, rfl, SqT.of (s4 _ _ hw), (rfl : atI [V.int m, V.ref ta] 1 = some (.ref ta)), ta, rfl, ⟨_, SqT.of (s4 _ _ ht)⟩, fun G hG => ?_⟩
                refine comp_tup (K := K) (a := ta) (xs := ts) (fun i ys H5 => Same H4 H5 ∧ H5 G = some (.lst ys) ∧ ys.length = (witL es ps i).length) ⟨same_new (Same.refl _) hG, upd_same, rfl⟩ (fun i ys H5 _ h => SqT.of (h.1 _ _ (s4 _ _ ht))) ?_ ?_
                · rintro i x ys H5 hx ⟨s5, d5, hl⟩
                  obtain ⟨qv, e, rfl, ee, hq⟩ := he i x hx
                  have hi : i < ts.length := (List.getElem?_eq_some_iff.mp hx).1
                  have e1 : witL es ps (i + 1) = witL es ps i ++ (if inB ps e = true then [i] else []) := by rw [witL, ee]
                  have fl : ys.length < sizeLine := small1000 (by have := witL_len es ps i; omega)
                  have hq5 := s5 _ _ (s4 _ _ hq)
                  have ha5 := s5 _ _ (s4 _ _ ha)
                  have no : inB ps e = false → Same H4 H5 ∧ H5 G = some (.lst ys) ∧ ys.length = (witL es ps (i + 1)).length := fun z => ⟨s5, d5, by rw [e1, z]; simpa using hl⟩
                  refine ⟨_, rfl, qv, _, _, _, rfl, rfl, SqT.of hq5, (rfl : atI [V.int e.1, V.int e.2] 0 = some (.int e.1)), _, rfl, a, _, rfl, .inr (SqT.of ha5), rfl, flat_ints _, _, rfl, ?_⟩
                  show if inV (.int e.1) (ps.map V.int) = true then _ else _
                  rw [inV_ints]
                  by_cases z1 : e.1 ∈ ps
                  · refine iteD z1 ⟨_, rfl, qv, _, _, _, rfl, rfl, SqT.of hq5, (rfl : atI [V.int e.1, V.int e.2] 1 = some (.int e.2)), _, rfl, a, _, rfl, .inr (SqT.of ha5), rfl, flat_ints _, _, rfl, ?_⟩
                    show if inV (.int e.2) (ps.map V.int) = true then _ else _
                    rw [inV_ints]
                    by_cases z2 : e.2 ∈ ps
                    · refine iteD z2 ⟨_, rfl, d5, fl, same_own s5 hG, upd_same, ?_⟩
                      rw [e1, if_pos (by unfold inB; simp [z1, z2]), List.length_append, List.length_append, hl]; rfl
                    · exact iteND z2 (no (by unfold inB; simp [z2]))
                  · exact iteND z1 (iteF (no (by unfold inB; simp [z1])))
                · rintro ys H5 ⟨s5, d5, hl⟩
                  rw [htl] at hl
                  refine ⟨_, rfl, G, _, rfl, .inl (SqL.of d5), _, rfl, _, rfl, a, _, rfl, .inr (SqT.of (s5 _ _ (s4 _ _ ha))), _, _, rfl, rfl, _, _, rfl, rfl, ⟨by decide, by decide⟩, _, _, rfl, rfl, .inl ⟨by omega, by omega⟩, _, _, rfl, rfl, q _ _ (s4.trans s5) ?_⟩
                  rw [hl, hlen, decide_eq_true_eq, show ((ps.length : Int) - 1) / 2 = (ps.length : Int) / 2 by omega]
                  exact ⟨fun z => ⟨hri, hin, by omega, by omega, z⟩, fun z => z.2.2.2.2⟩
theorem scDue : FnScope ["_law_web_here", "_law_hues", "_law_paper", "_law_word", "_law_thing"] ["_law_web_here", "_law_hues", "_law_paper"] (defScope sDue) := ⟨rfl, rfl, rfl, by decide +kernel, rfl, by decide +kernel, by decide +kernel⟩
theorem ok_due {f : Addr} {fd : FuncData} (F : Fun K "_law_due" "_law_due" sDue f fd) (CC : Callee P w K mg base 1 "_law_count" ["_law_web_here", "_law_place"] spLCount) (CS : Callee P w K mg base 2 "_law_set_right" ["_law_web_here", "_law_hues", "_law_places_here"] spFullS) : FnOk P w K mg base CX0 3 f fd ["_law_web_here", "_law_hues", "_law_paper"] spShows := by
  refine F.ok scDue (fun vs H Q E h => ?_) (fun cdv A outer s H vs Q E hr h => ?_)
  · obtain ⟨_, _, _, _, _, _, rfl, _⟩ := h; rfl
  · obtain ⟨w0, p, m, es, h, R, rfl, W, PR, hh0, hh1, q⟩ := h
    have hr1 : Room 1 _ := hr.mono (by decide)
    refine ⟨_, pss_cons (ps_asg (pv 2) (pg_tup (n := 2) rfl (pgs_cons (pg_name (i := 3) scDue.nd rfl (Or.inl rfl)) (pgs_cons (pg_name (i := 4) scDue.nd rfl (Or.inl rfl)) pgs_nil))))
      (pss_cons (ps_if (pt_cmpR op_eq (pv 3) pe_str (nomark _)) (pss_one (ps_ret (pe_and (pe_chain op_le op_lt pe_int (pv 4) (pe_ix ix_tup (pv 0) pe_int (fun _ _ => rfl))) (pe_one (pe_cmpR op_gt (pe_def CC hr1 (by rfl) (pa_cons (pv 0) (pa_cons (pv 4) pa_nil))) (pv 1) (nomark _)))))) pss_nil)
      (pss_one (ps_ret (pe_def CS hr (by rfl) (pa_cons (pv 0) (pa_cons (pv 1) (pa_cons (pv 4) pa_nil))))))), ?_⟩
    rcases PR with ⟨pl, hp, e⟩ | ⟨x, d, hp, hd, hs, e⟩
    · obtain ⟨ta, ts, hw, ht, htl, he, hb, h63, hm⟩ := id W
      refine ⟨_, rfl, p, _, rfl, SqT.of hp, rfl, _, _, rfl, _, _, rfl, rfl, ?_⟩
      refine ⟨_, rfl, rfl, _, rfl, iteD rfl ?_⟩
      refine ⟨_, rfl, _, _, rfl, rfl, _, rfl, ?_⟩
      by_cases z0 : 0 ≤ pl
      · refine iteD z0 ⟨_, rfl, w0, _, _, _, rfl, rfl, SqT.of hw, (rfl : atI [V.int m, V.ref ta] 0 = some (.int m)), _, _, rfl, rfl, _, rfl, ?_⟩
        by_cases z1 : pl < m
        · refine iteD z1 ⟨_, rfl, _, rfl, w0, m, es, pl, rfl, W, fun H' s => ⟨_, rfl, _, _, rfl, rfl, q _ H' s ((e _).mpr ?_)⟩⟩
          rw [decide_eq_true_eq]
          exact ⟨fun z => ⟨⟨z0, z1⟩, z⟩, fun z => z.2⟩
        · exact iteND z1 (q _ H (Same.refl _) ((e _).mpr ⟨fun z => (by cases z), fun z => absurd z.1.2 z1⟩))
      · refine iteND z0 ⟨_, rfl, ?_⟩
        exact iteF (q _ H (Same.refl _) ((e _).mpr ⟨fun z => (by cases z), fun z => absurd z.1.1 z0⟩))
    · refine ⟨_, rfl, p, _, rfl, SqT.of hp, rfl, _, _, rfl, _, _, rfl, rfl, ?_⟩
      refine ⟨_, rfl, rfl, _, rfl, iteND (by decide) ?_⟩
      exact ⟨_, rfl, _, rfl, _, rfl, w0, m, es, h, x, d, rfl, W, hd, hs, hh0, hh1, fun b H' s hb => q _ H' s ((e _).mpr hb)⟩
end
end Hue
set_option Elab.async false
set_option linter.all false
set_option maxRecDepth 100000
set_option maxHeartbeats 2000000
namespace Hue
open PySem L2
abbrev sPlaces : Stmt := top 32
abbrev sOdd : Stmt := top 33
abbrev sByP : Stmt := top 34
abbrev sByS : Stmt := top 35
section
variable {X : Cx} {K : PySem.W.Frag}
def rSlC : V → Option Int → Option Int → Hp → VK → Prop := fun x lo hi H Q => ∃ a xs, x = .ref a ∧ H a = some (.tup xs) ∧ ∀ p H', H' p = some (.tup (cutV xs lo hi)) → Same H H' → Q (.ref p) H'
theorem sl_tupC : SlR X rSlC := by
  intro pins s σ H x v vl vu lo hi sl Q I rx hs pl pu h
  obtain ⟨a, xs, rfl, hx, q⟩ := h
  by_cases hw : HT.sIx xs.length 0 lo = 0 ∧ HT.sIx xs.length xs.length hi = xs.length
  · exact sl_tupW pins s σ H _ v vl vu lo hi sl Q I rx hs pl pu ⟨a, xs, rfl, SqT.of hx, hw, q a H (by rw [cutV_all xs lo hi hw]; exact hx) (Same.refl H)⟩
  · exact sl_tup pins s σ H _ v vl vu lo hi sl Q I rx hs pl pu ⟨a, xs, rfl, SqT.of hx, hw, fun p hp => q p _ upd_same (same_up hp)⟩
def rCatC : R2 := fun x y H Q => ∃ a b xs ys, x = .ref a ∧ y = .ref b ∧ H a = some (.tup xs) ∧ H b = some (.tup ys) ∧ xs.length + ys.length ≤ sizeLine ∧ ∀ p H', H' p = some (.tup (xs ++ ys)) → Same H H' → Q (.ref p) H'
theorem op_catC : OpR X (binaryOp .Add) rCatC := by
  intro pins s σ H x y v u Q I rx ry h
  obtain ⟨a, b, xs, ys, rfl, rfl, ha, hb, hz, q⟩ := h
  by_cases hx : xs = []
  · subst hx
    exact op_cat0 pins s σ H _ _ v u Q I rx ry ⟨a, b, ys, rfl, rfl, SqT.of ha, SqT.of hb, q b H hb (Same.refl H)⟩
  · refine op_catT pins s σ H _ _ v u Q I rx ry ⟨a, b, xs, ys, rfl, rfl, SqT.of ha, SqT.of hb, hx, hz, fun hy => ?_, fun _ p hp => ?_⟩
    · subst hy
      exact q a H (by rw [List.append_nil]; exact ha) (Same.refl H)
    · exact q p _ upd_same (same_up hp)
end
theorem cut_mem {xs : List V} {lo hi : Option Int} {v : V} (h : v ∈ cutV xs lo hi) : v ∈ xs := List.mem_of_mem_drop (List.mem_of_mem_take h)
theorem idx_ok {r : Int} {n : Nat} (h0 : 0 ≤ r) (h1 : r < n) : seqIndex? r n = some r.toNat := by
  exact PySem.StrLaws.seqIndex_nonneg h0 h1
theorem rng_ints (n : Nat) : rngV 0 n = ((List.range n).map fun (i : Nat) => (i : Int)).map V.int := by
  unfold rngV
  rw [List.map_map]
  refine List.map_congr_left fun i _ => ?_
  simp
theorem erase_mapI : ∀ (ls : List Int) (k : Nat), (ls.map V.int).eraseIdx k = (ls.eraseIdx k).map V.int
  | [], k => by simp
  | x :: ls, 0 => by simp
  | x :: ls, k + 1 => by simp [erase_mapI ls k]
theorem hid_ext {t : Addr} {H H' : Hp} (e : Ext t H H') : ∀ b u, hid (some t) H b = some u → hid (some t) H' b = some u := fun b u h => by
  unfold hid at h ⊢
  split at h
  · cases h
  · rename_i n
    rw [if_neg n]
    exact e b u (fun z => n (by rw [z])) h
def DZ (t : Addr) (H : Hp) (x : V) : Prop := ∃ d, Dat (hid (some t) H) x d
def DS (t : Addr) (H : Hp) (x : V) : Prop := ∃ d, Dat (hid (some t) H) x d ∧ SmallD d
def TP (t : Addr) (H : Hp) (x : V) (n : Nat) : Prop := ∃ p xs, x = .ref p ∧ H p = some (.tup xs) ∧ xs.length ≤ n ∧ ∀ y ∈ xs, DZ t H y
theorem DZ.same {t : Addr} {H H' : Hp} {x : V} (h : DZ t H x) (s : Same H H') : DZ t H' x := let ⟨d, h⟩ := h; ⟨d, Dat.mono (hid_same s) x d h⟩
theorem DS.same {t : Addr} {H H' : Hp} {x : V} (h : DS t H x) (s : Same H H') : DS t H' x := let ⟨d, h, z⟩ := h; ⟨d, Dat.mono (hid_same s) x d h, z⟩
theorem DS.ext {t : Addr} {H H' : Hp} {x : V} (h : DS t H x) (s : Ext t H H') : DS t H' x := let ⟨d, h, z⟩ := h; ⟨d, Dat.mono (hid_ext s) x d h, z⟩
theorem TP.same {t : Addr} {H H' : Hp} {x : V} {n : Nat} (h : TP t H x n) (s : Same H H') : TP t H' x n := let ⟨p, xs, a, b, c, d⟩ := h; ⟨p, xs, a, s _ _ b, c, fun y hy => (d y hy).same s⟩
theorem tape_ne {t p : Addr} {H : Hp} {xs : List V} (T : Tape H t) (h : H p = some (.tup xs)) : (some t : Option Addr) ≠ some p := fun e => by
  cases e
  obtain ⟨d, e, h1, _⟩ := T
  rw [h] at h1; cases h1
theorem TP.dz {t : Addr} {H : Hp} {x : V} {n : Nat} (T : Tape H t) (h : TP t H x n) : DZ t H x := by
  obtain ⟨p, xs, rfl, hp, hl, hx⟩ := h
  obtain ⟨ds, hd⟩ := DatAll.of hx
  exact ⟨.tuple ds, by unfold Dat; exact ⟨p, xs, rfl, hid_at (tape_ne T hp) hp, hd⟩⟩
theorem TP.ds {t : Addr} {H : Hp} {x : V} {n : Nat} (T : Tape H t) (h : TP t H x n) (hn : n ≤ 40) : DS t H x := by
  obtain ⟨p, xs, rfl, hp, hl, hx⟩ := h
  obtain ⟨ds, hd⟩ := DatAll.of hx
  refine ⟨.tuple ds, by unfold Dat; exact ⟨p, xs, rfl, hid_at (tape_ne T hp) hp, hd⟩, fun es e => ?_⟩
  injection e with e
  have := hd.length
  rw [← e]; omega
theorem ints_dz {t : Addr} {H : Hp} {ps : List Int} : ∀ y ∈ ps.map V.int, DZ t H y := fun y hy => by
  obtain ⟨n, _, rfl⟩ := List.mem_map.mp hy
  exact ⟨.int n, by unfold Dat; rfl⟩
def tTP (t : Addr) (S : St → Hp → Prop) (n : Nat) : TE := fun σ H Q => S σ H ∧ ∀ v H', Same H H' → TP t H' v n → Q v H'
def tDZ (t : Addr) (S : St → Hp → Prop) : TE := fun σ H Q => S σ H ∧ ∀ v H', Same H H' → DZ t H' v → Q v H'
def tDS (t : Addr) (S : St → Hp → Prop) : TE := fun σ H Q => S σ H ∧ ∀ v H', Same H H' → DS t H' v → Q v H'
def tDSs (t : Addr) (S : St → Hp → Prop) (n : Nat) : TA := fun σ H Q => S σ H ∧ ∀ vs H', Same H H' → vs.length = n → (∀ v ∈ vs, DS t H' v) → Q vs H'
def OS (t w0 ta a : Addr) (m : Int) (ps : List Int) (σ : St) (H : Hp) : Prop := σ[1]? = some (some (.ref w0)) ∧ σ[2]? = some (some (.ref a)) ∧ Tape H t ∧ H w0 = some (.tup [.int m, .ref ta]) ∧ H a = some (.tup (ps.map V.int)) ∧ ps.length ≤ 12
theorem OS.same {t w0 ta a : Addr} {m : Int} {ps : List Int} {σ : St} {H H' : Hp} (h : OS t w0 ta a m ps σ H) (s : Same H H') : OS t w0 ta a m ps σ H' := let ⟨a, b, c, d, e, f⟩ := h; ⟨a, b, c.keep fun o h => s _ _ h, s _ _ d, s _ _ e, f⟩
section
variable {X : Cx} {t w0 ta a : Addr} {m : Int} {ps : List Int} {e e1 e2 : Expr} {es : List Expr} {pos : Pos} {n k : Nat}
theorem tp_var {x : Str} (h : PE X (.Name x pos) (tVar 2)) : PE X (.Name x pos) (tTP t (OS t w0 ta a m ps) 12) := pe_via _ h fun σ H Q hw => by
  obtain ⟨⟨_, b, _, _, e, f⟩, q⟩ := hw
  exact ⟨_, b, q _ H (Same.refl H) ⟨a, _, rfl, e, by simpa using f, ints_dz⟩⟩
theorem tp_cut {lo hi : Option Expr} {tl th : TO} {l u : Option Int} {p2 : Pos} (he : PE X e (tTP t (OS t w0 ta a m ps) n)) (hl : PO X lo tl) (hu : PO X hi th) (cl : ∀ σ H Q, Q l H → tl σ H Q) (cu : ∀ σ H Q, Q u H → th σ H Q) :
    PE X (.Subscript e (.Slice lo hi none p2) pos) (tTP t (OS t w0 ta a m ps) n) := pe_via _ (pe_slice sl_tupC he hl hu) fun σ H Q hw => by
  refine ⟨hw.1, fun v H1 s1 h1 => cl _ _ _ (cu _ _ _ ?_)⟩
  obtain ⟨p, xs, rfl, hp, hn, hx⟩ := h1
  exact ⟨p, xs, rfl, hp, fun r H2 hr s2 => hw.2 _ H2 (s1.trans s2) ⟨r, _, rfl, hr, Nat.le_trans (cutV_length _ _ _) hn, fun y hy => (hx y (cut_mem hy)).same s2⟩⟩
theorem tp_cat (hk : n + k ≤ 1000) (h1 : PE X e1 (tTP t (OS t w0 ta a m ps) n)) (h2 : PE X e2 (tTP t (OS t w0 ta a m ps) k)) : PE X (.BinOp e1 .Add e2 pos) (tTP t (OS t w0 ta a m ps) (n + k)) := pe_via _ (pe_op op_catC h1 h2) fun σ H Q hw => by
  refine ⟨hw.1, fun v H1 s1 z1 => ⟨hw.1.same s1, fun u H2 s2 z2 => ?_⟩⟩
  obtain ⟨p, xs, rfl, hp, hn, hx⟩ := z1.same s2
  obtain ⟨r, ys, rfl, hr, hk', hy⟩ := z2
  refine ⟨p, r, xs, ys, rfl, rfl, hp, hr, sl3 (by omega), fun z H3 hz s3 => hw.2 _ H3 ((s1.trans s2).trans s3) ⟨z, _, rfl, hz, by rw [List.length_append]; omega, fun y hm => ?_⟩⟩
  rcases List.mem_append.mp hm with hm | hm
  · exact (hx y hm).same s3
  · exact (hy y hm).same s3
theorem tp_one {x1 : Nat} (h : PE X e (tDZ t (OS t w0 ta a m ps))) (hs : starEach [e] X.env = [(false, eval e X.env)] := by rfl) : PE X (.Tuple [e] x1 pos) (tTP t (OS t w0 ta a m ps) 1) := pe_via _ (pe_tup (pa_cons h pa_nil hs)) fun σ H Q hw => by
  refine ⟨hw.1, fun v H1 s1 z => ⟨by show 1 ≤ sizeLine; decide, fun p hp => hw.2 _ _ (s1.trans (same_up hp)) ⟨p, _, rfl, upd_same, Nat.le_refl _, fun y hy => ?_⟩⟩⟩
  rw [List.mem_singleton.mp hy]
  exact z.same (same_up hp)
theorem tp_ds (h : PE X e (tTP t (OS t w0 ta a m ps) n)) (hn : n ≤ 40) : PE X e (tDS t (OS t w0 ta a m ps)) := pe_via _ h fun σ H Q hw => ⟨hw.1, fun v H1 s1 z => hw.2 v H1 s1 (z.ds (hw.1.same s1).2.2.1 hn)⟩
theorem tp_dz (h : PE X e (tTP t (OS t w0 ta a m ps) n)) : PE X e (tDZ t (OS t w0 ta a m ps)) := pe_via _ h fun σ H Q hw => ⟨hw.1, fun v H1 s1 z => hw.2 v H1 s1 (z.dz (hw.1.same s1).2.2.1)⟩
theorem ds_nil : PA X [] (tDSs t (OS t w0 ta a m ps) 0) := fun pos pins s σ H Q I hw => pa_nil pos pins s σ H Q I (hw.2 [] H (Same.refl H) rfl (fun _ h => nomatch h))
theorem ds_cons (h1 : PE X e (tDS t (OS t w0 ta a m ps))) (h2 : PA X es (tDSs t (OS t w0 ta a m ps) n)) (hs : starEach (e :: es) X.env = (false, eval e X.env) :: starEach es X.env := by rfl) : PA X (e :: es) (tDSs t (OS t w0 ta a m ps) (n + 1)) := fun pos pins s σ H Q I hw =>
  pa_cons h1 h2 hs pos pins s σ H Q I ⟨hw.1, fun v H1 s1 d1 => ⟨hw.1.same s1, fun vs H2 s2 hl d2 => hw.2 (v :: vs) H2 (s1.trans s2) (by simp [hl]) fun u hu => by
    rcases List.mem_cons.mp hu with rfl | hu
    · exact d1.same s2
    · exact d2 u hu⟩⟩
end
def spPlaces : Sp := fun vs H Q _ => ∃ (t w : Addr) (m : Int) (es : List (Int × Int)), vs = [.ref t, .ref w] ∧ Tape H t ∧ WebE H w m es ∧ ∀ (a : Addr) (ps : List Int) (H' : Hp), H' a = some (.tup (ps.map V.int)) → ps.length ≤ 12 → Tape H' t → Ext t H H' → Q (.ref a) H'
def spOddP : Sp := fun vs H Q _ => ∃ (t w a : Addr) (m : Int) (es : List (Int × Int)) (ps : List Int), vs = [.ref t, .ref w, .ref a] ∧ Tape H t ∧ WebE H w m es ∧ H a = some (.tup (ps.map V.int)) ∧ ps.length ≤ 12 ∧ ∀ x H', DS t H' x → Tape H' t → Ext t H H' → Q x H'
theorem many_at {r : Int} (h0 : 0 ≤ r) (h1 : r < 8) : ∃ k : Int, atI [V.int 3, .int 3, .int 5, .int 7, .int 2, .int 4, .int 9, .int 1] r = some (.int k) ∧ 0 ≤ k ∧ k ≤ 9 := by
  have : r = 0 ∨ r = 1 ∨ r = 2 ∨ r = 3 ∨ r = 4 ∨ r = 5 ∨ r = 6 ∨ r = 7 := by omega
  rcases this with rfl | rfl | rfl | rfl | rfl | rfl | rfl | rfl
  · exact ⟨3, rfl, by omega, by omega⟩
  · exact ⟨3, rfl, by omega, by omega⟩
  · exact ⟨5, rfl, by omega, by omega⟩
  · exact ⟨7, rfl, by omega, by omega⟩
  · exact ⟨2, rfl, by omega, by omega⟩
  · exact ⟨4, rfl, by omega, by omega⟩
  · exact ⟨9, rfl, by omega, by omega⟩
  · exact ⟨1, rfl, by omega, by omega⟩
section
variable {P : Program} {w : World} {K : PySem.W.Frag} {mg : Str → Option Value} {base : Heap}
theorem scPlaces : FnScope ["_law_tape_here", "_law_web_here", "_law_many", "_law_left", "_law_found", "_law_turn"] ["_law_tape_here", "_law_web_here"] (defScope sPlaces) := ⟨rfl, rfl, rfl, by decide +kernel, rfl, by decide +kernel, by decide +kernel⟩
theorem ok_places {f : Addr} {fd : FuncData} (F : Fun K "_law_places" "_law_places" sPlaces f fd) (T : Txt K mg) (zs : mg "sorted" = none) (CD : CDraw P w K mg base) : FnOk P w K mg base CX0 2 f fd ["_law_tape_here", "_law_web_here"] spPlaces := by
  refine F.ok scPlaces (fun vs H Q E h => ?_) (fun cdv A outer s H vs Q E hr h => ?_)
  · obtain ⟨_, _, _, _, rfl, _⟩ := h; rfl
  · obtain ⟨t, w0, m, es, rfl, Tp, W, q⟩ := h
    refine ⟨_, pss_cons (ps_set (i := 2) scPlaces.nd rfl (Or.inl rfl) (pe_ix ix_list (pe_lst (pa_cons pe_int (pa_cons pe_int (pa_cons pe_int (pa_cons pe_int (pa_cons pe_int (pa_cons pe_int (pa_cons pe_int (pa_cons pe_int pa_nil)))))))))  (pe_def CD hr (by rfl) (pa_cons (pv 0) (pa_cons pe_int pa_nil))) (fun _ _ => rfl)))
      (pss_cons (ps_set (i := 3) scPlaces.nd rfl (Or.inl rfl) (pe_callTy (call_listRng rfl) (by rfl) T.list b_list (pa_cons (pe_callTy call_rng1 (by rfl) T.range b_range (pa_cons (pe_ix ix_tup (pv 1) pe_int (fun _ _ => rfl)) pa_nil)) pa_nil)))
      (pss_cons (ps_set (i := 4) scPlaces.nd rfl (Or.inl rfl) (pe_lst pa_nil))
      (pss_cons (ps_for PassesOwn.never rfl (pi_range1 (by rfl) T.range (pa_cons (pe_callB (call_min2 rfl) (by rfl) T.min b_min (pa_cons (pv 2) (pa_cons (pe_callB call_len_seq (by rfl) T.len b_len (pa_cons (pv 3) pa_nil)) pa_nil))) pa_nil)) (pg_name (i := 5) scPlaces.nd rfl (Or.inl rfl))
        (pss_one (ps_expr (pe_bm PySem.F.plainAttrs_list PySem.F.slot_list_append PySem.F.type_list_append mt_append (pv 4) (pa_cons
          (pe_bm PySem.F.plainAttrs_list PySem.F.slot_list_pop PySem.F.type_list_pop mt_popAt (pv 3) (pa_cons (pe_def CD hr (by rfl) (pa_cons (pv 0) (pa_cons (pe_callB call_len_seq (by rfl) T.len b_len (pa_cons (pv 3) pa_nil)) pa_nil))) pa_nil)) pa_nil)))))
      (pss_one (ps_ret (pe_callTy call_tuple_of (by rfl) T.tuple b_tuple (pa_cons (pe_callB call_sorted (by rfl) zs b_sorted (pa_cons (pv 4) pa_nil)) pa_nil))))))), ?_⟩
    refine ⟨by show 8 ≤ sizeLine; decide, fun q0 hq0 => ?_⟩
    refine ⟨_, rfl, t, _, rfl, Tp.new hq0, by omega, by omega, fun r H1 r0 r1 T1 x1 => ?_⟩
    have x01 : Ext t H H1 := ((Ext.refl t H).new hq0).trans x1
    have hq1 := x1 _ _ (Tp.ne hq0) (upd_same (H := H))
    obtain ⟨k, hk, k0, k9⟩ := many_at r0 r1
    refine ⟨q0, _, _, _, rfl, rfl, SqL.of hq1, hk, ?_⟩
    have W1 := W.mono (x01.keepT Tp)
    obtain ⟨ta, ts, hw, ht, htl, he, hb, h63, hm0, hm12⟩ := id W1
    obtain ⟨n, rfl⟩ : ∃ n : Nat, m = n := ⟨m.toNat, by omega⟩
    refine ⟨_, rfl, w0, _, _, _, rfl, rfl, SqT.of hw, (rfl : atI [V.int (n : Int), V.ref ta] 0 = some (.int (n : Int))), _, rfl, fun p hp => ⟨p, 0, _, rfl, upd_same, by decide, by decide, by omega, by omega, by omega, fun L hL => ?_⟩⟩
    refine ⟨by show 0 ≤ sizeLine; decide, fun D hD => ?_⟩
    have en : ((n : Int) - 0).toNat = n := by omega
    have T2 : Tape (upd H1 p (.rng 0 (n : Int))) t := T1.new hp
    have T3 := T2.new (o := .lst (rngV 0 ((n : Int) - 0).toNat)) hL
    have T4 := T3.new (o := .lst []) hD
    have x2 : Ext t H (upd H1 p (.rng 0 (n : Int))) := x01.new hp
    have x3 := x2.new (o := .lst (rngV 0 ((n : Int) - 0).toNat)) hL
    have x4 := x3.new (o := .lst []) hD
    have Lt : L ≠ t := T2.ne hL
    have Dt : D ≠ t := T3.ne hD
    have nL : H L = none := x2.free hL Lt
    have nD : H D = none := x3.free hD Dt
    have LD : L ≠ D := ne_of_none upd_same hD
    have gL : (upd (upd (upd H1 p (.rng 0 (n : Int))) L (.lst (rngV 0 ((n : Int) - 0).toNat))) D (.lst [])) L = some (.lst (((List.range n).map fun (i : Nat) => (i : Int)).map V.int)) := keepN (by rw [upd_same, en, rng_ints]) hD
    have gD : (upd (upd (upd H1 p (.rng 0 (n : Int))) L (.lst (rngV 0 ((n : Int) - 0).toNat))) D (.lst [])) D = some (.lst (([] : List Int).map V.int)) := upd_same
    generalize (upd (upd (upd H1 p (.rng 0 (n : Int))) L (.lst (rngV 0 ((n : Int) - 0).toNat))) D (.lst [])) = H4 at T4 x4 gL gD
    refine ⟨_, rfl, _, rfl, L, _, rfl, .inl (SqL.of gL), _, _, rfl, ?_⟩
    rw [show (((List.range n).map fun (i : Nat) => (i : Int)).map V.int).length = n by simp]
    have hmin : 0 ≤ (if (n : Int) < k then (n : Int) else k) ∧ (if (n : Int) < k then (n : Int) else k) ≤ n := by split <;> omega
    generalize (if (n : Int) < k then (n : Int) else k) = c at hmin
    refine ⟨c, rfl, by omega, by omega, for_range (lo := 0) (n := c.toNat) (fun i σ H5 => ∃ (o5 : Option V) (ls ns : List Int), σ = [some (.ref t), some (.ref w0), some (.int k), some (.ref L), some (.ref D), o5] ∧ Tape H5 t ∧ Ext t H H5 ∧ H5 L = some (.lst (ls.map V.int)) ∧ H5 D = some (.lst (ns.map V.int)) ∧ ls.length + i = n ∧ ns.length = i)
      ⟨none, _, _, rfl, T4, x4, gL, gD, by simp, rfl⟩ ?_ ?_⟩
    · rintro i σ H5 hi ⟨o5, ls, ns, rfl, T5, x5, hL5, hD5, el, en2⟩
      have hpos : 0 < ls.length := by omega
      refine ⟨_, rfl, .inl ⟨rfl, _, SqL.of hD5⟩, _, rfl, .inl ⟨rfl, _, SqL.of hL5⟩, _, rfl, _, rfl, L, _, rfl, .inl (SqL.of hL5), ?_⟩
      refine ⟨t, _, rfl, T5, by rw [List.length_map]; omega, by rw [List.length_map]; omega, fun r' H6 r0' r1' T6 x6 => ?_⟩
      rw [List.length_map] at r1'
      have hL6 := x6 _ _ Lt hL5
      have hD6 := x6 _ _ Dt hD5
      have hr : r'.toNat < ls.length := by omega
      refine ⟨L, _, r', r'.toNat, .int (ls[r'.toNat]'hr), rfl, rfl, hL6, by omega, by omega, idx_ok r0' (by rw [List.length_map]; exact r1'), by rw [List.getElem?_map, List.getElem?_eq_getElem hr]; rfl, ?_⟩
      refine ⟨D, _, _, rfl, rfl, keepO hD6 LD.symm, small1000 (by rw [List.length_map]; omega), _, ls.eraseIdx r'.toNat, ns ++ [ls[r'.toNat]'hr], rfl, (T6.upd Lt.symm).upd Dt.symm, ((x5.trans x6).own nL).own nD, ?_, ?_, ?_, ?_⟩
      · rw [upd_ne LD, upd_same, erase_mapI]
      · rw [upd_same, List.map_append]; rfl
      · rw [List.length_eraseIdx_of_lt hr]; omega
      · rw [List.length_append, en2]; rfl
    · rintro σ H5 ⟨o5, ls, ns, rfl, T5, x5, hL5, hD5, el, en2⟩
      refine ⟨_, rfl, D, ns, rfl, SqL.of hD5, by omega, fun l hl => ⟨l, _, rfl, .inl ⟨SqL.of upd_same, fun z hz => ?_⟩⟩⟩
      refine q z (srt ns) _ upd_same ?_ ((T5.new hl).new hz) ((x5.new hl).new hz)
      rw [(srt_perm ns).length_eq]; omega
theorem scOdd : FnScope ["_law_tape_here", "_law_web_here", "_law_places_here", "_law_some"] ["_law_tape_here", "_law_web_here", "_law_places_here"] (defScope sOdd) := ⟨rfl, rfl, rfl, by decide +kernel, rfl, by decide +kernel, by decide +kernel⟩
theorem ok_odd {f : Addr} {fd : FuncData} (F : Fun K "_law_odd_places" "_law_odd_places" sOdd f fd) (T : Txt K mg) (CD : CDraw P w K mg base) : FnOk P w K mg base CX0 2 f fd ["_law_tape_here", "_law_web_here", "_law_places_here"] spOddP := by
  refine F.ok scOdd (fun vs H Q E h => ?_) (fun cdv A outer s H vs Q E hr h => ?_)
  · obtain ⟨_, _, _, _, _, _, rfl, _⟩ := h; rfl
  · obtain ⟨t, w0, a, m, es, ps, rfl, Tp, W, ha, h12, q⟩ := h
    obtain ⟨ta, ts, hw, ht, _⟩ := W
    have cN : ∀ (σ : St) (H : Hp) (Q : Option Int → Hp → Prop), Q none H → tNoPart σ H Q := fun σ H Q h => h
    have c1 : ∀ (σ : St) (H : Hp) (Q : Option Int → Hp → Prop), Q (some 1) H → tPart (tC (.int 1)) σ H Q := fun σ H Q h => ⟨1, rfl, h⟩
    have cM : ∀ (σ : St) (H : Hp) (Q : Option Int → Hp → Prop), Q (some (-1)) H → tPart (tUn (rU fun i => .int (-i)) (tC (.int 1))) σ H Q := fun σ H Q h => ⟨1, rfl, -1, rfl, h⟩
    refine ⟨_, pss_cons (ps_set (i := 3) scOdd.nd rfl (Or.inl rfl) (pe_lst (ds_cons (t := t) (w0 := w0) (ta := ta) (a := a) (m := m) (ps := ps) (tp_ds (tp_cat (by decide) (tp_var (pv 2)) (tp_cut (tp_var (pv 2)) (po_some (pe_un un_neg pe_int)) po_none cM cN)) (by decide))
        (ds_cons (pe_via _ (pe_revT (pv 2) (po_some (pe_un un_neg pe_int))) fun σ H Q hw => ?_)
        (ds_cons (pe_via _ (pe_callTy call_list_of (by rfl) T.list b_list (pa_cons (pv 2) pa_nil)) fun σ H Q hw => ?_)
        (ds_cons (tp_ds (tp_cat (by decide) (tp_cut (tp_var (pv 2)) po_none (po_some (pe_un un_neg pe_int)) cN cM) (tp_one (pe_via _ (pe_ix ix_tup (pv 1) pe_int (fun _ _ => rfl)) fun σ H Q hw => ?_))) (by decide))
        (ds_cons (tp_ds (tp_cat (by decide) (tp_one (pe_via _ (pe_op op_sub pe_int pe_int) fun σ H Q hw => ?_)) (tp_cut (tp_var (pv 2)) (po_some pe_int) po_none c1 cN)) (by decide)) ds_nil)))))))
      (pss_cons (ps_set (i := 3) scOdd.nd rfl (Or.inl rfl) (pe_op op_cat (pv 3) (pe_lst (ds_cons (t := t) (w0 := w0) (ta := ta) (a := a) (m := m) (ps := ps) (tp_ds (tp_cat (by decide) (tp_one (pe_via _ pe_bl fun σ H Q hw => ?_)) (tp_cut (tp_var (pv 2)) (po_some pe_int) po_none c1 cN)) (by decide))
        (ds_cons (tp_ds (tp_cat (by decide) (tp_cut (tp_var (pv 2)) po_none (po_some (pe_un un_neg pe_int)) cN cM) (tp_one (pe_via _ pe_str fun σ H Q hw => ?_))) (by decide))
        (ds_cons (tp_ds (tp_cut (tp_var (pv 2)) (po_some pe_int) po_none c1 cN) (by decide))
        (ds_cons (tp_ds (tp_one (tp_dz (tp_var (pv 2)))) (by decide))
        (ds_cons (tp_ds (tp_cat (by decide) (tp_var (pv 2)) (tp_one (pe_via _ pe_non fun σ H Q hw => ?_))) (by decide)) ds_nil))))))))
      (pss_one (ps_ret (pe_ix ix_list (pv 3) (pe_def CD hr (by rfl) (pa_cons (pv 0) (pa_cons pe_int pa_nil))) (fun _ _ => rfl))))), ?_⟩
    · obtain ⟨⟨_, b, c, d, e, f⟩, q⟩ := hw
      exact ⟨_, b, 1, rfl, -1, rfl, rfl, a, _, rfl, SqT.of e, fun p hp => q _ _ (same_up hp) (TP.ds (n := 12) (c.new hp) ⟨p, _, rfl, upd_same, by simpa using f, fun y hy => ints_dz y (List.mem_reverse.mp hy)⟩ (by decide))⟩
    · obtain ⟨⟨_, b, c, d, e, f⟩, q⟩ := hw
      refine ⟨_, b, a, _, rfl, .inr (SqT.of e), fun l hl => q _ _ (same_up hl) ?_⟩
      obtain ⟨ds, hd⟩ := DatAll.of (H := hid (some t) (upd H l (.lst (ps.map V.int)))) (xs := ps.map V.int) ints_dz
      exact ⟨.list ds, by unfold Dat; exact ⟨l, _, rfl, hid_at (fun z => c.ne hl (by injection z with z; exact z.symm)) upd_same, hd⟩, fun _ z => by cases z⟩
    · obtain ⟨⟨b, _, c, d, e, f⟩, q⟩ := hw
      exact ⟨_, b, w0, _, _, _, rfl, rfl, SqT.of d, (rfl : atI [V.int m, V.ref ta] 0 = some (.int m)), q _ _ (Same.refl _) ⟨.int m, by unfold Dat; rfl⟩⟩
    · exact ⟨_, _, rfl, rfl, hw.2 _ _ (Same.refl _) ⟨.int _, by unfold Dat; rfl⟩⟩
    · exact hw.2 _ _ (Same.refl _) ⟨.bool _, by unfold Dat; rfl⟩
    · exact hw.2 _ _ (Same.refl _) ⟨.str _, by unfold Dat; rfl⟩
    · exact hw.2 _ _ (Same.refl _) ⟨.none, by unfold Dat; rfl⟩
    · refine ⟨⟨rfl, rfl, Tp, hw, ha, h12⟩, fun vs H1 s1 l1 d1 => ⟨by rw [l1]; decide, fun L hL => ?_⟩⟩
      have s2 := same_new (o := .lst vs) s1 hL
      have gL : (upd H1 L (.lst vs)) L = some (.lst vs) := upd_same
      have d2 : ∀ v ∈ vs, DS t (upd H1 L (.lst vs)) v := fun v hv => (d1 v hv).same (same_up hL)
      generalize (upd H1 L (.lst vs)) = H2 at s2 gL d2
      have T2 : Tape H2 t := Tp.keep fun o h => s2 _ _ h
      refine ⟨_, rfl, ⟨rfl, rfl, T2, s2 _ _ hw, s2 _ _ ha, h12⟩, fun us H3 s3 l3 d3 => ⟨by rw [l3]; decide, fun M hM => ?_⟩⟩
      have s4 := same_new (o := .lst us) s3 hM
      refine ⟨L, M, vs, us, rfl, rfl, s4 _ _ gL, upd_same, by rw [l1, l3]; decide, fun G hG => ?_⟩
      have s5 := same_new (o := .lst (vs ++ us)) s4 hG
      have gG : (upd (upd H3 M (.lst us)) G (.lst (vs ++ us))) G = some (.lst (vs ++ us)) := upd_same
      have d5 : ∀ v ∈ vs ++ us, DS t (upd (upd H3 M (.lst us)) G (.lst (vs ++ us))) v := fun v hv => by
        rcases List.mem_append.mp hv with hv | hv
        · exact (d2 v hv).same s5
        · exact (d3 v hv).same ((same_up hM).trans (same_up hG))
      have Gt : G ≠ t := (T2.keep fun o h => s4 _ _ h).ne hG
      generalize (upd (upd H3 M (.lst us)) G (.lst (vs ++ us))) = H5 at s5 gG d5
      have T5 : Tape H5 t := T2.keep fun o h => s5 _ _ h
      refine ⟨_, rfl, _, rfl, t, _, rfl, T5, by omega, by omega, fun r H6 r0 r1 T6 x6 => ?_⟩
      have hl : (vs ++ us).length = 10 := by rw [List.length_append, l1, l3]
      have hr' : r.toNat < (vs ++ us).length := by omega
      have ea : atI (vs ++ us) r = some ((vs ++ us)[r.toNat]'hr') := by
        have := atI_nat (xs := vs ++ us) (List.getElem?_eq_getElem hr')
        rwa [Int.toNat_of_nonneg r0] at this
      refine ⟨G, _, _, _, rfl, rfl, SqL.of (x6 _ _ Gt gG), ea, q _ H6 ((d5 _ (List.getElem_mem hr')).ext x6) T6 ?_⟩
      exact fun b u ne h => x6 b u ne (s5 _ _ (s2 _ _ h))
end
end Hue
set_option Elab.async false
set_option linter.all false
set_option maxRecDepth 100000
set_option maxHeartbeats 2000000
namespace Hue
open PySem L2
abbrev sLaw : Stmt := top 37
def PapD (t : Addr) (H : Hp) (p : Addr) : Prop := (∃ q : Int, H p = some (.tup [.str "place", .int q])) ∨ (∃ x, H p = some (.tup [.str "set", x]) ∧ DS t H x)
def spBy : Sp := fun vs H Q _ => ∃ (t w : Addr) (m : Int) (es : List (Int × Int)), vs = [.ref t, .ref w] ∧ Tape H t ∧ WebE H w m es ∧ ∀ (r p : Addr) (h : Int) (H' : Hp), H' r = some (.tup [.int h, .ref p]) → 0 ≤ h → h ≤ 900 → PapD t H' p → Tape H' t → Ext t H H' → Q (.ref r) H'
theorem cnt_le {es : List (Int × Int)} {p : Int} : 0 ≤ cntI es p ∧ cntI es p ≤ es.length := by
  have := tiesL_len es p es.length
  unfold cntI; omega
theorem PapD.r {t : Addr} {H : Hp} {p : Addr} {m : Int} {es : List (Int × Int)} (h : Int) (z : PapD t H p) : ∃ R, PapR H m es h p R := by
  rcases z with ⟨q, hq⟩ | ⟨x, hx, d, hd, hs⟩
  · exact ⟨_, .inl ⟨q, hq, fun _ => Iff.rfl⟩⟩
  · exact ⟨_, .inr ⟨x, d, hx, Dat.mono hid_le _ _ hd, hs, fun _ => Iff.rfl⟩⟩
theorem PapD.same {t : Addr} {H H' : Hp} {p : Addr} (z : PapD t H p) (s : Same H H') : PapD t H' p := z.imp (fun ⟨q, h⟩ => ⟨q, s _ _ h⟩) (fun ⟨x, h, d⟩ => ⟨x, s _ _ h, d.same s⟩)
theorem max0 (z : Int) (hz : z ≤ 900) : 0 ≤ (if z > 0 then z else 0) ∧ (if z > 0 then z else 0) ≤ 900 := by split <;> omega
def spLaw (K : PySem.W.Frag) : Sp := fun vs H Q _ => ∃ (a : Addr) (ns : List Int), vs = [.ref a] ∧ SqL K H a (ns.map V.int) ∧ ns.length ≤ 63 ∧ ∀ H', Q (.bl true) H'
theorem same_ext {H H2 H3 H4 : Hp} {t : Addr} (s : Same H H2) (n : H2 t = none) (s3 : Same H2 H3) (E : Ext t H3 H4) : Same H H4 := fun b o h => E b o (ne_of_none (s b o h) n) (s3 b o (s b o h))
theorem ext_same {t : Addr} {H H1 H2 : Hp} (a : Ext t H H1) (s : Same H1 H2) : Ext t H H2 := fun b u ne h => s _ _ (a b u ne h)
theorem tape_same {t : Addr} {H H' : Hp} (T : Tape H t) (s : Same H H') : Tape H' t := T.keep fun o h => s _ _ h
section
variable {P : Program} {w : World} {K : PySem.W.Frag} {mg : Str → Option Value} {base : Heap}
theorem scByP : FnScope ["_law_tape_here", "_law_web_here", "_law_place"] ["_law_tape_here", "_law_web_here"] (defScope sByP) := ⟨rfl, rfl, rfl, by decide +kernel, rfl, by decide +kernel, by decide +kernel⟩
theorem ok_byP {f : Addr} {fd : FuncData} (F : Fun K "_law_by_place" "_law_by_place" sByP f fd) (T : Txt K mg) (CD : CDraw P w K mg base) (CC : Callee P w K mg base 1 "_law_count" ["_law_web_here", "_law_place"] spLCount) : FnOk P w K mg base CX0 2 f fd ["_law_tape_here", "_law_web_here"] spBy := by
  refine F.ok scByP (fun vs H Q E h => ?_) (fun cdv A outer s H vs Q E hr h => ?_)
  · obtain ⟨_, _, _, _, rfl, _⟩ := h; rfl
  · obtain ⟨t, w0, m, es, rfl, Tp, W, q⟩ := h
    refine ⟨_, pss_cons (ps_set (i := 2) scByP.nd rfl (Or.inl rfl) (pe_op op_sub (pe_def CD hr (by rfl) (pa_cons (pv 0) (pa_cons (pe_op op_add (pe_ix ix_tup (pv 1) pe_int (fun _ _ => rfl)) pe_int) pa_nil))) pe_int))
      (pss_one (ps_ret (pe_tup (pa_cons (pe_callB (call_max2 rfl) (by rfl) T.max b_max (pa_cons pe_int (pa_cons (pe_op op_sub (pe_op op_add (pe_def CC hr (by rfl) (pa_cons (pv 1) (pa_cons (pv 2) pa_nil))) (pe_def CD hr (by rfl) (pa_cons (pv 0) (pa_cons pe_int pa_nil)))) pe_int) pa_nil))) (pa_cons (pe_tup (pa_cons pe_str (pa_cons (pv 2) pa_nil))) pa_nil))))), ?_⟩
    obtain ⟨ta, ts, hw, ht, htl, he, hb, h63, hm0, hm12⟩ := id W
    refine ⟨_, rfl, _, rfl, w0, _, _, _, rfl, rfl, SqT.of hw, (rfl : atI [V.int m, V.ref ta] 0 = some (.int m)), _, _, rfl, rfl, t, _, rfl, Tp, by omega, by omega, fun r H1 r0 r1 T1 x1 => ⟨_, _, rfl, rfl, ?_⟩⟩
    have W1 := W.mono (x1.keepT Tp)
    refine ⟨_, rfl, _, rfl, w0, m, es, _, rfl, W1, fun H2 s2 => ?_⟩
    refine ⟨_, rfl, t, _, rfl, tape_same T1 s2, by omega, by omega, fun r' H3 r0' r1' T3 x3 => ⟨_, _, rfl, rfl, _, _, rfl, rfl, _, _, rfl, ?_⟩⟩
    have hc := cnt_le (es := es) (p := r - 1)
    obtain ⟨m0, m1⟩ := max0 (cntI es (r - 1) + r' - 1) (by omega)
    generalize (if (cntI es (r - 1) + r' - 1) > 0 then (cntI es (r - 1) + r' - 1) else 0) = hh at m0 m1
    refine ⟨_, rfl, by show 2 ≤ sizeLine; decide, fun p hp => ⟨by show 2 ≤ sizeLine; decide, fun z hz => ?_⟩⟩
    exact q z p hh _ upd_same m0 m1 (.inl ⟨_, keepN upd_same hz⟩) ((T3.new hp).new hz) (((ext_same x1 s2).trans x3 |>.new hp).new hz)
theorem scByS : FnScope ["_law_tape_here", "_law_web_here", "_law_places_here", "_law_inside", "_law_hues"] ["_law_tape_here", "_law_web_here"] (defScope sByS) := ⟨rfl, rfl, rfl, by decide +kernel, rfl, by decide +kernel, by decide +kernel⟩
theorem ok_byS {f : Addr} {fd : FuncData} (F : Fun K "_law_by_set" "_law_by_set" sByS f fd) (T : Txt K mg) (CD : CDraw P w K mg base) (CP : Callee P w K mg base 2 "_law_places" ["_law_tape_here", "_law_web_here"] spPlaces) (CO : Callee P w K mg base 2 "_law_odd_places" ["_law_tape_here", "_law_web_here", "_law_places_here"] spOddP) : FnOk P w K mg base CX0 3 f fd ["_law_tape_here", "_law_web_here"] spBy := by
  refine F.ok scByS (fun vs H Q E h => ?_) (fun cdv A outer s H vs Q E hr h => ?_)
  · obtain ⟨_, _, _, _, rfl, _⟩ := h; rfl
  · obtain ⟨t, w0, m, es, rfl, Tp, W, q⟩ := h
    have hr1 : Room 1 _ := hr.mono (by decide)
    refine ⟨_, pss_cons (ps_set (i := 2) scByS.nd rfl (Or.inr rfl) (pe_def CP hr (by rfl) (pa_cons (pv 0) (pa_cons (pv 1) pa_nil))))
      (pss_cons (ps_set (i := 3) scByS.nd rfl (Or.inl rfl) (pe_callB call_len_seq (by rfl) T.len b_len (pa_cons (pe_comp ["_law_pair"] ["_law_places_here"] [2] (pi_tup (pe_ix ix_tup (pv 1) pe_int (fun _ _ => rfl))) (fun _ _ _ _ _ => pg_name (i := 0) nd_pah rfl (Or.inl rfl))
        (fun _ _ _ _ _ => pifs_one (pw_and (pt_cmpR (op_inK (K := K) rfl) (pe_ix (ix_tupK (K := K) rfl) (pv 0) pe_int (fun _ _ => rfl)) (pv 1) (by with_unfolding_all rfl)) (pw_and1 (pt_cmpR (op_inK (K := K) rfl) (pe_ix (ix_tupK (K := K) rfl) (pv 0) pe_int (fun _ _ => rfl)) (pv 1) (by with_unfolding_all rfl)))).pt) (fun _ _ _ _ _ => pv 0)) pa_nil)))
      (pss_cons (ps_set (i := 4) scByS.nd rfl (Or.inl rfl) (pe_callB (call_max2 rfl) (by rfl) T.max b_max (pa_cons pe_int (pa_cons (pe_op op_sub (pe_op op_add (pe_op op_fdiv (pv 3) (pe_callB (call_max2 rfl) (by rfl) T.max b_max (pa_cons pe_int (pa_cons (pe_op op_fdiv (pe_callB call_len_seq (by rfl) T.len b_len (pa_cons (pv 2) pa_nil)) pe_int) pa_nil)))) (pe_def CD hr1 (by rfl) (pa_cons (pv 0) (pa_cons pe_int pa_nil)))) pe_int) pa_nil))))
      (pss_cons (ps_if (pt_cmpR op_eq (pe_def CD hr1 (by rfl) (pa_cons (pv 0) (pa_cons pe_int pa_nil))) pe_int (nomark _)) (pss_one (ps_set (i := 2) scByS.nd rfl (Or.inr rfl) (pe_def CO hr (by rfl) (pa_cons (pv 0) (pa_cons (pv 1) (pa_cons (pv 2) pa_nil)))))) pss_nil)
      (pss_one (ps_ret (pe_tup (pa_cons (pv 4) (pa_cons (pe_tup (pa_cons pe_str (pa_cons (pv 2) pa_nil))) pa_nil)))))))), ?_⟩
    refine ⟨_, rfl, _, rfl, t, w0, m, es, rfl, Tp, W, fun a ps H1 ha h12 T1 x1 => ?_⟩
    have W1 := W.mono (x1.keepT Tp)
    obtain ⟨ta, ts, hw, ht, htl, he, hb, h63, hm0, hm12⟩ := id W1
    refine ⟨_, rfl, w0, _, _, _, rfl, rfl, SqT.of hw, (rfl : atI [V.int m, V.ref ta] 1 = some (.ref ta)), ta, rfl, ⟨_, SqT.of ht⟩, fun D hD => ?_⟩
    refine comp_tup (K := K) (a := ta) (xs := ts) (fun i ys H2 => Same H1 H2 ∧ H2 D = some (.lst ys) ∧ ys.length ≤ i) ⟨same_new (Same.refl _) hD, upd_same, Nat.le_refl _⟩ (fun i ys H2 _ h => SqT.of (h.1 _ _ ht)) ?_ ?_
    · rintro i x ys H2 hx ⟨s2, d2, hl⟩
      obtain ⟨qv, e, rfl, ee, hq⟩ := he i x hx
      have hi : i < ts.length := (List.getElem?_eq_some_iff.mp hx).1
      have fl : ys.length < sizeLine := small1000 (by omega)
      have hq2 := s2 _ _ hq
      have ha2 := s2 _ _ ha
      have no : Same H1 H2 ∧ H2 D = some (.lst ys) ∧ ys.length ≤ i + 1 := ⟨s2, d2, by omega⟩
      refine ⟨_, rfl, qv, _, _, _, rfl, rfl, SqT.of hq2, (rfl : atI [V.int e.1, V.int e.2] 0 = some (.int e.1)), _, rfl, a, _, rfl, .inr (SqT.of ha2), rfl, flat_ints _, _, rfl, ?_⟩
      show if inV (.int e.1) (ps.map V.int) = true then _ else _
      rw [inV_ints]
      by_cases z1 : e.1 ∈ ps
      · refine iteD z1 ⟨_, rfl, qv, _, _, _, rfl, rfl, SqT.of hq2, (rfl : atI [V.int e.1, V.int e.2] 1 = some (.int e.2)), _, rfl, a, _, rfl, .inr (SqT.of ha2), rfl, flat_ints _, _, rfl, ?_⟩
        show if inV (.int e.2) (ps.map V.int) = true then _ else _
        rw [inV_ints]
        by_cases z2 : e.2 ∈ ps
        · exact iteD z2 ⟨_, rfl, d2, fl, same_own s2 hD, upd_same, by rw [List.length_append]; simp; omega⟩
        · exact iteND z2 no
      · exact iteND z1 (iteF no)
    · rintro ys H2 ⟨s2, d2, hl⟩
      refine ⟨D, _, rfl, .inl (SqL.of d2), ?_⟩
      have ha2 := s2 _ _ ha
      have T2 := tape_same T1 s2
      have x2 := ext_same x1 s2
      have W2 := W1.mono (sameKT s2)
      refine ⟨_, rfl, _, rfl, a, _, rfl, .inr (SqT.of ha2), _, _, rfl, rfl, ⟨by decide, by decide⟩, _, _, rfl, ?_⟩
      rw [List.length_map]
      have hj : 0 < (if ((ps.length : Int) / 2) > 1 then ((ps.length : Int) / 2) else 1) ∧ (if ((ps.length : Int) / 2) > 1 then ((ps.length : Int) / 2) else 1) < 1073741824 := by split <;> omega
      generalize (if ((ps.length : Int) / 2) > 1 then ((ps.length : Int) / 2) else 1) = j at hj
      have hdv : (ys.length : Int) / j ≤ 63 := Int.le_trans (Int.ediv_le_self _ (by omega)) (by omega)
      refine ⟨_, _, rfl, rfl, hj, _, rfl, t, _, rfl, T2, by omega, by omega, fun r H3 r0 r1 T3 x3 => ⟨_, _, rfl, rfl, _, _, rfl, rfl, _, _, rfl, ?_⟩⟩
      obtain ⟨m0, m1⟩ := max0 ((ys.length : Int) / j + r - 1) (by omega)
      generalize (if ((ys.length : Int) / j + r - 1) > 0 then ((ys.length : Int) / j + r - 1) else 0) = hh at m0 m1
      refine ⟨_, rfl, t, _, rfl, T3, by omega, by omega, fun r' H4 r0' r1' T4 x4 => ?_⟩
      have x24 := x3.trans x4
      have ha4 : H4 a = some (.tup (ps.map V.int)) := x24.keepT T2 _ _ ha2
      have fin : ∀ (v : V) (H5 : Hp), DS t H5 v → Tape H5 t → Ext t H4 H5 → ∃ u, some (V.int hh) = some u ∧ ∃ u', some v = some u' ∧ True := fun v H5 _ _ _ => ⟨_, rfl, _, rfl, trivial⟩
      refine ⟨rfl, _, rfl, ite2 (fun z => ?_) (fun z => ?_)⟩
      · refine ⟨_, rfl, _, rfl, _, rfl, t, w0, a, m, es, ps, rfl, T4, W2.mono (x24.keepT T2), ha4, h12, fun v H5 d5 T5 x5 => ?_⟩
        refine ⟨_, rfl, _, rfl, by show 2 ≤ sizeLine; decide, fun p hp => ⟨by show 2 ≤ sizeLine; decide, fun y hy => ?_⟩⟩
        exact q y p hh _ upd_same m0 m1 (.inr ⟨v, keepN upd_same hy, d5.same ((same_up hp).trans (same_up hy))⟩) ((T5.new hp).new hy) ((((x2.trans x24).trans x5).new hp).new hy)
      · refine ⟨_, rfl, _, rfl, by show 2 ≤ sizeLine; decide, fun p hp => ⟨by show 2 ≤ sizeLine; decide, fun y hy => ?_⟩⟩
        have d4 : DS t H4 (.ref a) := TP.ds (n := 12) T4 ⟨a, _, rfl, ha4, by simpa using h12, ints_dz⟩ (by decide)
        exact q y p hh _ upd_same m0 m1 (.inr ⟨_, keepN upd_same hy, d4.same ((same_up hp).trans (same_up hy))⟩) ((T4.new hp).new hy) (((x2.trans x24).new hp).new hy)
theorem scLaw : FnScope ["_law_script", "_law_k", "_law_tape_here", "_law_web_here", "_law_turn", "_law_hues", "_law_paper", "_law_some"] ["_law_script"] (defScope sLaw) := ⟨rfl, rfl, rfl, by decide +kernel, rfl, by decide +kernel, by decide +kernel⟩
theorem ok_law {f : Addr} {fd : FuncData} (F : Fun K "law" "law" sLaw f fd) (T : Txt K mg) (CT : Callee P w K mg base 1 "_law_tape" ["_law_script", "_law_k"] (spTape K)) (CD : CDraw P w K mg base) (CW : Callee P w K mg base 3 "_law_web" ["_law_tape_here", "_law_great"] spWeb)
    (CP : Callee P w K mg base 2 "_law_by_place" ["_law_tape_here", "_law_web_here"] spBy) (CB : Callee P w K mg base 3 "_law_by_set" ["_law_tape_here", "_law_web_here"] spBy) (CS : Callee P w K mg base 7 "shows_fewer" ["web", "hues", "paper"] spShows)
    (CU : Callee P w K mg base 3 "_law_due" ["_law_web_here", "_law_hues", "_law_paper"] spShows) (CR : Callee P w K mg base 1 "_law_truth" ["_law_found", "_law_due_here"] spTruth) : FnOk P w K mg base CX0 8 f fd ["_law_script"] (spLaw K) := by
  refine F.ok scLaw (fun vs H Q E h => ?_) (fun cdv A outer s H vs Q E hr h => ?_)
  · obtain ⟨a, ns, rfl, _⟩ := h; rfl
  · obtain ⟨a, ns, rfl, hS, hlen, k⟩ := h
    have hr1 : Room 1 _ := hr.mono (by decide)
    have hr2 : Room 2 _ := hr.mono (by decide)
    have hr3 : Room 3 _ := hr.mono (by decide)
    refine ⟨_, pss_cons (ps_for PassesOwn.never rfl (pi_range1 (by rfl) T.range (pa_cons (pe_callB (call_max2 rfl) (by rfl) T.max b_max (pa_cons pe_int (pa_cons (pe_callB (call_min2 rfl) (by rfl) T.min b_min (pa_cons (pe_callB call_len_seq (by rfl) T.len b_len (pa_cons (pv 0) pa_nil)) (pa_cons pe_int pa_nil))) pa_nil))) pa_nil)) (pg_name (i := 1) scLaw.nd rfl (Or.inl rfl))
        (pss_cons (ps_set (i := 2) scLaw.nd rfl (Or.inl rfl) (pe_def CT hr1 (by rfl) (pa_cons (pv 0) (pa_cons (pv 1) pa_nil))))
        (pss_cons (ps_set (i := 3) scLaw.nd rfl (Or.inl rfl) (pe_def CW hr3 (by rfl) (pa_cons (pv 2) (pa_cons (pe_cmpR op_eq (pe_def CD hr1 (by rfl) (pa_cons (pv 2) (pa_cons pe_int pa_nil))) pe_int (nomark _)) pa_nil))))
        (pss_one (ps_for PassesOwn.never rfl (pi_range1 (by rfl) T.range (pa_cons pe_int pa_nil)) (pg_name (i := 4) scLaw.nd rfl (Or.inl rfl))
          (pss_cons (ps_asg (pe_ifExp (pt_cmpR op_eq (pe_def CD hr1 (by rfl) (pa_cons (pv 2) (pa_cons pe_int pa_nil))) pe_int (nomark _)) (pe_def CP hr2 (by rfl) (pa_cons (pv 2) (pa_cons (pv 3) pa_nil))) (pe_def CB hr3 (by rfl) (pa_cons (pv 2) (pa_cons (pv 3) pa_nil)))) (pg_tup (n := 2) rfl (pgs_cons (pg_name (i := 5) scLaw.nd rfl (Or.inl rfl)) (pgs_cons (pg_name (i := 6) scLaw.nd rfl (Or.inl rfl)) pgs_nil))))
          (pss_one (ps_for PassesOwn.never rfl (pi_tup (pe_tup (pa_cons (pv 5) (pa_cons pe_int (pa_cons (pe_op op_add (pv 5) pe_int) pa_nil))))) (pg_name (i := 7) scLaw.nd rfl (Or.inl rfl))
            (pss_one (ps_if (pt_not (pt_val (pe_def CR hr1 (by rfl) (pa_cons (pe_def CS hr (by rfl) (pa_cons (pv 3) (pa_cons (pv 7) (pa_cons (pv 6) pa_nil)))) (pa_cons (pe_def CU hr3 (by rfl) (pa_cons (pv 3) (pa_cons (pv 7) (pa_cons (pv 6) pa_nil)))) pa_nil))))) pss_no pss_nil))))))))))
      (pss_one (ps_ret pe_bl)), ?_⟩
    refine ⟨_, rfl, a, _, rfl, .inl hS, _, _, rfl, _, _, rfl, _, rfl, by split <;> split <;> omega, by split <;> split <;> omega, for_range (lo := 0) (fun i σ H2 => ∃ o1 o2 o3 o4 o5 o6 o7 : Option V, σ = [some (.ref a), o1, o2, o3, o4, o5, o6, o7] ∧ Same H H2)
      ⟨none, none, none, none, none, none, none, rfl, Same.refl _⟩ ?_ ?_⟩
    · rintro i σ H2 hi ⟨o1, o2, o3, o4, o5, o6, o7, rfl, s2⟩
      refine ⟨_, rfl, _, rfl, a, ns, 0 + (i : Int), rfl, s2.seq hS, by omega, hlen, fun t H3 ht T3 s3 => ?_⟩
      refine ⟨_, rfl, _, rfl, t, 3, rfl, T3, by decide, by decide, fun r H4 _ _ T4 E4 => ⟨rfl, t, _, rfl, T4, fun wb m ts H5 W5 T5 E5 => ?_⟩⟩
      obtain ⟨es, We, _⟩ := W5.pure
      refine ⟨8, rfl, by omega, by omega, for_range (lo := 0) (fun i' σ H6 => ∃ o4 o5 o6 o7 : Option V, σ = [some (.ref a), some (.int (0 + (i : Int))), some (.ref t), some (.ref wb), o4, o5, o6, o7] ∧ Tape H6 t ∧ Ext t H5 H6) ⟨o4, o5, o6, o7, rfl, T5, Ext.refl t H5⟩ ?_ ?_⟩
      · rintro i' σ H6 hi' ⟨o4', o5', o6', o7', rfl, T6, x6⟩
        have W6 := We.mono (x6.keepT T5)
        refine ⟨_, rfl, t, 3, rfl, T6, by decide, by decide, fun r2 H7 _ _ T7 x7 => ⟨rfl, _, rfl, ?_⟩⟩
        have W7 := W6.mono (x7.keepT T6)
        have fin : ∀ (rr p : Addr) (h : Int) (H8 : Hp), H8 rr = some (.tup [.int h, .ref p]) → 0 ≤ h → h ≤ 900 → PapD t H8 p → Tape H8 t → Ext t H7 H8 → True := fun _ _ _ _ _ _ _ _ _ _ => trivial
        refine ite2 (fun z => ?_) (fun z => ?_)
        all_goals
          refine ⟨_, rfl, _, rfl, t, wb, m, es, rfl, T7, W7, fun rr p hh H8 hrr h0 h9 hp T8 x8 => ?_⟩
          have W8 := W7.mono (x8.keepT T7)
          refine ⟨rr, _, rfl, SqT.of hrr, rfl, _, _, rfl, _, _, rfl, rfl, ?_⟩
          refine ⟨_, rfl, _, rfl, _, _, rfl, rfl, by show 3 ≤ sizeLine; decide, fun g hg => ?_⟩
          have s9 : Same H8 (upd H8 g (.tup [.int hh, .int 0, .int (hh + 1)])) := same_up hg
          have g9 : (upd H8 g (.tup [.int hh, .int 0, .int (hh + 1)])) g = some (.tup [.int hh, .int 0, .int (hh + 1)]) := upd_same
          generalize (upd H8 g (.tup [.int hh, .int 0, .int (hh + 1)])) = H9 at s9 g9
          refine ⟨g, rfl, ⟨_, SqT.of g9⟩, for_tup (K := K) (a := g) (xs := [.int hh, .int 0, .int (hh + 1)]) (fun j σ HA => ∃ o7 : Option V, σ = [some (.ref a), some (.int (0 + (i : Int))), some (.ref t), some (.ref wb), some (.int (0 + (i' : Int))), some (.int hh), some (.ref p), o7] ∧ Same H9 HA) ⟨_, rfl, Same.refl _⟩ (fun j σ HA _ h => by obtain ⟨_, _, sA⟩ := h; exact SqT.of (sA _ _ g9)) ?_ ?_⟩
          · rintro j x σ HA hx ⟨o7'', rfl, sA⟩
            obtain ⟨c, rfl, c0, c1⟩ : ∃ c : Int, x = .int c ∧ 0 ≤ c ∧ c ≤ 1000 := by
              have := List.mem_of_getElem? hx
              simp only [List.mem_cons, List.not_mem_nil, or_false] at this
              rcases this with rfl | rfl | rfl
              · exact ⟨_, rfl, by omega, by omega⟩
              · exact ⟨_, rfl, by omega, by omega⟩
              · exact ⟨_, rfl, by omega, by omega⟩
            have s8A := s9.trans sA
            obtain ⟨R, hR⟩ := PapD.r (m := m) (es := es) c (hp.same s8A)
            refine ⟨_, rfl, _, rfl, _, rfl, wb, p, m, es, c, R, rfl, W8.mono (sameKT s8A), hR, c0, c1, fun b1 HB sB r1 => ?_⟩
            refine ⟨_, rfl, _, rfl, _, rfl, wb, p, m, es, c, R, rfl, W8.mono (sameKT (s8A.trans sB)), hR.same sB, c0, c1, fun b2 HC sC r2 => ?_⟩
            refine ⟨b1, b2, rfl, _, rfl, ?_⟩
            rw [hR.one r1 r2, beq_self_eq_true]
            exact iteF ⟨_, rfl, (sA.trans sB).trans sC⟩
          · rintro σ HA ⟨o7'', rfl, sA⟩
            exact ⟨_, _, _, _, rfl, tape_same T8 (s9.trans sA), ext_same ((x6.trans x7).trans x8) (s9.trans sA)⟩
      · rintro σ H6 ⟨o4', o5', o6', o7', rfl, T6, x6⟩
        exact ⟨_, _, _, _, _, _, _, rfl, same_ext s2 ht s3 ((E4.trans E5).trans x6)⟩
    · rintro σ H2 ⟨o1, o2, o3, o4, o5, o6, o7, rfl, s2⟩
      exact k H2
end
end Hue
set_option Elab.async false
set_option linter.all false
set_option maxRecDepth 100000
namespace Hue
open PySem L2
theorem all_mk {l : PySem.W.OpenLaw} {w : World} {K : PySem.W.Frag} {h : Heap} {mg : Str → Option Value} {fa f1 f2 f3 f4 f9 f11 f12 f13 f14 f19 f20 f22 f24 f25 f26 f27 f28 f29 f30 f31 f32 f33 f34 f35 f36 f37 : Addr} (X : K.In h) (G : h.Ns mainGlobals mg) (hfa : mg "law" = some (.ref fa))
    {od1 an1 od2 an2 od3 an3 od4 an4 od9 an9 od11 an11 od12 an12 od13 an13 od14 an14 od19 an19 od20 an20 od22 an22 od24 an24 od25 an25 od26 an26 od27 an27 od28 an28 od29 an29 od30 an30 od31 an31 od32 an32 od33 an33 od34 an34 od35 an35 od36 an36 od37 an37 : Option Addr} {sl1 sl2 sl3 sl4 sl9 sl11 sl12 sl13 sl14 sl19 sl20 sl22 sl24 sl25 sl26 sl27 sl28 sl29 sl30 sl31 sl32 sl33 sl34 sl35 sl36 sl37 : Array (Option Value)}
    {oc1 kV1 dc1 pm1 cd1 ct1 oc2 kV2 dc2 pm2 cd2 ct2 oc3 kV3 dc3 pm3 cd3 ct3 oc4 kV4 dc4 pm4 cd4 ct4 oc9 kV9 dc9 pm9 cd9 ct9 oc11 kV11 dc11 pm11 cd11 ct11 oc12 kV12 dc12 pm12 cd12 ct12 oc13 kV13 dc13 pm13 cd13 ct13 oc14 kV14 dc14 pm14 cd14 ct14 oc19 kV19 dc19 pm19 cd19 ct19 oc20 kV20 dc20 pm20 cd20 ct20 oc22 kV22 dc22 pm22 cd22 ct22 oc24 kV24 dc24 pm24 cd24 ct24 oc25 kV25 dc25 pm25 cd25 ct25 oc26 kV26 dc26 pm26 cd26 ct26 oc27 kV27 dc27 pm27 cd27 ct27 oc28 kV28 dc28 pm28 cd28 ct28 oc29 kV29 dc29 pm29 cd29 ct29 oc30 kV30 dc30 pm30 cd30 ct30 oc31 kV31 dc31 pm31 cd31 ct31 oc32 kV32 dc32 pm32 cd32 ct32 oc33 kV33 dc33 pm33 cd33 ct33 oc34 kV34 dc34 pm34 cd34 ct34 oc35 kV35 dc35 pm35 cd35 ct35 oc36 kV36 dc36 pm36 cd36 ct36 oc37 kV37 dc37 pm37 cd37 ct37 : Value}
    (a1 : PySem.W.nsIn K mainGlobals "is_number" = some (some (.ref f1))) (l1 : K.lookup f1 = some ⟨oc1, od1, .func (PySem.W.fnOf "is_number" "is_number" (defArgs sNum) (defBody sNum) (defScope sNum) .none kV1 dc1 pm1 an1 cd1 ct1), sl1⟩) (c1 : PySem.W.codeIn K cd1 "is_number" = true) (k1 : PySem.W.keepIn K (.ref f1) = true)
    (a2 : PySem.W.nsIn K mainGlobals "is_listed" = some (some (.ref f2))) (l2 : K.lookup f2 = some ⟨oc2, od2, .func (PySem.W.fnOf "is_listed" "is_listed" (defArgs sListed) (defBody sListed) (defScope sListed) .none kV2 dc2 pm2 an2 cd2 ct2), sl2⟩) (c2 : PySem.W.codeIn K cd2 "is_listed" = true) (k2 : PySem.W.keepIn K (.ref f2) = true)
    (a3 : PySem.W.nsIn K mainGlobals "is_pair" = some (some (.ref f3))) (l3 : K.lookup f3 = some ⟨oc3, od3, .func (PySem.W.fnOf "is_pair" "is_pair" (defArgs sPair) (defBody sPair) (defScope sPair) .none kV3 dc3 pm3 an3 cd3 ct3), sl3⟩) (c3 : PySem.W.codeIn K cd3 "is_pair" = true) (k3 : PySem.W.keepIn K (.ref f3) = true)
    (a4 : PySem.W.nsIn K mainGlobals "is_rising" = some (some (.ref f4))) (l4 : K.lookup f4 = some ⟨oc4, od4, .func (PySem.W.fnOf "is_rising" "is_rising" (defArgs sRising) (defBody sRising) (defScope sRising) .none kV4 dc4 pm4 an4 cd4 ct4), sl4⟩) (c4 : PySem.W.codeIn K cd4 "is_rising" = true) (k4 : PySem.W.keepIn K (.ref f4) = true)
    (a9 : PySem.W.nsIn K mainGlobals "has_place" = some (some (.ref f9))) (l9 : K.lookup f9 = some ⟨oc9, od9, .func (PySem.W.fnOf "has_place" "has_place" (defArgs sHasP) (defBody sHasP) (defScope sHasP) .none kV9 dc9 pm9 an9 cd9 ct9), sl9⟩) (c9 : PySem.W.codeIn K cd9 "has_place" = true) (k9 : PySem.W.keepIn K (.ref f9) = true)
    (a11 : PySem.W.nsIn K mainGlobals "check_place" = some (some (.ref f11))) (l11 : K.lookup f11 = some ⟨oc11, od11, .func (PySem.W.fnOf "check_place" "check_place" (defArgs sChkP) (defBody sChkP) (defScope sChkP) .none kV11 dc11 pm11 an11 cd11 ct11), sl11⟩) (c11 : PySem.W.codeIn K cd11 "check_place" = true) (k11 : PySem.W.keepIn K (.ref f11) = true)
    (a12 : PySem.W.nsIn K mainGlobals "ties_at" = some (some (.ref f12))) (l12 : K.lookup f12 = some ⟨oc12, od12, .func (PySem.W.fnOf "ties_at" "ties_at" (defArgs sTiesAt) (defBody sTiesAt) (defScope sTiesAt) .none kV12 dc12 pm12 an12 cd12 ct12), sl12⟩) (c12 : PySem.W.codeIn K cd12 "ties_at" = true) (k12 : PySem.W.keepIn K (.ref f12) = true)
    (a13 : PySem.W.nsIn K mainGlobals "count_at" = some (some (.ref f13))) (l13 : K.lookup f13 = some ⟨oc13, od13, .func (PySem.W.fnOf "count_at" "count_at" (defArgs sCountAt) (defBody sCountAt) (defScope sCountAt) .none kV13 dc13 pm13 an13 cd13 ct13), sl13⟩) (c13 : PySem.W.codeIn K cd13 "count_at" = true) (k13 : PySem.W.keepIn K (.ref f13) = true)
    (a14 : PySem.W.nsIn K mainGlobals "within" = some (some (.ref f14))) (l14 : K.lookup f14 = some ⟨oc14, od14, .func (PySem.W.fnOf "within" "within" (defArgs sWithin) (defBody sWithin) (defScope sWithin) .none kV14 dc14 pm14 an14 cd14 ct14), sl14⟩) (c14 : PySem.W.codeIn K cd14 "within" = true) (k14 : PySem.W.keepIn K (.ref f14) = true)
    (a19 : PySem.W.nsIn K mainGlobals "is_full_place" = some (some (.ref f19))) (l19 : K.lookup f19 = some ⟨oc19, od19, .func (PySem.W.fnOf "is_full_place" "is_full_place" (defArgs sFullP) (defBody sFullP) (defScope sFullP) .none kV19 dc19 pm19 an19 cd19 ct19), sl19⟩) (c19 : PySem.W.codeIn K cd19 "is_full_place" = true) (k19 : PySem.W.keepIn K (.ref f19) = true)
    (a20 : PySem.W.nsIn K mainGlobals "is_full_set" = some (some (.ref f20))) (l20 : K.lookup f20 = some ⟨oc20, od20, .func (PySem.W.fnOf "is_full_set" "is_full_set" (defArgs sFullS) (defBody sFullS) (defScope sFullS) .none kV20 dc20 pm20 an20 cd20 ct20), sl20⟩) (c20 : PySem.W.codeIn K cd20 "is_full_set" = true) (k20 : PySem.W.keepIn K (.ref f20) = true)
    (a22 : PySem.W.nsIn K mainGlobals "shows_fewer" = some (some (.ref f22))) (l22 : K.lookup f22 = some ⟨oc22, od22, .func (PySem.W.fnOf "shows_fewer" "shows_fewer" (defArgs sShows) (defBody sShows) (defScope sShows) .none kV22 dc22 pm22 an22 cd22 ct22), sl22⟩) (c22 : PySem.W.codeIn K cd22 "shows_fewer" = true) (k22 : PySem.W.keepIn K (.ref f22) = true)
    (a24 : PySem.W.nsIn K mainGlobals "_law_tape" = some (some (.ref f24))) (l24 : K.lookup f24 = some ⟨oc24, od24, .func (PySem.W.fnOf "_law_tape" "_law_tape" (defArgs sTape) (defBody sTape) (defScope sTape) .none kV24 dc24 pm24 an24 cd24 ct24), sl24⟩) (c24 : PySem.W.codeIn K cd24 "_law_tape" = true) (k24 : PySem.W.keepIn K (.ref f24) = true)
    (a25 : PySem.W.nsIn K mainGlobals "_law_draw" = some (some (.ref f25))) (l25 : K.lookup f25 = some ⟨oc25, od25, .func (PySem.W.fnOf "_law_draw" "_law_draw" (defArgs sDraw) (defBody sDraw) (defScope sDraw) .none kV25 dc25 pm25 an25 cd25 ct25), sl25⟩) (c25 : PySem.W.codeIn K cd25 "_law_draw" = true) (k25 : PySem.W.keepIn K (.ref f25) = true)
    (a26 : PySem.W.nsIn K mainGlobals "_law_pairs_by" = some (some (.ref f26))) (l26 : K.lookup f26 = some ⟨oc26, od26, .func (PySem.W.fnOf "_law_pairs_by" "_law_pairs_by" (defArgs sPairs) (defBody sPairs) (defScope sPairs) .none kV26 dc26 pm26 an26 cd26 ct26), sl26⟩) (c26 : PySem.W.codeIn K cd26 "_law_pairs_by" = true) (k26 : PySem.W.keepIn K (.ref f26) = true)
    (a27 : PySem.W.nsIn K mainGlobals "_law_web" = some (some (.ref f27))) (l27 : K.lookup f27 = some ⟨oc27, od27, .func (PySem.W.fnOf "_law_web" "_law_web" (defArgs sWeb) (defBody sWeb) (defScope sWeb) .none kV27 dc27 pm27 an27 cd27 ct27), sl27⟩) (c27 : PySem.W.codeIn K cd27 "_law_web" = true) (k27 : PySem.W.keepIn K (.ref f27) = true)
    (a28 : PySem.W.nsIn K mainGlobals "_law_is_number" = some (some (.ref f28))) (l28 : K.lookup f28 = some ⟨oc28, od28, .func (PySem.W.fnOf "_law_is_number" "_law_is_number" (defArgs sLNum) (defBody sLNum) (defScope sLNum) .none kV28 dc28 pm28 an28 cd28 ct28), sl28⟩) (c28 : PySem.W.codeIn K cd28 "_law_is_number" = true) (k28 : PySem.W.keepIn K (.ref f28) = true)
    (a29 : PySem.W.nsIn K mainGlobals "_law_count" = some (some (.ref f29))) (l29 : K.lookup f29 = some ⟨oc29, od29, .func (PySem.W.fnOf "_law_count" "_law_count" (defArgs sLCount) (defBody sLCount) (defScope sLCount) .none kV29 dc29 pm29 an29 cd29 ct29), sl29⟩) (c29 : PySem.W.codeIn K cd29 "_law_count" = true) (k29 : PySem.W.keepIn K (.ref f29) = true)
    (a30 : PySem.W.nsIn K mainGlobals "_law_set_right" = some (some (.ref f30))) (l30 : K.lookup f30 = some ⟨oc30, od30, .func (PySem.W.fnOf "_law_set_right" "_law_set_right" (defArgs sLSet) (defBody sLSet) (defScope sLSet) .none kV30 dc30 pm30 an30 cd30 ct30), sl30⟩) (c30 : PySem.W.codeIn K cd30 "_law_set_right" = true) (k30 : PySem.W.keepIn K (.ref f30) = true)
    (a31 : PySem.W.nsIn K mainGlobals "_law_truth" = some (some (.ref f31))) (l31 : K.lookup f31 = some ⟨oc31, od31, .func (PySem.W.fnOf "_law_truth" "_law_truth" (defArgs sTruth) (defBody sTruth) (defScope sTruth) .none kV31 dc31 pm31 an31 cd31 ct31), sl31⟩) (c31 : PySem.W.codeIn K cd31 "_law_truth" = true) (k31 : PySem.W.keepIn K (.ref f31) = true)
    (a32 : PySem.W.nsIn K mainGlobals "_law_places" = some (some (.ref f32))) (l32 : K.lookup f32 = some ⟨oc32, od32, .func (PySem.W.fnOf "_law_places" "_law_places" (defArgs sPlaces) (defBody sPlaces) (defScope sPlaces) .none kV32 dc32 pm32 an32 cd32 ct32), sl32⟩) (c32 : PySem.W.codeIn K cd32 "_law_places" = true) (k32 : PySem.W.keepIn K (.ref f32) = true)
    (a33 : PySem.W.nsIn K mainGlobals "_law_odd_places" = some (some (.ref f33))) (l33 : K.lookup f33 = some ⟨oc33, od33, .func (PySem.W.fnOf "_law_odd_places" "_law_odd_places" (defArgs sOdd) (defBody sOdd) (defScope sOdd) .none kV33 dc33 pm33 an33 cd33 ct33), sl33⟩) (c33 : PySem.W.codeIn K cd33 "_law_odd_places" = true) (k33 : PySem.W.keepIn K (.ref f33) = true)
    (a34 : PySem.W.nsIn K mainGlobals "_law_by_place" = some (some (.ref f34))) (l34 : K.lookup f34 = some ⟨oc34, od34, .func (PySem.W.fnOf "_law_by_place" "_law_by_place" (defArgs sByP) (defBody sByP) (defScope sByP) .none kV34 dc34 pm34 an34 cd34 ct34), sl34⟩) (c34 : PySem.W.codeIn K cd34 "_law_by_place" = true) (k34 : PySem.W.keepIn K (.ref f34) = true)
    (a35 : PySem.W.nsIn K mainGlobals "_law_by_set" = some (some (.ref f35))) (l35 : K.lookup f35 = some ⟨oc35, od35, .func (PySem.W.fnOf "_law_by_set" "_law_by_set" (defArgs sByS) (defBody sByS) (defScope sByS) .none kV35 dc35 pm35 an35 cd35 ct35), sl35⟩) (c35 : PySem.W.codeIn K cd35 "_law_by_set" = true) (k35 : PySem.W.keepIn K (.ref f35) = true)
    (a36 : PySem.W.nsIn K mainGlobals "_law_due" = some (some (.ref f36))) (l36 : K.lookup f36 = some ⟨oc36, od36, .func (PySem.W.fnOf "_law_due" "_law_due" (defArgs sDue) (defBody sDue) (defScope sDue) .none kV36 dc36 pm36 an36 cd36 ct36), sl36⟩) (c36 : PySem.W.codeIn K cd36 "_law_due" = true) (k36 : PySem.W.keepIn K (.ref f36) = true)
    (a37 : PySem.W.nsIn K mainGlobals "law" = some (some (.ref f37))) (l37 : K.lookup f37 = some ⟨oc37, od37, .func (PySem.W.fnOf "law" "law" (defArgs sLaw) (defBody sLaw) (defScope sLaw) .none kV37 dc37 pm37 an37 cd37 ct37), sl37⟩) (c37 : PySem.W.codeIn K cd37 "law" = true) (k37 : PySem.W.keepIn K (.ref f37) = true)
    (z1 : PySem.W.nsIn K mainGlobals "len" = some none)
    (z2 : PySem.W.nsIn K mainGlobals "abs" = some none)
    (z3 : PySem.W.nsIn K mainGlobals "int" = some none)
    (z4 : PySem.W.nsIn K mainGlobals "min" = some none)
    (z5 : PySem.W.nsIn K mainGlobals "max" = some none)
    (z6 : PySem.W.nsIn K mainGlobals "range" = some none)
    (z7 : PySem.W.nsIn K mainGlobals "tuple" = some none)
    (z8 : PySem.W.nsIn K mainGlobals "list" = some none)
    (z9 : PySem.W.nsIn K mainGlobals "enumerate" = some none)
    (z10 : PySem.W.nsIn K mainGlobals "zip" = some none)
    (z11 : PySem.W.nsIn K mainGlobals "isinstance" = some none)
    (z12 : PySem.W.nsIn K mainGlobals "all" = some none)
    (z13 : PySem.W.nsIn K mainGlobals "str" = some none)
    (z14 : PySem.W.nsIn K mainGlobals "bool" = some none)
    (y1 : PySem.W.nsIn K mainGlobals "sorted" = some none)
    (y2 : PySem.W.nsIn K mainGlobals "set" = some none)
    : ∃ fd : FuncData, (∀ (s : Shared) (v : Value), BindsTo s fd ⟨[v], []⟩ [("_law_script", v)]) ∧ ∀ base : Heap, K.In base → base.Ns mainGlobals mg → FnOk l.prog w K mg base CX0 8 fa fd ["_law_script"] (spLaw K) := by
  have e := hfa.symm.trans (PySem.W.mg_of X G a37)
  cases e
  have T : Txt K mg := ⟨PySem.W.mg_none_of X G z1, PySem.W.mg_none_of X G z2, PySem.W.mg_none_of X G z3, PySem.W.mg_none_of X G z4, PySem.W.mg_none_of X G z5, PySem.W.mg_none_of X G z6, PySem.W.mg_none_of X G z7, PySem.W.mg_none_of X G z8, PySem.W.mg_none_of X G z9, PySem.W.mg_none_of X G z10, PySem.W.mg_none_of X G z11, PySem.W.mg_none_of X G z12, PySem.W.mg_none_of X G z13, PySem.W.mg_none_of X G z14⟩
  have zs : mg "sorted" = none := PySem.W.mg_none_of X G y1
  have zt : mg "set" = none := PySem.W.mg_none_of X G y2
  have F1 := fun_mk (st := sNum) l1 c1 k1
  have F2 := fun_mk (st := sListed) l2 c2 k2
  have F3 := fun_mk (st := sPair) l3 c3 k3
  have F4 := fun_mk (st := sRising) l4 c4 k4
  have F9 := fun_mk (st := sHasP) l9 c9 k9
  have F11 := fun_mk (st := sChkP) l11 c11 k11
  have F12 := fun_mk (st := sTiesAt) l12 c12 k12
  have F13 := fun_mk (st := sCountAt) l13 c13 k13
  have F14 := fun_mk (st := sWithin) l14 c14 k14
  have F19 := fun_mk (st := sFullP) l19 c19 k19
  have F20 := fun_mk (st := sFullS) l20 c20 k20
  have F22 := fun_mk (st := sShows) l22 c22 k22
  have F24 := fun_mk (st := sTape) l24 c24 k24
  have F25 := fun_mk (st := sDraw) l25 c25 k25
  have F26 := fun_mk (st := sPairs) l26 c26 k26
  have F27 := fun_mk (st := sWeb) l27 c27 k27
  have F28 := fun_mk (st := sLNum) l28 c28 k28
  have F29 := fun_mk (st := sLCount) l29 c29 k29
  have F30 := fun_mk (st := sLSet) l30 c30 k30
  have F31 := fun_mk (st := sTruth) l31 c31 k31
  have F32 := fun_mk (st := sPlaces) l32 c32 k32
  have F33 := fun_mk (st := sOdd) l33 c33 k33
  have F34 := fun_mk (st := sByP) l34 c34 k34
  have F35 := fun_mk (st := sByS) l35 c35 k35
  have F36 := fun_mk (st := sDue) l36 c36 k36
  have F37 := fun_mk (st := sLaw) l37 c37 k37
  have b1 := F1.binds (ps := ["thing"]) fun _ _ _ _ _ _ us hl => match us, hl with | [_], _ => rfl
  have b2 := F2.binds (ps := ["thing"]) fun _ _ _ _ _ _ us hl => match us, hl with | [_], _ => rfl
  have b3 := F3.binds (ps := ["thing"]) fun _ _ _ _ _ _ us hl => match us, hl with | [_], _ => rfl
  have b4 := F4.binds (ps := ["thing"]) fun _ _ _ _ _ _ us hl => match us, hl with | [_], _ => rfl
  have b9 := F9.binds (ps := ["web", "place"]) fun _ _ _ _ _ _ us hl => match us, hl with | [_, _], _ => rfl
  have b11 := F11.binds (ps := ["web", "place"]) fun _ _ _ _ _ _ us hl => match us, hl with | [_, _], _ => rfl
  have b12 := F12.binds (ps := ["web", "place"]) fun _ _ _ _ _ _ us hl => match us, hl with | [_, _], _ => rfl
  have b13 := F13.binds (ps := ["web", "place"]) fun _ _ _ _ _ _ us hl => match us, hl with | [_, _], _ => rfl
  have b14 := F14.binds (ps := ["web", "places"]) fun _ _ _ _ _ _ us hl => match us, hl with | [_, _], _ => rfl
  have b19 := F19.binds (ps := ["web", "hues", "place"]) fun _ _ _ _ _ _ us hl => match us, hl with | [_, _, _], _ => rfl
  have b20 := F20.binds (ps := ["web", "hues", "places"]) fun _ _ _ _ _ _ us hl => match us, hl with | [_, _, _], _ => rfl
  have b22 := F22.binds (ps := ["web", "hues", "paper"]) fun _ _ _ _ _ _ us hl => match us, hl with | [_, _, _], _ => rfl
  have b24 := F24.binds (ps := ["_law_script", "_law_k"]) fun _ _ _ _ _ _ us hl => match us, hl with | [_, _], _ => rfl
  have b25 := F25.binds (ps := ["_law_tape_here", "_law_many"]) fun _ _ _ _ _ _ us hl => match us, hl with | [_, _], _ => rfl
  have b26 := F26.binds (ps := ["_law_tape_here", "_law_great"]) fun _ _ _ _ _ _ us hl => match us, hl with | [_, _], _ => rfl
  have b27 := F27.binds (ps := ["_law_tape_here", "_law_great"]) fun _ _ _ _ _ _ us hl => match us, hl with | [_, _], _ => rfl
  have b28 := F28.binds (ps := ["_law_thing"]) fun _ _ _ _ _ _ us hl => match us, hl with | [_], _ => rfl
  have b29 := F29.binds (ps := ["_law_web_here", "_law_place"]) fun _ _ _ _ _ _ us hl => match us, hl with | [_, _], _ => rfl
  have b30 := F30.binds (ps := ["_law_web_here", "_law_hues", "_law_places_here"]) fun _ _ _ _ _ _ us hl => match us, hl with | [_, _, _], _ => rfl
  have b31 := F31.binds (ps := ["_law_found", "_law_due_here"]) fun _ _ _ _ _ _ us hl => match us, hl with | [_, _], _ => rfl
  have b32 := F32.binds (ps := ["_law_tape_here", "_law_web_here"]) fun _ _ _ _ _ _ us hl => match us, hl with | [_, _], _ => rfl
  have b33 := F33.binds (ps := ["_law_tape_here", "_law_web_here", "_law_places_here"]) fun _ _ _ _ _ _ us hl => match us, hl with | [_, _, _], _ => rfl
  have b34 := F34.binds (ps := ["_law_tape_here", "_law_web_here"]) fun _ _ _ _ _ _ us hl => match us, hl with | [_, _], _ => rfl
  have b35 := F35.binds (ps := ["_law_tape_here", "_law_web_here"]) fun _ _ _ _ _ _ us hl => match us, hl with | [_, _], _ => rfl
  have b36 := F36.binds (ps := ["_law_web_here", "_law_hues", "_law_paper"]) fun _ _ _ _ _ _ us hl => match us, hl with | [_, _, _], _ => rfl
  refine ⟨PySem.W.fnOf "law" "law" (defArgs sLaw) (defBody sLaw) (defScope sLaw) .none kV37 dc37 pm37 an37 cd37 ct37, fun s v => .of_eq rfl, fun base _ _ => ?_⟩
  have CT : Callee l.prog w K mg base 1 "_law_tape" ["_law_script", "_law_k"] (spTape K) := ⟨_, _, ok_tape F24 T, PySem.W.mg_of X G a24, k24, b24⟩
  have CD : Callee l.prog w K mg base 1 "_law_draw" ["_law_tape_here", "_law_many"] spDraw := ⟨_, _, ok_draw F25 T, PySem.W.mg_of X G a25, k25, b25⟩
  have CPr : Callee l.prog w K mg base 2 "_law_pairs_by" ["_law_tape_here", "_law_great"] spPairs := ⟨_, _, ok_pairs F26 T CD, PySem.W.mg_of X G a26, k26, b26⟩
  have CW : Callee l.prog w K mg base 3 "_law_web" ["_law_tape_here", "_law_great"] spWeb := ⟨_, _, ok_web F27 T CD CPr, PySem.W.mg_of X G a27, k27, b27⟩
  have CN : Callee l.prog w K mg base 1 "is_number" ["thing"] spNum := ⟨_, _, ok_num F1 T, PySem.W.mg_of X G a1, k1, b1⟩
  have CNI : Callee l.prog w K mg base 1 "is_number" ["thing"] spNumI := ⟨_, _, ok_numI F1 T, PySem.W.mg_of X G a1, k1, b1⟩
  have CLi : Callee l.prog w K mg base 1 "is_listed" ["thing"] spListed := ⟨_, _, ok_listed F2 T, PySem.W.mg_of X G a2, k2, b2⟩
  have CPa : Callee l.prog w K mg base 1 "is_pair" ["thing"] spPairT := ⟨_, _, ok_pairT F3 T, PySem.W.mg_of X G a3, k3, b3⟩
  have CRi : Callee l.prog w K mg base 2 "is_rising" ["thing"] spRising := ⟨_, _, ok_rising F4 T CLi CN, PySem.W.mg_of X G a4, k4, b4⟩
  have CHP : Callee l.prog w K mg base 2 "has_place" ["web", "place"] spHasP := ⟨_, _, ok_hasP F9 CNI, PySem.W.mg_of X G a9, k9, b9⟩
  have CCP : Callee l.prog w K mg base 3 "check_place" ["web", "place"] spChkP := ⟨_, _, ok_chkP F11 CHP, PySem.W.mg_of X G a11, k11, b11⟩
  have CTA : Callee l.prog w K mg base 4 "ties_at" ["web", "place"] spTiesAt := ⟨_, _, ok_tiesAt F12 T CCP, PySem.W.mg_of X G a12, k12, b12⟩
  have CCA : Callee l.prog w K mg base 5 "count_at" ["web", "place"] spCountAt := ⟨_, _, ok_countAt F13 T CTA, PySem.W.mg_of X G a13, k13, b13⟩
  have CWi : Callee l.prog w K mg base 1 "within" ["web", "places"] spWithin := ⟨_, _, ok_within F14 T zt, PySem.W.mg_of X G a14, k14, b14⟩
  have CFP : Callee l.prog w K mg base 6 "is_full_place" ["web", "hues", "place"] spFullP := ⟨_, _, ok_fullP F19 CHP CCA, PySem.W.mg_of X G a19, k19, b19⟩
  have CFS : Callee l.prog w K mg base 3 "is_full_set" ["web", "hues", "places"] spFullS := ⟨_, _, ok_fullS F20 T CRi CHP CWi, PySem.W.mg_of X G a20, k20, b20⟩
  have CSh : Callee l.prog w K mg base 7 "shows_fewer" ["web", "hues", "paper"] spShows := ⟨_, _, ok_shows F22 CPa CFP CFS, PySem.W.mg_of X G a22, k22, b22⟩
  have CLN : Callee l.prog w K mg base 1 "_law_is_number" ["_law_thing"] spNum := ⟨_, _, ok_lnum F28 T, PySem.W.mg_of X G a28, k28, b28⟩
  have CLC : Callee l.prog w K mg base 1 "_law_count" ["_law_web_here", "_law_place"] spLCount := ⟨_, _, ok_lcount F29 T, PySem.W.mg_of X G a29, k29, b29⟩
  have CLS : Callee l.prog w K mg base 2 "_law_set_right" ["_law_web_here", "_law_hues", "_law_places_here"] spFullS := ⟨_, _, ok_lset F30 T zs zt CLN, PySem.W.mg_of X G a30, k30, b30⟩
  have CTr : Callee l.prog w K mg base 1 "_law_truth" ["_law_found", "_law_due_here"] spTruth := ⟨_, _, ok_truth F31 T, PySem.W.mg_of X G a31, k31, b31⟩
  have CPl : Callee l.prog w K mg base 2 "_law_places" ["_law_tape_here", "_law_web_here"] spPlaces := ⟨_, _, ok_places F32 T zs CD, PySem.W.mg_of X G a32, k32, b32⟩
  have COd : Callee l.prog w K mg base 2 "_law_odd_places" ["_law_tape_here", "_law_web_here", "_law_places_here"] spOddP := ⟨_, _, ok_odd F33 T CD, PySem.W.mg_of X G a33, k33, b33⟩
  have CBP : Callee l.prog w K mg base 2 "_law_by_place" ["_law_tape_here", "_law_web_here"] spBy := ⟨_, _, ok_byP F34 T CD CLC, PySem.W.mg_of X G a34, k34, b34⟩
  have CBS : Callee l.prog w K mg base 3 "_law_by_set" ["_law_tape_here", "_law_web_here"] spBy := ⟨_, _, ok_byS F35 T CD CPl COd, PySem.W.mg_of X G a35, k35, b35⟩
  have CDu : Callee l.prog w K mg base 3 "_law_due" ["_law_web_here", "_law_hues", "_law_paper"] spShows := ⟨_, _, ok_due F36 CLC CLS, PySem.W.mg_of X G a36, k36, b36⟩
  exact ok_law F37 T CT CD CW CBP CBS CSh CDu CTr
theorem walkL {l : PySem.W.OpenLaw} {q : Program} {loose : List Str} {XP : (Str → Option Value) → Heap → Prop} {YP : World → Heap → Prop} {d : DefRec} {K : Params → PySem.W.Frag} (hn : l.most = some 63) (hdf : d.params.defaults = [])
    (hY : ∀ (w : World) (h : Heap), YP w h → (K w.params).In h)
    (F : ∀ (w : World) (mg : Str → Option Value) (fa : Addr) (h : Heap), (K w.params).In h → h.Ns mainGlobals mg → mg d.name = some (.ref fa) →
      ∃ fd : FuncData, (∀ (s : Shared) (u : Value), BindsTo s fd ⟨[u], []⟩ [("_law_script", u)]) ∧ ∀ base : Heap, (K w.params).In base → base.Ns mainGlobals mg → FnOk l.prog w (K w.params) mg base CX0 8 fa fd ["_law_script"] (spLaw (K w.params))) :
    PySem.W.WalkO q loose XP YP l.row.toRowW d [] (fun f vs => PySem.call f vs) :=
  L2.walk_of (n := 63) (k := 8) (x := "_law_script") (CX := fun _ => CX0) (sp := fun w => spLaw (K w.params)) hn (by decide) hdf ⟨rfl, by decide, by decide, rfl⟩ hY F (fun _ _ a ns hl _ hS => ⟨a, ns, rfl, hS, hl, fun _ => rfl⟩) fun _ _ _ _ _ z => z
end Hue
open PySem PySem.W PyProof.Rows
set_option maxRecDepth 100000 in
set_option maxHeartbeats 0 in
theorem PySem.Challenge.cw_huedties_k38_papers_by_places_and_sets_holds : PySem.Challenge.rw_huedties_k38_papers_by_places_and_sets.Holds := by
  w_on; o_law; k_head; (case hw => w_witness2)
  k_fill
  refine Hue.walkL (l := PySem.Challenge.rw_huedties_k38_papers_by_places_and_sets) rfl rfl (fun w h Y => PySem.W.kIn_of Y) ?F
  case F =>
    intro w mg fa h KX G hmg
    refine' Hue.all_mk KX G hmg ?a1 ?l1 ?c1 ?k1 ?a2 ?l2 ?c2 ?k2 ?a3 ?l3 ?c3 ?k3 ?a4 ?l4 ?c4 ?k4 ?a9 ?l9 ?c9 ?k9 ?a11 ?l11 ?c11 ?k11 ?a12 ?l12 ?c12 ?k12 ?a13 ?l13 ?c13 ?k13 ?a14 ?l14 ?c14 ?k14 ?a19 ?l19 ?c19 ?k19 ?a20 ?l20 ?c20 ?k20 ?a22 ?l22 ?c22 ?k22 ?a24 ?l24 ?c24 ?k24 ?a25 ?l25 ?c25 ?k25 ?a26 ?l26 ?c26 ?k26 ?a27 ?l27 ?c27 ?k27 ?a28 ?l28 ?c28 ?k28 ?a29 ?l29 ?c29 ?k29 ?a30 ?l30 ?c30 ?k30 ?a31 ?l31 ?c31 ?k31 ?a32 ?l32 ?c32 ?k32 ?a33 ?l33 ?c33 ?k33 ?a34 ?l34 ?c34 ?k34 ?a35 ?l35 ?c35 ?k35 ?a36 ?l36 ?c36 ?k36 ?a37 ?l37 ?c37 ?k37 ?z1 ?z2 ?z3 ?z4 ?z5 ?z6 ?z7 ?z8 ?z9 ?z10 ?z11 ?z12 ?z13 ?z14 ?y1 ?y2
    (case a1 => k_is)
    (case l1 => k_is)
    (case c1 => k_is)
    (case k1 => k_is)
    (case a2 => k_is)
    (case l2 => k_is)
    (case c2 => k_is)
    (case k2 => k_is)
    (case a3 => k_is)
    (case l3 => k_is)
    (case c3 => k_is)
    (case k3 => k_is)
    (case a4 => k_is)
    (case l4 => k_is)
    (case c4 => k_is)
    (case k4 => k_is)
    (case a9 => k_is)
    (case l9 => k_is)
    (case c9 => k_is)
    (case k9 => k_is)
    (case a11 => k_is)
    (case l11 => k_is)
    (case c11 => k_is)
    (case k11 => k_is)
    (case a12 => k_is)
    (case l12 => k_is)
    (case c12 => k_is)
    (case k12 => k_is)
    (case a13 => k_is)
    (case l13 => k_is)
    (case c13 => k_is)
    (case k13 => k_is)
    (case a14 => k_is)
    (case l14 => k_is)
    (case c14 => k_is)
    (case k14 => k_is)
    (case a19 => k_is)
    (case l19 => k_is)
    (case c19 => k_is)
    (case k19 => k_is)
    (case a20 => k_is)
    (case l20 => k_is)
    (case c20 => k_is)
    (case k20 => k_is)
    (case a22 => k_is)
    (case l22 => k_is)
    (case c22 => k_is)
    (case k22 => k_is)
    (case a24 => k_is)
    (case l24 => k_is)
    (case c24 => k_is)
    (case k24 => k_is)
    (case a25 => k_is)
    (case l25 => k_is)
    (case c25 => k_is)
    (case k25 => k_is)
    (case a26 => k_is)
    (case l26 => k_is)
    (case c26 => k_is)
    (case k26 => k_is)
    (case a27 => k_is)
    (case l27 => k_is)
    (case c27 => k_is)
    (case k27 => k_is)
    (case a28 => k_is)
    (case l28 => k_is)
    (case c28 => k_is)
    (case k28 => k_is)
    (case a29 => k_is)
    (case l29 => k_is)
    (case c29 => k_is)
    (case k29 => k_is)
    (case a30 => k_is)
    (case l30 => k_is)
    (case c30 => k_is)
    (case k30 => k_is)
    (case a31 => k_is)
    (case l31 => k_is)
    (case c31 => k_is)
    (case k31 => k_is)
    (case a32 => k_is)
    (case l32 => k_is)
    (case c32 => k_is)
    (case k32 => k_is)
    (case a33 => k_is)
    (case l33 => k_is)
    (case c33 => k_is)
    (case k33 => k_is)
    (case a34 => k_is)
    (case l34 => k_is)
    (case c34 => k_is)
    (case k34 => k_is)
    (case a35 => k_is)
    (case l35 => k_is)
    (case c35 => k_is)
    (case k35 => k_is)
    (case a36 => k_is)
    (case l36 => k_is)
    (case c36 => k_is)
    (case k36 => k_is)
    (case a37 => k_is)
    (case l37 => k_is)
    (case c37 => k_is)
    (case k37 => k_is)
    (case z1 => k_is)
    (case z2 => k_is)
    (case z3 => k_is)
    (case z4 => k_is)
    (case z5 => k_is)
    (case z6 => k_is)
    (case z7 => k_is)
    (case z8 => k_is)
    (case z9 => k_is)
    (case z10 => k_is)
    (case z11 => k_is)
    (case z12 => k_is)
    (case z13 => k_is)
    (case z14 => k_is)
    (case y1 => k_is)
    (case y2 => k_is)
#print axioms PySem.Challenge.cw_huedties_k38_papers_by_places_and_sets_holds
